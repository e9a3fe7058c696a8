/- Package gossip: some of the chapter's runs. -/
import Derived.Test.YtmgdhgaodjkifaaGosF
import Derived.Test.YtmgdhgaodjkifaaSplit
namespace Go.Proofs.Ytmgdhgaodjkifaa
open Go.RowKit
set_option linter.unusedVariables false
set_option linter.unusedSimpArgs false

theorem cat_lit (w : World) (l : List Cd) : CAt (w.alloc (.cells (flat cc l).toArray 36)) (some ⟨w.heap.size, 0, none⟩) l := by
  refine .inr ⟨_, _, rfl, ⟨_, blk_new _ _ _⟩, fun q u hq => ?_⟩
  rw [Nat.zero_add, blk_cell (blk_new w (flat cc l).toArray 36)]
  simpa using hq

theorem wpAny_stay {P : Program} {Q : Exit → Act → World → Prop} {a : Act} {w : World} {l : List Oper} (W : World) (hB : Region.lexB .any l.toArray = true) (hw : Below W.heap.size W w)
    (h : wpQuiet P l.toArray (fun w' => ∃ g : Of W, w' = g.w) (fun a' => ∀ w', Below W.heap.size W w' → Q .normal a' w') l a) : wpAny P .any l.toArray Q l.length (Array.replicate l.length false) a w := by
  simp only [Region.lexB, Bool.and_eq_true] at hB
  refine wpAny_of_quiet (C := fun w' => ∃ g : Of W, w' = g.w) (Q := fun a' => ∀ w', (∃ g : Of W, w' = g.w) → Q .normal a' w') (fun _ w' hw' h => h w' hw') _ _ _ _ ⟨⟨w, hw⟩, rfl⟩ ?_
  have e : (fun a' : Act => ∀ w' : World, (∃ g : Of W, w' = g.w) → Q .normal a' w') = fun a' => ∀ w', Below W.heap.size W w' → Q .normal a' w' := by
    funext a'
    exact propext ⟨fun h w' hb => h w' ⟨⟨w', hb⟩, rfl⟩, fun h w' ⟨g, hg⟩ => h w' (by rw [hg]; exact g.h)⟩
  rw [e]
  have := wpAnyQ_lex (C := fun w' => ∃ g : Of W, w' = g.w) (md := .any) hB.1 l 0 (Array.replicate l.length false) a (by simp) (by simpa using hB.2) h
  simpa using this
def gA : Cd := ⟨⟨#[97]⟩, ⟨#[98]⟩, 1, 0, 5, 1, 0, 0, false⟩
def gB : Cd := ⟨⟨#[97]⟩, ⟨#[98]⟩, 1, 0, 5, 2, 0, 0, false⟩
theorem k_ab : gk ((onc [gA]).length + (onc [gB]).length) (onc [gA]) (onc [gB]) = [(⟨#[97]⟩, ⟨#[98]⟩)] := rfl
theorem c_ab : gc ((onc [gA]).length + (onc [gB]).length) (onc [gA]) (onc [gB]) = [] := rfl
theorem k_ba : gk ((onc [gB]).length + (onc [gA]).length) (onc [gB]) (onc [gA]) = [] := rfl
theorem c_ba : gc ((onc [gB]).length + (onc [gA]).length) (onc [gB]) (onc [gA]) = [gB] := rfl
theorem k_aa : gk ((onc [gA]).length + (onc [gA]).length) (onc [gA]) (onc [gA]) = [] := rfl
theorem c_aa : gc ((onc [gA]).length + (onc [gA]).length) (onc [gA]) (onc [gA]) = [] := rfl
theorem wpAny_inv_eq {P : Program} {Q : Exit → Act → World → Prop} {a : Act} {w : World} {l : List Oper} {J : Act → (Nat → Bool) → Act → World → Prop} {J' : (Nat → Bool) → Act → World → Prop} (_ : J a = J') (n m : Nat) (hl : l.length = n + m) (hB : backB 0 l = true) (h0 : J' (fun j => decide (j < n)) a w) (hs : StepsOk P l.toArray Q J' 0 l) (he : ∀ d a' w, J' d a' w → (∀ i, i < l.length → d i = true) → Q .normal a' w) :
    wpAny P .any l.toArray Q m (Array.replicate n true ++ Array.replicate m false) a w := by
  refine wpAny_of_inv J' (by simpa using hB) (by simpa using hs) (by simpa using he) _ _ _ _ (by simp [hl]) (by simp [List.count_replicate]) ?_
  have e : (fun j => (Array.replicate n true ++ Array.replicate m false).getD j false) = fun j => decide (j < n) := by
    funext j
    rw [Array.getD_eq_getD_getElem?, Array.getElem?_append]
    by_cases hj : j < n
    · simp [hj]
    · by_cases hj2 : j - n < m
      · simp [hj, hj2]
      · simp [hj, hj2]
  rw [e]
  exact h0
theorem ky_lit (w : World) (l : List Ky) : KyAt (w.alloc (.cells (flat ky l).toArray 32)) (some ⟨w.heap.size, 0, none⟩) l := by
  refine .inr ⟨_, _, rfl, ⟨_, blk_new _ _ _⟩, fun q u hq => ?_⟩
  rw [Nat.zero_add, blk_cell (blk_new w (flat ky l).toArray 32)]
  simpa using hq
def gK0 : Ky := (⟨#[]⟩, ⟨#[]⟩)
def gK1 : Ky := (⟨#[97]⟩, ⟨#[98]⟩)
theorem gK_ne : gK0 ≠ gK1 := by
  intro e
  have h := congrArg (fun k : Ky => k.1.data.size) e
  exact absurd h (by decide)
theorem ans_g : (ansL [gA] [gK0, gK1, gK1]).length = 1 := by
  have e : lastU [gA] = fput (fun _ => none) gK1 0 := by
    have := lastU_snoc [] gA
    simpa [lastU, kyc, gA, gK1] using this
  have l0 : look [gA] gK0 = none := by
    unfold look
    rw [e]
    simp [fput, gK_ne]
  have l1 : look [gA] gK1 = some gA := by
    unfold look
    rw [e]
    simp [fput]
  have s1 : ansL [gA] [gK0] = [] := by
    have := ansL_snoc [gA] [] gK0
    simpa [ansL, l0] using this
  have s2 : ansL [gA] [gK0, gK1] = [gA] := by
    have := ansL_snoc [gA] [gK0] gK1
    rw [s1] at this
    rw [show [gK0, gK1] = [gK0] ++ [gK1] from rfl, this, if_neg (by simp; exact fun h => gK_ne h.symm), l1]
    rfl
  have s3 := ansL_snoc [gA] [gK0, gK1] gK1
  rw [s2] at s3
  rw [show [gK0, gK1, gK1] = [gK0, gK1] ++ [gK1] from rfl, s3, if_pos (by simp)]
  rfl

/-- two rows of one card, one behind the other -/
theorem two_rows (w : World) (x y : Cd) : CAt ((w.alloc (.cells #[.string x.a, .string x.i, .int .i64 x.s, .int .i64 x.o, .int .i64 x.l, .int .i64 x.t, .int .i64 x.k, .int .i64 x.n, .bool x.g] 36)).alloc (.cells #[.string y.a, .string y.i, .int .i64 y.s, .int .i64 y.o, .int .i64 y.l, .int .i64 y.t, .int .i64 y.k, .int .i64 y.n, .bool y.g] 36)) (some ⟨w.heap.size, 0, none⟩) [x] ∧ CAt ((w.alloc (.cells #[.string x.a, .string x.i, .int .i64 x.s, .int .i64 x.o, .int .i64 x.l, .int .i64 x.t, .int .i64 x.k, .int .i64 x.n, .bool x.g] 36)).alloc (.cells #[.string y.a, .string y.i, .int .i64 y.s, .int .i64 y.o, .int .i64 y.l, .int .i64 y.t, .int .i64 y.k, .int .i64 y.n, .bool y.g] 36)) (some ⟨w.heap.size + 1, 0, none⟩) [y] ∧ Below w.heap.size w ((w.alloc (.cells #[.string x.a, .string x.i, .int .i64 x.s, .int .i64 x.o, .int .i64 x.l, .int .i64 x.t, .int .i64 x.k, .int .i64 x.n, .bool x.g] 36)).alloc (.cells #[.string y.a, .string y.i, .int .i64 y.s, .int .i64 y.o, .int .i64 y.l, .int .i64 y.t, .int .i64 y.k, .int .i64 y.n, .bool y.g] 36)) := by
  refine ⟨(cat_lit w [x]).ext ((Below.refl _ _).alloc (Nat.le_refl _) _), ?_, ((Below.refl _ _).alloc (Nat.le_refl _) _).alloc (by simp) _⟩
  have h1 := cat_lit (w.alloc (.cells #[.string x.a, .string x.i, .int .i64 x.s, .int .i64 x.o, .int .i64 x.l, .int .i64 x.t, .int .i64 x.k, .int .i64 x.n, .bool x.g] 36)) [y]
  rw [show (w.alloc (.cells #[.string x.a, .string x.i, .int .i64 x.s, .int .i64 x.o, .int .i64 x.l, .int .i64 x.t, .int .i64 x.k, .int .i64 x.n, .bool x.g] 36)).heap.size = w.heap.size + 1 from by simp] at h1
  exact h1

set_option maxRecDepth 100000 in
set_option maxHeartbeats 1000000 in
theorem cloneNil (w : World) :
    Calls Try.prog 36 #[.slice none 0 0] w fun e w' => e = .returned (.slice none 0 0) ∧ w = w' := by
  have hq := (fun w : World => Lib.run_eql_slice_nil (P := Try.prog) w 27 36 none 0 0 0 0 Try.underlying27)
  go_enter Try.func36, Try.ntmps36
  go_wp2
  go_ret
  exact ⟨rfl, rfl⟩

set_option maxRecDepth 100000 in
set_option maxHeartbeats 1000000 in
theorem cardSortNil (w : World) :
    Calls Try.prog 28 #[.slice none 0 0] w fun e w' => e = .returned (.slice none 0 0) ∧ Below w.heap.size w w' := by
  go_enter Try.func28, Try.ntmps28
  go_wp2_with fail
  refine (cloneNil _).mono ?_
  rintro e w1 ⟨rfl, rfl⟩
  go_wp2_with fail
  refine (ssfNil _).mono ?_
  rintro e w2 ⟨rfl, hb2⟩
  go_wp2
  go_ret
  exact ⟨rfl, hb2⟩

set_option maxRecDepth 100000 in
set_option maxHeartbeats 1000000 in
theorem gDigestNil (w : World) :
    Calls Try.prog 13 #[.slice none 0 0] w fun e w' => e = .returned (.agg #[.int .i64 4, .int .i64 0, .int .i64 0, .int .i64 0, .int .i64 0, .int .i64 0, .int .i64 0, .string ⟨#[]⟩, .string ⟨#[]⟩, .bool false, .int .u32 0, .slice none 0 0, .slice none 0 0]) ∧ Below w.heap.size w w' := by
  have D0 : Below w.heap.size w (w.alloc (.cells #[.int .i64 0, .int .i64 0, .int .i64 0, .int .i64 0, .int .i64 0, .int .i64 0, .int .i64 0, .string ⟨#[]⟩, .string ⟨#[]⟩, .bool false, .int .u32 0, .slice none 0 0, .slice none 0 0] 43)) := (Below.refl _ _).alloc (Nat.le_refl _) _
  have HX := Lib.hid (blk_new w #[.int .i64 0, .int .i64 0, .int .i64 0, .int .i64 0, .int .i64 0, .int .i64 0, .int .i64 0, .string ⟨#[]⟩, .string ⟨#[]⟩, .bool false, .int .u32 0, .slice none 0 0, .slice none 0 0] 43)
  have HB0 := Lib.hid D0
  clear D0
  go_enter Try.func13, Try.ntmps13
  go_wp2_with fail
  obtain ⟨r, hr⟩ : ∃ r, w.heap.size = r := ⟨_, rfl⟩
  rw [hr] at HX ⊢
  have HRr := Lib.hid (show w.heap.size ≤ r by omega)
  clear hr
  generalize (w.alloc (.cells #[.int .i64 0, .int .i64 0, .int .i64 0, .int .i64 0, .int .i64 0, .int .i64 0, .int .i64 0, .string ⟨#[]⟩, .string ⟨#[]⟩, .bool false, .int .u32 0, .slice none 0 0, .slice none 0 0] 43)) = w0 at *
  refine (cardSortNil _).mono ?_
  rintro e w1 ⟨rfl, hb1⟩
  have HX1 := Lib.hid (blk_ext hb1 HX.out)
  have HB1 := Lib.hid (ext_trans HB0.out hb1)
  have hk1 := blk_cell HX1.out
  have hf1 := blk_free HX1.out
  have hl1 := blk_lt HX1.out
  clear hb1 HX
  have hmn : min (0 : Int) 64 = 0 := by decide
  go_wp2_with fail
  exact bodyPost_ret (v := .agg #[.int .i64 4, .int .i64 0, .int .i64 0, .int .i64 0, .int .i64 0, .int .i64 0, .int .i64 0, .string ⟨#[]⟩, .string ⟨#[]⟩, .bool false, .int .u32 0, .slice none 0 0, .slice none 0 0]) (by have hk2 := blk_cell (blk_fill13 (v0 := .int .i64 4) (v1 := .int .i64 0) (v2 := .int .i64 0) (v3 := .int .i64 0) (v4 := .int .i64 0) (v5 := .int .i64 0) (v6 := .int .i64 0) (v7 := .string ⟨#[]⟩) (v8 := .string ⟨#[]⟩) (v9 := .bool false) (v10 := .int .u32 0) (v11 := .slice none 0 0) (v12 := .slice none 0 0) HX1.out rfl); simp [results, Try.results13, go_sem, hk2]) rfl ⟨rfl, below_fill13 HB1.out HRr.out⟩

set_option maxRecDepth 100000 in
set_option maxHeartbeats 4000000 in
theorem law18known (w : World) :
    Calls Try.prog 10 #[] w fun e w' => e = .returned (.bool true) ∧ Below w.heap.size w w' := by
  have D0 : Below w.heap.size w ((w.alloc (.cells #[.string ⟨#[97]⟩, .string ⟨#[98]⟩, .int .i64 1, .int .i64 0, .int .i64 5, .int .i64 1, .int .i64 0, .int .i64 0, .bool false] 36)).alloc (.cells #[.string ⟨#[97]⟩, .string ⟨#[98]⟩, .int .i64 1, .int .i64 0, .int .i64 5, .int .i64 1, .int .i64 0, .int .i64 0, .bool false] 36)) := ((Below.refl _ _).alloc (Nat.le_refl _) _).alloc (by simp) _
  have HX0 := Lib.hid (show ((w.alloc (.cells #[.string ⟨#[97]⟩, .string ⟨#[98]⟩, .int .i64 1, .int .i64 0, .int .i64 5, .int .i64 1, .int .i64 0, .int .i64 0, .bool false] 36)).alloc (.cells #[.string ⟨#[97]⟩, .string ⟨#[98]⟩, .int .i64 1, .int .i64 0, .int .i64 5, .int .i64 1, .int .i64 0, .int .i64 0, .bool false] 36)).heap[w.heap.size]? = some (.cells #[.string ⟨#[97]⟩, .string ⟨#[98]⟩, .int .i64 1, .int .i64 0, .int .i64 5, .int .i64 1, .int .i64 0, .int .i64 0, .bool false] 36 (0, 0)) from blk_alloc (blk_new _ _ _) _)
  have HY0 := Lib.hid (show ((w.alloc (.cells #[.string ⟨#[97]⟩, .string ⟨#[98]⟩, .int .i64 1, .int .i64 0, .int .i64 5, .int .i64 1, .int .i64 0, .int .i64 0, .bool false] 36)).alloc (.cells #[.string ⟨#[97]⟩, .string ⟨#[98]⟩, .int .i64 1, .int .i64 0, .int .i64 5, .int .i64 1, .int .i64 0, .int .i64 0, .bool false] 36)).heap[w.heap.size + 1]? = some (.cells #[.string ⟨#[97]⟩, .string ⟨#[98]⟩, .int .i64 1, .int .i64 0, .int .i64 5, .int .i64 1, .int .i64 0, .int .i64 0, .bool false] 36 (0, 0)) from blk_new_at (by simp) _ _)
  have HB0 := Lib.hid D0
  clear D0
  go_enter Try.func10, Try.ntmps10
  go_upto_region 3 with (fail)
  obtain ⟨r, hr⟩ : ∃ r, w.heap.size = r := ⟨_, rfl⟩
  have HR := Lib.hid (show w.heap.size ≤ r by omega)
  rw [hr] at HX0 HY0 ⊢
  clear hr
  generalize ((w.alloc (.cells #[.string ⟨#[97]⟩, .string ⟨#[98]⟩, .int .i64 1, .int .i64 0, .int .i64 5, .int .i64 1, .int .i64 0, .int .i64 0, .bool false] 36)).alloc (.cells #[.string ⟨#[97]⟩, .string ⟨#[98]⟩, .int .i64 1, .int .i64 0, .int .i64 5, .int .i64 1, .int .i64 0, .int .i64 0, .bool false] 36)) = w0 at *
  have D1 : Below w.heap.size w (w0.setCell ⟨r + 1, 5, none⟩ (.int .i64 2)) := HB0.out.setCell (show w.heap.size ≤ r + 1 by have := HR.out; omega) _
  have HX1 := Lib.hid (show (w0.setCell ⟨r + 1, 5, none⟩ (.int .i64 2)).heap[r]? = some (.cells #[.string ⟨#[97]⟩, .string ⟨#[98]⟩, .int .i64 1, .int .i64 0, .int .i64 5, .int .i64 1, .int .i64 0, .int .i64 0, .bool false] 36 (0, 0)) from blk_set_other (by omega) HX0.out)
  have HY1 := Lib.hid (show (w0.setCell ⟨r + 1, 5, none⟩ (.int .i64 2)).heap[r + 1]? = some (.cells #[.string ⟨#[97]⟩, .string ⟨#[98]⟩, .int .i64 1, .int .i64 0, .int .i64 5, .int .i64 2, .int .i64 0, .int .i64 0, .bool false] 36 (0, 0)) from blk_set HY0.out (by simp))
  have HB1 := Lib.hid D1
  have k0 := blk_cell HY0.out
  have l0 := blk_lt HY0.out
  have f0 := blk_free HY0.out
  clear D1
  go_upto_region 4 with (fail)
  clear k0 l0 f0 HX0 HY0 HB0
  generalize (w0.setCell ⟨r + 1, 5, none⟩ (.int .i64 2)) = w1 at *
  obtain ⟨CA2, CB2, E2⟩ := two_rows w1 gA gB
  have HCA2 := Lib.hid CA2
  have HCB2 := Lib.hid CB2
  have HE2 := Lib.hid E2
  clear CA2 CB2 E2
  have kx2 := blk_cell HX1.out
  have ky2 := blk_cell HY1.out
  have lx2 := blk_lt HX1.out
  have ly2 := blk_lt HY1.out
  simp only [gA, gB] at HCA2 HCB2 HE2
  go_wp2_with fail
  refine (gCompare (some ⟨w1.heap.size, 0, none⟩) (some ⟨w1.heap.size + 1, 0, none⟩) 1 1 1 1 [gA] [gB] _ HCA2.out HCB2.out rfl rfl (by omega) (by omega) (.inr ⟨_, _, rfl⟩) (.inr ⟨_, _, rfl⟩)).mono ?_
  rintro e w2 ⟨ka2, ca2, rfl, hk2, hc2, hb2'⟩
  rw [k_ab] at hk2
  rw [c_ab] at hc2
  have hb2 := ext_trans HE2.out hb2'
  have HB2 := Lib.hid (ext_trans HB1.out hb2)
  have HX2 := Lib.hid (blk_ext hb2 HX1.out)
  have HY2 := Lib.hid (blk_ext hb2 HY1.out)
  obtain ⟨ka2a, ka2c, rfl, -, -, -⟩ := OwnR.form hk2
  simp only [List.length_cons, List.length_nil, Nat.zero_add]
  obtain ⟨ca2a, ca2c, rfl, -, -, -⟩ := OwnR.form hc2
  simp only [List.length_cons, List.length_nil, Nat.zero_add]
  clear hk2 hc2 hb2 hb2' HCA2 HCB2 HE2 kx2 ky2 lx2 ly2
  obtain ⟨CA3, CB3, E3⟩ := two_rows w2 gB gA
  have HCA3 := Lib.hid CA3
  have HCB3 := Lib.hid CB3
  have HE3 := Lib.hid E3
  clear CA3 CB3 E3
  have kx3 := blk_cell HY2.out
  have ky3 := blk_cell HX2.out
  have lx3 := blk_lt HY2.out
  have ly3 := blk_lt HX2.out
  simp only [gB, gA] at HCA3 HCB3 HE3
  go_wp2_with fail
  refine (gCompare (some ⟨w2.heap.size, 0, none⟩) (some ⟨w2.heap.size + 1, 0, none⟩) 1 1 1 1 [gB] [gA] _ HCA3.out HCB3.out rfl rfl (by omega) (by omega) (.inr ⟨_, _, rfl⟩) (.inr ⟨_, _, rfl⟩)).mono ?_
  rintro e w3 ⟨ka3, ca3, rfl, hk3, hc3, hb3'⟩
  rw [k_ba] at hk3
  rw [c_ba] at hc3
  have hb3 := ext_trans HE3.out hb3'
  have HB3 := Lib.hid (ext_trans HB2.out hb3)
  have HY3 := Lib.hid (blk_ext hb3 HY2.out)
  have HX3 := Lib.hid (blk_ext hb3 HX2.out)
  obtain ⟨ka3a, ka3c, rfl, -, -, -⟩ := OwnR.form hk3
  simp only [List.length_cons, List.length_nil, Nat.zero_add]
  obtain ⟨y3, y3c, rfl, -, -, y3t, y3b, y3f⟩ := hc3.read
  simp only [List.length_cons, List.length_nil, Nat.zero_add]
  have HYR := Lib.hid y3t
  clear y3t y3b y3f
  clear hk3 hc3 hb3 hb3' HCA3 HCB3 HE3 kx3 ky3 lx3 ly3
  obtain ⟨CA4, CB4, E4⟩ := two_rows w3 gA gA
  have HCA4 := Lib.hid CA4
  have HCB4 := Lib.hid CB4
  have HE4 := Lib.hid E4
  clear CA4 CB4 E4
  have kx4 := blk_cell HX3.out
  have ky4 := blk_cell HY3.out
  have lx4 := blk_lt HX3.out
  have ly4 := blk_lt HY3.out
  simp only [gA] at HCA4 HCB4 HE4
  go_wp2_with fail
  refine (gCompare (some ⟨w3.heap.size, 0, none⟩) (some ⟨w3.heap.size + 1, 0, none⟩) 1 1 1 1 [gA] [gA] _ HCA4.out HCB4.out rfl rfl (by omega) (by omega) (.inr ⟨_, _, rfl⟩) (.inr ⟨_, _, rfl⟩)).mono ?_
  rintro e w4 ⟨ka4, ca4, rfl, hk4, hc4, hb4'⟩
  rw [k_aa] at hk4
  rw [c_aa] at hc4
  have hb4 := ext_trans HE4.out hb4'
  have HB4 := Lib.hid (ext_trans HB3.out hb4)
  have HX4 := Lib.hid (blk_ext hb4 HX3.out)
  have HY4 := Lib.hid (blk_ext hb4 HY3.out)
  obtain ⟨ka4a, ka4c, rfl, -, -, -⟩ := OwnR.form hk4
  simp only [List.length_cons, List.length_nil, Nat.zero_add]
  obtain ⟨ca4a, ca4c, rfl, -, -, -⟩ := OwnR.form hc4
  simp only [List.length_cons, List.length_nil, Nat.zero_add]
  have HYR4 := Lib.hid (HYR.out.ext hb4)
  clear hk4 hc4 hb4 hb4' HCA4 HCB4 HE4 kx4 ky4 lx4 ly4
  go_wp2_with fail
  obtain ⟨yb, yo, rfl⟩ : ∃ b o, y3 = some ⟨b, o, none⟩ := by
    rcases HYR4.out with h | ⟨b, o, e, _⟩
    · cases h
    · exact ⟨b, o, e⟩
  obtain ⟨c0, c1, c2, c3, c4, c5, c6, c7, c8⟩ := (HYR4.out).at (i := 0) rfl
  simp only [Nat.zero_mul, Nat.add_zero, gB] at c0 c1 c2 c3 c4 c5 c6 c7 c8
  have a0 : w4.cell? ⟨r, 0, none⟩ = some (.string ⟨#[97]⟩) := by rw [blk_cell HX4.out]; rfl
  have a1 : w4.cell? ⟨r, 1, none⟩ = some (.string ⟨#[98]⟩) := by rw [blk_cell HX4.out]; rfl
  have a2 : w4.cell? ⟨r, 2, none⟩ = some (.int .i64 1) := by rw [blk_cell HX4.out]; rfl
  have a3 : w4.cell? ⟨r, 3, none⟩ = some (.int .i64 0) := by rw [blk_cell HX4.out]; rfl
  have a4 : w4.cell? ⟨r, 4, none⟩ = some (.int .i64 5) := by rw [blk_cell HX4.out]; rfl
  have a5 : w4.cell? ⟨r, 5, none⟩ = some (.int .i64 1) := by rw [blk_cell HX4.out]; rfl
  have a6 : w4.cell? ⟨r, 6, none⟩ = some (.int .i64 0) := by rw [blk_cell HX4.out]; rfl
  have a7 : w4.cell? ⟨r, 7, none⟩ = some (.int .i64 0) := by rw [blk_cell HX4.out]; rfl
  have a8 : w4.cell? ⟨r, 8, none⟩ = some (.bool false) := by rw [blk_cell HX4.out]; rfl
  have b0 : w4.cell? ⟨r + 1, 0, none⟩ = some (.string ⟨#[97]⟩) := by rw [blk_cell HY4.out]; rfl
  have b1 : w4.cell? ⟨r + 1, 1, none⟩ = some (.string ⟨#[98]⟩) := by rw [blk_cell HY4.out]; rfl
  have b2 : w4.cell? ⟨r + 1, 2, none⟩ = some (.int .i64 1) := by rw [blk_cell HY4.out]; rfl
  have b3 : w4.cell? ⟨r + 1, 3, none⟩ = some (.int .i64 0) := by rw [blk_cell HY4.out]; rfl
  have b4 : w4.cell? ⟨r + 1, 4, none⟩ = some (.int .i64 5) := by rw [blk_cell HY4.out]; rfl
  have b5 : w4.cell? ⟨r + 1, 5, none⟩ = some (.int .i64 2) := by rw [blk_cell HY4.out]; rfl
  have b6 : w4.cell? ⟨r + 1, 6, none⟩ = some (.int .i64 0) := by rw [blk_cell HY4.out]; rfl
  have b7 : w4.cell? ⟨r + 1, 7, none⟩ = some (.int .i64 0) := by rw [blk_cell HY4.out]; rfl
  have b8 : w4.cell? ⟨r + 1, 8, none⟩ = some (.bool false) := by rw [blk_cell HY4.out]; rfl
  haveI hIq : Nonempty (Of w4) := of_some _
  have hfk := fun w => field_kind (.slice none 0 0) w
  have hF0 := of_cell c0
  have hF1 := of_cell c1
  have hF2 := of_cell c2
  have hF3 := of_cell c3
  have hF4 := of_cell c4
  have hF5 := of_cell c5
  have hF6 := of_cell c6
  have hF7 := of_cell c7
  have hF8 := of_cell c8
  have hF9 := of_cell b0
  have hF10 := of_cell b1
  have hF11 := of_cell b2
  have hF12 := of_cell b3
  have hF13 := of_cell b4
  have hF14 := of_cell b5
  have hF15 := of_cell b6
  have hF16 := of_cell b7
  have hF17 := of_cell b8
  refine wp_region_split 41 13 40 rfl rfl (by kernel_rfl) (by kernel_rfl) (by kernel_rfl) (by kernel_rfl) (by kernel_rfl) ?_
  simp only [List.take_succ_cons, List.take_zero]
  refine wpAny_stay w4 (by kernel_rfl) ((Below.refl _ _).drew) ?_
  repeat (first | go_big_quiet_step ((go_at_call 13; with_reducible refine stay_call (gDigestNil _))) | quiet_step (fail))
  refine wpQuiet_nil ?_
  intro w5 hb5
  clear hIq hfk hF0 hF1 hF2 hF3 hF4 hF5 hF6 hF7 hF8 hF9 hF10 hF11 hF12 hF13 hF14 hF15 hF16 hF17
  simp only [behind]
  have HX5 := Lib.hid (blk_ext hb5 HX4.out)
  have HB5 := Lib.hid (ext_trans HB4.out hb5)
  clear hb5 a0 b0 c0 a1 b1 c1 a2 b2 c2 a3 b3 c3 a4 b4 c4 a5 b5 c5 a6 b6 c6 a7 b7 c7 a8 b8 c8
  refine wpAny_inv_eq (J := fun A d act x0 => ∃ u80 u81 u82 u83 u84 u85 u86 u87 u88 u89 u90 u91 u0 : Value, act = (((((((((((((A.put (some 80) u80).put (some 81) u81).put (some 82) u82).put (some 83) u83).put (some 84) u84).put (some 85) u85).put (some 86) u86).put (some 87) u87).put (some 88) u88).put (some 89) u89).put (some 90) u90).put (some 91) u91).put (some 0) u0) ∧ (d 41 = true → u80 = .agg #[.string ⟨#[97]⟩, .string ⟨#[98]⟩, .int .i64 1, .int .i64 0, .int .i64 5, .int .i64 1, .int .i64 0, .int .i64 0, .bool false]) ∧ (d 42 = true → (∃ b : Nat, u81 = .slice (some ⟨b, 0, none⟩) 1 1 ∧ CAt x0 (some ⟨b, 0, none⟩) [gA])) ∧ (d 43 = true → u82 = .agg #[.string ⟨#[]⟩, .string ⟨#[]⟩]) ∧ (d 44 = true → u83 = .pointer (some ⟨r, 0, none⟩)) ∧ (d 45 = true → u84 = .agg #[.string ⟨#[97]⟩, .string ⟨#[98]⟩]) ∧ (d 46 = true → u85 = .pointer (some ⟨r, 0, none⟩)) ∧ (d 47 = true → u86 = .agg #[.string ⟨#[97]⟩, .string ⟨#[98]⟩]) ∧ (d 48 = true → (∃ b : Nat, u87 = .slice (some ⟨b, 0, none⟩) 3 3 ∧ KyAt x0 (some ⟨b, 0, none⟩) [gK0, gK1, gK1])) ∧ (d 49 = true → (∃ (a : Option Addr) (c : Nat), u88 = .slice a 1 c)) ∧ (d 50 = true → u89 = .int .i64 1) ∧ (d 51 = true → u90 = .bool true) ∧ (d 52 = true → u91 = .bool true) ∧ (d 53 = true → u0 = .bool true) ∧ (∀ i : Nat, i < 41 → d i = true) ∧ Below w5.heap.size w5 x0) (by simp only [Act.put, List.setIfInBounds_toArray, List.set_cons_succ, List.set_cons_zero]; rfl) 41 13 rfl (by kernel_rfl) ?_ ?_ ?_
  · refine ⟨_, _, _, _, _, _, _, _, _, _, _, _, _, rfl, ?_, ?_, ?_, ?_, ?_, ?_, ?_, ?_, ?_, ?_, ?_, ?_, ?_, ?_, ?_⟩
    · intro h; cases h
    · intro h; cases h
    · intro h; cases h
    · intro h; cases h
    · intro h; cases h
    · intro h; cases h
    · intro h; cases h
    · intro h; cases h
    · intro h; cases h
    · intro h; cases h
    · intro h; cases h
    · intro h; cases h
    · intro h; cases h
    · exact fun i hi => decide_eq_true hi
    · exact Below.refl _ _
  · refine stepsOk_cons (k := 0) ?_ (stepsOk_cons (k := 1) ?_ (stepsOk_cons (k := 2) ?_ (stepsOk_cons (k := 3) ?_ (stepsOk_cons (k := 4) ?_ (stepsOk_cons (k := 5) ?_ (stepsOk_cons (k := 6) ?_ (stepsOk_cons (k := 7) ?_ (stepsOk_cons (k := 8) ?_ (stepsOk_cons (k := 9) ?_ (stepsOk_cons (k := 10) ?_ (stepsOk_cons (k := 11) ?_ (stepsOk_cons (k := 12) ?_ (stepsOk_cons (k := 13) ?_ (stepsOk_cons (k := 14) ?_ (stepsOk_cons (k := 15) ?_ (stepsOk_cons (k := 16) ?_ (stepsOk_cons (k := 17) ?_ (stepsOk_cons (k := 18) ?_ (stepsOk_cons (k := 19) ?_ (stepsOk_cons (k := 20) ?_ (stepsOk_cons (k := 21) ?_ (stepsOk_cons (k := 22) ?_ (stepsOk_cons (k := 23) ?_ (stepsOk_cons (k := 24) ?_ (stepsOk_cons (k := 25) ?_ (stepsOk_cons (k := 26) ?_ (stepsOk_cons (k := 27) ?_ (stepsOk_cons (k := 28) ?_ (stepsOk_cons (k := 29) ?_ (stepsOk_cons (k := 30) ?_ (stepsOk_cons (k := 31) ?_ (stepsOk_cons (k := 32) ?_ (stepsOk_cons (k := 33) ?_ (stepsOk_cons (k := 34) ?_ (stepsOk_cons (k := 35) ?_ (stepsOk_cons (k := 36) ?_ (stepsOk_cons (k := 37) ?_ (stepsOk_cons (k := 38) ?_ (stepsOk_cons (k := 39) ?_ (stepsOk_cons (k := 40) ?_ (stepsOk_cons (k := 41) ?_ (stepsOk_cons (k := 42) ?_ (stepsOk_cons (k := 43) ?_ (stepsOk_cons (k := 44) ?_ (stepsOk_cons (k := 45) ?_ (stepsOk_cons (k := 46) ?_ (stepsOk_cons (k := 47) ?_ (stepsOk_cons (k := 48) ?_ (stepsOk_cons (k := 49) ?_ (stepsOk_cons (k := 50) ?_ (stepsOk_cons (k := 51) ?_ (stepsOk_cons (k := 52) ?_ (stepsOk_cons (k := 53) ?_ stepsOk_nil)))))))))))))))))))))))))))))))))))))))))))))))))))))
    · unfold StepOk
      rintro d act x0 ⟨u80, u81, u82, u83, u84, u85, u86, u87, u88, u89, u90, u91, u0, rfl, f41, f42, f43, f44, f45, f46, f47, f48, f49, f50, f51, f52, f53, g0, g1⟩ hd
      exact absurd (g0 0 (by omega)) (by rw [hd]; simp)
    · unfold StepOk
      rintro d act x0 ⟨u80, u81, u82, u83, u84, u85, u86, u87, u88, u89, u90, u91, u0, rfl, f41, f42, f43, f44, f45, f46, f47, f48, f49, f50, f51, f52, f53, g0, g1⟩ hd
      exact absurd (g0 1 (by omega)) (by rw [hd]; simp)
    · unfold StepOk
      rintro d act x0 ⟨u80, u81, u82, u83, u84, u85, u86, u87, u88, u89, u90, u91, u0, rfl, f41, f42, f43, f44, f45, f46, f47, f48, f49, f50, f51, f52, f53, g0, g1⟩ hd
      exact absurd (g0 2 (by omega)) (by rw [hd]; simp)
    · unfold StepOk
      rintro d act x0 ⟨u80, u81, u82, u83, u84, u85, u86, u87, u88, u89, u90, u91, u0, rfl, f41, f42, f43, f44, f45, f46, f47, f48, f49, f50, f51, f52, f53, g0, g1⟩ hd
      exact absurd (g0 3 (by omega)) (by rw [hd]; simp)
    · unfold StepOk
      rintro d act x0 ⟨u80, u81, u82, u83, u84, u85, u86, u87, u88, u89, u90, u91, u0, rfl, f41, f42, f43, f44, f45, f46, f47, f48, f49, f50, f51, f52, f53, g0, g1⟩ hd
      exact absurd (g0 4 (by omega)) (by rw [hd]; simp)
    · unfold StepOk
      rintro d act x0 ⟨u80, u81, u82, u83, u84, u85, u86, u87, u88, u89, u90, u91, u0, rfl, f41, f42, f43, f44, f45, f46, f47, f48, f49, f50, f51, f52, f53, g0, g1⟩ hd
      exact absurd (g0 5 (by omega)) (by rw [hd]; simp)
    · unfold StepOk
      rintro d act x0 ⟨u80, u81, u82, u83, u84, u85, u86, u87, u88, u89, u90, u91, u0, rfl, f41, f42, f43, f44, f45, f46, f47, f48, f49, f50, f51, f52, f53, g0, g1⟩ hd
      exact absurd (g0 6 (by omega)) (by rw [hd]; simp)
    · unfold StepOk
      rintro d act x0 ⟨u80, u81, u82, u83, u84, u85, u86, u87, u88, u89, u90, u91, u0, rfl, f41, f42, f43, f44, f45, f46, f47, f48, f49, f50, f51, f52, f53, g0, g1⟩ hd
      exact absurd (g0 7 (by omega)) (by rw [hd]; simp)
    · unfold StepOk
      rintro d act x0 ⟨u80, u81, u82, u83, u84, u85, u86, u87, u88, u89, u90, u91, u0, rfl, f41, f42, f43, f44, f45, f46, f47, f48, f49, f50, f51, f52, f53, g0, g1⟩ hd
      exact absurd (g0 8 (by omega)) (by rw [hd]; simp)
    · unfold StepOk
      rintro d act x0 ⟨u80, u81, u82, u83, u84, u85, u86, u87, u88, u89, u90, u91, u0, rfl, f41, f42, f43, f44, f45, f46, f47, f48, f49, f50, f51, f52, f53, g0, g1⟩ hd
      exact absurd (g0 9 (by omega)) (by rw [hd]; simp)
    · unfold StepOk
      rintro d act x0 ⟨u80, u81, u82, u83, u84, u85, u86, u87, u88, u89, u90, u91, u0, rfl, f41, f42, f43, f44, f45, f46, f47, f48, f49, f50, f51, f52, f53, g0, g1⟩ hd
      exact absurd (g0 10 (by omega)) (by rw [hd]; simp)
    · unfold StepOk
      rintro d act x0 ⟨u80, u81, u82, u83, u84, u85, u86, u87, u88, u89, u90, u91, u0, rfl, f41, f42, f43, f44, f45, f46, f47, f48, f49, f50, f51, f52, f53, g0, g1⟩ hd
      exact absurd (g0 11 (by omega)) (by rw [hd]; simp)
    · unfold StepOk
      rintro d act x0 ⟨u80, u81, u82, u83, u84, u85, u86, u87, u88, u89, u90, u91, u0, rfl, f41, f42, f43, f44, f45, f46, f47, f48, f49, f50, f51, f52, f53, g0, g1⟩ hd
      exact absurd (g0 12 (by omega)) (by rw [hd]; simp)
    · unfold StepOk
      rintro d act x0 ⟨u80, u81, u82, u83, u84, u85, u86, u87, u88, u89, u90, u91, u0, rfl, f41, f42, f43, f44, f45, f46, f47, f48, f49, f50, f51, f52, f53, g0, g1⟩ hd
      exact absurd (g0 13 (by omega)) (by rw [hd]; simp)
    · unfold StepOk
      rintro d act x0 ⟨u80, u81, u82, u83, u84, u85, u86, u87, u88, u89, u90, u91, u0, rfl, f41, f42, f43, f44, f45, f46, f47, f48, f49, f50, f51, f52, f53, g0, g1⟩ hd
      exact absurd (g0 14 (by omega)) (by rw [hd]; simp)
    · unfold StepOk
      rintro d act x0 ⟨u80, u81, u82, u83, u84, u85, u86, u87, u88, u89, u90, u91, u0, rfl, f41, f42, f43, f44, f45, f46, f47, f48, f49, f50, f51, f52, f53, g0, g1⟩ hd
      exact absurd (g0 15 (by omega)) (by rw [hd]; simp)
    · unfold StepOk
      rintro d act x0 ⟨u80, u81, u82, u83, u84, u85, u86, u87, u88, u89, u90, u91, u0, rfl, f41, f42, f43, f44, f45, f46, f47, f48, f49, f50, f51, f52, f53, g0, g1⟩ hd
      exact absurd (g0 16 (by omega)) (by rw [hd]; simp)
    · unfold StepOk
      rintro d act x0 ⟨u80, u81, u82, u83, u84, u85, u86, u87, u88, u89, u90, u91, u0, rfl, f41, f42, f43, f44, f45, f46, f47, f48, f49, f50, f51, f52, f53, g0, g1⟩ hd
      exact absurd (g0 17 (by omega)) (by rw [hd]; simp)
    · unfold StepOk
      rintro d act x0 ⟨u80, u81, u82, u83, u84, u85, u86, u87, u88, u89, u90, u91, u0, rfl, f41, f42, f43, f44, f45, f46, f47, f48, f49, f50, f51, f52, f53, g0, g1⟩ hd
      exact absurd (g0 18 (by omega)) (by rw [hd]; simp)
    · unfold StepOk
      rintro d act x0 ⟨u80, u81, u82, u83, u84, u85, u86, u87, u88, u89, u90, u91, u0, rfl, f41, f42, f43, f44, f45, f46, f47, f48, f49, f50, f51, f52, f53, g0, g1⟩ hd
      exact absurd (g0 19 (by omega)) (by rw [hd]; simp)
    · unfold StepOk
      rintro d act x0 ⟨u80, u81, u82, u83, u84, u85, u86, u87, u88, u89, u90, u91, u0, rfl, f41, f42, f43, f44, f45, f46, f47, f48, f49, f50, f51, f52, f53, g0, g1⟩ hd
      exact absurd (g0 20 (by omega)) (by rw [hd]; simp)
    · unfold StepOk
      rintro d act x0 ⟨u80, u81, u82, u83, u84, u85, u86, u87, u88, u89, u90, u91, u0, rfl, f41, f42, f43, f44, f45, f46, f47, f48, f49, f50, f51, f52, f53, g0, g1⟩ hd
      exact absurd (g0 21 (by omega)) (by rw [hd]; simp)
    · unfold StepOk
      rintro d act x0 ⟨u80, u81, u82, u83, u84, u85, u86, u87, u88, u89, u90, u91, u0, rfl, f41, f42, f43, f44, f45, f46, f47, f48, f49, f50, f51, f52, f53, g0, g1⟩ hd
      exact absurd (g0 22 (by omega)) (by rw [hd]; simp)
    · unfold StepOk
      rintro d act x0 ⟨u80, u81, u82, u83, u84, u85, u86, u87, u88, u89, u90, u91, u0, rfl, f41, f42, f43, f44, f45, f46, f47, f48, f49, f50, f51, f52, f53, g0, g1⟩ hd
      exact absurd (g0 23 (by omega)) (by rw [hd]; simp)
    · unfold StepOk
      rintro d act x0 ⟨u80, u81, u82, u83, u84, u85, u86, u87, u88, u89, u90, u91, u0, rfl, f41, f42, f43, f44, f45, f46, f47, f48, f49, f50, f51, f52, f53, g0, g1⟩ hd
      exact absurd (g0 24 (by omega)) (by rw [hd]; simp)
    · unfold StepOk
      rintro d act x0 ⟨u80, u81, u82, u83, u84, u85, u86, u87, u88, u89, u90, u91, u0, rfl, f41, f42, f43, f44, f45, f46, f47, f48, f49, f50, f51, f52, f53, g0, g1⟩ hd
      exact absurd (g0 25 (by omega)) (by rw [hd]; simp)
    · unfold StepOk
      rintro d act x0 ⟨u80, u81, u82, u83, u84, u85, u86, u87, u88, u89, u90, u91, u0, rfl, f41, f42, f43, f44, f45, f46, f47, f48, f49, f50, f51, f52, f53, g0, g1⟩ hd
      exact absurd (g0 26 (by omega)) (by rw [hd]; simp)
    · unfold StepOk
      rintro d act x0 ⟨u80, u81, u82, u83, u84, u85, u86, u87, u88, u89, u90, u91, u0, rfl, f41, f42, f43, f44, f45, f46, f47, f48, f49, f50, f51, f52, f53, g0, g1⟩ hd
      exact absurd (g0 27 (by omega)) (by rw [hd]; simp)
    · unfold StepOk
      rintro d act x0 ⟨u80, u81, u82, u83, u84, u85, u86, u87, u88, u89, u90, u91, u0, rfl, f41, f42, f43, f44, f45, f46, f47, f48, f49, f50, f51, f52, f53, g0, g1⟩ hd
      exact absurd (g0 28 (by omega)) (by rw [hd]; simp)
    · unfold StepOk
      rintro d act x0 ⟨u80, u81, u82, u83, u84, u85, u86, u87, u88, u89, u90, u91, u0, rfl, f41, f42, f43, f44, f45, f46, f47, f48, f49, f50, f51, f52, f53, g0, g1⟩ hd
      exact absurd (g0 29 (by omega)) (by rw [hd]; simp)
    · unfold StepOk
      rintro d act x0 ⟨u80, u81, u82, u83, u84, u85, u86, u87, u88, u89, u90, u91, u0, rfl, f41, f42, f43, f44, f45, f46, f47, f48, f49, f50, f51, f52, f53, g0, g1⟩ hd
      exact absurd (g0 30 (by omega)) (by rw [hd]; simp)
    · unfold StepOk
      rintro d act x0 ⟨u80, u81, u82, u83, u84, u85, u86, u87, u88, u89, u90, u91, u0, rfl, f41, f42, f43, f44, f45, f46, f47, f48, f49, f50, f51, f52, f53, g0, g1⟩ hd
      exact absurd (g0 31 (by omega)) (by rw [hd]; simp)
    · unfold StepOk
      rintro d act x0 ⟨u80, u81, u82, u83, u84, u85, u86, u87, u88, u89, u90, u91, u0, rfl, f41, f42, f43, f44, f45, f46, f47, f48, f49, f50, f51, f52, f53, g0, g1⟩ hd
      exact absurd (g0 32 (by omega)) (by rw [hd]; simp)
    · unfold StepOk
      rintro d act x0 ⟨u80, u81, u82, u83, u84, u85, u86, u87, u88, u89, u90, u91, u0, rfl, f41, f42, f43, f44, f45, f46, f47, f48, f49, f50, f51, f52, f53, g0, g1⟩ hd
      exact absurd (g0 33 (by omega)) (by rw [hd]; simp)
    · unfold StepOk
      rintro d act x0 ⟨u80, u81, u82, u83, u84, u85, u86, u87, u88, u89, u90, u91, u0, rfl, f41, f42, f43, f44, f45, f46, f47, f48, f49, f50, f51, f52, f53, g0, g1⟩ hd
      exact absurd (g0 34 (by omega)) (by rw [hd]; simp)
    · unfold StepOk
      rintro d act x0 ⟨u80, u81, u82, u83, u84, u85, u86, u87, u88, u89, u90, u91, u0, rfl, f41, f42, f43, f44, f45, f46, f47, f48, f49, f50, f51, f52, f53, g0, g1⟩ hd
      exact absurd (g0 35 (by omega)) (by rw [hd]; simp)
    · unfold StepOk
      rintro d act x0 ⟨u80, u81, u82, u83, u84, u85, u86, u87, u88, u89, u90, u91, u0, rfl, f41, f42, f43, f44, f45, f46, f47, f48, f49, f50, f51, f52, f53, g0, g1⟩ hd
      exact absurd (g0 36 (by omega)) (by rw [hd]; simp)
    · unfold StepOk
      rintro d act x0 ⟨u80, u81, u82, u83, u84, u85, u86, u87, u88, u89, u90, u91, u0, rfl, f41, f42, f43, f44, f45, f46, f47, f48, f49, f50, f51, f52, f53, g0, g1⟩ hd
      exact absurd (g0 37 (by omega)) (by rw [hd]; simp)
    · unfold StepOk
      rintro d act x0 ⟨u80, u81, u82, u83, u84, u85, u86, u87, u88, u89, u90, u91, u0, rfl, f41, f42, f43, f44, f45, f46, f47, f48, f49, f50, f51, f52, f53, g0, g1⟩ hd
      exact absurd (g0 38 (by omega)) (by rw [hd]; simp)
    · unfold StepOk
      rintro d act x0 ⟨u80, u81, u82, u83, u84, u85, u86, u87, u88, u89, u90, u91, u0, rfl, f41, f42, f43, f44, f45, f46, f47, f48, f49, f50, f51, f52, f53, g0, g1⟩ hd
      exact absurd (g0 39 (by omega)) (by rw [hd]; simp)
    · unfold StepOk
      rintro d act x0 ⟨u80, u81, u82, u83, u84, u85, u86, u87, u88, u89, u90, u91, u0, rfl, f41, f42, f43, f44, f45, f46, f47, f48, f49, f50, f51, f52, f53, g0, g1⟩ hd
      exact absurd (g0 40 (by omega)) (by rw [hd]; simp)
    · unfold StepOk
      rintro d act x0 ⟨u80, u81, u82, u83, u84, u85, u86, u87, u88, u89, u90, u91, u0, rfl, f41, f42, f43, f44, f45, f46, f47, f48, f49, f50, f51, f52, f53, g0, g1⟩ hd hdep Kc hKc
      have k5 := blk_cell (blk_ext g1 HX5.out)
      have l5 := blk_lt (blk_ext g1 HX5.out)
      rw [if_pos (by rfl)]
      go_big_op
      refine hKc _ _ ⟨_, _, _, _, _, _, _, _, _, _, _, _, _, rfl, ?_, ?_, ?_, ?_, ?_, ?_, ?_, ?_, ?_, ?_, ?_, ?_, ?_, ?_, ?_⟩
      · exact (fun _ => rfl)
      · exact (fun h => f42 (up h rfl))
      · exact (fun h => f43 (up h rfl))
      · exact (fun h => f44 (up h rfl))
      · exact (fun h => f45 (up h rfl))
      · exact (fun h => f46 (up h rfl))
      · exact (fun h => f47 (up h rfl))
      · exact (fun h => f48 (up h rfl))
      · exact (fun h => f49 (up h rfl))
      · exact (fun h => f50 (up h rfl))
      · exact (fun h => f51 (up h rfl))
      · exact (fun h => f52 (up h rfl))
      · exact (fun h => f53 (up h rfl))
      · exact (fun k hk => upl (g0 k hk))
      · exact g1
    · unfold StepOk
      rintro d act x0 ⟨u80, u81, u82, u83, u84, u85, u86, u87, u88, u89, u90, u91, u0, rfl, f41, f42, f43, f44, f45, f46, f47, f48, f49, f50, f51, f52, f53, g0, g1⟩ hd hdep Kc hKc
      have hd41 : d 41 = true := hdep ⟨41, .data⟩ (by simp) rfl
      obtain rfl := f41 hd41
      rw [if_pos (by rfl)]
      go_big_op
      refine hKc _ _ ⟨_, _, _, _, _, _, _, _, _, _, _, _, _, rfl, ?_, ?_, ?_, ?_, ?_, ?_, ?_, ?_, ?_, ?_, ?_, ?_, ?_, ?_, ?_⟩
      · exact (fun h => f41 (up h rfl))
      · exact (fun _ => ⟨_, rfl, cat_lit x0 [gA]⟩)
      · exact (fun h => f43 (up h rfl))
      · exact (fun h => f44 (up h rfl))
      · exact (fun h => f45 (up h rfl))
      · exact (fun h => f46 (up h rfl))
      · exact (fun h => f47 (up h rfl))
      · exact (fun h => by have f := f48 (up h rfl); obtain ⟨b, e, h⟩ := f; exact ⟨b, e, SAt.ext h ((Below.refl _ _).alloc (Nat.le_refl _) _)⟩)
      · exact (fun h => f49 (up h rfl))
      · exact (fun h => f50 (up h rfl))
      · exact (fun h => f51 (up h rfl))
      · exact (fun h => f52 (up h rfl))
      · exact (fun h => f53 (up h rfl))
      · exact (fun k hk => upl (g0 k hk))
      · exact (g1.alloc g1.size _)
    · unfold StepOk
      rintro d act x0 ⟨u80, u81, u82, u83, u84, u85, u86, u87, u88, u89, u90, u91, u0, rfl, f41, f42, f43, f44, f45, f46, f47, f48, f49, f50, f51, f52, f53, g0, g1⟩ hd hdep Kc hKc
      rw [if_pos (by rfl)]
      go_big_op
      refine hKc _ _ ⟨_, _, _, _, _, _, _, _, _, _, _, _, _, rfl, ?_, ?_, ?_, ?_, ?_, ?_, ?_, ?_, ?_, ?_, ?_, ?_, ?_, ?_, ?_⟩
      · exact (fun h => f41 (up h rfl))
      · exact (fun h => f42 (up h rfl))
      · exact (fun _ => rfl)
      · exact (fun h => f44 (up h rfl))
      · exact (fun h => f45 (up h rfl))
      · exact (fun h => f46 (up h rfl))
      · exact (fun h => f47 (up h rfl))
      · exact (fun h => f48 (up h rfl))
      · exact (fun h => f49 (up h rfl))
      · exact (fun h => f50 (up h rfl))
      · exact (fun h => f51 (up h rfl))
      · exact (fun h => f52 (up h rfl))
      · exact (fun h => f53 (up h rfl))
      · exact (fun k hk => upl (g0 k hk))
      · exact g1
    · unfold StepOk
      rintro d act x0 ⟨u80, u81, u82, u83, u84, u85, u86, u87, u88, u89, u90, u91, u0, rfl, f41, f42, f43, f44, f45, f46, f47, f48, f49, f50, f51, f52, f53, g0, g1⟩ hd hdep Kc hKc
      rw [if_pos (by rfl)]
      go_big_op
      refine hKc _ _ ⟨_, _, _, _, _, _, _, _, _, _, _, _, _, rfl, ?_, ?_, ?_, ?_, ?_, ?_, ?_, ?_, ?_, ?_, ?_, ?_, ?_, ?_, ?_⟩
      · exact (fun h => f41 (up h rfl))
      · exact (fun h => f42 (up h rfl))
      · exact (fun h => f43 (up h rfl))
      · exact (fun _ => rfl)
      · exact (fun h => f45 (up h rfl))
      · exact (fun h => f46 (up h rfl))
      · exact (fun h => f47 (up h rfl))
      · exact (fun h => f48 (up h rfl))
      · exact (fun h => f49 (up h rfl))
      · exact (fun h => f50 (up h rfl))
      · exact (fun h => f51 (up h rfl))
      · exact (fun h => f52 (up h rfl))
      · exact (fun h => f53 (up h rfl))
      · exact (fun k hk => upl (g0 k hk))
      · exact g1
    · unfold StepOk
      rintro d act x0 ⟨u80, u81, u82, u83, u84, u85, u86, u87, u88, u89, u90, u91, u0, rfl, f41, f42, f43, f44, f45, f46, f47, f48, f49, f50, f51, f52, f53, g0, g1⟩ hd hdep Kc hKc
      have hd44 : d 44 = true := hdep ⟨44, .data⟩ (by simp) rfl
      obtain rfl := f44 hd44
      have k5 := blk_cell (blk_ext g1 HX5.out)
      have l5 := blk_lt (blk_ext g1 HX5.out)
      rw [if_pos (by rfl)]
      go_big_op
      refine hKc _ _ ⟨_, _, _, _, _, _, _, _, _, _, _, _, _, rfl, ?_, ?_, ?_, ?_, ?_, ?_, ?_, ?_, ?_, ?_, ?_, ?_, ?_, ?_, ?_⟩
      · exact (fun h => f41 (up h rfl))
      · exact (fun h => f42 (up h rfl))
      · exact (fun h => f43 (up h rfl))
      · exact (fun h => f44 (up h rfl))
      · exact (fun _ => rfl)
      · exact (fun h => f46 (up h rfl))
      · exact (fun h => f47 (up h rfl))
      · exact (fun h => f48 (up h rfl))
      · exact (fun h => f49 (up h rfl))
      · exact (fun h => f50 (up h rfl))
      · exact (fun h => f51 (up h rfl))
      · exact (fun h => f52 (up h rfl))
      · exact (fun h => f53 (up h rfl))
      · exact (fun k hk => upl (g0 k hk))
      · exact g1
    · unfold StepOk
      rintro d act x0 ⟨u80, u81, u82, u83, u84, u85, u86, u87, u88, u89, u90, u91, u0, rfl, f41, f42, f43, f44, f45, f46, f47, f48, f49, f50, f51, f52, f53, g0, g1⟩ hd hdep Kc hKc
      rw [if_pos (by rfl)]
      go_big_op
      refine hKc _ _ ⟨_, _, _, _, _, _, _, _, _, _, _, _, _, rfl, ?_, ?_, ?_, ?_, ?_, ?_, ?_, ?_, ?_, ?_, ?_, ?_, ?_, ?_, ?_⟩
      · exact (fun h => f41 (up h rfl))
      · exact (fun h => f42 (up h rfl))
      · exact (fun h => f43 (up h rfl))
      · exact (fun h => f44 (up h rfl))
      · exact (fun h => f45 (up h rfl))
      · exact (fun _ => rfl)
      · exact (fun h => f47 (up h rfl))
      · exact (fun h => f48 (up h rfl))
      · exact (fun h => f49 (up h rfl))
      · exact (fun h => f50 (up h rfl))
      · exact (fun h => f51 (up h rfl))
      · exact (fun h => f52 (up h rfl))
      · exact (fun h => f53 (up h rfl))
      · exact (fun k hk => upl (g0 k hk))
      · exact g1
    · unfold StepOk
      rintro d act x0 ⟨u80, u81, u82, u83, u84, u85, u86, u87, u88, u89, u90, u91, u0, rfl, f41, f42, f43, f44, f45, f46, f47, f48, f49, f50, f51, f52, f53, g0, g1⟩ hd hdep Kc hKc
      have hd46 : d 46 = true := hdep ⟨46, .data⟩ (by simp) rfl
      obtain rfl := f46 hd46
      have k5 := blk_cell (blk_ext g1 HX5.out)
      have l5 := blk_lt (blk_ext g1 HX5.out)
      rw [if_pos (by rfl)]
      go_big_op
      refine hKc _ _ ⟨_, _, _, _, _, _, _, _, _, _, _, _, _, rfl, ?_, ?_, ?_, ?_, ?_, ?_, ?_, ?_, ?_, ?_, ?_, ?_, ?_, ?_, ?_⟩
      · exact (fun h => f41 (up h rfl))
      · exact (fun h => f42 (up h rfl))
      · exact (fun h => f43 (up h rfl))
      · exact (fun h => f44 (up h rfl))
      · exact (fun h => f45 (up h rfl))
      · exact (fun h => f46 (up h rfl))
      · exact (fun _ => rfl)
      · exact (fun h => f48 (up h rfl))
      · exact (fun h => f49 (up h rfl))
      · exact (fun h => f50 (up h rfl))
      · exact (fun h => f51 (up h rfl))
      · exact (fun h => f52 (up h rfl))
      · exact (fun h => f53 (up h rfl))
      · exact (fun k hk => upl (g0 k hk))
      · exact g1
    · unfold StepOk
      rintro d act x0 ⟨u80, u81, u82, u83, u84, u85, u86, u87, u88, u89, u90, u91, u0, rfl, f41, f42, f43, f44, f45, f46, f47, f48, f49, f50, f51, f52, f53, g0, g1⟩ hd hdep Kc hKc
      have hd43 : d 43 = true := hdep ⟨43, .data⟩ (by simp) rfl
      have hd45 : d 45 = true := hdep ⟨45, .data⟩ (by simp) rfl
      have hd47 : d 47 = true := hdep ⟨47, .data⟩ (by simp) rfl
      obtain rfl := f43 hd43
      obtain rfl := f45 hd45
      obtain rfl := f47 hd47
      rw [if_pos (by rfl)]
      go_big_op
      refine hKc _ _ ⟨_, _, _, _, _, _, _, _, _, _, _, _, _, rfl, ?_, ?_, ?_, ?_, ?_, ?_, ?_, ?_, ?_, ?_, ?_, ?_, ?_, ?_, ?_⟩
      · exact (fun h => f41 (up h rfl))
      · exact (fun h => by have f := f42 (up h rfl); obtain ⟨b, e, h⟩ := f; exact ⟨b, e, CAt.ext h ((Below.refl _ _).alloc (Nat.le_refl _) _)⟩)
      · exact (fun h => f43 (up h rfl))
      · exact (fun h => f44 (up h rfl))
      · exact (fun h => f45 (up h rfl))
      · exact (fun h => f46 (up h rfl))
      · exact (fun h => f47 (up h rfl))
      · exact (fun _ => ⟨_, rfl, ky_lit x0 [gK0, gK1, gK1]⟩)
      · exact (fun h => f49 (up h rfl))
      · exact (fun h => f50 (up h rfl))
      · exact (fun h => f51 (up h rfl))
      · exact (fun h => f52 (up h rfl))
      · exact (fun h => f53 (up h rfl))
      · exact (fun k hk => upl (g0 k hk))
      · exact (g1.alloc g1.size _)
    · unfold StepOk
      rintro d act x0 ⟨u80, u81, u82, u83, u84, u85, u86, u87, u88, u89, u90, u91, u0, rfl, f41, f42, f43, f44, f45, f46, f47, f48, f49, f50, f51, f52, f53, g0, g1⟩ hd hdep Kc hKc
      have hd42 : d 42 = true := hdep ⟨42, .data⟩ (by simp) rfl
      have hd48 : d 48 = true := hdep ⟨48, .data⟩ (by simp) rfl
      obtain ⟨b1, rfl, hb1⟩ := f42 hd42
      obtain ⟨b2, rfl, hb2⟩ := f48 hd48
      rw [if_pos (by rfl)]
      go_big_op
      refine (gAnswer (some ⟨b1, 0, none⟩) 1 1 [gA] (some ⟨b2, 0, none⟩) 3 3 [gK0, gK1, gK1] _ hb1 rfl (by omega) (by omega) (fun x hx => by simp at hx; subst hx; exact ⟨by decide, by decide⟩) hb2 rfl (by omega) (fun k hk => by simp at hk; rcases hk with rfl | rfl <;> exact ⟨by decide, by decide⟩)).mono ?_
      rintro e x1 ⟨v', rfl, ho, hbx⟩
      obtain ⟨a3, c3, rfl, -, -, -⟩ := OwnR.form ho
      rw [ans_g]
      clear ho
      refine hKc _ _ ⟨_, _, _, _, _, _, _, _, _, _, _, _, _, rfl, ?_, ?_, ?_, ?_, ?_, ?_, ?_, ?_, ?_, ?_, ?_, ?_, ?_, ?_, ?_⟩
      · exact (fun h => f41 (up h rfl))
      · exact (fun h => by have f := f42 (up h rfl); obtain ⟨b, e, h⟩ := f; exact ⟨b, e, CAt.ext h hbx⟩)
      · exact (fun h => f43 (up h rfl))
      · exact (fun h => f44 (up h rfl))
      · exact (fun h => f45 (up h rfl))
      · exact (fun h => f46 (up h rfl))
      · exact (fun h => f47 (up h rfl))
      · exact (fun h => by have f := f48 (up h rfl); obtain ⟨b, e, h⟩ := f; exact ⟨b, e, SAt.ext h hbx⟩)
      · exact (fun _ => ⟨_, _, rfl⟩)
      · exact (fun h => f50 (up h rfl))
      · exact (fun h => f51 (up h rfl))
      · exact (fun h => f52 (up h rfl))
      · exact (fun h => f53 (up h rfl))
      · exact (fun k hk => upl (g0 k hk))
      · exact (ext_trans g1 hbx)
    · unfold StepOk
      rintro d act x0 ⟨u80, u81, u82, u83, u84, u85, u86, u87, u88, u89, u90, u91, u0, rfl, f41, f42, f43, f44, f45, f46, f47, f48, f49, f50, f51, f52, f53, g0, g1⟩ hd hdep Kc hKc
      have hd49 : d 49 = true := hdep ⟨49, .data⟩ (by simp) rfl
      obtain ⟨a3, c3, rfl⟩ := f49 hd49
      rw [if_pos (by rfl)]
      go_big_op
      refine hKc _ _ ⟨_, _, _, _, _, _, _, _, _, _, _, _, _, rfl, ?_, ?_, ?_, ?_, ?_, ?_, ?_, ?_, ?_, ?_, ?_, ?_, ?_, ?_, ?_⟩
      · exact (fun h => f41 (up h rfl))
      · exact (fun h => f42 (up h rfl))
      · exact (fun h => f43 (up h rfl))
      · exact (fun h => f44 (up h rfl))
      · exact (fun h => f45 (up h rfl))
      · exact (fun h => f46 (up h rfl))
      · exact (fun h => f47 (up h rfl))
      · exact (fun h => f48 (up h rfl))
      · exact (fun h => f49 (up h rfl))
      · exact (fun _ => rfl)
      · exact (fun h => f51 (up h rfl))
      · exact (fun h => f52 (up h rfl))
      · exact (fun h => f53 (up h rfl))
      · exact (fun k hk => upl (g0 k hk))
      · exact g1
    · unfold StepOk
      rintro d act x0 ⟨u80, u81, u82, u83, u84, u85, u86, u87, u88, u89, u90, u91, u0, rfl, f41, f42, f43, f44, f45, f46, f47, f48, f49, f50, f51, f52, f53, g0, g1⟩ hd hdep Kc hKc
      have hd50 : d 50 = true := hdep ⟨50, .data⟩ (by simp) rfl
      obtain rfl := f50 hd50
      rw [if_pos (by rfl)]
      go_big_op
      refine hKc _ _ ⟨_, _, _, _, _, _, _, _, _, _, _, _, _, rfl, ?_, ?_, ?_, ?_, ?_, ?_, ?_, ?_, ?_, ?_, ?_, ?_, ?_, ?_, ?_⟩
      · exact (fun h => f41 (up h rfl))
      · exact (fun h => f42 (up h rfl))
      · exact (fun h => f43 (up h rfl))
      · exact (fun h => f44 (up h rfl))
      · exact (fun h => f45 (up h rfl))
      · exact (fun h => f46 (up h rfl))
      · exact (fun h => f47 (up h rfl))
      · exact (fun h => f48 (up h rfl))
      · exact (fun h => f49 (up h rfl))
      · exact (fun h => f50 (up h rfl))
      · exact (fun _ => rfl)
      · exact (fun h => f52 (up h rfl))
      · exact (fun h => f53 (up h rfl))
      · exact (fun k hk => upl (g0 k hk))
      · exact g1
    · unfold StepOk
      rintro d act x0 ⟨u80, u81, u82, u83, u84, u85, u86, u87, u88, u89, u90, u91, u0, rfl, f41, f42, f43, f44, f45, f46, f47, f48, f49, f50, f51, f52, f53, g0, g1⟩ hd hdep Kc hKc
      have hd40 : d 40 = true := hdep ⟨40, .data⟩ (by simp) rfl
      have hd51 : d 51 = true := hdep ⟨51, .data⟩ (by simp) rfl
      obtain rfl := f51 hd51
      rw [if_pos (by rfl)]
      go_big_op
      refine hKc _ _ ⟨_, _, _, _, _, _, _, _, _, _, _, _, _, rfl, ?_, ?_, ?_, ?_, ?_, ?_, ?_, ?_, ?_, ?_, ?_, ?_, ?_, ?_, ?_⟩
      · exact (fun h => f41 (up h rfl))
      · exact (fun h => f42 (up h rfl))
      · exact (fun h => f43 (up h rfl))
      · exact (fun h => f44 (up h rfl))
      · exact (fun h => f45 (up h rfl))
      · exact (fun h => f46 (up h rfl))
      · exact (fun h => f47 (up h rfl))
      · exact (fun h => f48 (up h rfl))
      · exact (fun h => f49 (up h rfl))
      · exact (fun h => f50 (up h rfl))
      · exact (fun h => f51 (up h rfl))
      · exact (fun _ => rfl)
      · exact (fun h => f53 (up h rfl))
      · exact (fun k hk => upl (g0 k hk))
      · exact g1
    · unfold StepOk
      rintro d act x0 ⟨u80, u81, u82, u83, u84, u85, u86, u87, u88, u89, u90, u91, u0, rfl, f41, f42, f43, f44, f45, f46, f47, f48, f49, f50, f51, f52, f53, g0, g1⟩ hd hdep Kc hKc
      have hd52 : d 52 = true := hdep ⟨52, .data⟩ (by simp) rfl
      obtain rfl := f52 hd52
      rw [if_pos (by rfl)]
      go_big_op
      refine hKc _ _ ⟨_, _, _, _, _, _, _, _, _, _, _, _, _, rfl, ?_, ?_, ?_, ?_, ?_, ?_, ?_, ?_, ?_, ?_, ?_, ?_, ?_, ?_, ?_⟩
      · exact (fun h => f41 (up h rfl))
      · exact (fun h => f42 (up h rfl))
      · exact (fun h => f43 (up h rfl))
      · exact (fun h => f44 (up h rfl))
      · exact (fun h => f45 (up h rfl))
      · exact (fun h => f46 (up h rfl))
      · exact (fun h => f47 (up h rfl))
      · exact (fun h => f48 (up h rfl))
      · exact (fun h => f49 (up h rfl))
      · exact (fun h => f50 (up h rfl))
      · exact (fun h => f51 (up h rfl))
      · exact (fun h => f52 (up h rfl))
      · exact (fun _ => rfl)
      · exact (fun k hk => upl (g0 k hk))
      · exact g1
  · rintro d act x0 ⟨u80, u81, u82, u83, u84, u85, u86, u87, u88, u89, u90, u91, u0, rfl, f41, f42, f43, f44, f45, f46, f47, f48, f49, f50, f51, f52, f53, g0, g1⟩ hall
    obtain rfl := f53 (hall 53 (by decide))
    clear f41 f42 f43 f44 f45 f46 f47 f48 f49 f50 f51 f52 f53 hall
    have HBE := Lib.hid (ext_trans HB5.out g1)
    clear g0 g1
    go_wp2
    go_ret
    exact ⟨rfl, HBE.out⟩

end Go.Proofs.Ytmgdhgaodjkifaa
