/- Several texts as one: SealW, SealS. -/
import Derived.Test.YtkhcgopehmndgaaBe
import Derived.Test.YtkhcgopehmndgaaBj
/- Package seal's walks. -/
namespace Go.Proofs.Ytkhcgopehmndgaa
open Go.RowKit
set_option linter.unusedVariables false
set_option linter.unusedSimpArgs false

/-- what a card shows -/
def shw (c : Cd) : Int := if c.g then 0 else if c.o = 0 then c.s else c.o
/-- its bytes -/
def cardB (c : Cd) : List Int := txt c.a ++ txt c.i ++ [shw c % 256] ++ be c.l
/-- a card whose texts are short -/
def CdS (c : Cd) : Prop := c.a.size ≤ 1000 ∧ c.i.size ≤ 1000
theorem CdOk.s {c : Cd} (h : CdOk c) : CdS c := ⟨by have := h.1; omega, by have := h.2.1; omega⟩
theorem cardB_len (c : Cd) : (cardB c).length ≤ 521 := by
  have h1 := txt_len c.a
  have h2 := txt_len c.i
  have h3 := cut255_len c.a
  have h4 := cut255_len c.i
  simp only [cardB, List.length_append, be_len, List.length_cons, List.length_nil]
  omega
theorem cardB_wb (c : Cd) : Wb (cardB c) := (((txt_wb _).app (txt_wb _)).app (Wb.one (Int.emod_nonneg _ (by omega)) (Int.emod_lt_of_pos _ (by omega)))).app (be_wb _)
def seenL (ls : List Cd) : List Cd := srt klt (ls.filter (fun c => !c.g))
def sealB (ls : List Cd) : List Int := (seenL ls).flatMap cardB
theorem flatB_len (ls : List Cd) : (ls.flatMap cardB).length ≤ 521 * ls.length := by
  induction ls with
  | nil => simp
  | cons x xs ih => rw [List.flatMap_cons, List.length_append, List.length_cons]; have := cardB_len x; omega
theorem flatB_wb (ls : List Cd) : Wb (ls.flatMap cardB) := by
  induction ls with
  | nil => exact Wb.nil
  | cons x xs ih => rw [List.flatMap_cons]; exact (cardB_wb x).app ih
theorem seenL_len (ls : List Cd) : (seenL ls).length ≤ ls.length := by unfold seenL; rw [srt_len]; exact List.length_filter_le _ _
theorem seenL_mem {ls : List Cd} {c : Cd} (h : c ∈ seenL ls) : c ∈ ls ∧ c.g = false := by
  have := (srt_mem klt c _).1 h
  simpa using this

set_option maxRecDepth 100000 in
set_option maxHeartbeats 1000000 in
theorem cardShows (c : Cd) (w : World) :
    Calls Try.prog 104 #[.agg #[.string c.a, .string c.i, .int .i64 c.s, .int .i64 c.o, .int .i64 c.l, .int .i64 c.t, .int .i64 c.k, .int .i64 c.n, .bool c.g]] w fun e w' => e = .returned (.int .i64 (shw c)) ∧ Below w.heap.size w w' := by
  have D : Below w.heap.size w (w.alloc (.cells #[.string c.a, .string c.i, .int .i64 c.s, .int .i64 c.o, .int .i64 c.l, .int .i64 c.t, .int .i64 c.k, .int .i64 c.n, .bool c.g] 49)) := (Below.refl _ _).alloc (Nat.le_refl _) _
  obtain ⟨a, i, s, o, l, t, k, n, g⟩ := c
  simp only at D ⊢
  cases g
  · by_cases h : o = 0
    · have e : shw ⟨a, i, s, o, l, t, k, n, false⟩ = s := by simp [shw, h]
      rw [e]
      subst h
      clear e
      go_enter Try.func104, Try.ntmps104
      go_wp2
      go_ret
      exact ⟨rfl, D⟩
    · have e : shw ⟨a, i, s, o, l, t, k, n, false⟩ = o := by simp [shw, h]
      rw [e]
      have hd : (o == 0) = false := by simp [h]
      clear e h
      go_enter Try.func104, Try.ntmps104
      go_wp2
      go_ret
      exact ⟨rfl, D⟩
  · have e : shw ⟨a, i, s, o, l, t, k, n, true⟩ = 0 := by simp [shw]
    rw [e]
    clear e
    go_enter Try.func104, Try.ntmps104
    go_wp2
    go_ret
    exact ⟨rfl, D⟩

set_option maxRecDepth 100000 in
set_option maxHeartbeats 1000000 in
theorem refShows (c : Cd) (w : World) :
    Calls Try.prog 52 #[.agg #[.string c.a, .string c.i, .int .i64 c.s, .int .i64 c.o, .int .i64 c.l, .int .i64 c.t, .int .i64 c.k, .int .i64 c.n, .bool c.g]] w fun e w' => e = .returned (.int .i64 (shw c)) ∧ Below w.heap.size w w' := by
  have D : Below w.heap.size w (w.alloc (.cells #[.string c.a, .string c.i, .int .i64 c.s, .int .i64 c.o, .int .i64 c.l, .int .i64 c.t, .int .i64 c.k, .int .i64 c.n, .bool c.g] 49)) := (Below.refl _ _).alloc (Nat.le_refl _) _
  obtain ⟨a, i, s, o, l, t, k, n, g⟩ := c
  simp only at D ⊢
  cases g
  · by_cases h : o = 0
    · have e : shw ⟨a, i, s, o, l, t, k, n, false⟩ = s := by simp [shw, h]
      rw [e]
      subst h
      clear e
      go_enter Try.func52, Try.ntmps52
      go_wp2
      go_ret
      exact ⟨rfl, D⟩
    · have e : shw ⟨a, i, s, o, l, t, k, n, false⟩ = o := by simp [shw, h]
      rw [e]
      have hd : (o == 0) = false := by simp [h]
      clear e h
      go_enter Try.func52, Try.ntmps52
      go_wp2
      go_ret
      exact ⟨rfl, D⟩
  · have e : shw ⟨a, i, s, o, l, t, k, n, true⟩ = 0 := by simp [shw]
    rw [e]
    clear e
    go_enter Try.func52, Try.ntmps52
    go_wp2
    go_ret
    exact ⟨rfl, D⟩

set_option maxRecDepth 100000 in
set_option maxHeartbeats 1000000 in
theorem sealCard (x : Cd) (w : World) (hx : CdS x) :
    Calls Try.prog 90 #[.agg #[.string x.a, .string x.i, .int .i64 x.s, .int .i64 x.o, .int .i64 x.l, .int .i64 x.t, .int .i64 x.k, .int .i64 x.n, .bool x.g]] w (Row (cardB x) w) := by
  have h1 := hx.1
  have h2 := hx.2
  have hA0 := cut255_len x.a
  have hI0 := cut255_len x.i
  have HTA := Lib.hid (txt_len x.a)
  have HTI := Lib.hid (txt_len x.i)
  have D0 : Below w.heap.size w (w.alloc (.cells #[.string x.a, .string x.i, .int .i64 x.s, .int .i64 x.o, .int .i64 x.l, .int .i64 x.t, .int .i64 x.k, .int .i64 x.n, .bool x.g] 49)) := (Below.refl _ _).alloc (Nat.le_refl _) _
  have HB0 := Lib.hid D0
  have HX0 := Lib.hid (blk_new w #[.string x.a, .string x.i, .int .i64 x.s, .int .i64 x.o, .int .i64 x.l, .int .i64 x.t, .int .i64 x.k, .int .i64 x.n, .bool x.g] 49)
  obtain ⟨r, hr⟩ : ∃ r, w.heap.size = r := ⟨_, rfl⟩
  have HR := Lib.hid hr
  have hk0 := blk_cell HX0.out
  have hl0 := blk_lt HX0.out
  clear D0 hx
  go_enter Try.func90, Try.ntmps90
  go_upto_region 1 with (fail)
  rw [hr] at HX0
  clear hk0 hl0
  generalize (w.alloc (.cells #[.string x.a, .string x.i, .int .i64 x.s, .int .i64 x.o, .int .i64 x.l, .int .i64 x.t, .int .i64 x.k, .int .i64 x.n, .bool x.g] 49)) = w0 at *
  have hk0 := blk_cell HX0.out
  have hl0 := blk_lt HX0.out
  clear hr
  go_wp2_with fail
  refine (packText none 0 0 x.a [] _ (.inl rfl) rfl (by omega) (by unfold maxLen; omega)).mono ?_
  rintro e w1 ⟨v1, rfl, ho1, hb1⟩
  obtain ⟨a1, c1, rfl, -, -, -, hr1, -, -⟩ := own_read ho1
  have HB1 := Lib.hid (ext_trans HB0.out hb1)
  have HX1 := Lib.hid (blk_ext hb1 HX0.out)
  have HA1 := Lib.hid hr1
  obtain ⟨n1, hn1⟩ : ∃ n, (([] : List Int) ++ txt x.a).length = n := ⟨_, rfl⟩
  have HN1 := Lib.hid hn1
  have hk1 := blk_cell HX1.out
  have hl1 := blk_lt HX1.out
  rw [hn1]
  clear ho1 hb1 hr1 hn1
  
  have hz1 : n1 ≤ 256 := by have := HN1.out; rw [List.length_append, HTA.out] at this; simp at this; omega
  go_wp2_with fail
  refine (packText a1 n1 c1 x.i (([] : List Int) ++ txt x.a) _ HA1.out HN1.out (by omega) (by unfold maxLen; omega)).mono ?_
  rintro e w2 ⟨v2, rfl, ho2, hb2⟩
  obtain ⟨a2, c2, rfl, -, -, -, hr2, -, -⟩ := own_read ho2
  have HB2 := Lib.hid (ext_trans HB1.out hb2)
  have HX2 := Lib.hid (blk_ext hb2 HX1.out)
  have HA2 := Lib.hid hr2
  obtain ⟨n2, hn2⟩ : ∃ n, (([] : List Int) ++ txt x.a ++ txt x.i).length = n := ⟨_, rfl⟩
  have HN2 := Lib.hid hn2
  have hk2 := blk_cell HX2.out
  have hl2 := blk_lt HX2.out
  rw [hn2]
  clear ho2 hb2 hr2 hn2
  
  have hz2 : n2 ≤ 512 := by have := HN2.out; rw [List.length_append, HN1.out, HTI.out] at this; omega
  go_wp2_with fail
  refine (cardShows x _).mono ?_
  rintro e w3 ⟨rfl, hb3⟩
  have HB3 := Lib.hid (ext_trans HB2.out hb3)
  have HX3 := Lib.hid (blk_ext hb3 HX2.out)
  have HA3 := Lib.hid (HA2.out.ext hb3)
  clear hb3
  go_wp2_with fail
  refine (packByte a2 n2 c2 (shw x) (([] : List Int) ++ txt x.a ++ txt x.i) _ HA3.out HN2.out (by omega)).mono ?_
  rintro e w4 ⟨v4, rfl, ho4, hb4⟩
  obtain ⟨a4, c4, rfl, -, -, -, hr4, -, -⟩ := own_read ho4
  have HB4 := Lib.hid (ext_trans HB3.out hb4)
  have HX4 := Lib.hid (blk_ext hb4 HX3.out)
  have HA4 := Lib.hid hr4
  obtain ⟨n4, hn4⟩ : ∃ n, (([] : List Int) ++ txt x.a ++ txt x.i ++ [shw x % 256]).length = n := ⟨_, rfl⟩
  have HN4 := Lib.hid hn4
  have hk4 := blk_cell HX4.out
  have hl4 := blk_lt HX4.out
  rw [hn4]
  clear ho4 hb4 hr4 hn4
  
  have hz4 : n4 ≤ 513 := by have := HN4.out; rw [List.length_append, HN2.out] at this; simp at this; omega
  go_wp2_with fail
  refine (packInt a4 n4 c4 x.l (([] : List Int) ++ txt x.a ++ txt x.i ++ [shw x % 256]) _ HA4.out HN4.out (by omega)).mono ?_
  rintro e w5 ⟨v5, rfl, ho5, hb5⟩
  have HO5 := Lib.hid ho5
  have HB5 := Lib.hid (ext_trans HB4.out hb5)
  have Z4 := HB4.out.size
  clear ho5 hb5
  go_wp2
  go_ret
  exact ⟨_, rfl, ownsRow_base HO5.out Z4, HB5.out⟩

end Go.Proofs.Ytkhcgopehmndgaa

/- Package seal's walks: what is seen, its bytes, its sum. -/
namespace Go.Proofs.Ytkhcgopehmndgaa
open Go.RowKit
set_option linter.unusedVariables false
set_option linter.unusedSimpArgs false

theorem filt_snoc (ls : List Cd) (x : Cd) : (ls ++ [x]).filter (fun c => !c.g) = ls.filter (fun c => !c.g) ++ (if x.g then [] else [x]) := by
  rw [List.filter_append]
  cases h : x.g <;> simp [List.filter, h]

set_option maxRecDepth 100000 in
set_option maxHeartbeats 2000000 in
theorem sealSeen (a : Option Addr) (n c : Nat) (ls : List Cd) (w : World) (h : CAt w a ls) (hl : ls.length = n) (hn : n ≤ 20) (hnc : n ≤ c) :
    Calls Try.prog 48 #[.slice a n c] w fun e w' => ∃ v', e = .returned v' ∧ OwnC w.heap.size w' v' (seenL ls) ∧ Below w.heap.size w w' := by
  obtain ⟨i0, hi, hz0, hz1, hz2⟩ := info_parts' info_card
  have HA := Lib.hid h
  have HN := Lib.hid hl
  clear h hl
  go_enter Try.func48, Try.ntmps48
  go_wp2_with fail
  go_loopw [3, 8] (fun o j wr => ∃ J : Nat, J ≤ n ∧ j = .int .i64 (J : Int) ∧ OwnC w.heap.size wr o ((ls.take J).filter (fun c => !c.g)) ∧ Below w.heap.size w wr) (fun o j _ => n - (intOf j).toNat)
  case atStart => exact ⟨0, by omega, rfl, OwnR.nil _ _, Below.refl _ _⟩
  case round =>
    obtain ⟨w2, rfl⟩ : ∃ y : World, y = wr := ⟨_, rfl⟩
    obtain ⟨J, hJ, rfl, ho2, hb2⟩ := hrel
    obtain ⟨ga, gc, rfl, hgc, hgm, hgat, hgb, hgf⟩ := ho2.read
    obtain ⟨S, hS⟩ : ∃ S, (ls.take J).filter (fun c => !c.g) = S := ⟨_, rfl⟩
    rw [hS] at ho2 hgc hgat hgf ⊢
    obtain ⟨m, hm⟩ : ∃ m, S.length = m := ⟨_, rfl⟩
    have hm1 : m ≤ 20 := by rw [← hm, ← hS]; have := List.length_filter_le (fun c : Cd => !c.g) (ls.take J); rw [List.length_take] at this; omega
    have HM := Lib.hid hm
    rw [hm] at hgc ⊢
    by_cases hlt : J < n
    · obtain ⟨x, hx⟩ : ∃ x, ls[J]? = some x := ⟨_, List.getElem?_eq_getElem (by have := HN.out; omega)⟩
      have HST := Lib.hid (show (ls.take (J + 1)).filter (fun c => !c.g) = S ++ (if x.g then [] else [x]) from by rw [List.take_add_one, hx]; show (ls.take J ++ [x]).filter _ = _; rw [filt_snoc, hS])
      obtain ⟨b, o, rfl⟩ : ∃ b o, a = some ⟨b, o, none⟩ := by
        rcases HA.out with h | ⟨b, o, e, _⟩
        · rw [h] at hx; simp at hx
        · exact ⟨b, o, e⟩
      obtain ⟨x0, x1, x2, x3, x4, x5, x6, x7, x8⟩ := (HA.out.ext hb2).at hx
      have D0 : Below w2.heap.size w2 (w2.alloc (.cells #[.string x.a, .string x.i, .int .i64 x.s, .int .i64 x.o, .int .i64 x.l, .int .i64 x.t, .int .i64 x.k, .int .i64 x.n, .bool x.g] 49)) := (Below.refl _ _).alloc (Nat.le_refl _) _
      have HX := Lib.hid (blk_new w2 #[.string x.a, .string x.i, .int .i64 x.s, .int .i64 x.o, .int .i64 x.l, .int .i64 x.t, .int .i64 x.k, .int .i64 x.n, .bool x.g] 49)
      have HO3 := Lib.hid (show OwnC w.heap.size (w2.alloc (.cells #[.string x.a, .string x.i, .int .i64 x.s, .int .i64 x.o, .int .i64 x.l, .int .i64 x.t, .int .i64 x.k, .int .i64 x.n, .bool x.g] 49)) (.slice ga m gc) S from by have := OwnR.ext ho2 D0; rw [hm] at this; exact this)
      have HB3 := Lib.hid (ext_trans hb2 D0)
      unfold maxLen at hgm
      clear ho2 hb2 hx hS hm D0 hgat hgb hgf
      go_upto_region 5 with (fail)
      obtain ⟨r, hr⟩ : ∃ r, w2.heap.size = r := ⟨_, rfl⟩
      rw [hr] at HX ⊢
      clear hr
      generalize (w2.alloc (.cells #[.string x.a, .string x.i, .int .i64 x.s, .int .i64 x.o, .int .i64 x.l, .int .i64 x.t, .int .i64 x.k, .int .i64 x.n, .bool x.g] 49)) = w4 at *
      clear x0 x1 x2 x3 x4 x5 x6 x7 x8
      have hk4 := blk_cell HX.out
      have hl4 := blk_lt HX.out
      have Z4 := HB3.out.size
      obtain ⟨gg, hgg⟩ : ∃ gg, x.g = gg := ⟨_, rfl⟩
      rw [hgg] at HST
      cases gg
      · have HO5' := Lib.hid (show w4.ownsRow w.heap.size 49 9 (.slice ga m gc) m (flat cc S) from by have := HO3.out; unfold OwnC OwnR at this; rw [HM.out] at this; exact this)
        go_wp2_with (at_builtin; refine wpList_append_own _ rfl _ _ 33 rfl (w.heap.size) 49 i0 Cd.zero.v 9 88 Try.underlying33 hi hz0 hz1 hz2 rfl (by decide) _ m (flat cc S) rfl (HO5'.out.alloc (.cells #[.string x.a, .string x.i, .int .i64 x.s, .int .i64 x.o, .int .i64 x.l, .int .i64 x.t, .int .i64 x.k, .int .i64 x.n, .bool false] 49)) ⟨w4.heap.size, 0, none⟩ 1 1 (cc x) rfl rfl ?c1 ?c2 ?c3 ?c4 ?c5 ?_)
        case c1 =>
          intro j u hj
          rw [add_off, Nat.zero_add, blk_cell (blk_new w4 #[.string x.a, .string x.i, .int .i64 x.s, .int .i64 x.o, .int .i64 x.l, .int .i64 x.t, .int .i64 x.k, .int .i64 x.n, .bool false] 49)]
          simpa [cc, hgg] using hj
        case c2 => exact cc_one x
        case c3 => unfold maxLen; omega
        case c4 => omega
        case c5 => simp; omega
        intro v7 w7 ho7 hg7 _
        have HB7 := Lib.hid ((HB3.out.alloc Z4 (.cells #[.string x.a, .string x.i, .int .i64 x.s, .int .i64 x.o, .int .i64 x.l, .int .i64 x.t, .int .i64 x.k, .int .i64 x.n, .bool false] 49)).grown hg7 (by simp; omega) (fun q hq => own_ge HO5'.out hq))
        have HO7 := Lib.hid (show OwnC w.heap.size w7 v7 (S ++ [x]) by unfold OwnC OwnR; rw [flat_snoc, List.length_append, HM.out]; exact ho7)
        clear ho7 hg7 HO5' HX hk4 hl4
        go_wp2
        go_roundw
        case rel => exact ⟨J + 1, by omega, by go_num, by rw [HST.out]; exact HO7.out, HB7.out⟩
        case measure => simp [intOf]; omega
      · go_wp2
        go_roundw
        case rel => exact ⟨J + 1, by omega, by go_num, by rw [HST.out]; simpa using HO3.out, HB3.out⟩
        case measure => simp [intOf]; omega
    · obtain rfl : J = n := by omega
      have HF := Lib.hid (show S = ls.filter (fun c => !c.g) from by rw [← hS, List.take_of_length_le (by have := HN.out; omega)])
      have HAT := Lib.hid hgat
      have HB2 := Lib.hid hb2
      have HGF := Lib.hid hgf
      have Z2 := hb2.size
      clear ho2 hb2 hgat hgb hgf hS hm
      go_wp2_with fail
      refine (cardSort ga m gc S _ HAT.out HM.out hm1 (by
        rcases HGF.out with ⟨e1, e2, _⟩ | ⟨g, e⟩
        · exact .inl ⟨e1, e2⟩
        · exact .inr ⟨g, 0, e⟩)).mono ?_
      rintro e w3 ⟨v', rfl, ho3, hb3⟩
      have HO3 := Lib.hid (show OwnC w.heap.size w3 v' (seenL ls) from by have := OwnR.base ho3 Z2; rw [HF.out] at this; exact this)
      have HB3 := Lib.hid (ext_trans HB2.out hb3)
      clear ho3 hb3
      go_wp2
      go_ret
      exact ⟨_, rfl, HO3.out, HB3.out⟩

set_option maxRecDepth 100000 in
set_option maxHeartbeats 2000000 in
theorem sealBytes (a : Option Addr) (n c : Nat) (ls : List Cd) (w : World) (h : CAt w a ls) (hl : ls.length = n) (hn : n ≤ 20) (hnc : n ≤ c) (hs : ∀ x ∈ ls, CdS x) :
    Calls Try.prog 75 #[.slice a n c] w (Row (sealB ls) w) := by
  obtain ⟨i0, hi, hz0, hz1, hz2⟩ := info_parts info_u8
  have HA := Lib.hid h
  have HN := Lib.hid hl
  have HS := Lib.hid hs
  clear h hl hs
  go_enter Try.func75, Try.ntmps75
  go_wp2_with fail
  refine (sealSeen a n c ls _ HA.out HN.out hn hnc).mono ?_
  rintro e w1 ⟨vs, rfl, hos, hbs⟩
  obtain ⟨T, hT⟩ : ∃ T, seenL ls = T := ⟨_, rfl⟩
  rw [hT] at hos
  obtain ⟨ta, tc, rfl, htc, htm, htat, -, -⟩ := hos.read
  obtain ⟨t, hTt⟩ : ∃ t, T.length = t := ⟨_, rfl⟩
  have ht19 : t ≤ 20 := by rw [← hTt, ← hT]; have := seenL_len ls; rw [HN.out] at this; omega
  have HTS := Lib.hid (show ∀ x ∈ T, CdS x from fun x hx => HS.out x (seenL_mem (by rw [hT]; exact hx)).1)
  rw [hTt] at htc ⊢
  have HTT := Lib.hid hT
  have HTN := Lib.hid hTt
  have HTA := Lib.hid htat
  have HB1 := Lib.hid hbs
  have Z1 := hbs.size
  unfold maxLen at htm
  clear hos hbs hT hTt htat HA
  go_wp2_with fail
  go_loopw [3, 9] (fun g j wr => ∃ J : Nat, J ≤ t ∧ j = .int .i64 (J : Int) ∧ wr.ownsRow w1.heap.size 5 1 g ((T.take J).flatMap cardB).length (bc ((T.take J).flatMap cardB)) ∧ Below w1.heap.size w1 wr) (fun g j _ => t - (intOf j).toNat)
  case atStart => exact ⟨0, by omega, rfl, ⟨rfl, .inl ⟨rfl, rfl⟩⟩, Below.refl _ _⟩
  case round =>
    obtain ⟨w2, rfl⟩ : ∃ y : World, y = wr := ⟨_, rfl⟩
    obtain ⟨J, hJ, rfl, ho2, hb2⟩ := hrel
    obtain ⟨B, hB⟩ : ∃ B, (T.take J).flatMap cardB = B := ⟨_, rfl⟩
    rw [hB] at ho2
    by_cases hlt : J < t
    · obtain ⟨x, hx⟩ : ∃ x, T[J]? = some x := ⟨_, List.getElem?_eq_getElem (by have := HTN.out; omega)⟩
      have HST := Lib.hid (show (T.take (J + 1)).flatMap cardB = B ++ cardB x from by rw [List.take_add_one, hx]; show (T.take J ++ [x]).flatMap cardB = _; rw [List.flatMap_append, hB]; simp)
      obtain ⟨m, hm⟩ : ∃ m, B.length = m := ⟨_, rfl⟩
      have hm1 : m ≤ 10420 := by rw [← hm, ← hB]; have := flatB_len (T.take J); rw [List.length_take] at this; omega
      obtain ⟨b, o, rfl⟩ : ∃ b o, ta = some ⟨b, o, none⟩ := by
        rcases HTA.out with h | ⟨b, o, e, _⟩
        · rw [h] at hx; simp at hx
        · exact ⟨b, o, e⟩
      obtain ⟨x0, x1, x2, x3, x4, x5, x6, x7, x8⟩ := (HTA.out.ext hb2).at hx
      have HXS := Lib.hid (HTS.out x (List.mem_of_getElem? hx))
      have D0 : Below w2.heap.size w2 (w2.alloc (.cells #[.string x.a, .string x.i, .int .i64 x.s, .int .i64 x.o, .int .i64 x.l, .int .i64 x.t, .int .i64 x.k, .int .i64 x.n, .bool x.g] 49)) := (Below.refl _ _).alloc (Nat.le_refl _) _
      have HX := Lib.hid (blk_new w2 #[.string x.a, .string x.i, .int .i64 x.s, .int .i64 x.o, .int .i64 x.l, .int .i64 x.t, .int .i64 x.k, .int .i64 x.n, .bool x.g] 49)
      rw [hm] at ho2
      have HO3 := Lib.hid (ownsRow_ext ho2 D0)
      have HB3 := Lib.hid (ext_trans hb2 D0)
      obtain ⟨ga, gc, rfl, -, hgc, hgm, -, -, -⟩ := own_read ho2
      have HM := Lib.hid hm
      unfold maxLen at hgm
      clear ho2 hb2 hx hB hm D0
      go_upto_region 5 with (fail)
      obtain ⟨r, hr⟩ : ∃ r, w2.heap.size = r := ⟨_, rfl⟩
      rw [hr] at HX ⊢
      clear hr
      generalize (w2.alloc (.cells #[.string x.a, .string x.i, .int .i64 x.s, .int .i64 x.o, .int .i64 x.l, .int .i64 x.t, .int .i64 x.k, .int .i64 x.n, .bool x.g] 49)) = w4 at *
      clear x0 x1 x2 x3 x4 x5 x6 x7 x8
      have hk4 := blk_cell HX.out
      have hl4 := blk_lt HX.out
      go_wp2_with fail
      refine (sealCard x _ HXS.out).mono ?_
      rintro e w5 ⟨v5, rfl, ho5, hb5⟩
      obtain ⟨a5, c5, rfl, -, -, -, hr5, -, -⟩ := own_read ho5
      obtain ⟨b5, o5, rfl, hr5'⟩ : ∃ b o, a5 = some ⟨b, o, none⟩ ∧ BAt w5 (some ⟨b, o, none⟩) (cardB x) := by
        rcases hr5 with h | ⟨b, o, e, h⟩
        · exfalso; have := congrArg List.length h; simp [cardB, txt] at this
        · exact ⟨b, o, e, .inr ⟨b, o, rfl, h⟩⟩
      have HR5 := Lib.hid hr5'
      obtain ⟨k5, hk5⟩ : ∃ k, (cardB x).length = k := ⟨_, rfl⟩
      have hk521 : k5 ≤ 521 := by rw [← hk5]; exact cardB_len x
      have HK5 := Lib.hid hk5
      have HO5 := Lib.hid (ownsRow_ext HO3.out hb5)
      have HB5 := Lib.hid (ext_trans HB3.out hb5)
      have Z5 := HB5.out.size
      rw [hk5]
      clear ho5 hb5 hr5 hr5' hk5 hk4 hl4 HX HO3 HB3
      go_wp2_with (at_builtin; refine wpList_append_own _ rfl _ _ 62 rfl (w1.heap.size) 5 i0 (.int .u8 0) 1 1 Try.underlying62 hi hz0 hz1 hz2 rfl (by decide) _ m (bc B) rfl HO5.out ⟨b5, o5, none⟩ k5 c5 (bc (cardB x)) rfl ?c0 ?c1 ?c2 ?c3 ?c4 ?c5 ?_)
      case c0 => rw [bc_len, HK5.out, Nat.mul_one]
      case c1 => exact fun j u hj => HR5.out.cells j u hj
      case c2 => exact bc_one _
      case c3 => unfold maxLen; omega
      case c4 => omega
      case c5 => exact Z5
      intro v7 w7 ho7 hg7 _
      have HB7 := Lib.hid (HB5.out.grown hg7 Z5 (fun q hq => own_ge HO5.out hq))
      have HO7 := Lib.hid (show w7.ownsRow w1.heap.size 5 1 v7 (B ++ cardB x).length (bc (B ++ cardB x)) from by rw [bc_append, List.length_append, HM.out, HK5.out]; exact ho7)
      clear ho7 hg7 HO5 HB5 HR5
      go_wp2
      go_roundw
      case rel => exact ⟨J + 1, by omega, by go_num, by rw [HST.out]; exact HO7.out, HB7.out⟩
      case measure => simp [intOf]; omega
    · obtain rfl : J = t := by omega
      have HF := Lib.hid (show B = sealB ls from by rw [← hB, List.take_of_length_le (by have := HTN.out; omega), ← HTT.out]; rfl)
      go_wp2
      go_ret
      exact ⟨_, rfl, by rw [HF.out] at ho2; exact ownsRow_base ho2 Z1, ext_trans HB1.out hb2⟩

set_option maxRecDepth 100000 in
set_option maxHeartbeats 1000000 in
theorem sealOf (a : Option Addr) (n c : Nat) (ls : List Cd) (w : World) (h : CAt w a ls) (hl : ls.length = n) (hn : n ≤ 20) (hnc : n ≤ c) (hs : ∀ x ∈ ls, CdS x) :
    Calls Try.prog 46 #[.slice a n c] w fun e w' => e = .returned (.int .u32 (sm (sealB ls))) ∧ Below w.heap.size w w' := by
  have hlen : (sealB ls).length ≤ 10420 := by have h1 := flatB_len (seenL ls); have h2 := seenL_len ls; unfold sealB; omega
  go_enter Try.func46, Try.ntmps46
  go_wp2_with fail
  refine (sealBytes a n c ls _ h hl hn hnc hs).mono ?_
  rintro e w1 ⟨v1, rfl, ho1, hb1⟩
  obtain ⟨a1, c1, rfl, -, -, -, hr1, -, -⟩ := own_read ho1
  go_wp2_with fail
  refine (frameSum a1 _ c1 (sealB ls) _ hr1 rfl (flatB_wb _) (by omega)).mono ?_
  rintro e w2 ⟨rfl, rfl⟩
  go_wp2
  go_ret
  exact ⟨rfl, hb1⟩

end Go.Proofs.Ytkhcgopehmndgaa
