/- Package look's walks: whose turn it is; how many show each status. -/
import Derived.Test.YtkblblcjkkgbeaaLookW
import Derived.Test.YtkblblcjkkgbeaaFill
import Derived.IntWalk
namespace Go.Proofs.Ytkblblcjkkgbeaa
open Go.RowKit
set_option linter.unusedVariables false
set_option linter.unusedSimpArgs false

/-- whose turn it is among m -/
def trn (turn : Int) (m : Nat) : Int := (turn.tmod (m : Int) + (m : Int)).tmod (m : Int)
theorem tmod_bd (x : Int) (m : Nat) (hm : 0 < m) : -(m : Int) < x.tmod (m : Int) ∧ x.tmod (m : Int) < (m : Int) := by
  constructor
  · have h := Int.lt_tmod_of_pos x (show (0 : Int) < (m : Int) by omega); exact h
  · exact Int.tmod_lt_of_pos x (by omega)
theorem trn_bd (turn : Int) (m : Nat) (hm : 0 < m) : 0 ≤ trn turn m ∧ trn turn m < m := by
  have h1 := tmod_bd turn m hm
  unfold trn
  exact ⟨Int.tmod_nonneg _ (by omega), Int.tmod_lt_of_pos _ (by omega)⟩
def cntI (ls : List Cd) (k : Int) : Int := ((ls.filter (fun c => decide (shw c = k))).length : Int)
theorem cnt_snoc (ls : List Cd) (x : Cd) (k : Int) : cntI (ls ++ [x]) k = cntI ls k + (if shw x = k then 1 else 0) := by
  unfold cntI
  rw [List.filter_append]
  by_cases h : shw x = k
  · simp [h]
  · simp [h]
theorem cnt_bd (ls : List Cd) (k : Int) : 0 ≤ cntI ls k ∧ cntI ls k ≤ ls.length := by
  unfold cntI
  have := List.length_filter_le (fun c : Cd => decide (shw c = k)) ls
  omega
def cnt4 (ls : List Cd) : Array Value := #[.int .i64 (cntI ls 0), .int .i64 (cntI ls 1), .int .i64 (cntI ls 2), .int .i64 (cntI ls 3)]

set_option maxRecDepth 100000 in
set_option maxHeartbeats 2000000 in
theorem lookPickNo (a : Option Addr) (n c : Nat) (ls : List Cd) (app : ByteArray) (turn : Int) (w : World) (h : CAt w a ls) (hl : ls.length = n) (hn : n ≤ 19) (hnc : n ≤ c) (h0 : (fnd app ls).length = 0) :
    Calls Try.prog 11 #[.slice a n c, .string app, .int .i64 turn] w fun e w' => e = .returned (.tuple #[Cd.zero.v, .bool false]) ∧ Below w.heap.size w w' := by
  have HA := Lib.hid h
  have HN := Lib.hid hl
  clear h hl
  have D0 : Below w.heap.size w (w.alloc (.cells #[.string ⟨#[]⟩, .string ⟨#[]⟩, .int .i64 0, .int .i64 0, .int .i64 0, .int .i64 0, .int .i64 0, .int .i64 0, .bool false] 40)) := (Below.refl _ _).alloc (Nat.le_refl _) _
  have HA0 := Lib.hid (HA.out.ext D0)
  have HX := Lib.hid (blk_new w #[.string ⟨#[]⟩, .string ⟨#[]⟩, .int .i64 0, .int .i64 0, .int .i64 0, .int .i64 0, .int .i64 0, .int .i64 0, .bool false] 40)
  have HB0 := Lib.hid D0
  clear D0
  go_enter Try.func11, Try.ntmps11
  go_wp2_with fail
  obtain ⟨r, hr⟩ : ∃ r, w.heap.size = r := ⟨_, rfl⟩
  rw [hr] at HX ⊢
  have HR := Lib.hid hr
  clear hr
  generalize (w.alloc (.cells #[.string ⟨#[]⟩, .string ⟨#[]⟩, .int .i64 0, .int .i64 0, .int .i64 0, .int .i64 0, .int .i64 0, .int .i64 0, .bool false] 40)) = w0 at *
  refine (lookFind a n c ls app _ HA0.out HN.out hn hnc).mono ?_
  rintro e w1 ⟨v, rfl, ho1, hb1⟩
  obtain ⟨F, hF⟩ : ∃ F, fnd app ls = F := ⟨_, rfl⟩
  rw [hF] at ho1
  obtain ⟨fa, fc, rfl, hfc, hfm, hfat, hfb, hff⟩ := ho1.read
  rw [hF] at h0
  rw [h0] at hfc ⊢
  have HX1 := Lib.hid (blk_ext hb1 HX.out)
  have HB1 := Lib.hid (ext_trans HB0.out hb1)
  clear ho1 hb1 hfat hfb hff h0 hF HX HB0
  have hl1 := blk_lt HX1.out
  have hk1 := blk_cell HX1.out
  have hf1 := blk_free HX1.out
  have HRr := Lib.hid (show w.heap.size ≤ r by have := HR.out; omega)
  go_wp2_with fail
  exact bodyPost_ret (v := .tuple #[.agg #[.string ⟨#[]⟩, .string ⟨#[]⟩, .int .i64 0, .int .i64 0, .int .i64 0, .int .i64 0, .int .i64 0, .int .i64 0, .bool false], .bool false]) (by have hk2 := blk_cell (blk_fill9 (v0 := .string ⟨#[]⟩) (v1 := .string ⟨#[]⟩) (v2 := .int .i64 0) (v3 := .int .i64 0) (v4 := .int .i64 0) (v5 := .int .i64 0) (v6 := .int .i64 0) (v7 := .int .i64 0) (v8 := .bool false) HX1.out rfl); simp [results, Try.results11, go_sem, hk2]) rfl ⟨rfl, below_fill9 HB1.out HRr.out⟩

set_option maxRecDepth 100000 in
set_option maxHeartbeats 2000000 in
theorem lookPickYes (a : Option Addr) (n c m : Nat) (ls : List Cd) (app : ByteArray) (turn : Int) (w : World) (h : CAt w a ls) (hl : ls.length = n) (hn : n ≤ 19) (hnc : n ≤ c) (hm : (fnd app ls).length = m) (h0 : 0 < m) :
    Calls Try.prog 11 #[.slice a n c, .string app, .int .i64 turn] w fun e w' => ∃ x, (fnd app ls)[(trn turn m).toNat]? = some x ∧ e = .returned (.tuple #[.agg #[.string x.a, .string x.i, .int .i64 x.s, .int .i64 x.o, .int .i64 x.l, .int .i64 x.t, .int .i64 x.k, .int .i64 x.n, .bool x.g], .bool true]) ∧ Below w.heap.size w w' := by
  have HA := Lib.hid h
  have HN := Lib.hid hl
  clear h hl
  have D0 : Below w.heap.size w (w.alloc (.cells #[.string ⟨#[]⟩, .string ⟨#[]⟩, .int .i64 0, .int .i64 0, .int .i64 0, .int .i64 0, .int .i64 0, .int .i64 0, .bool false] 40)) := (Below.refl _ _).alloc (Nat.le_refl _) _
  have HA0 := Lib.hid (HA.out.ext D0)
  have HX := Lib.hid (blk_new w #[.string ⟨#[]⟩, .string ⟨#[]⟩, .int .i64 0, .int .i64 0, .int .i64 0, .int .i64 0, .int .i64 0, .int .i64 0, .bool false] 40)
  have HB0 := Lib.hid D0
  clear D0
  go_enter Try.func11, Try.ntmps11
  go_wp2_with fail
  obtain ⟨r, hr⟩ : ∃ r, w.heap.size = r := ⟨_, rfl⟩
  rw [hr] at HX ⊢
  have HR := Lib.hid hr
  clear hr
  generalize (w.alloc (.cells #[.string ⟨#[]⟩, .string ⟨#[]⟩, .int .i64 0, .int .i64 0, .int .i64 0, .int .i64 0, .int .i64 0, .int .i64 0, .bool false] 40)) = w0 at *
  refine (lookFind a n c ls app _ HA0.out HN.out hn hnc).mono ?_
  rintro e w1 ⟨v, rfl, ho1, hb1⟩
  obtain ⟨F, hF⟩ : ∃ F, fnd app ls = F := ⟨_, rfl⟩
  rw [hF] at ho1
  obtain ⟨fa, fc, rfl, hfc, hfm, hfat, hfb, hff⟩ := ho1.read
  have hm19 : m ≤ 19 := by have := fnd_len app ls; have := HN.out; omega
  rw [hF] at hm
  have HM := Lib.hid hm
  rw [hm] at hfc ⊢
  have HX1 := Lib.hid (blk_ext hb1 HX.out)
  have HB1 := Lib.hid (ext_trans HB0.out hb1)
  have HFF := Lib.hid hF
  have hA := tmod_bd turn m h0
  have hB := trn_bd turn m h0
  obtain ⟨b, o, rfl⟩ : ∃ b o, fa = some ⟨b, o, none⟩ := by
    rcases hff with ⟨_, _, e⟩ | ⟨g, e⟩
    · rw [e] at hm; simp at hm; omega
    · exact ⟨g, 0, e⟩
  obtain ⟨k, hk⟩ : ∃ k : Nat, trn turn m = (k : Int) := ⟨(trn turn m).toNat, by omega⟩
  have hkm : k < m := by omega
  obtain ⟨x, hx⟩ : ∃ x, F[k]? = some x := ⟨_, List.getElem?_eq_getElem (by have := HM.out; omega)⟩
  have HXX := Lib.hid (show F[(trn turn m).toNat]? = some x from by rw [hk]; simpa using hx)
  obtain ⟨x0, x1, x2, x3, x4, x5, x6, x7, x8⟩ := hfat.at hx
  have HNE := Lib.hid (show b ≠ r from fun e => by
    have := (hfb b o rfl).1
    have := blk_lt HX.out
    omega)
  unfold trn at hk
  obtain ⟨A, hAA⟩ : ∃ A, turn.tmod (m : Int) = A := ⟨_, rfl⟩
  rw [hAA] at hA hk
  unfold maxLen at hfm
  clear ho1 hb1 hfat hfb hff hm hF HX HB0 hB hx
  have hl1 := blk_lt HX1.out
  have hk1 := blk_cell HX1.out
  have hf1 := blk_free HX1.out
  have HRr := Lib.hid (show w.heap.size ≤ r by have := HR.out; omega)
  have hw1 : IntKind.i64.wrap A = A := IntWalk.i64_in _ (by omega)
  have hd0 : ((m : Int) == 0) = false := by simp; omega

  go_wp2_with fail
  exact bodyPost_ret (v := .tuple #[.agg #[.string x.a, .string x.i, .int .i64 x.s, .int .i64 x.o, .int .i64 x.l, .int .i64 x.t, .int .i64 x.k, .int .i64 x.n, .bool x.g], .bool true]) (by have hk2 := blk_cell (blk_fill9 (v0 := .string x.a) (v1 := .string x.i) (v2 := .int .i64 x.s) (v3 := .int .i64 x.o) (v4 := .int .i64 x.l) (v5 := .int .i64 x.t) (v6 := .int .i64 x.k) (v7 := .int .i64 x.n) (v8 := .bool x.g) HX1.out rfl); simp [results, Try.results11, go_sem, hk2]) rfl ⟨x, by rw [HFF.out]; exact HXX.out, rfl, below_fill9 HB1.out HRr.out⟩

end Go.Proofs.Ytkblblcjkkgbeaa
