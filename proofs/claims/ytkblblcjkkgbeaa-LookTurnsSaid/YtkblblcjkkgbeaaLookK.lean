/- Package look: some of the chapter's runs. -/
import Derived.Test.YtkblblcjkkgbeaaLookA
import Derived.Test.YtkblblcjkkgbeaaEq4
namespace Go.Proofs.Ytkblblcjkkgbeaa
open Go.RowKit
set_option linter.unusedVariables false
set_option linter.unusedSimpArgs false

theorem cat_lit (w : World) (l : List Cd) : CAt (w.alloc (.cells (flat cc l).toArray 40)) (some ⟨w.heap.size, 0, none⟩) l := by
  refine .inr ⟨_, _, rfl, ⟨_, blk_new _ _ _⟩, fun q u hq => ?_⟩
  rw [Nat.zero_add, blk_cell (blk_new w (flat cc l).toArray 40)]
  simpa using hq

def lA : Cd := ⟨⟨#[97]⟩, ⟨#[120]⟩, 1, 0, 0, 0, 0, 0, false⟩
def lB : Cd := ⟨⟨#[97]⟩, ⟨#[121]⟩, 1, 3, 0, 0, 0, 0, false⟩
def lC : Cd := ⟨⟨#[97]⟩, ⟨#[122]⟩, 1, 0, 0, 0, 0, 0, false⟩
theorem k_f1 : fnd ⟨#[97]⟩ [lC, lB, lA] = [lA, lC] := rfl
theorem k_f2 : fnd ⟨#[98]⟩ [lC, lB, lA] = [] := rfl
theorem k_t : trn (-1) 2 = 1 := by decide +kernel
theorem k_c : cnt4 [lC, lB, lA] = #[.int .i64 0, .int .i64 2, .int .i64 0, .int .i64 1] := by
  unfold cnt4
  have h0 : cntI [lC, lB, lA] 0 = 0 := by decide +kernel
  have h1 : cntI [lC, lB, lA] 1 = 2 := by decide +kernel
  have h2 : cntI [lC, lB, lA] 2 = 0 := by decide +kernel
  have h3 : cntI [lC, lB, lA] 3 = 1 := by decide +kernel
  rw [h0, h1, h2, h3]
theorem k_ap : (appsL [lC, lB, lA]).length = 1 := by
  have h : aps [lC, lB, lA] = [[97], [97], [97]] := rfl
  have h1 : sortS [[97], [97], [97]] = [[97], [97], [97]] := by unfold sortS; exact List.mergeSort_of_pairwise (by decide +kernel)
  unfold appsL
  rw [h, h1]
  decide +kernel

set_option maxRecDepth 100000 in
set_option maxHeartbeats 2000000 in
theorem law23known (w : World) :
    Calls Try.prog 8 #[] w fun e w' => e = .returned (.bool true) ∧ Below w.heap.size w w' := by
  have D0 : Below w.heap.size w ((((w.alloc (.cells #[.string ⟨#[97]⟩, .string ⟨#[120]⟩, .int .i64 1, .int .i64 0, .int .i64 0, .int .i64 0, .int .i64 0, .int .i64 0, .bool false] 40)).alloc (.cells #[.string ⟨#[97]⟩, .string ⟨#[121]⟩, .int .i64 1, .int .i64 3, .int .i64 0, .int .i64 0, .int .i64 0, .int .i64 0, .bool false] 40)).alloc (.cells #[.string ⟨#[97]⟩, .string ⟨#[122]⟩, .int .i64 1, .int .i64 0, .int .i64 0, .int .i64 0, .int .i64 0, .int .i64 0, .bool false] 40)).alloc (.cells #[.string ⟨#[97]⟩, .string ⟨#[122]⟩, .int .i64 1, .int .i64 0, .int .i64 0, .int .i64 0, .int .i64 0, .int .i64 0, .bool false, .string ⟨#[97]⟩, .string ⟨#[121]⟩, .int .i64 1, .int .i64 3, .int .i64 0, .int .i64 0, .int .i64 0, .int .i64 0, .bool false, .string ⟨#[97]⟩, .string ⟨#[120]⟩, .int .i64 1, .int .i64 0, .int .i64 0, .int .i64 0, .int .i64 0, .int .i64 0, .bool false] 40)) := (((((Below.refl _ _).alloc (Nat.le_refl _) _).alloc (by simp) _).alloc (by simp; omega) _).alloc (by simp; omega) _)
  have HC0 := Lib.hid (show ((((w.alloc (.cells #[.string ⟨#[97]⟩, .string ⟨#[120]⟩, .int .i64 1, .int .i64 0, .int .i64 0, .int .i64 0, .int .i64 0, .int .i64 0, .bool false] 40)).alloc (.cells #[.string ⟨#[97]⟩, .string ⟨#[121]⟩, .int .i64 1, .int .i64 3, .int .i64 0, .int .i64 0, .int .i64 0, .int .i64 0, .bool false] 40)).alloc (.cells #[.string ⟨#[97]⟩, .string ⟨#[122]⟩, .int .i64 1, .int .i64 0, .int .i64 0, .int .i64 0, .int .i64 0, .int .i64 0, .bool false] 40)).alloc (.cells #[.string ⟨#[97]⟩, .string ⟨#[122]⟩, .int .i64 1, .int .i64 0, .int .i64 0, .int .i64 0, .int .i64 0, .int .i64 0, .bool false, .string ⟨#[97]⟩, .string ⟨#[121]⟩, .int .i64 1, .int .i64 3, .int .i64 0, .int .i64 0, .int .i64 0, .int .i64 0, .bool false, .string ⟨#[97]⟩, .string ⟨#[120]⟩, .int .i64 1, .int .i64 0, .int .i64 0, .int .i64 0, .int .i64 0, .int .i64 0, .bool false] 40)).heap[w.heap.size + 1 + 1]? = some (.cells #[.string ⟨#[97]⟩, .string ⟨#[122]⟩, .int .i64 1, .int .i64 0, .int .i64 0, .int .i64 0, .int .i64 0, .int .i64 0, .bool false] 40 (0, 0)) from blk_alloc (blk_new_at (by simp) _ _) _)
  have HL0 := Lib.hid (show CAt ((((w.alloc (.cells #[.string ⟨#[97]⟩, .string ⟨#[120]⟩, .int .i64 1, .int .i64 0, .int .i64 0, .int .i64 0, .int .i64 0, .int .i64 0, .bool false] 40)).alloc (.cells #[.string ⟨#[97]⟩, .string ⟨#[121]⟩, .int .i64 1, .int .i64 3, .int .i64 0, .int .i64 0, .int .i64 0, .int .i64 0, .bool false] 40)).alloc (.cells #[.string ⟨#[97]⟩, .string ⟨#[122]⟩, .int .i64 1, .int .i64 0, .int .i64 0, .int .i64 0, .int .i64 0, .int .i64 0, .bool false] 40)).alloc (.cells #[.string ⟨#[97]⟩, .string ⟨#[122]⟩, .int .i64 1, .int .i64 0, .int .i64 0, .int .i64 0, .int .i64 0, .int .i64 0, .bool false, .string ⟨#[97]⟩, .string ⟨#[121]⟩, .int .i64 1, .int .i64 3, .int .i64 0, .int .i64 0, .int .i64 0, .int .i64 0, .bool false, .string ⟨#[97]⟩, .string ⟨#[120]⟩, .int .i64 1, .int .i64 0, .int .i64 0, .int .i64 0, .int .i64 0, .int .i64 0, .bool false] 40)) (some ⟨w.heap.size + 1 + 1 + 1, 0, none⟩) [lC, lB, lA] from by
    have := cat_lit (((w.alloc (.cells #[.string ⟨#[97]⟩, .string ⟨#[120]⟩, .int .i64 1, .int .i64 0, .int .i64 0, .int .i64 0, .int .i64 0, .int .i64 0, .bool false] 40)).alloc (.cells #[.string ⟨#[97]⟩, .string ⟨#[121]⟩, .int .i64 1, .int .i64 3, .int .i64 0, .int .i64 0, .int .i64 0, .int .i64 0, .bool false] 40)).alloc (.cells #[.string ⟨#[97]⟩, .string ⟨#[122]⟩, .int .i64 1, .int .i64 0, .int .i64 0, .int .i64 0, .int .i64 0, .int .i64 0, .bool false] 40)) [lC, lB, lA]
    rw [show (((w.alloc (.cells #[.string ⟨#[97]⟩, .string ⟨#[120]⟩, .int .i64 1, .int .i64 0, .int .i64 0, .int .i64 0, .int .i64 0, .int .i64 0, .bool false] 40)).alloc (.cells #[.string ⟨#[97]⟩, .string ⟨#[121]⟩, .int .i64 1, .int .i64 3, .int .i64 0, .int .i64 0, .int .i64 0, .int .i64 0, .bool false] 40)).alloc (.cells #[.string ⟨#[97]⟩, .string ⟨#[122]⟩, .int .i64 1, .int .i64 0, .int .i64 0, .int .i64 0, .int .i64 0, .int .i64 0, .bool false] 40)).heap.size = w.heap.size + 1 + 1 + 1 from by simp] at this
    exact this)
  have HB0 := Lib.hid D0
  clear D0
  go_enter Try.func8, Try.ntmps8
  go_wp2_with fail
  obtain ⟨r, hr⟩ : ∃ r, w.heap.size = r := ⟨_, rfl⟩
  rw [hr] at HC0 HL0 ⊢
  generalize ((((w.alloc (.cells #[.string ⟨#[97]⟩, .string ⟨#[120]⟩, .int .i64 1, .int .i64 0, .int .i64 0, .int .i64 0, .int .i64 0, .int .i64 0, .bool false] 40)).alloc (.cells #[.string ⟨#[97]⟩, .string ⟨#[121]⟩, .int .i64 1, .int .i64 3, .int .i64 0, .int .i64 0, .int .i64 0, .int .i64 0, .bool false] 40)).alloc (.cells #[.string ⟨#[97]⟩, .string ⟨#[122]⟩, .int .i64 1, .int .i64 0, .int .i64 0, .int .i64 0, .int .i64 0, .int .i64 0, .bool false] 40)).alloc (.cells #[.string ⟨#[97]⟩, .string ⟨#[122]⟩, .int .i64 1, .int .i64 0, .int .i64 0, .int .i64 0, .int .i64 0, .int .i64 0, .bool false, .string ⟨#[97]⟩, .string ⟨#[121]⟩, .int .i64 1, .int .i64 3, .int .i64 0, .int .i64 0, .int .i64 0, .int .i64 0, .bool false, .string ⟨#[97]⟩, .string ⟨#[120]⟩, .int .i64 1, .int .i64 0, .int .i64 0, .int .i64 0, .int .i64 0, .int .i64 0, .bool false] 40)) = w0 at *
  clear hr
  refine (lookPickYes (some ⟨r + 1 + 1 + 1, 0, none⟩) 3 3 2 [lC, lB, lA] ⟨#[97]⟩ (-1) _ HL0.out rfl (by omega) (by omega) (by rw [k_f1]; rfl) (by omega)).mono ?_
  rintro e w1 ⟨x, hx, rfl, hb1⟩
  rw [k_f1, k_t] at hx
  obtain rfl : lC = x := by simpa using hx
  have HB1 := Lib.hid (ext_trans HB0.out hb1)
  have HC1 := Lib.hid (blk_ext hb1 HC0.out)
  have HL1 := Lib.hid (HL0.out.ext hb1)
  have D1 : Below w1.heap.size w1 (w1.alloc (.cells #[.string ⟨#[97]⟩, .string ⟨#[122]⟩, .int .i64 1, .int .i64 0, .int .i64 0, .int .i64 0, .int .i64 0, .int .i64 0, .bool false] 40)) := (Below.refl _ _).alloc (Nat.le_refl _) _
  have HX2 := Lib.hid (blk_new w1 #[.string ⟨#[97]⟩, .string ⟨#[122]⟩, .int .i64 1, .int .i64 0, .int .i64 0, .int .i64 0, .int .i64 0, .int .i64 0, .bool false] 40)
  have HB2 := Lib.hid (ext_trans HB1.out D1)
  have HC2 := Lib.hid (blk_ext D1 HC1.out)
  have HL2 := Lib.hid (HL1.out.ext D1)
  clear hb1 hx D1 HC1 HL1 HC0 HL0
  simp only [lC]
  go_wp2_with fail
  obtain ⟨q, hq⟩ : ∃ q, w1.heap.size = q := ⟨_, rfl⟩
  rw [hq] at HX2 ⊢
  generalize (w1.alloc (.cells #[.string ⟨#[97]⟩, .string ⟨#[122]⟩, .int .i64 1, .int .i64 0, .int .i64 0, .int .i64 0, .int .i64 0, .int .i64 0, .bool false] 40)) = w2 at *
  clear hq
  refine (lookPickNo (some ⟨r + 1 + 1 + 1, 0, none⟩) 3 3 [lC, lB, lA] ⟨#[98]⟩ 0 _ HL2.out rfl (by omega) (by omega) (by rw [k_f2]; rfl)).mono ?_
  rintro e w3 ⟨rfl, hb3⟩
  have HB3 := Lib.hid (ext_trans HB2.out hb3)
  have HC3 := Lib.hid (blk_ext hb3 HC2.out)
  have HX3 := Lib.hid (blk_ext hb3 HX2.out)
  have HL3 := Lib.hid (HL2.out.ext hb3)
  have D3 : Below w3.heap.size w3 (w3.alloc (.cells #[.string ⟨#[]⟩, .string ⟨#[]⟩, .int .i64 0, .int .i64 0, .int .i64 0, .int .i64 0, .int .i64 0, .int .i64 0, .bool false] 40)) := (Below.refl _ _).alloc (Nat.le_refl _) _
  have HB4 := Lib.hid (ext_trans HB3.out D3)
  have HC4 := Lib.hid (blk_ext D3 HC3.out)
  have HX4 := Lib.hid (blk_ext D3 HX3.out)
  have HL4 := Lib.hid (HL3.out.ext D3)
  clear hb3 HC3 HX3 HL3 D3 HC2 HX2 HL2
  go_wp2_with fail
  generalize (w3.alloc (.cells #[.string ⟨#[]⟩, .string ⟨#[]⟩, .int .i64 0, .int .i64 0, .int .i64 0, .int .i64 0, .int .i64 0, .int .i64 0, .bool false] 40)) = w4 at *
  refine (lookFind (some ⟨r + 1 + 1 + 1, 0, none⟩) 3 3 [lC, lB, lA] ⟨#[97]⟩ _ HL4.out rfl (by omega) (by omega)).mono ?_
  rintro e w5 ⟨v5, rfl, ho5, hb5⟩
  rw [k_f1] at ho5
  obtain ⟨a5, c5, rfl, -, -, -, -, -⟩ := ho5.read
  have HB5 := Lib.hid (ext_trans HB4.out hb5)
  have HC5 := Lib.hid (blk_ext hb5 HC4.out)
  have HX5 := Lib.hid (blk_ext hb5 HX4.out)
  have HL5 := Lib.hid (HL4.out.ext hb5)
  clear ho5 hb5 HC4 HX4 HL4
  have kC5 := blk_cell HC5.out
  have kX5 := blk_cell HX5.out
  have lC5 := blk_lt HC5.out
  have lX5 := blk_lt HX5.out
  go_wp2_with fail
  refine (lookApps (some ⟨r + 1 + 1 + 1, 0, none⟩) 3 3 [lC, lB, lA] _ HL5.out rfl (by omega) (by omega)).mono ?_
  rintro e w6 ⟨v6, rfl, ho6, hb6⟩
  obtain ⟨a6, c6, rfl, -, -, -⟩ := OwnR.form ho6
  rw [k_ap]
  have HB6 := Lib.hid (ext_trans HB5.out hb6)
  have HL6 := Lib.hid (HL5.out.ext hb6)
  clear ho6 hb6 kC5 kX5 lC5 lX5
  go_wp2_with fail
  refine (lookCount (some ⟨r + 1 + 1 + 1, 0, none⟩) 3 3 [lC, lB, lA] _ HL6.out rfl (by omega) (by omega)).mono ?_
  rintro e w7 ⟨rfl, hb7⟩
  rw [k_c]
  have HB7 := Lib.hid (ext_trans HB6.out hb7)
  clear hb7
  have heq := fun w => eq4 0 2 0 1 w
  go_wp2
  go_ret
  exact ⟨rfl, HB7.out⟩

end Go.Proofs.Ytkblblcjkkgbeaa
