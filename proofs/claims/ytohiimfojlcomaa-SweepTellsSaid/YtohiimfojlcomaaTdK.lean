/- Chapter 12's own runs. -/
import Derived.Test.YtohiimfojlcomaaTdM
namespace Go.Proofs.Ytohiimfojlcomaa
open Go.RowKit
set_option linter.unusedVariables false
set_option linter.unusedSimpArgs false

theorem eat_lit (w : World) (es : List En) : EAt (w.alloc (.cells (flat ec es).toArray 36)) (some ⟨w.heap.size, 0, none⟩) es := by
  have h := blk_new w (flat ec es).toArray 36
  exact .inr ⟨_, 0, rfl, blk_lt h, fun q u hq => by rw [Nat.zero_add, blk_cell h]; simpa using hq⟩
def eA : En := ⟨⟨⟨#[97]⟩, ⟨#[]⟩, 0, 0, 5, 0, 0, 0, false⟩, 0⟩
def eB : En := ⟨⟨⟨#[98]⟩, ⟨#[]⟩, 0, 0, 3, 0, 0, 0, false⟩, 0⟩
def eG : En := ⟨⟨⟨#[103]⟩, ⟨#[]⟩, 0, 0, 0, 0, 0, 0, true⟩, 0⟩
theorem known_pick : pickL [eA, eB, eG] 10 0 = [(⟨#[98]⟩, ⟨#[]⟩)] := by kernel_rfl
theorem known_none : pickL [] 9 0 = [] := by kernel_rfl
theorem known_dead0 : (deadL [eA, eG] 400).length = 0 := by kernel_rfl
theorem known_dead1 : (deadL [eA, eG] 401).length = 1 := by kernel_rfl

set_option maxRecDepth 100000 in
set_option maxHeartbeats 2000000 in
theorem law12known (w : World) :
    Calls Try.prog 13 #[] w fun e w' => e = .returned (.bool true) ∧ Below w.heap.size w w' := by
  have hA := blk_alloc (blk_alloc (blk_new w #[.string ⟨#[97]⟩, .string ⟨#[]⟩, .int .i64 0, .int .i64 0, .int .i64 5, .int .i64 0, .int .i64 0, .int .i64 0, .bool false, .int .i64 0] 36) (.cells #[.string ⟨#[98]⟩, .string ⟨#[]⟩, .int .i64 0, .int .i64 0, .int .i64 3, .int .i64 0, .int .i64 0, .int .i64 0, .bool false, .int .i64 0] 36)) (.cells #[.string ⟨#[103]⟩, .string ⟨#[]⟩, .int .i64 0, .int .i64 0, .int .i64 0, .int .i64 0, .int .i64 0, .int .i64 0, .bool true, .int .i64 0] 36)
  have hG := blk_new ((w.alloc (.cells #[.string ⟨#[97]⟩, .string ⟨#[]⟩, .int .i64 0, .int .i64 0, .int .i64 5, .int .i64 0, .int .i64 0, .int .i64 0, .bool false, .int .i64 0] 36)).alloc (.cells #[.string ⟨#[98]⟩, .string ⟨#[]⟩, .int .i64 0, .int .i64 0, .int .i64 3, .int .i64 0, .int .i64 0, .int .i64 0, .bool false, .int .i64 0] 36)) #[.string ⟨#[103]⟩, .string ⟨#[]⟩, .int .i64 0, .int .i64 0, .int .i64 0, .int .i64 0, .int .i64 0, .int .i64 0, .bool true, .int .i64 0] 36
  rw [show ((w.alloc (.cells #[.string ⟨#[97]⟩, .string ⟨#[]⟩, .int .i64 0, .int .i64 0, .int .i64 5, .int .i64 0, .int .i64 0, .int .i64 0, .bool false, .int .i64 0] 36)).alloc (.cells #[.string ⟨#[98]⟩, .string ⟨#[]⟩, .int .i64 0, .int .i64 0, .int .i64 3, .int .i64 0, .int .i64 0, .int .i64 0, .bool false, .int .i64 0] 36)).heap.size = w.heap.size + 2 from by simp] at hG
  have hB := blk_alloc (blk_new (w.alloc (.cells #[.string ⟨#[97]⟩, .string ⟨#[]⟩, .int .i64 0, .int .i64 0, .int .i64 5, .int .i64 0, .int .i64 0, .int .i64 0, .bool false, .int .i64 0] 36)) #[.string ⟨#[98]⟩, .string ⟨#[]⟩, .int .i64 0, .int .i64 0, .int .i64 3, .int .i64 0, .int .i64 0, .int .i64 0, .bool false, .int .i64 0] 36) (.cells #[.string ⟨#[103]⟩, .string ⟨#[]⟩, .int .i64 0, .int .i64 0, .int .i64 0, .int .i64 0, .int .i64 0, .int .i64 0, .bool true, .int .i64 0] 36)
  rw [show (w.alloc (.cells #[.string ⟨#[97]⟩, .string ⟨#[]⟩, .int .i64 0, .int .i64 0, .int .i64 5, .int .i64 0, .int .i64 0, .int .i64 0, .bool false, .int .i64 0] 36)).heap.size = w.heap.size + 1 from by simp] at hB
  have HAw0 := Lib.hid hA
  have HGw0 := Lib.hid hG
  have HBB := Lib.hid hB
  have E1 : Below w.heap.size w (w.alloc (.cells #[.string ⟨#[97]⟩, .string ⟨#[]⟩, .int .i64 0, .int .i64 0, .int .i64 5, .int .i64 0, .int .i64 0, .int .i64 0, .bool false, .int .i64 0] 36)) := (Below.refl _ _).alloc (Nat.le_refl _) _
  have E2 : Below w.heap.size w ((w.alloc (.cells #[.string ⟨#[97]⟩, .string ⟨#[]⟩, .int .i64 0, .int .i64 0, .int .i64 5, .int .i64 0, .int .i64 0, .int .i64 0, .bool false, .int .i64 0] 36)).alloc (.cells #[.string ⟨#[98]⟩, .string ⟨#[]⟩, .int .i64 0, .int .i64 0, .int .i64 3, .int .i64 0, .int .i64 0, .int .i64 0, .bool false, .int .i64 0] 36)) := E1.alloc E1.size _
  have HBw0 := Lib.hid (show Below w.heap.size w (((w.alloc (.cells #[.string ⟨#[97]⟩, .string ⟨#[]⟩, .int .i64 0, .int .i64 0, .int .i64 5, .int .i64 0, .int .i64 0, .int .i64 0, .bool false, .int .i64 0] 36)).alloc (.cells #[.string ⟨#[98]⟩, .string ⟨#[]⟩, .int .i64 0, .int .i64 0, .int .i64 3, .int .i64 0, .int .i64 0, .int .i64 0, .bool false, .int .i64 0] 36)).alloc (.cells #[.string ⟨#[103]⟩, .string ⟨#[]⟩, .int .i64 0, .int .i64 0, .int .i64 0, .int .i64 0, .int .i64 0, .int .i64 0, .bool true, .int .i64 0] 36)) from E2.alloc E2.size _)
  clear hA hG hB E1 E2
  go_enter Try.func13, Try.ntmps13
  go_upto_region 4 with (fail)
  obtain ⟨r, hr⟩ : ∃ r, w.heap.size = r := ⟨_, rfl⟩
  rw [hr] at HAw0 HGw0 HBB ⊢
  clear hr
  generalize (((w.alloc (.cells #[.string ⟨#[97]⟩, .string ⟨#[]⟩, .int .i64 0, .int .i64 0, .int .i64 5, .int .i64 0, .int .i64 0, .int .i64 0, .bool false, .int .i64 0] 36)).alloc (.cells #[.string ⟨#[98]⟩, .string ⟨#[]⟩, .int .i64 0, .int .i64 0, .int .i64 3, .int .i64 0, .int .i64 0, .int .i64 0, .bool false, .int .i64 0] 36)).alloc (.cells #[.string ⟨#[103]⟩, .string ⟨#[]⟩, .int .i64 0, .int .i64 0, .int .i64 0, .int .i64 0, .int .i64 0, .int .i64 0, .bool true, .int .i64 0] 36)) = w0 at *
  have hkA := blk_cell HAw0.out
  have hkG := blk_cell HGw0.out
  have hkB := blk_cell HBB.out
  have HC1 := Lib.hid (show EAt (w0.alloc (.cells #[.string ⟨#[97]⟩, .string ⟨#[]⟩, .int .i64 0, .int .i64 0, .int .i64 5, .int .i64 0, .int .i64 0, .int .i64 0, .bool false, .int .i64 0, .string ⟨#[98]⟩, .string ⟨#[]⟩, .int .i64 0, .int .i64 0, .int .i64 3, .int .i64 0, .int .i64 0, .int .i64 0, .bool false, .int .i64 0, .string ⟨#[103]⟩, .string ⟨#[]⟩, .int .i64 0, .int .i64 0, .int .i64 0, .int .i64 0, .int .i64 0, .int .i64 0, .bool true, .int .i64 0] 36)) (some ⟨w0.heap.size, 0, none⟩) [eA, eB, eG] from eat_lit w0 [eA, eB, eG])
  have HE1 := Lib.hid (show Below w0.heap.size w0 (w0.alloc (.cells #[.string ⟨#[97]⟩, .string ⟨#[]⟩, .int .i64 0, .int .i64 0, .int .i64 5, .int .i64 0, .int .i64 0, .int .i64 0, .bool false, .int .i64 0, .string ⟨#[98]⟩, .string ⟨#[]⟩, .int .i64 0, .int .i64 0, .int .i64 3, .int .i64 0, .int .i64 0, .int .i64 0, .bool false, .int .i64 0, .string ⟨#[103]⟩, .string ⟨#[]⟩, .int .i64 0, .int .i64 0, .int .i64 0, .int .i64 0, .int .i64 0, .int .i64 0, .bool true, .int .i64 0] 36)) from (Below.refl _ _).alloc (Nat.le_refl _) _)
  go_wp2_with fail
  refine (sweepPick0 (some ⟨w0.heap.size, 0, none⟩) 3 3 [eA, eB, eG] 10 0 _ HC1.out rfl (by omega) (by omega) (by omega)).mono ?_
  rintro e w1 ⟨v1, rfl, ho, hb⟩
  rw [known_pick] at ho
  obtain ⟨a1, c1, rfl, h1c, h1m, hkat, -, hf⟩ := ho.read ky_len
  obtain ⟨g1, rfl⟩ : ∃ g, a1 = some ⟨g, 0, none⟩ := by
    rcases hf with ⟨_, _, e⟩ | ⟨g, e⟩
    · cases e
    · exact ⟨g, e⟩
  obtain ⟨y0, y1⟩ := KyAt.at hkat (i := 0) rfl
  simp only [Nat.zero_add, Nat.zero_mul] at y0 y1
  have HBw1 := Lib.hid (ext_trans HBw0.out (ext_trans HE1.out hb))
  have HAw1 := Lib.hid (blk_ext (ext_trans HE1.out hb) HAw0.out)
  have HGw1 := Lib.hid (blk_ext (ext_trans HE1.out hb) HGw0.out)
  clear ho hb hkat hf hkA hkG hkB HC1 HE1
  have hl1 : ([((⟨#[98]⟩, ⟨#[]⟩) : Ky)]).length = 1 := rfl
  rw [hl1] at h1c ⊢
  clear hl1
  go_wp2_with fail
  refine (sweepMost 7 _ (by omega)).mono ?_
  rintro e w2 ⟨rfl, rfl⟩
  rw [show ((mostN 7 : Nat) : Int) = 2 from by decide]
  go_wp2_with fail
  refine (sweepMost 0 _ (by omega)).mono ?_
  rintro e w2 ⟨rfl, rfl⟩
  rw [show ((mostN 0 : Nat) : Int) = 0 from by decide]
  go_wp2_with fail
  refine (sweepPick0 none 0 0 [] 9 0 _ (.inl rfl) rfl (by omega) (by omega) (by omega)).mono ?_
  rintro e w3 ⟨v3, rfl, ho, hb⟩
  rw [known_none] at ho
  obtain ⟨a3, c3, rfl, -, -, -, -, -⟩ := ho.read ky_len
  have HBw3 := Lib.hid (ext_trans HBw1.out hb)
  have HAw3 := Lib.hid (blk_ext hb HAw1.out)
  have HGw3 := Lib.hid (blk_ext hb HGw1.out)
  have hl3 : ([] : List Ky).length = 0 := rfl
  rw [hl3]
  clear hl3 ho hb y0 y1
  have hkA := blk_cell HAw3.out
  have hkG := blk_cell HGw3.out
  have HCw4 := Lib.hid (show EAt (w3.alloc (.cells #[.string ⟨#[97]⟩, .string ⟨#[]⟩, .int .i64 0, .int .i64 0, .int .i64 5, .int .i64 0, .int .i64 0, .int .i64 0, .bool false, .int .i64 0, .string ⟨#[103]⟩, .string ⟨#[]⟩, .int .i64 0, .int .i64 0, .int .i64 0, .int .i64 0, .int .i64 0, .int .i64 0, .bool true, .int .i64 0] 36)) (some ⟨w3.heap.size, 0, none⟩) [eA, eG] from eat_lit w3 [eA, eG])
  have HEw4 := Lib.hid (show Below w3.heap.size w3 (w3.alloc (.cells #[.string ⟨#[97]⟩, .string ⟨#[]⟩, .int .i64 0, .int .i64 0, .int .i64 5, .int .i64 0, .int .i64 0, .int .i64 0, .bool false, .int .i64 0, .string ⟨#[103]⟩, .string ⟨#[]⟩, .int .i64 0, .int .i64 0, .int .i64 0, .int .i64 0, .int .i64 0, .int .i64 0, .bool true, .int .i64 0] 36)) from (Below.refl _ _).alloc (Nat.le_refl _) _)
  go_wp2_with fail
  refine (sweepDead (some ⟨w3.heap.size, 0, none⟩) 2 2 [eA, eG] 400 _ HCw4.out rfl (by omega) (by omega)).mono ?_
  rintro e w4 ⟨vw4, rfl, ho, hb⟩
  obtain ⟨aw4, cw4, rfl, -, -, -, -, -⟩ := ho.read ky_len
  rw [known_dead0]
  have HBw4 := Lib.hid (ext_trans HBw3.out (ext_trans HEw4.out hb))
  have HAw4 := Lib.hid (blk_ext (ext_trans HEw4.out hb) HAw3.out)
  have HGw4 := Lib.hid (blk_ext (ext_trans HEw4.out hb) HGw3.out)
  have hkA := blk_cell HAw4.out
  have hkG := blk_cell HGw4.out
  clear ho hb
  have HCw5 := Lib.hid (show EAt (w4.alloc (.cells #[.string ⟨#[97]⟩, .string ⟨#[]⟩, .int .i64 0, .int .i64 0, .int .i64 5, .int .i64 0, .int .i64 0, .int .i64 0, .bool false, .int .i64 0, .string ⟨#[103]⟩, .string ⟨#[]⟩, .int .i64 0, .int .i64 0, .int .i64 0, .int .i64 0, .int .i64 0, .int .i64 0, .bool true, .int .i64 0] 36)) (some ⟨w4.heap.size, 0, none⟩) [eA, eG] from eat_lit w4 [eA, eG])
  have HEw5 := Lib.hid (show Below w4.heap.size w4 (w4.alloc (.cells #[.string ⟨#[97]⟩, .string ⟨#[]⟩, .int .i64 0, .int .i64 0, .int .i64 5, .int .i64 0, .int .i64 0, .int .i64 0, .bool false, .int .i64 0, .string ⟨#[103]⟩, .string ⟨#[]⟩, .int .i64 0, .int .i64 0, .int .i64 0, .int .i64 0, .int .i64 0, .int .i64 0, .bool true, .int .i64 0] 36)) from (Below.refl _ _).alloc (Nat.le_refl _) _)
  go_wp2_with fail
  refine (sweepDead (some ⟨w4.heap.size, 0, none⟩) 2 2 [eA, eG] 401 _ HCw5.out rfl (by omega) (by omega)).mono ?_
  rintro e w5 ⟨vw5, rfl, ho, hb⟩
  obtain ⟨aw5, cw5, rfl, -, -, -, -, -⟩ := ho.read ky_len
  rw [known_dead1]
  have HBw5 := Lib.hid (ext_trans HBw4.out (ext_trans HEw5.out hb))
  have HAw5 := Lib.hid (blk_ext (ext_trans HEw5.out hb) HAw4.out)
  have HGw5 := Lib.hid (blk_ext (ext_trans HEw5.out hb) HGw4.out)
  have hkA := blk_cell HAw5.out
  have hkG := blk_cell HGw5.out
  clear ho hb
  go_wp2
  go_ret
  exact ⟨rfl, HBw5.out⟩

end Go.Proofs.Ytohiimfojlcomaa
