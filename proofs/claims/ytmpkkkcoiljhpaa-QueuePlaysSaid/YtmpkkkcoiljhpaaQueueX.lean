/- The document's queue: its peers. -/
import Derived.Test.YtmpkkkcoiljhpaaQueueN
namespace Go.Proofs.Ytmpkkkcoiljhpaa
open Go.RowKit
set_option linter.unusedVariables false

/-- the first of the numbers that is k, from number q on -/
def ixI (k : Int) : Nat → List Int → Int
  | _, [] => -1
  | q, x :: l => if x = k then (q : Int) else ixI k (q + 1) l
theorem ixI_hit (k : Int) (q : Nat) (x : Int) (l : List Int) (h : x = k) : ixI k q (x :: l) = q := by simp [ixI, h]
theorem ixI_miss (k : Int) (q : Nat) (x : Int) (l : List Int) (h : x ≠ k) : ixI k q (x :: l) = ixI k (q + 1) l := by simp [ixI, h]
theorem ixI_map (k : Int) (rs : List (Int × List Cd)) (q : Nat) : ixI k q (rs.map (·.1)) = ixQ k q rs := by
  induction rs generalizing q with
  | nil => rfl
  | cons y ys ih => simp only [List.map_cons]; unfold ixI ixQ; rw [ih]

set_option maxRecDepth 100000 in
set_option maxHeartbeats 1000000 in
theorem refAt16 (rb np pc : Nat) (pa : Option Addr) (x1 x2 : Value) (ps : List Int) (k : Int) (w : World) (h : w.heap[rb]? = some (.cells #[.slice pa np pc, x1, x2] 51 (0, 0))) (hp : NAt w pa ps) (hl : ps.length = np) (hc : np ≤ pc) (hn : np ≤ 6) :
    Calls Try.prog 26 #[.pointer (some ⟨rb, 0, none⟩), .int .i64 k] w fun e w' => e = .returned (.int .i64 (ixI k 0 ps)) ∧ Below w.heap.size w w' := by
  have HA := Lib.hid hp
  have HN := Lib.hid hl
  have hc0 := blk_cell h
  have hl0 := blk_lt h
  clear h hp hl
  go_enter Try.func26, Try.ntmps26
  go_wp2_with fail
  go_loopw [12] (fun i wr => ∃ j : Nat, j ≤ np ∧ i = .int .i64 (j : Int) ∧ ixI k 0 ps = ixI k j (ps.drop j) ∧ Below w.heap.size w wr) (fun i _ => np - (intOf i).toNat)
  case atStart => exact ⟨0, by omega, rfl, rfl, Below.refl _ _⟩
  case round =>
    obtain ⟨w2, rfl⟩ : ∃ y : World, y = wr := ⟨_, rfl⟩
    obtain ⟨j, hj, rfl, hix, hb2⟩ := hrel
    have HIX := Lib.hid hix
    have HB2 := Lib.hid hb2
    clear hix
    by_cases hlt : j < np
    · obtain ⟨x, hx⟩ : ∃ x, ps[j]? = some x := ⟨_, List.getElem?_eq_getElem (by have := HN.out; omega)⟩
      obtain ⟨b, o, rfl, hcx⟩ : ∃ b o, pa = some ⟨b, o, none⟩ ∧ w2.cell? ⟨b, o + j, none⟩ = some (.int .i64 x) := by
        rcases HA.out with h | ⟨b, o, e, h⟩
        · rw [h] at hx; simp at hx
        · exact ⟨b, o, e, ext_cell hb2 (h j x hx)⟩
      have HDR := Lib.hid (drop_at hx)
      clear hx hb2
      by_cases hq : x = k
      · have HQ := Lib.hid hq
        have hd : (x == k) = true := by simp [hq]
        clear hq
        go_wp2
        go_ret
        exact ⟨by rw [HIX.out, HDR.out, ixI_hit _ _ _ _ HQ.out]; rfl, HB2.out⟩
      · have HQ := Lib.hid (show x ≠ k from hq)
        have hd : (x == k) = false := by simp [hq]
        clear hq
        go_wp2
        go_roundw
        case rel => exact ⟨j + 1, by omega, by go_num, by rw [HIX.out, HDR.out, ixI_miss _ _ _ _ HQ.out], HB2.out⟩
        case measure => simp [intOf]; omega
    · obtain rfl : j = np := by omega
      have HE := Lib.hid (show ixI k 0 ps = -1 by rw [HIX.out, List.drop_of_length_le (by have := HN.out; omega)]; rfl)
      go_wp2
      go_ret
      exact ⟨by rw [HE.out]; rfl, HB2.out⟩

end Go.Proofs.Ytmpkkkcoiljhpaa
