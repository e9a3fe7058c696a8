/- Which messages of a feed are right. -/
import Derived.Test.YtcjpemphdgndkaaGreatCacRY
namespace Go.Proofs.YtcjpemphdgndkaaGreat
open Go.RowKit
set_option linter.unusedVariables false
set_option linter.unusedSimpArgs false

theorem blk_fillM {w : World} {b : Nat} {T : TypeId} {vs : Array Value} {v0 v1 v2 v3 v4 v5 v6 v7 v8 v9 v10 v11 v12 : Value} (h : w.heap[b]? = some (.cells vs T (0, 0))) (hs : vs.size = 13) : (((((((((((((w.setCell ⟨b, 0, none⟩ v0).setCell ⟨b, 1, none⟩ v1).setCell ⟨b, 2, none⟩ v2).setCell ⟨b, 3, none⟩ v3).setCell ⟨b, 4, none⟩ v4).setCell ⟨b, 5, none⟩ v5).setCell ⟨b, 6, none⟩ v6).setCell ⟨b, 7, none⟩ v7).setCell ⟨b, 8, none⟩ v8).setCell ⟨b, 9, none⟩ v9).setCell ⟨b, 10, none⟩ v10).setCell ⟨b, 11, none⟩ v11).setCell ⟨b, 12, none⟩ v12).heap[b]? = some (.cells #[v0, v1, v2, v3, v4, v5, v6, v7, v8, v9, v10, v11, v12] T (0, 0)) := by
  obtain ⟨l⟩ := vs
  match l, hs with
  | [x0, x1, x2, x3, x4, x5, x6, x7, x8, x9, x10, x11, x12], _ =>
    have h0 := blk_set (n := 0) (u := v0) (vs' := #[v0, x1, x2, x3, x4, x5, x6, x7, x8, x9, x10, x11, x12]) h (by simp)
    have h1 := blk_set (n := 1) (u := v1) (vs' := #[v0, v1, x2, x3, x4, x5, x6, x7, x8, x9, x10, x11, x12]) h0 (by simp)
    have h2 := blk_set (n := 2) (u := v2) (vs' := #[v0, v1, v2, x3, x4, x5, x6, x7, x8, x9, x10, x11, x12]) h1 (by simp)
    have h3 := blk_set (n := 3) (u := v3) (vs' := #[v0, v1, v2, v3, x4, x5, x6, x7, x8, x9, x10, x11, x12]) h2 (by simp)
    have h4 := blk_set (n := 4) (u := v4) (vs' := #[v0, v1, v2, v3, v4, x5, x6, x7, x8, x9, x10, x11, x12]) h3 (by simp)
    have h5 := blk_set (n := 5) (u := v5) (vs' := #[v0, v1, v2, v3, v4, v5, x6, x7, x8, x9, x10, x11, x12]) h4 (by simp)
    have h6 := blk_set (n := 6) (u := v6) (vs' := #[v0, v1, v2, v3, v4, v5, v6, x7, x8, x9, x10, x11, x12]) h5 (by simp)
    have h7 := blk_set (n := 7) (u := v7) (vs' := #[v0, v1, v2, v3, v4, v5, v6, v7, x8, x9, x10, x11, x12]) h6 (by simp)
    have h8 := blk_set (n := 8) (u := v8) (vs' := #[v0, v1, v2, v3, v4, v5, v6, v7, v8, x9, x10, x11, x12]) h7 (by simp)
    have h9 := blk_set (n := 9) (u := v9) (vs' := #[v0, v1, v2, v3, v4, v5, v6, v7, v8, v9, x10, x11, x12]) h8 (by simp)
    have h10 := blk_set (n := 10) (u := v10) (vs' := #[v0, v1, v2, v3, v4, v5, v6, v7, v8, v9, v10, x11, x12]) h9 (by simp)
    have h11 := blk_set (n := 11) (u := v11) (vs' := #[v0, v1, v2, v3, v4, v5, v6, v7, v8, v9, v10, v11, x12]) h10 (by simp)
    have h12 := blk_set (n := 12) (u := v12) (vs' := #[v0, v1, v2, v3, v4, v5, v6, v7, v8, v9, v10, v11, v12]) h11 (by simp)
    exact h12
theorem below_fillM {m : Nat} {u w : World} {b : Nat} {v0 v1 v2 v3 v4 v5 v6 v7 v8 v9 v10 v11 v12 : Value} (h : Below m u w) (hb : m ≤ b) : Below m u (((((((((((((w.setCell ⟨b, 0, none⟩ v0).setCell ⟨b, 1, none⟩ v1).setCell ⟨b, 2, none⟩ v2).setCell ⟨b, 3, none⟩ v3).setCell ⟨b, 4, none⟩ v4).setCell ⟨b, 5, none⟩ v5).setCell ⟨b, 6, none⟩ v6).setCell ⟨b, 7, none⟩ v7).setCell ⟨b, 8, none⟩ v8).setCell ⟨b, 9, none⟩ v9).setCell ⟨b, 10, none⟩ v10).setCell ⟨b, 11, none⟩ v11).setCell ⟨b, 12, none⟩ v12) := (((((((((((((h.setCell hb _).setCell hb _).setCell hb _).setCell hb _).setCell hb _).setCell hb _).setCell hb _).setCell hb _).setCell hb _).setCell hb _).setCell hb _).setCell hb _).setCell hb _)


set_option maxRecDepth 100000 in
set_option maxHeartbeats 1000000 in
theorem equalCardsNone (w : World) :
    Calls Tryz.prog 150 #[.slice none 0 0, .slice none 0 0] w fun r w' => r = .returned (.bool true) ∧ Below w.heap.size w w' := by
  go_enter Tryz.func150, Tryz.ntmps150
  go_wp2_with fail
  go_loopw [13] (fun i wr => i = .int .i64 0 ∧ Below w.heap.size w wr) (fun i _ => 0)
  case atStart => exact ⟨rfl, Below.refl _ _⟩
  case round =>
    obtain ⟨w2, rfl⟩ : ∃ y : World, y = wr := ⟨_, rfl⟩
    obtain ⟨rfl, B2⟩ := hrel
    go_wp2
    go_ret
    exact ⟨rfl, B2⟩

set_option maxRecDepth 100000 in
set_option maxHeartbeats 1000000 in
theorem equalKeysNone (w : World) :
    Calls Tryz.prog 122 #[.slice none 0 0, .slice none 0 0] w fun r w' => r = .returned (.bool true) ∧ Below w.heap.size w w' := by
  go_enter Tryz.func122, Tryz.ntmps122
  go_wp2_with fail
  go_loopw [13] (fun i wr => i = .int .i64 0 ∧ Below w.heap.size w wr) (fun i _ => 0)
  case atStart => exact ⟨rfl, Below.refl _ _⟩
  case round =>
    obtain ⟨w2, rfl⟩ : ∃ y : World, y = wr := ⟨_, rfl⟩
    obtain ⟨rfl, B2⟩ := hrel
    go_wp2
    go_ret
    exact ⟨rfl, B2⟩

set_option maxRecDepth 100000 in
set_option maxHeartbeats 1000000 in
theorem cardSameNone (w : World) :
    Calls Tryz.prog 121 #[.slice none 0 0, .slice none 0 0] w fun r w' => r = .returned (.bool true) ∧ Below w.heap.size w w' := by
  go_enter Tryz.func121, Tryz.ntmps121
  go_wp2_with fail
  refine (equalCardsNone _).mono ?_
  rintro e w3 ⟨rfl, hb⟩
  go_wp2
  go_ret
  exact ⟨rfl, hb⟩

end Go.Proofs.YtcjpemphdgndkaaGreat
