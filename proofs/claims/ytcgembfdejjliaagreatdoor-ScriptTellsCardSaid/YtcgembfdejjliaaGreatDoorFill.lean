/- A block of which all cells are written. -/
import Derived.Test.YtcgembfdejjliaaGreatDoorInv
namespace Go.Proofs.YtcgembfdejjliaaGreatDoor
open Go.RowKit
set_option linter.unusedVariables false

theorem blk_fill3 {w : World} {b : Nat} {T : TypeId} {vs : Array Value} {v0 v1 v2 : Value} (h : w.heap[b]? = some (.cells vs T (0, 0))) (hs : vs.size = 3) : (((w.setCell ⟨b, 0, none⟩ v0).setCell ⟨b, 1, none⟩ v1).setCell ⟨b, 2, none⟩ v2).heap[b]? = some (.cells #[v0, v1, v2] T (0, 0)) := by
  obtain ⟨l⟩ := vs
  match l, hs with
  | [x0, x1, x2], _ =>
    have h0 := blk_set (n := 0) (u := v0) (vs' := #[v0, x1, x2]) h (by simp)
    have h1 := blk_set (n := 1) (u := v1) (vs' := #[v0, v1, x2]) h0 (by simp)
    have h2 := blk_set (n := 2) (u := v2) (vs' := #[v0, v1, v2]) h1 (by simp)
    exact h2
theorem blk_over3 {w : World} {b c : Nat} {o : Obj} {v0 v1 v2 : Value} (hn : c ≠ b) (h : w.heap[c]? = some o) : (((w.setCell ⟨b, 0, none⟩ v0).setCell ⟨b, 1, none⟩ v1).setCell ⟨b, 2, none⟩ v2).heap[c]? = some o := by
  exact (blk_set_other hn (blk_set_other hn (blk_set_other hn h)))
theorem below_fill3 {m : Nat} {u w : World} {b : Nat} {v0 v1 v2 : Value} (h : Below m u w) (hb : m ≤ b) : Below m u (((w.setCell ⟨b, 0, none⟩ v0).setCell ⟨b, 1, none⟩ v1).setCell ⟨b, 2, none⟩ v2) := (((h.setCell hb _).setCell hb _).setCell hb _)

theorem blk_fill9 {w : World} {b : Nat} {T : TypeId} {vs : Array Value} {v0 v1 v2 v3 v4 v5 v6 v7 v8 : Value} (h : w.heap[b]? = some (.cells vs T (0, 0))) (hs : vs.size = 9) : (((((((((w.setCell ⟨b, 0, none⟩ v0).setCell ⟨b, 1, none⟩ v1).setCell ⟨b, 2, none⟩ v2).setCell ⟨b, 3, none⟩ v3).setCell ⟨b, 4, none⟩ v4).setCell ⟨b, 5, none⟩ v5).setCell ⟨b, 6, none⟩ v6).setCell ⟨b, 7, none⟩ v7).setCell ⟨b, 8, none⟩ v8).heap[b]? = some (.cells #[v0, v1, v2, v3, v4, v5, v6, v7, v8] T (0, 0)) := by
  obtain ⟨l⟩ := vs
  match l, hs with
  | [x0, x1, x2, x3, x4, x5, x6, x7, x8], _ =>
    have h0 := blk_set (n := 0) (u := v0) (vs' := #[v0, x1, x2, x3, x4, x5, x6, x7, x8]) h (by simp)
    have h1 := blk_set (n := 1) (u := v1) (vs' := #[v0, v1, x2, x3, x4, x5, x6, x7, x8]) h0 (by simp)
    have h2 := blk_set (n := 2) (u := v2) (vs' := #[v0, v1, v2, x3, x4, x5, x6, x7, x8]) h1 (by simp)
    have h3 := blk_set (n := 3) (u := v3) (vs' := #[v0, v1, v2, v3, x4, x5, x6, x7, x8]) h2 (by simp)
    have h4 := blk_set (n := 4) (u := v4) (vs' := #[v0, v1, v2, v3, v4, x5, x6, x7, x8]) h3 (by simp)
    have h5 := blk_set (n := 5) (u := v5) (vs' := #[v0, v1, v2, v3, v4, v5, x6, x7, x8]) h4 (by simp)
    have h6 := blk_set (n := 6) (u := v6) (vs' := #[v0, v1, v2, v3, v4, v5, v6, x7, x8]) h5 (by simp)
    have h7 := blk_set (n := 7) (u := v7) (vs' := #[v0, v1, v2, v3, v4, v5, v6, v7, x8]) h6 (by simp)
    have h8 := blk_set (n := 8) (u := v8) (vs' := #[v0, v1, v2, v3, v4, v5, v6, v7, v8]) h7 (by simp)
    exact h8
theorem blk_over9 {w : World} {b c : Nat} {o : Obj} {v0 v1 v2 v3 v4 v5 v6 v7 v8 : Value} (hn : c ≠ b) (h : w.heap[c]? = some o) : (((((((((w.setCell ⟨b, 0, none⟩ v0).setCell ⟨b, 1, none⟩ v1).setCell ⟨b, 2, none⟩ v2).setCell ⟨b, 3, none⟩ v3).setCell ⟨b, 4, none⟩ v4).setCell ⟨b, 5, none⟩ v5).setCell ⟨b, 6, none⟩ v6).setCell ⟨b, 7, none⟩ v7).setCell ⟨b, 8, none⟩ v8).heap[c]? = some o := by
  exact (blk_set_other hn (blk_set_other hn (blk_set_other hn (blk_set_other hn (blk_set_other hn (blk_set_other hn (blk_set_other hn (blk_set_other hn (blk_set_other hn h)))))))))
theorem below_fill9 {m : Nat} {u w : World} {b : Nat} {v0 v1 v2 v3 v4 v5 v6 v7 v8 : Value} (h : Below m u w) (hb : m ≤ b) : Below m u (((((((((w.setCell ⟨b, 0, none⟩ v0).setCell ⟨b, 1, none⟩ v1).setCell ⟨b, 2, none⟩ v2).setCell ⟨b, 3, none⟩ v3).setCell ⟨b, 4, none⟩ v4).setCell ⟨b, 5, none⟩ v5).setCell ⟨b, 6, none⟩ v6).setCell ⟨b, 7, none⟩ v7).setCell ⟨b, 8, none⟩ v8) := (((((((((h.setCell hb _).setCell hb _).setCell hb _).setCell hb _).setCell hb _).setCell hb _).setCell hb _).setCell hb _).setCell hb _)

theorem blk_fill10 {w : World} {b : Nat} {T : TypeId} {vs : Array Value} {v0 v1 v2 v3 v4 v5 v6 v7 v8 v9 : Value} (h : w.heap[b]? = some (.cells vs T (0, 0))) (hs : vs.size = 10) : ((((((((((w.setCell ⟨b, 0, none⟩ v0).setCell ⟨b, 1, none⟩ v1).setCell ⟨b, 2, none⟩ v2).setCell ⟨b, 3, none⟩ v3).setCell ⟨b, 4, none⟩ v4).setCell ⟨b, 5, none⟩ v5).setCell ⟨b, 6, none⟩ v6).setCell ⟨b, 7, none⟩ v7).setCell ⟨b, 8, none⟩ v8).setCell ⟨b, 9, none⟩ v9).heap[b]? = some (.cells #[v0, v1, v2, v3, v4, v5, v6, v7, v8, v9] T (0, 0)) := by
  obtain ⟨l⟩ := vs
  match l, hs with
  | [x0, x1, x2, x3, x4, x5, x6, x7, x8, x9], _ =>
    have h0 := blk_set (n := 0) (u := v0) (vs' := #[v0, x1, x2, x3, x4, x5, x6, x7, x8, x9]) h (by simp)
    have h1 := blk_set (n := 1) (u := v1) (vs' := #[v0, v1, x2, x3, x4, x5, x6, x7, x8, x9]) h0 (by simp)
    have h2 := blk_set (n := 2) (u := v2) (vs' := #[v0, v1, v2, x3, x4, x5, x6, x7, x8, x9]) h1 (by simp)
    have h3 := blk_set (n := 3) (u := v3) (vs' := #[v0, v1, v2, v3, x4, x5, x6, x7, x8, x9]) h2 (by simp)
    have h4 := blk_set (n := 4) (u := v4) (vs' := #[v0, v1, v2, v3, v4, x5, x6, x7, x8, x9]) h3 (by simp)
    have h5 := blk_set (n := 5) (u := v5) (vs' := #[v0, v1, v2, v3, v4, v5, x6, x7, x8, x9]) h4 (by simp)
    have h6 := blk_set (n := 6) (u := v6) (vs' := #[v0, v1, v2, v3, v4, v5, v6, x7, x8, x9]) h5 (by simp)
    have h7 := blk_set (n := 7) (u := v7) (vs' := #[v0, v1, v2, v3, v4, v5, v6, v7, x8, x9]) h6 (by simp)
    have h8 := blk_set (n := 8) (u := v8) (vs' := #[v0, v1, v2, v3, v4, v5, v6, v7, v8, x9]) h7 (by simp)
    have h9 := blk_set (n := 9) (u := v9) (vs' := #[v0, v1, v2, v3, v4, v5, v6, v7, v8, v9]) h8 (by simp)
    exact h9
theorem blk_over10 {w : World} {b c : Nat} {o : Obj} {v0 v1 v2 v3 v4 v5 v6 v7 v8 v9 : Value} (hn : c ≠ b) (h : w.heap[c]? = some o) : ((((((((((w.setCell ⟨b, 0, none⟩ v0).setCell ⟨b, 1, none⟩ v1).setCell ⟨b, 2, none⟩ v2).setCell ⟨b, 3, none⟩ v3).setCell ⟨b, 4, none⟩ v4).setCell ⟨b, 5, none⟩ v5).setCell ⟨b, 6, none⟩ v6).setCell ⟨b, 7, none⟩ v7).setCell ⟨b, 8, none⟩ v8).setCell ⟨b, 9, none⟩ v9).heap[c]? = some o := by
  exact (blk_set_other hn (blk_set_other hn (blk_set_other hn (blk_set_other hn (blk_set_other hn (blk_set_other hn (blk_set_other hn (blk_set_other hn (blk_set_other hn (blk_set_other hn h))))))))))
theorem below_fill10 {m : Nat} {u w : World} {b : Nat} {v0 v1 v2 v3 v4 v5 v6 v7 v8 v9 : Value} (h : Below m u w) (hb : m ≤ b) : Below m u ((((((((((w.setCell ⟨b, 0, none⟩ v0).setCell ⟨b, 1, none⟩ v1).setCell ⟨b, 2, none⟩ v2).setCell ⟨b, 3, none⟩ v3).setCell ⟨b, 4, none⟩ v4).setCell ⟨b, 5, none⟩ v5).setCell ⟨b, 6, none⟩ v6).setCell ⟨b, 7, none⟩ v7).setCell ⟨b, 8, none⟩ v8).setCell ⟨b, 9, none⟩ v9) := ((((((((((h.setCell hb _).setCell hb _).setCell hb _).setCell hb _).setCell hb _).setCell hb _).setCell hb _).setCell hb _).setCell hb _).setCell hb _)

end Go.Proofs.YtcgembfdejjliaaGreatDoor
