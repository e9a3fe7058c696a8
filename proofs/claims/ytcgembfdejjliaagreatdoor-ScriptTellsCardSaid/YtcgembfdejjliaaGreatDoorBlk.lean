/- Blocks that are known whole: what a block holds, behind what is made and written beside it. -/
import Derived.Test.YtcgembfdejjliaaGreatDoorStay
import Derived.OneCell
namespace Go.Proofs.YtcgembfdejjliaaGreatDoor
open Go.RowKit

@[reducible] def Blk (w : World) (b : Nat) (vs : Array Value) (T : TypeId) : Prop := w.heap[b]? = some (.cells vs T (0, 0))

theorem blk_new (w : World) (vs : Array Value) (T : TypeId) : (w.alloc (.cells vs T)).heap[w.heap.size]? = some (.cells vs T (0, 0)) := by
  show (w.heap.push _)[w.heap.size]? = _
  simp
theorem blk_new_at {w : World} {b : Nat} (e : w.heap.size = b) (vs : Array Value) (T : TypeId) : (w.alloc (.cells vs T)).heap[b]? = some (.cells vs T (0, 0)) := by
  subst e; exact blk_new _ _ _
theorem blk_lt {w : World} {b : Nat} {o : Obj} (h : w.heap[b]? = some o) : b < w.heap.size := lt_of_block h
theorem blk_alloc {w : World} {b : Nat} {o : Obj} (h : w.heap[b]? = some o) (x : Obj) : (w.alloc x).heap[b]? = some o := by
  have := blk_lt h
  show (w.heap.push _)[b]? = _
  rw [Array.getElem?_push, if_neg (by omega)]
  exact h
theorem blk_drew {w : World} {b : Nat} {o : Obj} (h : w.heap[b]? = some o) : w.drew.heap[b]? = some o := h
theorem blk_set_other {w : World} {b b' n : Nat} {o : Obj} {u : Value} (hn : b ≠ b') (h : w.heap[b]? = some o) : (w.setCell ⟨b', n, none⟩ u).heap[b]? = some o :=
  (Below.heap_setCell w _ u b hn).trans h
theorem blk_set {w : World} {b n : Nat} {vs vs' : Array Value} {T : TypeId} {u : Value} (h : w.heap[b]? = some (.cells vs T (0, 0))) (e : vs.setIfInBounds n u = vs') : (w.setCell ⟨b, n, none⟩ u).heap[b]? = some (.cells vs' T (0, 0)) := by
  have hlt := blk_lt h
  have h' : w.heap[b] = .cells vs T (0, 0) := by simpa [Array.getElem?_eq_getElem hlt] using h
  show (w.heap.modify b _)[b]? = _
  rw [Array.getElem?_eq_getElem (by simpa using hlt), Array.getElem_modify_self, h', ← e]
  rfl
theorem blk_ext {w w' : World} (hb : Below w.heap.size w w') {b : Nat} {vs : Array Value} {T : TypeId} (h : w.heap[b]? = some (.cells vs T (0, 0))) : w'.heap[b]? = some (.cells vs T (0, 0)) := ext_block hb h
theorem blk_cell {w : World} {b : Nat} {vs : Array Value} {T : TypeId} (h : w.heap[b]? = some (.cells vs T (0, 0))) : ∀ n, w.cell? ⟨b, n, none⟩ = vs[n]? := fun n => by simp [World.cell?, h]
theorem blk_free {w : World} {b : Nat} {vs : Array Value} {T : TypeId} (h : w.heap[b]? = some (.cells vs T (0, 0))) : ∀ n, w.frozen? ⟨b, n, none⟩ = false := fun n => by simp [World.frozen?, h]
theorem blk_of {W : World} {b : Nat} {vs : Array Value} {T : TypeId} (h : W.heap[b]? = some (.cells vs T (0, 0))) : ∀ (g : Of W) n, g.w.cell? ⟨b, n, none⟩ = vs[n]? := fun g n => blk_cell (blk_ext g.h h) n

end Go.Proofs.YtcgembfdejjliaaGreatDoor
