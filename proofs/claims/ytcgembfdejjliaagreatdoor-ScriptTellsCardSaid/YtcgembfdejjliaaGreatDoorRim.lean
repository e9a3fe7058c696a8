/- Worlds that differ in one block, and own rows that outlive them. -/
import Derived.Test.YtcgembfdejjliaaGreatDoorBytes
import Derived.Test.YtcgembfdejjliaaGreatDoorBlk
namespace Go.Proofs.YtcgembfdejjliaaGreatDoor
open Go.RowKit
set_option linter.unusedVariables false

theorem ownsRow_keep {w w' : World} {base size n b : Nat} {e : TypeId} {v : Value} {xs : List Value} (h : w.ownsRow base e size v n xs) (hk : Kept b w w') (hb : some b ≠ v.ownBlock) : w'.ownsRow base e size v n xs := by
  obtain ⟨h1, h2⟩ := h
  refine ⟨h1, ?_⟩
  rcases h2 with h2 | ⟨g, cap, cur, hv, hg, hh, r⟩
  · exact .inl h2
  · subst hv
    exact .inr ⟨g, cap, cur, rfl, hg, (hk.block g (fun e => hb (by rw [← e]; rfl))).trans hh, r⟩
structure Rim (b : Nat) (w w' : World) : Prop where
  os : w'.os = w.os
  tape : w'.tape = w.tape
  output : w'.output = w.output
  size : w.heap.size ≤ w'.heap.size
  block : ∀ k, k ≠ b → k < w.heap.size → w'.heap[k]? = w.heap[k]?
theorem Rim.of {b : Nat} {w w' : World} (h : Below w.heap.size w w') : Rim b w w' := ⟨h.os, h.tape, h.output, h.size, fun k _ hl => h.block k hl⟩
theorem Rim.kept {b : Nat} {w w' : World} (h : Kept b w w') : Rim b w w' := ⟨h.os, h.tape, h.output, Nat.le_of_eq h.size.symm, fun k hk _ => h.block k hk⟩
theorem Rim.trans {b : Nat} {u v w : World} (h : Rim b u v) (k : Rim b v w) : Rim b u w :=
  ⟨k.os.trans h.os, k.tape.trans h.tape, k.output.trans h.output, Nat.le_trans h.size k.size, fun i hi hl => (k.block i hi (Nat.lt_of_lt_of_le hl h.size)).trans (h.block i hi hl)⟩
theorem Rim.below {b n : Nat} {w w' : World} (h : Rim b w w') (hn : n ≤ b) (hz : n ≤ w.heap.size) : Below n w w' := ⟨h.os, h.tape, h.output, h.size, fun k hk => h.block k (by omega) (by omega)⟩

theorem own_blocks {w w' : World} {base size n : Nat} {e : TypeId} {v : Value} {vs : List Value} (h : w.ownsRow base e size v n vs) (hk : ∀ (b : Nat) (cur : Array Value), w.heap[b]? = some (.cells cur e (0, 0)) → w'.heap[b]? = w.heap[b]?) : w'.ownsRow base e size v n vs := by
  obtain ⟨h1, h2⟩ := h
  refine ⟨h1, ?_⟩
  rcases h2 with h2 | ⟨g, cap', cur, hv, hg, hh, r⟩
  · exact .inl h2
  · exact .inr ⟨g, cap', cur, hv, hg, (hk g cur hh).trans hh, r⟩
theorem own_max {w : World} {base n c : Nat} {e : TypeId} {a : Option Addr} {vs : List Value} (h : w.ownsRow base e 1 (.slice a n c) n vs) : c ≤ 9223372036854775807 := by
  rcases h.2 with ⟨e1, e2⟩ | ⟨g, cap', cur, e1, _, hh, hle, hcm, _⟩
  · simp at e1; omega
  · simp at e1; unfold maxLen at hcm; omega

end Go.Proofs.YtcgembfdejjliaaGreatDoor
