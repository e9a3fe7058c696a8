/- What a call that makes new memory alone leaves of the memory that was there. -/
import Derived.WalkKit
import Derived.WalkSpells
import Derived.WalkLawsBesides
import Derived.Handy
import Derived.Lib.Hide
import Derived.Deep.RegionHeld3
namespace Go.Proofs.YtcgembfdejjliaaGreatDoor
open Go.RowKit
set_option linter.unusedVariables false

theorem ext_trans {a b c : World} (h : Below a.heap.size a b) (k : Below b.heap.size b c) : Below a.heap.size a c := h.trans (k.mono h.size)

theorem cell_lt {w : World} {b o : Nat} {v : Value} (h : w.cell? ⟨b, o, none⟩ = some v) : b < w.heap.size := World.block_lt_of_cell? w ⟨b, o, none⟩ h

theorem ext_cell {w w' : World} (hb : Below w.heap.size w w') {b o : Nat} {v : Value} (h : w.cell? ⟨b, o, none⟩ = some v) : w'.cell? ⟨b, o, none⟩ = some v :=
  (hb.cell (p := ⟨b, o, none⟩) (cell_lt h)).trans h

theorem ext_frozen {w w' : World} (hb : Below w.heap.size w w') {b o : Nat} {v : Value} (h : w.cell? ⟨b, o, none⟩ = some v) (hf : w.frozen? ⟨b, o, none⟩ = false) : w'.frozen? ⟨b, o, none⟩ = false :=
  (hb.frozen (p := ⟨b, o, none⟩) (cell_lt h)).trans hf

theorem bcell {W w1 : World} (hb : Below W.heap.size W w1) : (∀ b o, b < W.heap.size → w1.cell? ⟨b, o, none⟩ = W.cell? ⟨b, o, none⟩) ∧ (∀ b o, b < W.heap.size → w1.frozen? ⟨b, o, none⟩ = W.frozen? ⟨b, o, none⟩) :=
  ⟨fun b o h => hb.cell (p := ⟨b, o, none⟩) h, fun b o h => hb.frozen (p := ⟨b, o, none⟩) h⟩

/-- a block that is there, whole -/
theorem ext_block {w w' : World} (hb : Below w.heap.size w w') {b : Nat} {o : Obj} (h : w.heap[b]? = some o) : w'.heap[b]? = some o :=
  (hb.block b (by have := Array.getElem?_eq_some_iff.1 h; exact this.1)).trans h

/-- what holds of a world, and still holds where new memory was made -/
def Stay (S : World → Prop) : Prop := ∀ w w' : World, Below w.heap.size w w' → S w → S w'
theorem stay_and {A B : World → Prop} (ha : Stay A) (hb : Stay B) : Stay fun w => A w ∧ B w := fun w w' h ⟨x, y⟩ => ⟨ha w w' h x, hb w w' h y⟩
theorem stay_cell {b o : Nat} {v : Value} : Stay fun w => w.cell? ⟨b, o, none⟩ = some v := fun _ _ h x => ext_cell h x
theorem stay_below {a : World} : Stay fun w => Below a.heap.size a w := fun _ _ h x => ext_trans x h
theorem Stay.drew {S : World → Prop} (hs : Stay S) {w : World} (h : S w) : S w.drew := hs w _ (Below.refl _ _).drew h
theorem Stay.on {S : World → Prop} (hs : Stay S) {w w' : World} (hb : Below w.heap.size w w') (h : S w) : S w' := hs w w' hb h

/-- only block b may hold something other; nothing is new -/
structure Kept (b : Nat) (w w' : World) : Prop where
  os : w'.os = w.os
  tape : w'.tape = w.tape
  output : w'.output = w.output
  size : w'.heap.size = w.heap.size
  block : ∀ k, k ≠ b → w'.heap[k]? = w.heap[k]?
theorem Kept.refl (b : Nat) (w : World) : Kept b w w := ⟨rfl, rfl, rfl, rfl, fun _ _ => rfl⟩
theorem Kept.setCell {b : Nat} {w w' : World} (h : Kept b w w') (o : Nat) (v : Value) : Kept b w (w'.setCell ⟨b, o, none⟩ v) :=
  ⟨h.os, h.tape, h.output, by simp [World.setCell, h.size], fun k hk => (Below.heap_setCell _ _ _ _ hk).trans (h.block k hk)⟩
theorem Kept.drew {b : Nat} {w w' : World} (h : Kept b w w') : Kept b w w'.drew := ⟨h.os, h.tape, h.output, h.size, h.block⟩
theorem Kept.below {b n : Nat} {w w' : World} (h : Kept b w w') (hn : n ≤ b) : Below n w w' := ⟨h.os, h.tape, h.output, Nat.le_of_eq h.size.symm, fun k hk => h.block k (by omega)⟩
theorem Kept.cell {b : Nat} {w w' : World} (h : Kept b w w') {b' o : Nat} {v : Value} (hb : b' ≠ b) (hc : w.cell? ⟨b', o, none⟩ = some v) : w'.cell? ⟨b', o, none⟩ = some v :=
  (World.cell?_of_block (w := w) (h.block b' hb)).trans hc
theorem Kept.frozen {b : Nat} {w w' : World} (h : Kept b w w') {b' o : Nat} (hb : b' ≠ b) (hc : w.frozen? ⟨b', o, none⟩ = false) : w'.frozen? ⟨b', o, none⟩ = false :=
  (World.frozen?_of_block (w := w) (h.block b' hb)).trans hc

end Go.Proofs.YtcgembfdejjliaaGreatDoor
