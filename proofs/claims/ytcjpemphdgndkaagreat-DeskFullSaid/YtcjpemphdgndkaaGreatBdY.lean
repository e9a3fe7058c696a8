/- Several texts as one: Tape, TapeKey, TapeCard, TapeCd. -/
import Derived.Test.YtcjpemphdgndkaaGreatBaY
import Derived.Test.YtcjpemphdgndkaaGreatBbY
import Derived.Deep.DeepCutAuto
import Derived.BigRegion
/- A tape of numbers: what is read off it. -/
namespace Go.Proofs.YtcjpemphdgndkaaGreat
open Go.RowKit
set_option linter.unusedVariables false

/-- block b may hold something other; new memory may have been made; all else is as it was -/
structure Bar (b : Nat) (w w' : World) : Prop where
  os : w'.os = w.os
  tape : w'.tape = w.tape
  output : w'.output = w.output
  size : w.heap.size ≤ w'.heap.size
  block : ∀ k, k ≠ b → k < w.heap.size → w'.heap[k]? = w.heap[k]?
theorem Bar.refl (b : Nat) (w : World) : Bar b w w := ⟨rfl, rfl, rfl, Nat.le_refl _, fun _ _ _ => rfl⟩
theorem Bar.trans {b : Nat} {u v w : World} (h : Bar b u v) (k : Bar b v w) : Bar b u w :=
  ⟨k.os.trans h.os, k.tape.trans h.tape, k.output.trans h.output, Nat.le_trans h.size k.size, fun i hi hl => (k.block i hi (Nat.lt_of_lt_of_le hl h.size)).trans (h.block i hi hl)⟩
theorem Bar.of {b : Nat} {w w' : World} (h : Below w.heap.size w w') : Bar b w w' := ⟨h.os, h.tape, h.output, h.size, fun k _ hl => h.block k hl⟩
theorem Bar.kept {b : Nat} {w w' : World} (h : Kept b w w') : Bar b w w' := ⟨h.os, h.tape, h.output, Nat.le_of_eq h.size.symm, fun k hk _ => h.block k hk⟩
theorem Bar.below {b n : Nat} {w w' : World} (h : Bar b w w') (hn : n ≤ b) (hz : n ≤ w.heap.size) : Below n w w' := ⟨h.os, h.tape, h.output, h.size, fun k hk => h.block k (by omega) (by omega)⟩
theorem Bar.blk {b : Nat} {w w' : World} (h : Bar b w w') {c : Nat} {o : Obj} (hc : c ≠ b) (hb : w.heap[c]? = some o) : w'.heap[c]? = some o := (h.block c hc (blk_lt hb)).trans hb
theorem Bar.cell {b : Nat} {w w' : World} (h : Bar b w w') {c o : Nat} {v : Value} (hc : c ≠ b) (hb : w.cell? ⟨c, o, none⟩ = some v) : w'.cell? ⟨c, o, none⟩ = some v :=
  (World.cell?_of_block (w := w) (h.block c hc (cell_lt hb))).trans hb

/-- at block b a tape lies: the row that it reads, and how far it has come -/
def TapeK (a : Option Addr) (len cap : Nat) (w : World) (b : Nat) : Prop := ∃ k : Nat, w.heap[b]? = some (.cells #[.slice a len cap, .int .i64 k] 82 (0, 0)) ∧ k ≤ len
def RowOk (a : Option Addr) (len cap : Nat) (zs : List Int) (w : World) (b : Nat) : Prop := IsRow .i64 w a len cap zs ∧ (len = 0 ∨ ∀ c o, a = some ⟨c, o, none⟩ → c ≠ b)
theorem RowOk.bar {a : Option Addr} {len cap : Nat} {zs : List Int} {w w' : World} {b : Nat} (h : RowOk a len cap zs w b) (hb : Bar b w w') : RowOk a len cap zs w' b := by
  obtain ⟨⟨i1, i2, i3, i4, i5⟩, h2⟩ := h
  refine ⟨⟨i1, i2, i3, i4, ?_⟩, h2⟩
  rcases i5 with i5 | ⟨c, o, e, i5⟩
  · exact .inl i5
  · by_cases h0 : len = 0
    · exact .inl h0
    · exact .inr ⟨c, o, e, fun i hi => hb.cell ((h2.resolve_left h0) c o e) (i5 i hi)⟩
def TapeAt (w : World) (b : Nat) : Prop := ∃ (a : Option Addr) (len cap : Nat) (zs : List Int), TapeK a len cap w b ∧ RowOk a len cap zs w b
theorem TapeK.lt {a : Option Addr} {len cap : Nat} {w : World} {b : Nat} (h : TapeK a len cap w b) : b < w.heap.size := by
  obtain ⟨k, h1, _⟩ := h
  exact blk_lt h1
theorem TapeK.ext {a : Option Addr} {len cap : Nat} {w w' : World} {b : Nat} (h : TapeK a len cap w b) (hb : Below w.heap.size w w') : TapeK a len cap w' b := by
  obtain ⟨k, h1, h2⟩ := h
  exact ⟨k, blk_ext hb h1, h2⟩
theorem TapeAt.lt {w : World} {b : Nat} (h : TapeAt w b) : b < w.heap.size := by
  obtain ⟨a, len, cap, zs, h1, _⟩ := h
  exact h1.lt
theorem TapeAt.ext {w w' : World} {b : Nat} (h : TapeAt w b) (hb : Below w.heap.size w w') : TapeAt w' b := by
  obtain ⟨a, len, cap, zs, h1, h2⟩ := h
  exact ⟨a, len, cap, zs, h1.ext hb, h2.bar (Bar.of hb)⟩
theorem TapeAt.keep {w w' : World} {b c : Nat} (h : TapeAt w b) (hb : Kept c w w') (hc : c ≠ b) (hn : ∀ (a : Option Addr) (len cap k : Nat), w.heap[b]? = some (.cells #[.slice a len cap, .int .i64 k] 82 (0, 0)) → len = 0 ∨ ∀ o, a ≠ some ⟨c, o, none⟩) : TapeAt w' b := by
  obtain ⟨a, len, cap, zs, ⟨k, h1, h3⟩, ⟨i1, i2, i3, i4, i5⟩, h2⟩ := h
  have h4 := hn _ _ _ _ h1
  refine ⟨a, len, cap, zs, ⟨k, (hb.block b (Ne.symm hc)).trans h1, h3⟩, ⟨i1, i2, i3, i4, ?_⟩, h2⟩
  rcases i5 with i5 | ⟨d, o, e, i5⟩
  · exact .inl i5
  · rcases h4 with h4 | h4
    · exact .inl h4
    · refine .inr ⟨d, o, e, fun i hi => hb.cell (fun ed => h4 o (by rw [e, ed])) (i5 i hi)⟩

end Go.Proofs.YtcjpemphdgndkaaGreat

/- A key read off a tape. -/
namespace Go.Proofs.YtcjpemphdgndkaaGreat
open Go.RowKit
set_option linter.unusedVariables false

end Go.Proofs.YtcjpemphdgndkaaGreat

/- A stamp, a card read off a tape. -/
namespace Go.Proofs.YtcjpemphdgndkaaGreat
open Go.RowKit
set_option linter.unusedVariables false

/-- a card that a tape gives -/
def CdOk (c : Cd) : Prop := c.a.size ≤ 4 ∧ c.i.size ≤ 4 ∧ 1 ≤ c.s ∧ c.s ≤ 2 ∧ 0 ≤ c.o ∧ c.o ≤ 3 ∧ 1 ≤ c.l ∧ c.l ≤ 60 ∧ 0 ≤ c.t ∧ c.t < 40 ∧ 0 ≤ c.k ∧ c.k < 6 ∧ 0 ≤ c.n ∧ c.n < 9

end Go.Proofs.YtcjpemphdgndkaaGreat

/- A tape gives rows of cards; rows of cards are compared. -/
namespace Go.Proofs.YtcjpemphdgndkaaGreat
open Go.RowKit
set_option linter.unusedVariables false

theorem Bar.grown {b : Nat} {u w w' : World} {row : Option Nat} (h : Bar b u w) (hg : w.grownBy w' row) (hr : ∀ q, row = some q → u.heap.size ≤ q) : Bar b u w' :=
  ⟨hg.os.trans h.os, hg.tape.trans h.tape, hg.output.trans h.output, Nat.le_trans h.size hg.size, fun k hk hl => (hg.block k (Nat.lt_of_lt_of_le hl h.size) (fun e => by have := hr k e.symm; omega)).trans (h.block k hk hl)⟩
theorem TapeK.ne {a : Option Addr} {len cap : Nat} {w : World} {b : Nat} (h : TapeK a len cap w b) {k : Nat} {cur : Array Value} {T : TypeId} (hT : T ≠ 82) (hc : w.heap[k]? = some (.cells cur T (0, 0))) : k ≠ b := by
  intro e
  subst e
  obtain ⟨q, h1, -⟩ := h
  rw [hc] at h1
  simp only [Option.some.injEq, Obj.cells.injEq] at h1
  exact hT h1.2.1
theorem TapeK.own {a : Option Addr} {len cap : Nat} {w w' : World} {b base size m : Nat} {T : TypeId} {v : Value} {xs : List Value} (h : TapeK a len cap w b) (hr : Bar b w w') (hT : T ≠ 82) (ho : w.ownsRow base T size v m xs) : w'.ownsRow base T size v m xs :=
  own_blocks ho (fun k cur hc => hr.block k (h.ne hT hc) (blk_lt hc))

end Go.Proofs.YtcjpemphdgndkaaGreat
