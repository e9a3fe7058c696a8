/- Rows of cards: read, copied. -/
import Derived.Test.YtmgdhgaodjkifaaCardRow
import Derived.Test.YtmgdhgaodjkifaaRawCards
import Derived.Test.YtmgdhgaodjkifaaBytes
import Derived.Test.YtmgdhgaodjkifaaRim
import Derived.Lib.SliceRun
import Derived.Lib.MinMax
namespace Go.Proofs.Ytmgdhgaodjkifaa
open Go.RowKit
set_option linter.unusedVariables false

/-- a slice of cards that may be read -/
def SlC (w : World) (v : Value) (cs : List Cd) : Prop := ∃ a c, v = .slice a cs.length c ∧ cs.length ≤ c ∧ c ≤ maxLen ∧ CAt w a cs ∧ ((a = none ∧ c = 0) ∨ ∃ b o, a = some ⟨b, o, none⟩)
theorem SlC.ext {w w' : World} {v : Value} {cs : List Cd} (h : SlC w v cs) (hb : Below w.heap.size w w') : SlC w' v cs := by
  obtain ⟨a, c, h1, h2, h3, h4, h5⟩ := h
  exact ⟨a, c, h1, h2, h3, h4.ext hb, h5⟩
theorem OwnC.sl {base : Nat} {w : World} {v : Value} {ls : List Cd} (h : OwnC base w v ls) : SlC w v ls := by
  obtain ⟨a, c, h1, h2, h3, h4, h5, h6⟩ := h.read
  refine ⟨a, c, h1, h2, h3, h4, ?_⟩
  rcases h6 with ⟨e1, e2, _⟩ | ⟨g, e⟩
  · exact .inl ⟨e1, e2⟩
  · exact .inr ⟨g, 0, e⟩
/-- have the cards one key? -/
def kq (x y : Cd) : Bool := decide (x.a = y.a) && decide (x.i = y.i)
theorem kq_yes {x y : Cd} (h : x.a = y.a) (h1 : x.i = y.i) : kq x y = true := by simp [kq, h, h1]
theorem kq_no {x y : Cd} (h : x.a ≠ y.a ∨ x.i ≠ y.i) : kq x y = false := by
  simp [kq]
  intro e
  rcases h with h | h
  · exact absurd e h
  · exact h
set_option maxRecDepth 100000 in
set_option maxHeartbeats 1000000 in
theorem cloneC (a : Option Addr) (n c : Nat) (ls : List Cd) (w : World) (h : CAt w a ls) (hl : ls.length = n) (hn : n ≤ 1000) (hf : (a = none ∧ c = 0) ∨ ∃ b o, a = some ⟨b, o, none⟩) :
    Calls Try.prog 36 #[.slice a n c] w fun e w' => ∃ v', e = .returned v' ∧ OwnC w.heap.size w' v' ls ∧ Below w.heap.size w w' := by
  obtain ⟨i0, hi, hz0, hz1, hz2⟩ := info_parts' info_card
  rcases hf with ⟨rfl, rfl⟩ | ⟨b, o, rfl⟩
  · have h0 : ls = [] := by
      rcases h with h | ⟨b, o, e, _⟩
      · exact h
      · cases e
    subst h0
    have hn0 : n = 0 := by simpa using hl.symm
    subst hn0
    have hq := (fun w : World => Lib.run_eql_slice_nil (P := Try.prog) w 27 36 none 0 0 0 0 Try.underlying27)
    clear h hl
    go_enter Try.func36, Try.ntmps36
    go_wp2
    go_ret
    exact ⟨_, rfl, OwnR.nil _ _, Below.refl _ _⟩
  · have HN := Lib.hid hl
    have hq := (fun w : World => Lib.run_eql_slice_nil (P := Try.prog) w 27 36 (some ⟨b, o, none⟩) n c 0 0 Try.underlying27)
    have O0 := (OwnR.made (enc := cc) (k := 9) (T := 36) w.heap.size w (Nat.le_refl _))
    have B0 : Below w.heap.size w (w.alloc (.cells #[] 36)) := (Below.refl _ _).alloc (Nat.le_refl _) _
    have hcells := Lib.hid (show ∀ j u, (flat cc ls)[j]? = some u → (w.alloc (.cells #[] 36)).cell? ((⟨b, o, none⟩ : Addr).add j) = some u from fun j u hj => by
      rw [add_off]
      rcases h with h | ⟨b', o', e, _, h⟩
      · rw [h] at hj; simp [flat] at hj
      · simp at e
        obtain ⟨rfl, rfl⟩ := e
        exact ext_cell B0 (h j u hj))
    clear h hl
    go_enter Try.func36, Try.ntmps36
    go_wp2_with (at_builtin; refine wpList_append_own _ rfl _ _ 27 rfl (w.heap.size) 36 i0 Cd.zero.v 9 88 Try.underlying27 hi hz0 hz1 hz2 rfl (by decide) (.slice (some ⟨w.heap.size, 0, none⟩) 0 0) 0 (flat cc []) rfl O0 ⟨b, o, none⟩ n c (flat cc ls) rfl ?c0 ?c1 ?c2 ?c3 ?c4 ?c5 ?_)
    case c0 => rw [flat_len cc_len, HN.out]
    case c1 => exact hcells.out
    case c2 => exact flat_one cc_one ls
    case c3 => unfold maxLen; omega
    case c4 => omega
    case c5 => exact B0.size
    intro v' w1 ho hg _
    have B1 := B0.grown hg B0.size (fun q hq => own_ge O0 hq)
    have ho' := Lib.hid (show OwnC w.heap.size w1 v' ls by unfold OwnC OwnR; rw [HN.out]; simpa [flat_nil] using ho)
    clear ho hg O0 B0 hq
    go_wp2
    go_ret
    exact ⟨_, rfl, ho'.out, B1⟩

theorem drop_at {α : Type} {l : List α} {i : Nat} {x : α} (h : l[i]? = some x) : l.drop i = x :: l.drop (i + 1) := by
  have hlt : i < l.length := by
    rcases Nat.lt_or_ge i l.length with h' | h'
    · exact h'
    · rw [List.getElem?_eq_none h'] at h; cases h
  rw [List.drop_eq_getElem_cons hlt]
  rw [List.getElem?_eq_getElem hlt] at h
  cases h
  rfl
theorem Rim.grown' {b : Nat} {u w w' : World} {row : Option Nat} (h : Rim b u w) (hg : w.grownBy w' row) (hr : ∀ q, row = some q → u.heap.size ≤ q) : Rim b u w' :=
  ⟨hg.os.trans h.os, hg.tape.trans h.tape, hg.output.trans h.output, Nat.le_trans h.size hg.size, fun k hk hl => (hg.block k (Nat.lt_of_lt_of_le hl h.size) (fun e => by have := hr k e.symm; omega)).trans (h.block k hk hl)⟩
theorem cat_cells {w : World} {b o : Nat} {cs : List Cd} (h : CAt w (some ⟨b, o, none⟩) cs) (j : Nat) (u : Value) (hj : (flat cc cs)[j]? = some u) : w.cell? ⟨b, o + j, none⟩ = some u := by
  rcases h with h | ⟨b', o', e, _, h⟩
  · rw [h] at hj; simp [flat] at hj
  · simp at e
    obtain ⟨rfl, rfl⟩ := e
    exact h j u hj
theorem run_append_nil (w : World) (ty : TypeId) (a : Option Addr) (n c : Nat) (h : n ≤ c) : (Builtin.append_ #[27, 27] ty #[.slice a n c, .slice none 0 0]).run Try.prog w = .ok (.slice a n c) w := by
  obtain ⟨i0, hi, hz0, hz1, hz2⟩ := info_parts' info_card
  cases a <;> simp [Builtin.append_, run_underlying Try.underlying27, sizeOf, typeInfo, hi, Builtin.lenOf, h, Builtin.firstCells, storeCells]


end Go.Proofs.Ytmgdhgaodjkifaa
