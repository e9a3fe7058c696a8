/- Rows of cards. -/
import Derived.Test.YtmgdhgaodjkifaaRowGen
import Derived.Test.YtmgdhgaodjkifaaCards
namespace Go.Proofs.Ytmgdhgaodjkifaa
open Go.RowKit
set_option linter.unusedVariables false

/-- a card's cells -/
def cc (c : Cd) : List Value := [.string c.a, .string c.i, .int .i64 c.s, .int .i64 c.o, .int .i64 c.l, .int .i64 c.t, .int .i64 c.k, .int .i64 c.n, .bool c.g]
theorem cc_len (c : Cd) : (cc c).length = 9 := rfl
theorem cc_one (c : Cd) : ∀ u ∈ cc c, u.oneCell' = true := by
  intro u hu
  simp only [cc, List.mem_cons, List.not_mem_nil, or_false] at hu
  rcases hu with rfl | rfl | rfl | rfl | rfl | rfl | rfl | rfl | rfl <;> rfl
theorem info_card : (Try.prog.info? 36).map (fun i => (i.zero, i.size, i.bytes)) = some (some Cd.zero.v, 9, 88) := by kernel_rfl
abbrev OwnC (base : Nat) (w : World) (v : Value) (ls : List Cd) : Prop := OwnR cc 9 36 base w v ls
theorem info_parts' {t : TypeId} {z : Value} {s b : Nat} (h : (Try.prog.info? t).map (fun i => (i.zero, i.size, i.bytes)) = some (some z, s, b)) : ∃ i, Try.prog.info? t = some i ∧ i.zero = some z ∧ i.size = s ∧ i.bytes = b := by
  cases e : Try.prog.info? t with
  | none => rw [e] at h; cases h
  | some i =>
    rw [e] at h
    simp only [Option.map_some, Option.some.injEq, Prod.mk.injEq] at h
    exact ⟨i, rfl, h.1, h.2.1, h.2.2⟩

/-- behind the address a the cards cs lie -/
def CAt (w : World) (a : Option Addr) (cs : List Cd) : Prop := cs = [] ∨ ∃ b o, a = some ⟨b, o, none⟩ ∧ (∃ cur, w.heap[b]? = some (.cells cur 36 (0, 0))) ∧ ∀ q u, (flat cc cs)[q]? = some u → w.cell? ⟨b, o + q, none⟩ = some u
theorem CAt.nil (w : World) (a : Option Addr) : CAt w a [] := .inl rfl
theorem CAt.keep {w w' : World} {a : Option Addr} {cs : List Cd} (h : CAt w a cs) (hk : ∀ (b : Nat) (cur : Array Value), w.heap[b]? = some (.cells cur 36 (0, 0)) → (∃ o, a = some ⟨b, o, none⟩) → w'.heap[b]? = w.heap[b]?) : CAt w' a cs := by
  rcases h with h | ⟨b, o, e, ⟨cur, hb⟩, h⟩
  · exact .inl h
  · have e1 := hk b cur hb ⟨o, e⟩
    exact .inr ⟨b, o, e, ⟨cur, e1.trans hb⟩, fun q u hq => (World.cell?_of_block (w := w) e1).trans (h q u hq)⟩
theorem CAt.ext {w w' : World} {a : Option Addr} {cs : List Cd} (h : CAt w a cs) (hb : Below w.heap.size w w') : CAt w' a cs :=
  h.keep fun b cur hc _ => hb.block b (blk_lt hc)
theorem CAt.drop {w : World} {b o : Nat} {cs : List Cd} (k : Nat) (h : CAt w (some ⟨b, o, none⟩) cs) : CAt w (some ⟨b, o + k * 9, none⟩) (cs.drop k) := by
  rcases h with h | ⟨b', o', e, hb, h⟩
  · left; simp [h]
  · simp at e
    obtain ⟨rfl, rfl⟩ := e
    refine .inr ⟨_, _, rfl, hb, fun q u hq => ?_⟩
    rw [← flat_drop cc_len, List.getElem?_drop] at hq
    rw [Nat.add_assoc]
    exact h _ _ hq
theorem CAt.take {w : World} {a : Option Addr} {cs : List Cd} (k : Nat) (h : CAt w a cs) : CAt w a (cs.take k) := by
  rcases h with h | ⟨b, o, e, hb, h⟩
  · left; simp [h]
  · refine .inr ⟨b, o, e, hb, fun q u hq => h q u ?_⟩
    rw [← flat_take cc_len] at hq
    rcases Nat.lt_or_ge q (k * 9) with h' | h'
    · rwa [List.getElem?_take_of_lt h'] at hq
    · rw [List.getElem?_eq_none (by simp; omega)] at hq; cases hq
theorem CAt.at {w : World} {b o i : Nat} {cs : List Cd} {x : Cd} (h : CAt w (some ⟨b, o, none⟩) cs) (hi : cs[i]? = some x) :
    w.cell? ⟨b, o + i * 9, none⟩ = some (.string x.a) ∧ w.cell? ⟨b, o + i * 9 + 1, none⟩ = some (.string x.i) ∧ w.cell? ⟨b, o + i * 9 + 2, none⟩ = some (.int .i64 x.s) ∧ w.cell? ⟨b, o + i * 9 + 3, none⟩ = some (.int .i64 x.o) ∧ w.cell? ⟨b, o + i * 9 + 4, none⟩ = some (.int .i64 x.l) ∧
    w.cell? ⟨b, o + i * 9 + 5, none⟩ = some (.int .i64 x.t) ∧ w.cell? ⟨b, o + i * 9 + 6, none⟩ = some (.int .i64 x.k) ∧ w.cell? ⟨b, o + i * 9 + 7, none⟩ = some (.int .i64 x.n) ∧ w.cell? ⟨b, o + i * 9 + 8, none⟩ = some (.bool x.g) := by
  rcases h with h | ⟨b', o', e, hb, h⟩
  · rw [h] at hi; simp at hi
  · simp at e
    obtain ⟨rfl, rfl⟩ := e
    have g : ∀ q u, q < 9 → (cc x)[q]? = some u → w.cell? ⟨b, o + (i * 9 + q), none⟩ = some u := fun q u hq hu => h _ _ ((flat_at cc_len cs i x hi q hq).trans hu)
    refine ⟨?_, ?_, ?_, ?_, ?_, ?_, ?_, ?_, ?_⟩
    · exact g 0 _ (by omega) rfl
    · have := g 1 _ (by omega) rfl; rwa [← Nat.add_assoc] at this
    · have := g 2 _ (by omega) rfl; rwa [← Nat.add_assoc] at this
    · have := g 3 _ (by omega) rfl; rwa [← Nat.add_assoc] at this
    · have := g 4 _ (by omega) rfl; rwa [← Nat.add_assoc] at this
    · have := g 5 _ (by omega) rfl; rwa [← Nat.add_assoc] at this
    · have := g 6 _ (by omega) rfl; rwa [← Nat.add_assoc] at this
    · have := g 7 _ (by omega) rfl; rwa [← Nat.add_assoc] at this
    · have := g 8 _ (by omega) rfl; rwa [← Nat.add_assoc] at this
/-- an own row, read -/
theorem OwnC.read {base : Nat} {w : World} {v : Value} {ls : List Cd} (h : OwnC base w v ls) : ∃ a c, v = .slice a ls.length c ∧ ls.length ≤ c ∧ c ≤ maxLen ∧ CAt w a ls ∧ (∀ b o, a = some ⟨b, o, none⟩ → base ≤ b ∧ b < w.heap.size ∧ o = 0) ∧ ((a = none ∧ c = 0 ∧ ls = []) ∨ ∃ g, a = some ⟨g, 0, none⟩) := by
  obtain ⟨a, c, rfl, h1, h2, h3⟩ := h.form
  rcases h3 with ⟨rfl, rfl, e⟩ | ⟨g, rfl, h4, h5⟩
  · exact ⟨none, 0, rfl, h1, h2, .inl e, fun b o e => (by cases e), .inl ⟨rfl, rfl, e⟩⟩
  · refine ⟨_, c, rfl, h1, h2, .inr ⟨g, 0, rfl, ?_, fun q u hq => by rw [Nat.zero_add]; exact own_rd cc_len h hq⟩, fun b o e => (by cases e; exact ⟨h4, h5, rfl⟩), .inr ⟨g, rfl⟩⟩
    rcases h.2 with ⟨e, _⟩ | ⟨g', cap, cur, e, hg, hh, _⟩
    · cases e
    · simp only [Value.slice.injEq, Option.some.injEq, Addr.mk.injEq] at e
      obtain ⟨⟨rfl, -⟩, -⟩ := e
      exact ⟨cur, hh⟩

end Go.Proofs.Ytmgdhgaodjkifaa
