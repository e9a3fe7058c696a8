/- Letters as rows of cells. -/
import Derived.Test.YtkkmnodhmmdllaaRim
import Derived.Laws.AppendOwn
import Derived.Lib.SliceRun
namespace Go.Proofs.Ytkkmnodhmmdllaa
open Go.RowKit
set_option linter.unusedVariables false

/-- a letter as it lies: from, to, the slice of its bytes -/
structure Lt where
  f : Int
  t : Int
  a : Option Addr
  n : Nat
  c : Nat
def lc (x : Lt) : List Value := [.int .i64 x.f, .int .i64 x.t, .slice x.a x.n x.c]
def lf (ls : List Lt) : List Value := ls.flatMap lc
theorem lf_nil : lf [] = [] := rfl
theorem lf_cons (x : Lt) (ls : List Lt) : lf (x :: ls) = lc x ++ lf ls := by simp [lf]
theorem lf_app (xs ys : List Lt) : lf (xs ++ ys) = lf xs ++ lf ys := by simp [lf]
theorem lf_snoc (xs : List Lt) (x : Lt) : lf (xs ++ [x]) = lf xs ++ [.int .i64 x.f, .int .i64 x.t, .slice x.a x.n x.c] := by simp [lf, lc]
theorem lf_len (ls : List Lt) : (lf ls).length = ls.length * 3 := by
  induction ls with
  | nil => rfl
  | cons x xs ih => rw [lf_cons, List.length_append, ih]; simp [lc]; omega
theorem lf_take (ls : List Lt) (k : Nat) : (lf ls).take (k * 3) = lf (ls.take k) := by
  induction ls generalizing k with
  | nil => simp [lf]
  | cons x xs ih =>
    cases k with
    | zero => simp [lf]
    | succ k =>
      rw [lf_cons, List.take_succ_cons, lf_cons, ← ih k, show (k + 1) * 3 = 3 + k * 3 from by omega]
      simp [lc]
      rw [show 3 + k * 3 = k * 3 + 1 + 1 + 1 from by omega]
      simp
theorem lf_drop (ls : List Lt) (k : Nat) : (lf ls).drop (k * 3) = lf (ls.drop k) := by
  induction ls generalizing k with
  | nil => simp [lf]
  | cons x xs ih =>
    cases k with
    | zero => simp [lf]
    | succ k =>
      rw [lf_cons, List.drop_succ_cons, ← ih k, show (k + 1) * 3 = k * 3 + 1 + 1 + 1 from by omega]
      simp [lc]
theorem lf_at (ls : List Lt) (i : Nat) (x : Lt) (hi : ls[i]? = some x) : (lf ls)[i * 3]? = some (.int .i64 x.f) ∧ (lf ls)[i * 3 + 1]? = some (.int .i64 x.t) ∧ (lf ls)[i * 3 + 2]? = some (.slice x.a x.n x.c) := by
  have h := lf_drop ls i
  have hd : ls.drop i = x :: ls.drop (i + 1) := by
    have hlt : i < ls.length := by
      rcases Nat.lt_or_ge i ls.length with h | h
      · exact h
      · rw [List.getElem?_eq_none h] at hi; cases hi
    rw [List.drop_eq_getElem_cons hlt]
    rw [List.getElem?_eq_getElem hlt] at hi
    cases hi
    rfl
  rw [hd, lf_cons] at h
  have g : ∀ q, (lf ls)[i * 3 + q]? = (lc x ++ lf (ls.drop (i + 1)))[q]? := fun q => by rw [← h, List.getElem?_drop]
  exact ⟨g 0, g 1, g 2⟩
theorem lf_one (ls : List Lt) : ∀ u ∈ lf ls, u.oneCell' = true := by
  intro u hu
  simp only [lf, List.mem_flatMap, lc, List.mem_cons, List.not_mem_nil, or_false] at hu
  obtain ⟨k, _, rfl | rfl | rfl⟩ := hu <;> rfl

theorem info_letter : (Try.prog.info? 34).map (fun i => (i.zero, i.size, i.bytes)) = some (some (.agg #[.int .i64 0, .int .i64 0, .slice none 0 0]), 3, 40) := by kernel_rfl

/-- a row of letters in blocks of its own -/
def OwnL (base : Nat) (w : World) (v : Value) (ls : List Lt) : Prop := w.ownsRow base 34 3 v ls.length (lf ls)
theorem OwnL.form {base : Nat} {w : World} {v : Value} {ls : List Lt} (h : OwnL base w v ls) : ∃ a c, v = .slice a ls.length c ∧ ls.length ≤ c ∧ c ≤ maxLen ∧ ((a = none ∧ c = 0 ∧ ls = []) ∨ ∃ g, a = some ⟨g, 0, none⟩ ∧ base ≤ g ∧ g < w.heap.size) := by
  rcases h.2 with ⟨rfl, h0⟩ | ⟨g, cap, cur, rfl, hg, hh, hnc, hcm, hcs, ht⟩
  · exact ⟨none, 0, by rw [h0], by omega, by simp [maxLen], .inl ⟨rfl, rfl, List.eq_nil_of_length_eq_zero h0⟩⟩
  · exact ⟨_, _, rfl, hnc, hcm, .inr ⟨g, rfl, hg, blk_lt hh⟩⟩
theorem OwnL.at {base : Nat} {w : World} {g n c i : Nat} {ls : List Lt} {x : Lt} (h : OwnL base w (.slice (some ⟨g, 0, none⟩) n c) ls) (hi : ls[i]? = some x) :
    w.cell? ⟨g, i * 3, none⟩ = some (.int .i64 x.f) ∧ w.cell? ⟨g, i * 3 + 1, none⟩ = some (.int .i64 x.t) ∧ w.cell? ⟨g, i * 3 + 2, none⟩ = some (.slice x.a x.n x.c) := by
  rcases h.2 with ⟨e, _⟩ | ⟨g', cap, cur, e, hg, hh, hnc, hcm, hcs, ht⟩
  · cases e
  · simp only [Value.slice.injEq, Option.some.injEq, Addr.mk.injEq] at e
    obtain ⟨⟨rfl, -⟩, rfl, rfl⟩ := e
    have rd : ∀ q u, (lf ls)[q]? = some u → w.cell? ⟨g, q, none⟩ = some u := fun q u hq => by
      rw [← ht] at hq
      have hq1 : q < ls.length * 3 := by
        rcases Nat.lt_or_ge q (ls.length * 3) with h | h
        · exact h
        · rw [List.getElem?_eq_none (by simp; omega)] at hq; cases hq
      rw [List.getElem?_take_of_lt hq1] at hq
      simp only [World.cell?, hh]
      simpa using hq
    obtain ⟨f1, f2, f3⟩ := lf_at ls i x hi
    exact ⟨rd _ _ f1, rd _ _ f2, rd _ _ f3⟩
theorem OwnL.ext {base : Nat} {w w' : World} {v : Value} {ls : List Lt} (h : OwnL base w v ls) (hb : Below w.heap.size w w') : OwnL base w' v ls := ownsRow_ext h hb
theorem OwnL.base {base base' : Nat} {w : World} {v : Value} {ls : List Lt} (h : OwnL base w v ls) (hb : base' ≤ base) : OwnL base' w v ls := ownsRow_base h hb
theorem OwnL.nil (base : Nat) (w : World) : OwnL base w (.slice none 0 0) [] := World.ownsRow_nil _ _ _ _

end Go.Proofs.Ytkkmnodhmmdllaa
