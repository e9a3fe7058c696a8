/- Layer 3's laws, walked: FramePieces. -/
import Derived.Test.YtiblnonmlekjgaaFrameY
import Derived.Lib.MinMax
import Derived.Deep.DeepCutAuto
namespace Go.Proofs.Ytiblnonmlekjgaa
open Go.RowKit
set_option linter.unusedVariables false

theorem Runs.shift {row : List Int} {acc : List (List Int)} {o : Out} (pre : List (List Int)) (h : Runs row acc o) : Runs row (pre ++ acc) (pre ++ o.1, o.2) := by
  induction h with
  | bad h => exact .bad h
  | stop h => exact .stop h
  | step h h1 _ ih => exact .step h h1 (by rw [List.append_assoc]; exact ih)
theorem Runs.ex : ∀ (n : Nat) (row : List Int) (acc : List (List Int)), row.length ≤ n → ∃ o, Runs row acc o := by
  intro n
  induction n with
  | zero =>
    intro row acc h
    exact ⟨_, .stop (fs_short (by omega))⟩
  | succ n ih =>
    intro row acc h
    by_cases h2 : (fs row).2 = 0
    · by_cases h1 : (fs row).1 = 0
      · exact ⟨_, .stop (Prod.ext h1 h2)⟩
      · obtain ⟨R, hR, _, hl⟩ := fs_step h2 h1
        obtain ⟨o, ho⟩ := ih (row.drop (fs row).1) (acc ++ [inn (row.take (fs row).1)]) (by rw [List.length_drop]; omega)
        exact ⟨o, .step h2 h1 ho⟩
    · exact ⟨_, .bad h2⟩
theorem Runs.stopped {row : List Int} {acc : List (List Int)} {o : Out} (h : Runs row acc o) (he : o.2.2 = 0) : fs o.2.1 = (0, 0) := by
  induction h with
  | bad h => exact absurd he h
  | stop h => exact h
  | step h h1 _ ih => exact ih he
theorem Runs.left {row : List Int} {acc : List (List Int)} {o : Out} (h : Runs row acc o) : o.2.1.length ≤ row.length := by
  induction h with
  | bad h => exact Nat.zero_le _
  | stop h => exact Nat.le_refl _
  | step h h1 _ ih => rw [List.length_drop] at ih; omega
theorem Runs.left_wb {row : List Int} {acc : List (List Int)} {o : Out} (h : Runs row acc o) (hw : Wb row) : Wb o.2.1 := by
  induction h with
  | bad h => exact Wb.nil
  | stop h => exact hw
  | step h h1 _ ih => exact ih (hw.drop _)
theorem Runs.le {row : List Int} {acc : List (List Int)} {o : Out} (h : Runs row acc o) : acc.length ≤ o.1.length := by
  induction h with
  | bad h => exact Nat.le_refl _
  | stop h => exact Nat.le_refl _
  | step h h1 _ ih => simp at ih; omega
/-- a piece of a row that is right -/
theorem piece_ok {l2 rest l3 : List Int} {K : Nat} {acc all fsx : List (List Int)} {why3 : Int} (hRI : Runs (l2 ++ rest) acc (all, [], 0)) (hr : Runs (l2 ++ rest.take K) [] (fsx, l3, why3)) :
    why3 = 0 ∧ Runs (l3 ++ rest.drop K) (acc ++ fsx) (all, [], 0) ∧ fs l3 = (0, 0) := by
  have h1 := hr.shift acc
  rw [List.append_nil] at h1
  have e : l2 ++ rest = (l2 ++ rest.take K) ++ rest.drop K := by rw [List.append_assoc, List.take_append_drop]
  rw [e] at hRI
  have h0 : why3 = 0 := by
    apply Classical.byContradiction
    intro hne
    have h2 := (h1.err (ys := rest.drop K) hne).one hRI
    simp only [Prod.mk.injEq] at h2
    exact hne h2.2.2
  subst h0
  obtain ⟨o, ho⟩ := Runs.ex _ (l3 ++ rest.drop K) (acc ++ fsx) (Nat.le_refl _)
  have h2 := (Runs.two (e := 0) h1 rfl ho).one hRI
  subst h2
  exact ⟨rfl, ho, hr.stopped rfl⟩

theorem VAt.one {lo : Nat} {g : Option Nat} {w : World} {vals : List Value} {fx : List (List Int)} (h : VAt lo g w vals fx) : ∀ u ∈ vals, u.oneCell' = true := by
  intro u hu
  obtain ⟨i, hi, rfl⟩ := List.mem_iff_getElem.1 hu
  obtain ⟨a, c, h1, _⟩ := h.2 i (fx[i]'(by rw [← h.1]; exact hi)) (List.getElem?_eq_getElem _)
  rw [List.getElem?_eq_getElem hi] at h1
  rw [Option.some.inj h1]
  rfl
theorem VAt.lo {lo lo' : Nat} {g : Option Nat} {w : World} {vals : List Value} {fx : List (List Int)} (h : VAt lo g w vals fx) (hl : lo' ≤ lo) : VAt lo' g w vals fx :=
  h.keep (fun _ _ _ _ _ => rfl) (fun _ _ _ h => h) hl
theorem VAt.app {lo : Nat} {g : Option Nat} {w : World} {v1 v2 : List Value} {f1 f2 : List (List Int)} (h : VAt lo g w v1 f1) (k : VAt lo g w v2 f2) : VAt lo g w (v1 ++ v2) (f1 ++ f2) := by
  refine ⟨by simp [h.1, k.1], fun i f hi => ?_⟩
  by_cases hlt : i < f1.length
  · rw [List.getElem?_append_left hlt] at hi
    obtain ⟨a, c, h1, h2⟩ := h.2 i f hi
    exact ⟨a, c, by rw [List.getElem?_append_left (by rw [h.1]; exact hlt)]; exact h1, h2⟩
  · rw [List.getElem?_append_right (by omega)] at hi
    obtain ⟨a, c, h1, h2⟩ := k.2 _ f hi
    exact ⟨a, c, by rw [List.getElem?_append_right (by rw [h.1]; omega), h.1]; exact h1, h2⟩

section
variable {P : Program} (w : World)
/-- append of a row of the call's own to another one, one cell each -/
theorem wpList_append_rows {ops : Array Oper} {rest : List Oper} {o : Oper} {a : Act} {Q : Exit → Act → World → Prop} (hgd : o.guard = none) (s x : Operand) (t : TypeId)
    (ho : o.op = .call { callee := .builtin .append, args := #[s, x], argTypes := #[t, t] })
    (base : Nat) (e : TypeId) (i : TypeInfo) (z : Value) (nb : Nat) (ht : P.underlying t = some (.slice e)) (hi : P.info? e = some i) (hz : i.zero = some z) (hsize : i.size = 1) (hby : i.bytes = nb) (hzs : z.cells.size = 1)
    (v : Value) (n : Nat) (xs : List Value) (hs : a.eval s = v) (hown : w.ownsRow base e 1 v n xs)
    (base' : Nat) (A : Option Addr) (m c : Nat) (ys : List Value) (hx : a.eval x = .slice A m c) (hr : w.ownsRow base' e 1 (.slice A m c) m ys) (h1 : ∀ u ∈ ys, u.oneCell' = true)
    (h63 : n + m ≤ maxLen) (hbytes : (n + m) * nb ≤ 140737488355328) (hbase : base ≤ w.heap.size)
    (h : ∀ v' w', w'.ownsRow base e 1 v' (n + m) (xs ++ ys) → w.grownBy w' v.ownBlock → (v'.ownBlock = v.ownBlock ∨ v'.ownBlock = some w.heap.size) → wpList P ops Q rest (a.put o.dst v') w') : wpList P ops Q (o :: rest) a w :=
  wpList_plain hgd fun K hK => by
    have key : ∃ v' w', (Builtin.append_ #[t, t] o.type #[v, .slice A m c]).run P w = .ok v' w' ∧ w'.ownsRow base e 1 v' (n + m) (xs ++ ys) ∧ w.grownBy w' v.ownBlock ∧ (v'.ownBlock = v.ownBlock ∨ v'.ownBlock = some w.heap.size) := by
      rcases hr.2 with ⟨e1, e2⟩ | ⟨g, cap', cur, e1, _, hh, _⟩
      · simp at e1
        obtain ⟨rfl, rfl, rfl⟩ := e1
        have hy : ys = [] := List.eq_nil_of_length_eq_zero (by have := hr.1; omega)
        subst hy
        refine ⟨v, w, ?_, by simpa using hown, World.grownBy.refl w _, .inl rfl⟩
        rcases hown.2 with ⟨rfl, rfl⟩ | ⟨g, cap, cur, rfl, _, _, hnc, _⟩
        · simp [Builtin.append_, run_underlying ht, sizeOf, typeInfo, hi, Builtin.lenOf, Builtin.firstCells]
        · simp [Builtin.append_, run_underlying ht, sizeOf, typeInfo, hi, Builtin.lenOf, Builtin.firstCells, hnc, storeCells]
      · simp at e1
        obtain ⟨rfl, rfl⟩ := e1
        obtain ⟨v', w', hrun, h2, h3, -, h5⟩ := run_append_own_at (P := P) w base t o.type e i z 1 nb ht hi hz hsize hby hzs (by decide) v n xs hown ⟨g, 0, none⟩ m c ys (by have := hr.1; omega) (hr.cells (g := g) rfl) h1 h63 hbytes hbase
        exact ⟨v', w', hrun, h2, h3, h5⟩
    obtain ⟨v', w', hrun, h2, h3, h4⟩ := key
    unfold Oper.wp execOp
    simp only [ho, resolve, invoke, builtin, Sem.run_bind, Sem.run_pure, Result.andThen_ok, List.map_toArray, List.map_cons, List.map_nil, hs, hx, hrun]
    exact hK _ _ (h v' w' h2 h3 h4)
end

end Go.Proofs.Ytiblnonmlekjgaa
