/- Layer 7: 'play', walked: clocks go on as six numbers do. -/
import Derived.Test.YtjnkchilgdhlaaaClockS
namespace Go.Proofs.Ytjnkchilgdhlaaa
open Go.RowKit
set_option linter.unusedVariables false

/-- six numbers in block s -/
structure SJs (s : Nat) (xs : List Int) (w : World) : Prop where
  x : ∀ k, k < 6 → w.cell? ⟨s, k, none⟩ = some (.int .i64 (xs.getD k 0))
  f : ∀ k, k < 6 → w.frozen? ⟨s, k, none⟩ = false
theorem SJs.ext {s : Nat} {xs : List Int} {w w' : World} (h : SJs s xs w) (hb : Below w.heap.size w w') : SJs s xs w' :=
  ⟨fun k hk => ext_cell hb (h.x k hk), fun k hk => ext_frozen hb (h.x k hk) (h.f k hk)⟩
theorem SJs.kept {s b : Nat} {xs : List Int} {w w' : World} (h : SJs s xs w) (hk : Kept b w w') (hn : s ≠ b) : SJs s xs w' :=
  ⟨fun k hk' => hk.cell hn (h.x k hk'), fun k hk' => hk.frozen hn (h.f k hk')⟩
theorem SJs.set {s : Nat} {xs : List Int} {w : World} (h : SJs s xs w) (hl : 6 ≤ xs.length) {k : Nat} (hk : k < 6) (v : Int) : SJs s (xs.set k v) (w.setCell ⟨s, k, none⟩ (.int .i64 v)) := by
  refine ⟨?_, ?_⟩
  · intro j hj
    rw [getD_set (by omega)]
    by_cases e : j = k
    · subst e; rw [if_pos rfl]; exact World.cell?_setCell_same _ _ _ (h.x j hj)
    · rw [if_neg e, World.cell?_setCell_other _ _ _ _ (by simp)]; exact h.x j hj
  · intro j hj; rw [World.frozen?_setCell]; exact h.f j hj
theorem mxTo_take {xs : List Int} {n k : Nat} (h : k < n) : mxTo (xs.take n) k = mxTo xs k := by
  induction k with
  | zero => simp [mxTo, List.getD, h]
  | succ k ih => simp only [mxTo]; rw [ih (by omega), show (xs.take n).getD (k + 1) 0 = xs.getD (k + 1) 0 from by simp [List.getD, h]]
theorem mn_step (xs : List Int) (k : Nat) : mnTo xs (k + 1 - 1) = if xs.getD k 0 < mnTo xs (k - 1) then xs.getD k 0 else mnTo xs (k - 1) := by
  cases k with
  | zero => simp [mnTo]
  | succ k => simp [mnTo]
theorem mx_step (xs : List Int) (k : Nat) : mxTo xs (k + 1 - 1) = if mxTo xs (k - 1) < xs.getD k 0 then xs.getD k 0 else mxTo xs (k - 1) := by
  cases k with
  | zero => simp [mxTo]
  | succ k => simp [mxTo]
theorem mnTo_take {xs : List Int} {n k : Nat} (h : k < n) : mnTo (xs.take n) k = mnTo xs k := by
  induction k with
  | zero => simp [mnTo, List.getD, h]
  | succ k ih => simp only [mnTo]; rw [ih (by omega), show (xs.take n).getD (k + 1) 0 = xs.getD (k + 1) 0 from by simp [List.getD, h]]

set_option maxHeartbeats 1600000 in
theorem law7play_no (n : Int) (a1 : Option Addr) (len1 cap1 : Nat) (a2 : Option Addr) (len2 cap2 : Nat) (w : World) (hn : n < 1 ∨ 6 < n) (_ : len1 ≤ 9223372036854775807) (_ : len2 ≤ 9223372036854775807) :
    Calls Try.prog 7 #[.int .i64 n, .slice a1 len1 cap1, .slice a2 len2 cap2] w fun e w' => e = .returned (.bool true) ∧ Below w.heap.size w w' := by
  by_cases h1 : n < 1
  all_goals
    go_enter Try.func7, Try.ntmps7
    go_wp2_with fail
    refine (clockNew_no _ _ hn).mono ?_
    rintro e u1 ⟨rfl, rfl⟩
    have h6 : ¬ n < 1 → 6 < n := fun h => by omega
    go_wp2
    all_goals (try (go_rounds 1))
    all_goals (try go_ret)
    all_goals first | exact ⟨rfl, by go_grown⟩ | (exfalso; omega)

end Go.Proofs.Ytjnkchilgdhlaaa
