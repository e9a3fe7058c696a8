/- The document's queue as rows of cards. -/
import Derived.Test.YtmpkkkcoiljhpaaQueueV
namespace Go.Proofs.Ytmpkkkcoiljhpaa
open Go.RowKit
set_option linter.unusedVariables false

/-- the document's queue of these rows -/
def RQ (w : World) (rb lb np : Nat) (rs : List (Int × List Cd)) (lost : Int) : Prop := np ≤ 6 ∧ rs.length = 6 ∧ (∀ x ∈ rs, x.2.length ≤ 16) ∧ ∃ (pv : Value) (X : Array Value), w.heap[rb]? = some (.cells #[pv, .slice (some ⟨lb, 0, none⟩) np np, .int .i64 lost] 51 (0, 0)) ∧ w.ownsRow 0 3 1 pv np (ic (pk (np, rs))) ∧ w.heap[lb]? = some (.cells X 25 (0, 0)) ∧ ∀ (i : Nat) (p : Int) (cs : List Cd), i < np → rs[i]? = some (p, cs) → ∃ v, X[i]? = some v ∧ SlC w v cs
theorem newM_nil (ps : List Int) : ∀ r ∈ (newM ps).2, r.2 = [] := by
  unfold newM
  suffices h : ∀ (l : List Int) (s : Nat × List (Int × List Cd)), (∀ r ∈ s.2, r.2 = []) → ∀ r ∈ (l.foldl newS s).2, r.2 = [] from h ps _ (fun r hr => by rw [List.eq_of_mem_replicate hr])
  intro l
  induction l with
  | nil => intro s h; exact h
  | cons x xs ih =>
    intro s h
    refine ih _ ?_
    unfold newS
    split
    · intro r hr
      rcases List.mem_or_eq_of_mem_set hr with hr | rfl
      · exact h r hr
      · rfl
    · exact h
section
variable {w w' : World} {rb lb np : Nat} {rs : List (Int × List Cd)} {lost : Int}
theorem RQ.lt (h : RQ w rb lb np rs lost) : rb < w.heap.size := by
  obtain ⟨-, -, -, pv, X, h1, -⟩ := h
  exact blk_lt h1
theorem RQ.ext (h : RQ w rb lb np rs lost) (hb : Below w.heap.size w w') : RQ w' rb lb np rs lost := by
  obtain ⟨h1, h2, h3, pv, X, h4, h5, h6, h7⟩ := h
  refine ⟨h1, h2, h3, pv, X, blk_ext hb h4, ownsRow_ext h5 hb, blk_ext hb h6, fun i p cs hi hr => ?_⟩
  obtain ⟨v, h8, h9⟩ := h7 i p cs hi hr
  exact ⟨v, h8, h9.ext hb⟩
end
theorem rqNew (n c : Nat) (a : Option Addr) (ps : List Int) (w : World) (ha : NAt w a ps) (hl : ps.length = n) (hc : n ≤ c) (hm : c ≤ maxLen) :
    Calls Try.prog 18 #[.slice a n c] w fun e w' => e = .returned (.pointer (some ⟨w.heap.size, 0, none⟩)) ∧ (∃ lb, w.heap.size ≤ lb ∧ RQ w' w.heap.size lb (newM ps).1 (newM ps).2 0) ∧ Below w.heap.size w w' := by
  refine (newQueue16 n c a ps w ha hl hc hm).mono ?_
  rintro e w' ⟨he, ⟨pv, lb, X, h0, h1, h2, h3, h4⟩, hb⟩
  refine ⟨he, ⟨lb, h0, (newM_len ps).1, (newM_len ps).2, fun x hx => by rw [newM_nil ps x hx]; simp, pv, X, h1, ownsRow_base h2 (Nat.zero_le _), h3, fun i p cs hi hr => ?_⟩, hb⟩
  have hcs := newM_nil ps _ (List.mem_of_getElem? hr)
  simp only at hcs
  subst hcs
  exact ⟨_, h4 i hi, none, 0, rfl, Nat.le_refl _, by unfold maxLen; omega, .inl rfl, .inl ⟨rfl, rfl⟩⟩
theorem rqAt (rb lb np : Nat) (rs : List (Int × List Cd)) (lost k : Int) (w : World) (h : RQ w rb lb np rs lost) :
    Calls Try.prog 26 #[.pointer (some ⟨rb, 0, none⟩), .int .i64 k] w fun e w' => e = .returned (.int .i64 (ixQ k 0 (rs.take np))) ∧ Below w.heap.size w w' := by
  obtain ⟨h1, h2, h3, pv, X, h4, h5, h6, h7⟩ := h
  obtain ⟨a, c, rfl, e1, e2, e3, e4⟩ := own_ints h5
  refine (refAt16 rb np c a _ _ (pk (np, rs)) k w h4 e4 e1.symm e2 h1).mono ?_
  rintro e w' ⟨rfl, hb⟩
  exact ⟨by rw [show pk (np, rs) = (rs.take np).map (·.1) from rfl, ixI_map], hb⟩

set_option maxRecDepth 100000 in
set_option maxHeartbeats 1000000 in
theorem rqTake_no (rb lb np : Nat) (rs : List (Int × List Cd)) (lost k : Int) (w : World) (h : RQ w rb lb np rs lost) (hix : ixQ k 0 (rs.take np) = -1) :
    Calls Try.prog 21 #[.pointer (some ⟨rb, 0, none⟩), .int .i64 k] w fun e w' => e = .returned (.slice none 0 0) ∧ RQ w' rb lb np rs lost ∧ Below w.heap.size w w' := by
  have HR := Lib.hid h
  have HIX := Lib.hid hix
  clear h hix
  go_enter Try.func21, Try.ntmps21
  go_wp2_with fail
  refine (rqAt rb lb np rs lost k _ HR.out).mono ?_
  rintro e w1 ⟨rfl, hb⟩
  rw [HIX.out]
  have HR1 := Lib.hid (HR.out.ext hb)
  go_wp2
  go_ret
  exact ⟨rfl, HR1.out, hb⟩

end Go.Proofs.Ytmpkkkcoiljhpaa
