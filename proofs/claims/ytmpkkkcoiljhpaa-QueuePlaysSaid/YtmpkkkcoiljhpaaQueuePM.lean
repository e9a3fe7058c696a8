/- Both queues and a tape: what goes on from call to call. -/
import Derived.Test.YtmpkkkcoiljhpaaQueueAd
import Derived.Test.YtmpkkkcoiljhpaaQueueK
import Derived.Test.YtmpkkkcoiljhpaaTapeCards
import Derived.Test.YtmpkkkcoiljhpaaRawCards
namespace Go.Proofs.Ytmpkkkcoiljhpaa
open Go.RowKit
set_option linter.unusedVariables false

section
variable {W W' : World} {qb rb lb np : Nat} {rs : List (Int × List Cd)} {L : Int}
theorem QS.keepT (h : QS W qb np rs L) (hk : ∀ (k : Nat) (cur : Array Value) (T : TypeId), T = 57 ∨ T = 39 → W.heap[k]? = some (.cells cur T (0, 0)) → W'.heap[k]? = W.heap[k]?) : QS W' qb np rs L := by
  obtain ⟨h1, h2, h3, sl, h4, h5, h6⟩ := h
  refine ⟨h1, h2, h3, sl, (hk _ _ _ (.inl rfl) h4).trans h4, h5, fun i p cs hi => ?_⟩
  obtain ⟨v, h7, a, c, e1, e2, e3, e4, e5⟩ := h6 i p cs hi
  exact ⟨v, h7, a, c, e1, e2, e3, e4.keep (fun b cur hc _ => hk b cur _ (.inr rfl) hc), e5⟩
theorem RQ.keepT (h : RQ W rb lb np rs L) (hk : ∀ (k : Nat) (cur : Array Value) (T : TypeId), T = 51 ∨ T = 25 ∨ T = 3 ∨ T = 39 → W.heap[k]? = some (.cells cur T (0, 0)) → W'.heap[k]? = W.heap[k]?) : RQ W' rb lb np rs L := by
  obtain ⟨h1, h2, h3, pv, X, h4, h5, h6, h7⟩ := h
  refine ⟨h1, h2, h3, pv, X, (hk _ _ _ (.inl rfl) h4).trans h4, own_blocks h5 (fun b cur hc => hk b cur _ (.inr (.inr (.inl rfl))) hc), (hk _ _ _ (.inr (.inl rfl)) h6).trans h6, fun i p cs hi hr => ?_⟩
  obtain ⟨v, h8, a, c, e1, e2, e3, e4, e5⟩ := h7 i p cs hi hr
  exact ⟨v, h8, a, c, e1, e2, e3, e4.keep (fun b cur hc _ => hk b cur _ (.inr (.inr (.inr rfl))) hc), e5⟩
end
theorem layU_map (x : Cd) (n : Nat) (rs : List (Int × List Cd)) : (layU x n rs).map (·.1) = rs.map (·.1) := by
  unfold layU
  rw [List.map_append, List.map_map]
  show (rs.take n).map (·.1) ++ (rs.drop n).map (·.1) = _
  rw [← List.map_append, List.take_append_drop]
theorem addM_map (np : Nat) (l : List Cd) : ∀ s : List (Int × List Cd) × Nat, (addM np l s).1.map (·.1) = s.1.map (·.1) := by
  induction l with
  | nil => intro s; rfl
  | cons x xs ih =>
    intro s
    show (addM np xs (layU x np s.1, s.2 + ovU x np s.1)).1.map (·.1) = _
    rw [ih, layU_map]
theorem set_map (rs : List (Int × List Cd)) (i : Nat) (p : Int) (cs ds : List Cd) (h : rs[i]? = some (p, cs)) : (rs.set i (p, ds)).map (·.1) = rs.map (·.1) := by
  rw [List.map_set]
  apply List.ext_getElem?
  intro j
  by_cases e : i = j
  · subst e
    have hlt : i < rs.length := by
      rcases Nat.lt_or_ge i rs.length with h' | h'
      · exact h'
      · rw [List.getElem?_eq_none h'] at h; cases h
    rw [List.getElem?_set_self (by rw [List.length_map]; exact hlt), List.getElem?_map, h]; rfl
  · rw [List.getElem?_set_ne e]
theorem ixQ_none (k : Int) (l : List (Int × List Cd)) : ∀ q : Nat, ixQ k q l = -1 → k ∉ l.map (·.1) := by
  induction l with
  | nil => intro q _; simp
  | cons y ys ih =>
    intro q h
    unfold ixQ at h
    split at h
    · omega
    · rename_i hn
      simp only [List.map_cons, List.mem_cons, not_or]
      exact ⟨fun e => hn e.symm, ih (q + 1) h⟩
theorem newM_nodup (ps : List Int) : (pk (newM ps)).Nodup := by
  have key : ∀ (l : List Int) (s : Nat × List (Int × List Cd)), s.2.length = 6 → (pk s).Nodup → (pk (l.foldl newS s)).Nodup := by
    intro l
    induction l with
    | nil => intro s _ h; exact h
    | cons x xs ih =>
      intro s h6 h
      by_cases hc : s.1 < 6 ∧ ixQ x 0 (s.2.take s.1) = -1
      · refine ih _ ?_ ?_
        · unfold newS; rw [if_pos hc]; simpa using h6
        · rw [pk_new s x hc.1 h6 hc.2, List.nodup_append]
          refine ⟨h, by simp, fun a ha b hb => ?_⟩
          simp at hb
          subst hb
          intro e
          subst e
          exact ixQ_none _ _ _ hc.2 ha
      · have e : newS s x = s := by unfold newS; rw [if_neg hc]
        simp only [List.foldl_cons, e]
        exact ih s h6 h
  exact key ps _ (by simp) (by simp [pk])
/-- how many wait for peer p, of the last row that is its -/
def cntL (p : Int) (n0 : Nat) (l : List (Int × List Cd)) : Nat := l.foldl (fun n r => if r.1 = p then r.2.length else n) n0
theorem cntL_snoc (p : Int) (n0 : Nat) (l : List (Int × List Cd)) (r : Int × List Cd) : cntL p n0 (l ++ [r]) = if r.1 = p then r.2.length else cntL p n0 l := by simp [cntL]
theorem cntL_none (p : Int) (l : List (Int × List Cd)) : ∀ n0, p ∉ l.map (·.1) → cntL p n0 l = n0 := by
  induction l with
  | nil => intro n0 _; rfl
  | cons y ys ih =>
    intro n0 h
    simp only [List.map_cons, List.mem_cons, not_or] at h
    show cntL p (if y.1 = p then y.2.length else n0) ys = n0
    rw [if_neg (fun e => h.1 e.symm)]
    exact ih n0 h.2
theorem cntL_spec (p : Int) (l : List (Int × List Cd)) : ∀ q : Nat, (l.map (·.1)).Nodup → (ixQ p q l = -1 ∧ cntL p 0 l = 0) ∨ ∃ (i : Nat) (cs : List Cd), ixQ p q l = ((q + i : Nat) : Int) ∧ l[i]? = some (p, cs) ∧ cntL p 0 l = cs.length := by
  induction l with
  | nil => intro q _; exact .inl ⟨rfl, rfl⟩
  | cons y ys ih =>
    intro q h
    simp only [List.map_cons, List.nodup_cons] at h
    by_cases e : y.1 = p
    · refine .inr ⟨0, y.2, by unfold ixQ; rw [if_pos e]; rfl, by rw [← e]; rfl, ?_⟩
      show cntL p (if y.1 = p then y.2.length else 0) ys = _
      rw [if_pos e]
      exact cntL_none p ys _ (by rw [← e]; exact h.1)
    · have e2 : cntL p 0 (y :: ys) = cntL p 0 ys := by show cntL p (if y.1 = p then y.2.length else 0) ys = _; rw [if_neg e]
      have e3 : ixQ p q (y :: ys) = ixQ p (q + 1) ys := by
        show (if y.1 = p then (q : Int) else ixQ p (q + 1) ys) = _
        rw [if_neg e]
      rw [e2, e3]
      rcases ih (q + 1) h.2 with h1 | ⟨i, cs, h1, h2, h3⟩
      · exact .inl h1
      · exact .inr ⟨i + 1, cs, by rw [h1]; congr 1; omega, h2, h3⟩
/-- both queues and the tape, in the world W -/
structure Pl (w : World) (ra : Option Addr) (rlen rcap qb rb lb tb np : Nat) (ks : List Int) (rs : List (Int × List Cd)) (L : Int) (rs2 : List (Int × List Cd)) (L2 : Int) (W : World) : Prop where
  q : QS W qb np rs L
  r : RQ W rb lb np rs2 L2
  t : TapeK ra rlen rcap W tb
  b : Below w.heap.size w W
  k : rs.map (·.1) = ks
section
variable {w W W' : World} {ra : Option Addr} {rlen rcap qb rb lb tb np : Nat} {ks : List Int} {rs rs' rs2 rs2' : List (Int × List Cd)} {L L' L2 L2' : Int}
theorem Pl.ext (h : Pl w ra rlen rcap qb rb lb tb np ks rs L rs2 L2 W) (hb : Below W.heap.size W W') : Pl w ra rlen rcap qb rb lb tb np ks rs L rs2 L2 W' :=
  ⟨h.q.ext hb, h.r.ext hb, h.t.ext hb, ext_trans h.b hb, h.k⟩
theorem Pl.tape (h : Pl w ra rlen rcap qb rb lb tb np ks rs L rs2 L2 W) (ht : TapeK ra rlen rcap W' tb) (hb : Bar tb W W') (hz : w.heap.size ≤ tb) : Pl w ra rlen rcap qb rb lb tb np ks rs L rs2 L2 W' := by
  have hne : ∀ (k : Nat) (cur : Array Value) (T : TypeId), T ≠ 29 → W.heap[k]? = some (.cells cur T (0, 0)) → W'.heap[k]? = W.heap[k]? := fun k cur T hT hc => hb.block k (h.t.ne hT hc) (blk_lt hc)
  exact ⟨h.q.keepT (fun k cur T hT hc => hne k cur T (by rcases hT with rfl | rfl <;> decide) hc), h.r.keepT (fun k cur T hT hc => hne k cur T (by rcases hT with rfl | rfl | rfl | rfl <;> decide) hc), ht, h.b.trans (hb.below hz h.b.size), h.k⟩
theorem Pl.qs (h : Pl w ra rlen rcap qb rb lb tb np ks rs L rs2 L2 W) (hq : QS W' qb np rs' L') (hr : Rim qb W W') (hz : w.heap.size ≤ qb) (hk : rs'.map (·.1) = rs.map (·.1)) : Pl w ra rlen rcap qb rb lb tb np ks rs' L' rs2 L2 W' := by
  have hne : ∀ (k : Nat) (cur : Array Value) (T : TypeId), T ≠ 57 → W.heap[k]? = some (.cells cur T (0, 0)) → W'.heap[k]? = W.heap[k]? := fun k cur T hT hc => (h.q.blk hr hT hc).trans hc.symm
  obtain ⟨q, h1, h2⟩ := h.t
  exact ⟨hq, h.r.keepT (fun k cur T hT hc => hne k cur T (by rcases hT with rfl | rfl | rfl | rfl <;> decide) hc), ⟨q, (hne _ _ _ (by decide) h1).trans h1, h2⟩, h.b.trans (hr.below hz h.b.size), hk.trans h.k⟩
theorem Pl.rq (h : Pl w ra rlen rcap qb rb lb tb np ks rs L rs2 L2 W) (hq : RQ W' rb lb np rs2' L2') (hr : Rim2 rb lb W W') (hz : w.heap.size ≤ rb) (hz2 : w.heap.size ≤ lb) : Pl w ra rlen rcap qb rb lb tb np ks rs L rs2' L2' W' := by
  have hne : ∀ (k : Nat) (cur : Array Value) (T : TypeId), T ≠ 51 → T ≠ 25 → W.heap[k]? = some (.cells cur T (0, 0)) → W'.heap[k]? = W.heap[k]? := fun k cur T hT hT2 hc => (h.r.blk hr hT hT2 hc).trans hc.symm
  obtain ⟨q, h1, h2⟩ := h.t
  exact ⟨h.q.keepT (fun k cur T hT hc => hne k cur T (by rcases hT with rfl | rfl <;> decide) (by rcases hT with rfl | rfl <;> decide) hc), hq, ⟨q, (hne _ _ _ (by decide) (by decide) h1).trans h1, h2⟩, h.b.trans (hr.below hz hz2 h.b.size), h.k⟩
end
theorem rowOk_of {a : Option Addr} {len cap : Nat} {zs : List Int} {w W : World} {tb : Nat} (h : IsRow .i64 w a len cap zs) (hb : Below w.heap.size w W) (ht : w.heap.size ≤ tb) : RowOk a len cap zs W tb := by
  refine ⟨h.ext hb, ?_⟩
  obtain ⟨i1, i2, i3, i4, i5⟩ := h
  rcases i5 with i5 | ⟨c, o, e, i5⟩
  · exact .inl i5
  · by_cases h0 : len = 0
    · exact .inl h0
    · right
      intro c' o' e'
      have := cell_lt (i5 0 (by omega))
      rw [e] at e'
      simp at e'
      omega
theorem pk_at {np i : Nat} {rs : List (Int × List Cd)} {p : Int} {cs : List Cd} (h : rs[i]? = some (p, cs)) (hn : i < np) : (pk (np, rs))[i]? = some p := by
  unfold pk
  rw [List.getElem?_map, List.getElem?_take_of_lt hn, h]; rfl

end Go.Proofs.Ytmpkkkcoiljhpaa
