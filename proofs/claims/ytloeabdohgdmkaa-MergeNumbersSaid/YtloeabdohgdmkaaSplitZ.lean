/- A region that draws its order, in two parts: all of the second waits for all of the first. -/
import Derived.Test.YtloeabdohgdmkaaHistZ
import Derived.Test.YtloeabdohgdmkaaBaZ
namespace Go.Proofs.Ytloeabdohgdmkaa
open Go.RowKit

section
variable {P : Program}

def edgeB (o : Oper) (i : Nat) : Bool := o.after.any fun e => Region.binds .any e && e.on == i
/-- each of the first p is waited for by a later one up to number p; all behind number p wait for it -/
def coverB (ops : List Oper) (p : Nat) : Bool :=
  (List.range p).all (fun i => ops.zipIdx.any fun x => decide (i < x.2) && decide (x.2 ≤ p) && edgeB x.1 i) && ops.zipIdx.all fun x => decide (x.2 ≤ p) || edgeB x.1 p
def guardsB (ops : List Oper) (n : Nat) : Bool := ops.all fun o => match o.guard with
  | some (g, _) => decide (g < n)
  | none => true

theorem edge_spec {o : Oper} {i : Nat} (h : edgeB o i = true) : ∃ e ∈ o.after, Region.binds .any e = true ∧ e.on = i := by
  simp only [edgeB, Array.any_eq_true', Bool.and_eq_true, beq_iff_eq] at h
  exact h

theorem cover_all {pre suf : List Oper} {p : Nat} (hp : pre.length = p + 1) (hc : coverB (pre ++ suf) p = true) {L : Array Bool} (hcl : Closed pre.toArray L) (h : L.getD p false = true) : ∀ d i, i + d = p → L.getD i false = true := by
  simp only [coverB, Bool.and_eq_true, List.all_eq_true, List.mem_range, List.any_eq_true, decide_eq_true_eq] at hc
  intro d
  induction d using Nat.strongRecOn with
  | ind d ih =>
    intro i hi
    by_cases h0 : d = 0
    · obtain rfl : i = p := by omega
      exact h
    · obtain ⟨⟨o, j⟩, hm, ⟨h1, h2⟩, h3⟩ := hc.1 i (by omega)
      have hz := List.mk_mem_zipIdx_iff_getElem?.1 hm
      simp only at h1 h2 h3
      rw [List.getElem?_append_left (by omega)] at hz
      obtain ⟨e, he, hb, rfl⟩ := edge_spec h3
      exact hcl j o (by simpa using hz) (ih (p - j) (by omega) j (by omega)) e he hb

theorem wanted_pre {pre suf : List Oper} {o : Oper} {tmps : Array Value} (hg : guardsB pre pre.length = true) (ho : o ∈ pre) : Region.wanted o (yielded (pre ++ suf).toArray tmps) = Region.wanted o (yielded pre.toArray tmps) := by
  simp only [guardsB, List.all_eq_true] at hg
  have h := hg o ho
  unfold Region.wanted
  cases hgd : o.guard with
  | none => rfl
  | some x =>
    obtain ⟨g, b⟩ := x
    rw [hgd] at h
    simp only [decide_eq_true_eq] at h
    have e : yielded (pre ++ suf).toArray tmps g = yielded pre.toArray tmps g := by
      unfold yielded
      have : (pre ++ suf).toArray[g]? = pre.toArray[g]? := by simp [List.getElem?_append_left h]
      rw [this]
    simp only [e]

/-- what is asked behind the first part -/
def behind (T : Act → World → Prop) (Q : Exit → Act → World → Prop) : Exit → Act → World → Prop
  | .normal, a, w => T a w
  | e, a, w => Q e a w
theorem wp_behind {o : Oper} {T : Act → World → Prop} {Q : Exit → Act → World → Prop} {K : Act → World → Prop} {a : Act} {w : World} (h : o.wp P a w K (behind T Q)) : o.wp P a w K Q := by
  unfold Oper.wp at *
  generalize (execOp a.eval o).run P w = r at *
  cases r with
  | ok n w' =>
    cases n <;> simp only [Oper.upon] at h ⊢ <;> first | exact h | skip
  | halt x w' => cases x <;> simp only [Oper.upon] at h ⊢ <;> exact h

theorem count_all {L : Array Bool} (h : ∀ i, i < L.size → L.getD i false = true) : L.toList.count false = 0 := by
  rw [List.count_eq_zero]
  intro hm
  obtain ⟨i, hi, e⟩ := List.mem_iff_getElem.1 hm
  have h1 := h i (by simpa using hi)
  simp at hi e
  simp [hi] at h1
  rw [h1] at e
  cases e

theorem wpAny_split {Q : Exit → Act → World → Prop} {pre suf : List Oper} {p : Nat} (hp : pre.length = p + 1) (hB : backB 0 (pre ++ suf) = true) (hBp : backB 0 pre = true) (hc : coverB (pre ++ suf) p = true) (hg : guardsB pre pre.length = true) :
    ∀ (fuel : Nat) (L : Array Bool) (a : Act) (w : World), L.size = pre.length → L.toList.count false = fuel → Closed pre.toArray L →
      wpAny P .any pre.toArray (behind (fun a w => wpAny P .any (pre ++ suf).toArray Q suf.length (Array.replicate pre.length true ++ Array.replicate suf.length false) a w) Q) fuel L a w →
      wpAny P .any (pre ++ suf).toArray Q (fuel + suf.length) (L ++ Array.replicate suf.length false) a w := by
  intro fuel
  induction fuel with
  | zero =>
    intro L a w hz h0 hcl H
    have hL : L = Array.replicate pre.length true := by
      apply Array.ext
      · simp [hz]
      · intro i h1 h2
        rw [List.count_eq_zero] at h0
        cases h : L[i] with
        | true => simp
        | false => exact absurd (by rw [← h]; simp) h0
    subst hL
    rw [Nat.zero_add]
    exact H.2
  | succ fuel ih =>
    intro L a w hz h0 hcl H
    have hne : ¬ ∀ i, i < L.size → L.getD i false = true := fun h => by rw [count_all h] at h0; omega
    rw [show fuel + 1 + suf.length = (fuel + suf.length) + 1 from by omega]
    refine ⟨fun hr => ?_, fun i hi => ?_⟩
    · exfalso
      refine hne fun i hi => ?_
      have h1 := all_listed (ops := (pre ++ suf).toArray) (L := L ++ Array.replicate suf.length false) (by simpa using hB) hr (by simp [hz]) i (by simp; omega)
      simpa [Array.getElem?_append_left hi] using h1
    · obtain ⟨h1, o, h2, h3⟩ := mem_ready.1 hi
      rw [List.getElem?_toArray] at h2
      by_cases hip : i < pre.length
      · rw [List.getElem?_append_left hip] at h2
        have hready : i ∈ Region.ready .any pre.toArray L := by
          refine mem_ready.2 ⟨?_, o, by simpa using h2, fun e he hb => ?_⟩
          · simpa [Array.getElem?_append_left (xs := L) (ys := Array.replicate suf.length false) (i := i) (by omega)] using h1
          · have hlt := backB_at pre 0 i o hBp h2 e he hb
            have h4 := h3 e he hb
            simpa [Array.getElem?_append_left (xs := L) (ys := Array.replicate suf.length false) (i := e.on) (by omega)] using h4
        have hH := H.2 i hready
        have hLi : L[i]'(by omega) = false := by
          have := (mem_ready.1 hready).1
          simpa [show i < L.size from by omega] using this
        have hcs : (L.setIfInBounds i true).toList.count false = L.toList.count false - 1 := by
          simp only [Array.toList_setIfInBounds]
          rw [List.count_set (by simp; omega)]
          simp [hLi]
        have hnext := wpOp_mono (fun a w => ih (L.setIfInBounds i true) a w (by simpa using hz) (by omega) (closed_set hcl hready)) hH
        have e : (L ++ Array.replicate suf.length false).setIfInBounds i true = L.setIfInBounds i true ++ Array.replicate suf.length false := by
          rw [Array.setIfInBounds_append, if_pos (by omega)]
        rw [e]
        unfold wpOp at hnext ⊢
        have h5 : (pre ++ suf).toArray[i]? = some o := by simp [List.getElem?_append_left hip, h2]
        have h6 : pre.toArray[i]? = some o := by simpa using h2
        rw [h5]
        rw [h6] at hnext
        simp only at hnext ⊢
        rw [wanted_pre hg (List.mem_of_getElem? h2)]
        split
        · rename_i hw
          rw [if_pos hw] at hnext
          rcases hnext with h | ⟨h, hl⟩
          · exact .inl (wp_behind h)
          · exact .inr ⟨h, hl⟩
        · rename_i hw
          rw [if_neg hw] at hnext
          exact hnext
      · exfalso
        have hc2 := hc
        simp only [coverB, Bool.and_eq_true, List.all_eq_true, Bool.or_eq_true, decide_eq_true_eq] at hc2
        have h4 := hc2.2 (o, i) (List.mk_mem_zipIdx_iff_getElem?.2 h2)
        rcases h4 with h4 | h4
        · simp at h4; omega
        · obtain ⟨e, he, hb, hep⟩ := edge_spec h4
          have h5 := h3 e he hb
          rw [hep] at h5
          have h6 : L.getD p false = true := by simpa [Array.getElem?_append_left (xs := L) (ys := Array.replicate suf.length false) (i := p) (by omega)] using h5
          exact hne fun i hi => cover_all hp hc hcl h6 (p - i) i (by omega)

theorem wp_region_split {id : Nat} {Q : Exit → Act → World → Prop} {a : Act} {w : World} {l : List Oper} (n m p : Nat) (hp : n = p + 1) (hl : l.length = n + m) (hm : P.follows .mixedOrders = true) (hB : backB 0 l = true) (hBp : backB 0 (l.take n) = true) (hc : coverB l p = true) (hg : guardsB (l.take n) n = true)
    (h : wpAny P .any (l.take n).toArray (behind (fun a w => wpAny P .any l.toArray Q m (Array.replicate n true ++ Array.replicate m false) a w) Q) n (Array.replicate n false) a w.drew) : (Code.region id l.toArray true).wp P Q a w := by
  have e : l = l.take n ++ l.drop n := (List.take_append_drop n l).symm
  have e1 : (l.take n).length = n := by rw [List.length_take]; omega
  have e2 : (l.drop n).length = m := by rw [List.length_drop]; omega
  refine wp_region_any hm ?_
  have h1 := wpAny_split (P := P) (Q := Q) (pre := l.take n) (suf := l.drop n) (p := p) (by omega) (by rw [← e]; exact hB) hBp (by rw [← e]; exact hc) (by rw [e1]; exact hg) n (Array.replicate n false) a w.drew (by simp [e1]) (by simp) (fun j oj _ hl => by
    exfalso
    rcases Nat.lt_or_ge j n with h' | h'
    · simp [h'] at hl
    · simp [h'] at hl) (by rw [← e, e1, e2]; exact h)
  rw [← e, e2] at h1
  have e3 : Array.replicate l.toArray.size false = Array.replicate n false ++ Array.replicate m false := by simp [hl]
  rw [e3]
  simpa [hl] using h1

theorem wpAny_hist {Q : Exit → Act → World → Prop} {a : Act} {w : World} {l : List Oper} (S : World → Prop) (hB : Region.lexB .any l.toArray = true) (hc : chainB l.toArray = true) (hS : S w)
    (h : Hist.wpG P l.toArray Q 0 [S] l a w) : wpAny P .any l.toArray Q l.length (Array.replicate l.length false) a w := by
  simp only [Region.lexB, Bool.and_eq_true] at hB
  have hz : Hist.stage l.toArray (Array.replicate l.toArray.size false) = 0 := by
    unfold Hist.stage
    rw [List.countP_eq_zero]
    intro k _
    rcases Nat.lt_or_ge k l.toArray.size with h' | h'
    · simp at h'; simp [h']
    · simp at h'; simp [h']
  have := Hist.wpAnyD_lex (Q := Q) hB.1 hc l 0 (Array.replicate l.toArray.size false) [S] a w (by simp) (fun j oj _ hl => by
    exfalso
    rcases Nat.lt_or_ge j l.toArray.size with h' | h'
    · simp at h'; simp [h'] at hl
    · simp at h'; simp [h'] at hl) (by rw [hz]; rfl) (by simpa using hS) (by simpa using hB.2) h
  have h2 := Hist.wpAny_of_D _ _ [S] _ _ this
  simpa using h2

theorem wpAny_one {ops : Array Oper} {Q : Exit → Act → World → Prop} {fuel : Nat} {L : Array Bool} {a : Act} {w : World} (i : Nat) (L' : Array Bool) (hr : Region.ready .any ops L = [i]) (hL : L.setIfInBounds i true = L') (h : wpOp P ops Q i (wpAny P .any ops Q fuel L') a w) : wpAny P .any ops Q (fuel + 1) L a w :=
  ⟨fun e => (by rw [hr] at e; cases e), fun j hj => by rw [hr] at hj; simp at hj; subst hj; rw [hL]; exact h⟩
theorem wpAny_end {ops : Array Oper} {Q : Exit → Act → World → Prop} {L : Array Bool} {a : Act} {w : World} (hr : Region.ready .any ops L = []) (h : Q .normal a w) : wpAny P .any ops Q 0 L a w := ⟨hr, h⟩
theorem wpOp_do {ops : Array Oper} {Q : Exit → Act → World → Prop} {K : Act → World → Prop} {a : Act} {w : World} {i : Nat} {o : Oper} (ho : ops[i]? = some o) (hw : Region.wanted o (yielded ops a.tmps) = true) (h : ∀ K' : Act → World → Prop, (∀ a w, K a w → K' a w) → o.wp P a w K' (fun _ _ _ => False)) : wpOp P ops Q i K a w := by
  unfold wpOp
  rw [ho]
  simp only [hw, if_true]
  exact wp_false (h _ fun _ _ h => h)
end

end Go.Proofs.Ytloeabdohgdmkaa
