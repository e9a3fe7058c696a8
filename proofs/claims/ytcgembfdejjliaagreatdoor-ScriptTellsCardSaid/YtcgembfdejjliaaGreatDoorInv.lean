/- A region that draws its order, by what holds of it whatever has come up so far: each operation is looked at once. -/
import Derived.Test.YtcgembfdejjliaaGreatDoorBlk
import Derived.Orders
namespace Go.Proofs.YtcgembfdejjliaaGreatDoor
open Go.RowKit

/-- every edge of operation number k and the later ones leads to an earlier operation -/
def backB : Nat → List Oper → Bool
  | _, [] => true
  | k, o :: l => o.after.all (fun e => !Region.binds .any e || decide (e.on < k)) && backB (k + 1) l

def StepOk (P : Program) (ops : Array Oper) (Q : Exit → Act → World → Prop) (I : (Nat → Bool) → Act → World → Prop) (i : Nat) (o : Oper) : Prop :=
  ∀ d a w, I d a w → d i = false → (∀ e ∈ o.after, Region.binds .any e = true → d e.on = true) → ∀ K : Act → World → Prop, (∀ a' w', I (fun j => d j || j == i) a' w' → K a' w') →
    if Region.wanted o (yielded ops a.tmps) then o.wp P a w K Q else K (a.put o.dst undef) w

def StepsOk (P : Program) (ops : Array Oper) (Q : Exit → Act → World → Prop) (I : (Nat → Bool) → Act → World → Prop) : Nat → List Oper → Prop
  | _, [] => True
  | k, o :: l => StepOk P ops Q I k o ∧ StepsOk P ops Q I (k + 1) l

theorem up {b c : Bool} (h : (b || c) = true) (hc : c = false) : b = true := by subst hc; simpa using h
theorem upl {b c : Bool} (h : b = true) : (b || c) = true := by simp [h]
theorem dn {b c : Bool} (h : (b || c) = false) : b = false := by cases b <;> simp_all
theorem stepsOk_nil {P : Program} {ops : Array Oper} {Q : Exit → Act → World → Prop} {I : (Nat → Bool) → Act → World → Prop} {k : Nat} : StepsOk P ops Q I k [] := trivial
theorem stepsOk_cons {P : Program} {ops : Array Oper} {Q : Exit → Act → World → Prop} {I : (Nat → Bool) → Act → World → Prop} {k : Nat} {o : Oper} {l : List Oper} (h : StepOk P ops Q I k o) (t : StepsOk P ops Q I (k + 1) l) : StepsOk P ops Q I k (o :: l) := ⟨h, t⟩
theorem stepsOk_at {P : Program} {ops : Array Oper} {Q : Exit → Act → World → Prop} {I : (Nat → Bool) → Act → World → Prop} :
    ∀ (l : List Oper) (k i : Nat) (o : Oper), StepsOk P ops Q I k l → l[i]? = some o → StepOk P ops Q I (k + i) o
  | [], _, _, _, _, h => by simp at h
  | x :: l, k, 0, o, hs, h => by simp at h; subst h; exact hs.1
  | x :: l, k, i + 1, o, hs, h => by
    have := stepsOk_at l (k + 1) i o hs.2 (by simpa using h)
    rwa [show k + (i + 1) = k + 1 + i from by omega]

theorem backB_at : ∀ (l : List Oper) (k i : Nat) (o : Oper), backB k l = true → l[i]? = some o → ∀ e ∈ o.after, Region.binds .any e = true → e.on < k + i
  | [], _, _, _, _, h => by simp at h
  | x :: l, k, 0, o, hs, h => by
    simp at h; subst h
    intro e he hb
    simp only [backB, Bool.and_eq_true, Array.all_eq_true'] at hs
    have := hs.1 e he
    simp [hb] at this
    omega
  | x :: l, k, i + 1, o, hs, h => by
    simp only [backB, Bool.and_eq_true] at hs
    have := backB_at l (k + 1) i o hs.2 (by simpa using h)
    intro e he hb
    have := this e he hb
    omega

theorem all_listed {ops : Array Oper} {L : Array Bool} (hB : backB 0 ops.toList = true) (hr : Region.ready .any ops L = []) (hz : L.size = ops.size) : ∀ i, i < ops.size → L.getD i false = true := by
  intro i
  induction i using Nat.strongRecOn with
  | ind i ih =>
    intro hi
    cases hL : L.getD i false with
    | true => rfl
    | false =>
      exfalso
      have hm : i ∈ Region.ready .any ops L := by
        rw [mem_ready]
        refine ⟨?_, ops[i], by simp [hi], ?_⟩
        · simp [hz, hi] at hL ⊢
          exact hL
        · intro e he hb
          have hlt := backB_at ops.toList 0 i ops[i] hB (by simp [hi]) e he hb
          exact ih e.on (by omega) (by omega)
      rw [hr] at hm
      cases hm

theorem wpAny_of_inv {P : Program} {ops : Array Oper} {Q : Exit → Act → World → Prop} (I : (Nat → Bool) → Act → World → Prop) (hB : backB 0 ops.toList = true)
    (hs : StepsOk P ops Q I 0 ops.toList) (he : ∀ d a w, I d a w → (∀ i, i < ops.size → d i = true) → Q .normal a w) :
    ∀ (fuel : Nat) (L : Array Bool) (a : Act) (w : World), L.size = ops.size → L.toList.count false ≤ fuel → I (fun j => L.getD j false) a w → wpAny P .any ops Q fuel L a w := by
  intro fuel
  induction fuel with
  | zero =>
    intro L a w hz hc hI
    have hall : ∀ i, i < ops.size → L.getD i false = true := by
      intro i hi
      cases hL : L.getD i false with
      | true => rfl
      | false =>
        exfalso
        have : false ∈ L.toList := by
          simp [hz, hi] at hL
          rw [← hL]; simp
        have := List.count_pos_iff.2 this
        omega
    refine ⟨?_, he _ _ _ hI hall⟩
    cases hr : Region.ready .any ops L with
    | nil => rfl
    | cons j js =>
      exfalso
      have hm : j ∈ Region.ready .any ops L := by rw [hr]; simp
      obtain ⟨h1, o, h2, _⟩ := mem_ready.1 hm
      have hj : j < ops.size := by
        rcases Nat.lt_or_ge j ops.size with h | h
        · exact h
        · simp [Array.getElem?_eq_none h] at h2
      have h3 := hall j hj
      simp [hz, hj] at h1 h3
      rw [h1] at h3
      cases h3
  | succ fuel ih =>
    intro L a w hz hc hI
    refine ⟨fun hr => he _ _ _ hI (all_listed hB hr hz), fun i hi => ?_⟩
    obtain ⟨h1, o, h2, h3⟩ := mem_ready.1 hi
    have hi' : i < ops.size := by
      rcases Nat.lt_or_ge i ops.size with h | h
      · exact h
      · simp [Array.getElem?_eq_none h] at h2
    have hst := stepsOk_at ops.toList 0 i o hs (by simpa using h2)
    rw [Nat.zero_add] at hst
    have hLi : L[i]'(by omega) = false := by simpa [hz, hi'] using h1
    have hnext : ∀ a' w', I (fun j => L.getD j false || j == i) a' w' → wpAny P .any ops Q fuel (L.setIfInBounds i true) a' w' := by
      intro a' w' hI'
      refine ih _ a' w' (by simpa using hz) ?_ ?_
      · have hcs : (L.setIfInBounds i true).toList.count false = L.toList.count false - 1 := by
          simp only [Array.toList_setIfInBounds]
          rw [List.count_set (by simp; omega)]
          simp [hLi]
        omega
      · have e : (fun j => (L.setIfInBounds i true).getD j false) = fun j => L.getD j false || j == i := by
          funext j
          by_cases hji : j = i
          · subst hji; simp [hz, hi']
          · by_cases hjz : j < L.size
            · simp [hjz, hji, Ne.symm hji]
            · simp [hjz, hji]
        rw [e]; exact hI'
    have hx := hst _ a w hI (by simpa [hz, hi'] using h1) h3 _ hnext
    unfold wpOp
    simp only [h2]
    split
    · rename_i hw; rw [if_pos hw] at hx; exact .inl hx
    · rename_i hw; rw [if_neg hw] at hx; exact hx

/-- a region that draws its order -/
theorem wp_region_inv {P : Program} {id : Nat} {Q : Exit → Act → World → Prop} {a : Act} {w : World} {l : List Oper} (I : (Nat → Bool) → Act → World → Prop) (hm : P.follows .mixedOrders = true)
    (hB : backB 0 l = true) (h0 : I (fun _ => false) a w.drew) (hs : StepsOk P l.toArray Q I 0 l) (he : ∀ d a w, I d a w → (∀ i, i < l.length → d i = true) → Q .normal a w) : (Code.region id l.toArray true).wp P Q a w := by
  refine wp_region_any hm (wpAny_of_inv I (by simpa using hB) (by simpa using hs) (by simpa using he) _ _ _ _ (by simp) (by simp) ?_)
  have e : (fun j => (Array.replicate l.toArray.size false).getD j false) = fun _ => false := by
    funext j
    by_cases hj : j < l.length
    · simp [hj]
    · simp [hj]
  rw [e]
  exact h0

/-- the same, 'J' speaking of the frame at the beginning, too -/
theorem wp_region_inv_at {P : Program} {id : Nat} {Q : Exit → Act → World → Prop} {a : Act} {w : World} {l : List Oper} {J : Act → (Nat → Bool) → Act → World → Prop} (hm : P.follows .mixedOrders = true)
    (hB : backB 0 l = true) (h0 : J a (fun _ => false) a w.drew) (hs : StepsOk P l.toArray Q (J a) 0 l) (he : ∀ d a' w, J a d a' w → (∀ i, i < l.length → d i = true) → Q .normal a' w) : (Code.region id l.toArray true).wp P Q a w :=
  wp_region_inv (J a) hm hB h0 hs he

/-- the same, 'J a' written out -/
theorem wp_region_inv_eq {P : Program} {id : Nat} {Q : Exit → Act → World → Prop} {a : Act} {w : World} {l : List Oper} {J : Act → (Nat → Bool) → Act → World → Prop} {J' : (Nat → Bool) → Act → World → Prop} (_ : J a = J') (hm : P.follows .mixedOrders = true)
    (hB : backB 0 l = true) (h0 : J' (fun _ => false) a w.drew) (hs : StepsOk P l.toArray Q J' 0 l) (he : ∀ d a' w, J' d a' w → (∀ i, i < l.length → d i = true) → Q .normal a' w) : (Code.region id l.toArray true).wp P Q a w :=
  wp_region_inv J' hm hB h0 hs he

end Go.Proofs.YtcgembfdejjliaaGreatDoor
