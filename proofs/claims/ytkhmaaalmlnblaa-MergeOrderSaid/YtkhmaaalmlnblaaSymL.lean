/- Lists laid over arrays: exchanges, a segment put in order by insertion, what a merge's halves come to. No word of the program. -/
import Derived.Test.YtkhmaaalmlnblaaSym
namespace Go.Proofs.Ytkhmaaalmlnblaa
open Go.Sort
set_option linter.unusedVariables false
set_option linter.unusedSimpArgs false
set_option linter.unusedSectionVars false

section
variable {α : Type} [Inhabited α] (lt : α → α → Bool)
theorem sy_swp {d : Array α} {X Y Z : List α} {x y : α} {i j : Nat} (h : d.toList = X ++ x :: (Y ++ y :: Z)) (hi : X.length = i) (hj : X.length + 1 + Y.length = j) : (swp d i j).toList = X ++ y :: (Y ++ x :: Z) ∧ (swp d j i).toList = X ++ y :: (Y ++ x :: Z) := by
  have e0 : d[i]! = x := at_of h hi
  have e1 : d[j]! = y := at_of (pre := X ++ x :: Y) (post := Z) (by simpa using h) (by simp; omega)
  subst hi
  subst hj
  have s1 : ∀ u v, (X ++ x :: (Y ++ u :: Z)).set X.length v = X ++ v :: (Y ++ u :: Z) := by
    intro u v
    rw [List.set_append_right _ _ (Nat.le_refl _), Nat.sub_self]; rfl
  have s2 : ∀ u v, (X ++ u :: (Y ++ y :: Z)).set (X.length + 1 + Y.length) v = X ++ u :: (Y ++ v :: Z) := by
    intro u v
    rw [List.set_append_right _ _ (by omega), show X.length + 1 + Y.length - X.length = Y.length + 1 from by omega, List.set_cons_succ, List.set_append_right _ _ (Nat.le_refl _), Nat.sub_self]; rfl
  unfold swp
  rw [e0, e1]
  constructor
  · rw [Array.toList_setIfInBounds, Array.toList_setIfInBounds, h, s1, s2]
  · rw [Array.toList_setIfInBounds, Array.toList_setIfInBounds, h, s2, s1]
theorem sy_get {d : Array α} {X Y Z : List α} (h : d.toList = X ++ (Y ++ Z)) (t : Nat) (ht : t < Y.length) : d[X.length + t]! = Y[t] := by
  have e : d[X.length + t]? = some Y[t] := by
    rw [← Array.getElem?_toList, h, List.getElem?_append_right (by omega), Nat.add_sub_cancel_left, List.getElem?_append_left ht, List.getElem?_eq_getElem ht]
  rw [getElem!_def, e]

theorem seg_inner (P : List α) : ∀ (j : Nat) (d : Array α) (out : List α) (c : α) (rest : List α), d.toList = P ++ (out ++ c :: rest) → P.length + out.length = j → (insInner lt P.length j d).toList = P ++ (insR lt c out ++ rest) := by
  intro j
  induction j with
  | zero =>
    intro d out c rest h hl
    have : out = [] := List.eq_nil_of_length_eq_zero (by omega)
    subst this
    simpa [insInner, insR_nil] using h
  | succ j ih =>
    intro d out c rest h hl
    rcases List.eq_nil_or_concat out with rfl | ⟨o, x, rfl⟩
    · unfold insInner
      simp only [List.length_nil] at hl
      have : ¬ j + 1 > P.length := by omega
      rw [if_neg (by simp [this]), h]
      rfl
    · rw [List.concat_eq_append] at h hl ⊢
      have hol : P.length + o.length = j := by simp at hl; omega
      have e1 : d[j + 1]! = c := at_of (pre := P ++ o ++ [x]) (post := rest) (by simpa using h) (by simp; omega)
      have e0 : d[j]! = x := at_of (pre := P ++ o) (post := c :: rest) (by simpa using h) (by simp; omega)
      have hgt : j + 1 > P.length := by omega
      unfold insInner
      rw [e1, e0]
      by_cases hlt : lt c x = true
      · rw [if_pos (by simp [hlt]; omega), insR_lt lt c x o hlt]
        have hs : (swp d (j + 1) j).toList = P ++ (o ++ c :: (x :: rest)) := by
          have := (sy_swp (d := d) (X := P ++ o) (Y := []) (Z := rest) (x := x) (y := c) (i := j) (j := j + 1) (by simpa using h) (by simp; omega) (by simp; omega)).2
          simpa using this
        rw [ih _ o c (x :: rest) hs hol]
        simp
      · have hf : lt c x = false := by simpa using hlt
        rw [if_neg (by simp [hf]), h, insR_ge lt c x o hf]
        simp
theorem seg_outer (P Q : List α) : ∀ (rest : List α) (d : Array α) (S : List α) (b : Nat), d.toList = P ++ (S ++ (rest ++ Q)) → b = P.length + S.length + rest.length → (insOuter lt P.length b (P.length + S.length) d).toList = P ++ (rest.foldl (fun out c => insR lt c out) S ++ Q) := by
  intro rest
  induction rest with
  | nil =>
    intro d S b h hb
    unfold insOuter
    rw [if_neg (by simp at hb; omega)]
    simpa using h
  | cons x xs ih =>
    intro d S b h hb
    unfold insOuter
    rw [if_pos (by simp at hb; omega)]
    have e := seg_inner lt P (P.length + S.length) d S x (xs ++ Q) (by simpa using h) rfl
    have hl := insR_len lt x S
    have := ih _ (insR lt x S) b e (by rw [hl]; simp at hb; omega)
    rw [hl] at this
    exact this
theorem seg_sort (P A Q : List α) (d : Array α) (b : Nat) (h : d.toList = P ++ (A ++ Q)) (hb : b = P.length + A.length) : (insertionSort lt d P.length b).toList = P ++ (srt lt A ++ Q) := by
  cases A with
  | nil =>
    unfold insertionSort insOuter
    rw [if_neg (by simp at hb; omega), h]
    rfl
  | cons x xs =>
    unfold insertionSort srt
    have := seg_outer lt P Q xs d [x] b (by simpa using h) (by simp at hb ⊢; omega)
    simpa [insR_nil] using this
theorem outer_size : ∀ (n a b i : Nat) (d : Array α), b - i ≤ n → (insOuter lt a b i d).size = d.size := by
  have hin : ∀ (a j : Nat) (d : Array α), (insInner lt a j d).size = d.size := by
    intro a j
    induction j with
    | zero => intro d; rfl
    | succ j ih => intro d; unfold insInner; split
                   · rw [ih, show (swp d (j + 1) j).size = d.size from by simp [swp]]
                   · rfl
  intro n
  induction n with
  | zero => intro a b i d h; unfold insOuter; rw [if_neg (by omega)]
  | succ n ih =>
    intro a b i d h
    unfold insOuter
    split
    · rw [ih _ _ _ _ (by omega), hin]
    · rfl
theorem seg_size (d : Array α) (a b : Nat) : (insertionSort lt d a b).size = d.size := outer_size lt _ _ _ _ _ (Nat.le_refl _)

/-- a row in order, by its places -/
theorem ord_at (W : Weak lt) {d : Array α} {X Y Z : List α} (h : d.toList = X ++ (Y ++ Z)) (ho : Ord lt Y) {a b : Nat} (ha : X.length = a) (hb : a + Y.length = b) (s t : Nat) (h1 : a ≤ s) (h2 : s ≤ t) (h3 : t < b) : lt d[t]! d[s]! = false := by
  obtain ⟨s, rfl⟩ : ∃ q, s = X.length + q := ⟨s - X.length, by omega⟩
  obtain ⟨t, rfl⟩ : ∃ q, t = X.length + q := ⟨t - X.length, by omega⟩
  rw [sy_get h s (by omega), sy_get h t (by omega)]
  rcases Nat.lt_or_ge s t with h4 | h4
  · exact List.pairwise_iff_getElem.1 ho s t _ _ h4
  · have : s = t := by omega
    subst this
    have := eqv_self lt W Y[s]
    simp only [eqv, Bool.and_eq_true, Bool.not_eq_true'] at this
    exact this.1
theorem take_all {l : List α} {q : Nat} {p : α → Prop} (h : ∀ t (ht : t < l.length), t < q → p l[t]) : ∀ y ∈ l.take q, p y := by
  intro y hy
  obtain ⟨t, ht, rfl⟩ := List.getElem_of_mem hy
  rw [List.length_take] at ht
  rw [List.getElem_take]
  exact h t (by omega) (by omega)
theorem drop_all {l : List α} {q : Nat} {p : α → Prop} (h : ∀ t (ht : t < l.length), q ≤ t → p l[t]) : ∀ y ∈ l.drop q, p y := by
  intro y hy
  obtain ⟨t, ht, rfl⟩ := List.getElem_of_mem hy
  rw [List.length_drop] at ht
  rw [List.getElem_drop]
  exact h (q + t) (by omega) (by omega)
/-- one on the left, its place found -/
theorem mer_left {d : Array α} {X R Z : List α} {x : α} {m b i : Nat} (h : d.toList = X ++ (R ++ Z)) (hm : X.length = m) (hb : m + R.length = b) (h0 : m ≤ i) (h1 : ∀ t, m ≤ t → t < i → lt d[t]! x = true) (h2 : ∀ t, i ≤ t → t < b → lt d[t]! x = false) : mrg lt [x] R = R.take (i - m) ++ x :: R.drop (i - m) := by
  have := mrg_oneL lt x (R.take (i - m)) (R.drop (i - m)) (take_all fun t ht hq => by rw [← sy_get h t ht]; exact h1 _ (by omega) (by omega)) (drop_all fun t ht hq => by rw [← sy_get h t ht]; exact h2 _ (by omega) (by omega))
  rw [List.take_append_drop] at this
  exact this
theorem mer_right {d : Array α} {X L Z : List α} {y : α} {a m i : Nat} (h : d.toList = X ++ (L ++ Z)) (ha : X.length = a) (hm : a + L.length = m) (h0 : a ≤ i) (h1 : ∀ t, a ≤ t → t < i → lt y d[t]! = false) (h2 : ∀ t, i ≤ t → t < m → lt y d[t]! = true) : mrg lt L [y] = L.take (i - a) ++ y :: L.drop (i - a) := by
  have := mrg_oneR lt y (L.take (i - a)) (L.drop (i - a)) (take_all fun t ht hq => by rw [← sy_get h t ht]; exact h1 _ (by omega) (by omega)) (drop_all fun t ht hq => by rw [← sy_get h t ht]; exact h2 _ (by omega) (by omega))
  rw [List.take_append_drop] at this
  exact this
/-- the two halves of a merge -/
theorem mer_halves (W : Weak lt) {L R : List α} (hL : Ord lt L) (hR : Ord lt R) (q u : Nat) (h1 : ∀ (i j : Nat) (hi : i < L.length) (hj : j < R.length), i + 1 = q → j = u → lt R[j] L[i] = false) (h2 : ∀ (i j : Nat) (hi : i < L.length) (hj : j < R.length), i = q → j + 1 = u → lt R[j] L[i] = true) (hq : q ≤ L.length) (hu : u ≤ R.length) : mrg lt L R = mrg lt (L.take q) (R.take u) ++ mrg lt (L.drop q) (R.drop u) := by
  have hself : ∀ a, lt a a = false := fun a => by have := eqv_self lt W a; simp only [eqv, Bool.and_eq_true, Bool.not_eq_true'] at this; exact this.1
  have oL : ∀ s t (hs : s < L.length) (ht : t < L.length), s ≤ t → lt L[t] L[s] = false := fun s t hs ht h => by
    rcases Nat.lt_or_ge s t with h' | h'
    · exact List.pairwise_iff_getElem.1 hL s t hs ht h'
    · have : s = t := by omega
      subst this; exact hself _
  have oR : ∀ s t (hs : s < R.length) (ht : t < R.length), s ≤ t → lt R[t] R[s] = false := fun s t hs ht h => by
    rcases Nat.lt_or_ge s t with h' | h'
    · exact List.pairwise_iff_getElem.1 hR s t hs ht h'
    · have : s = t := by omega
      subst this; exact hself _
  have key := mrg_split lt (L.take q) (L.drop q) (R.take u) (R.drop u) (take_all (p := fun x => ∀ y ∈ R.drop u, lt y x = false) fun s hs hsq => drop_all fun t ht htu => by
    have e := h1 (q - 1) u (by omega) (by omega) (by omega) rfl
    exact W.ntr _ _ _ (oL s (q - 1) hs (by omega) (by omega)) (W.ntr _ _ _ e (oR u t (by omega) ht htu))) (take_all (p := fun y => ∀ x ∈ L.drop q, lt y x = true) fun t ht htu => drop_all fun s hs hsq => by
    have e := h2 q (u - 1) (by omega) (by omega) rfl (by omega)
    cases hc : lt R[t] L[s] with
    | true => rfl
    | false =>
      have := W.ntr _ _ _ (oL q s (by omega) hs hsq) (W.ntr _ _ _ hc (oR t (u - 1) ht (by omega) (by omega)))
      rw [this] at e
      cases e)
  rw [List.take_append_drop, List.take_append_drop] at key
  exact key
end
end Go.Proofs.Ytkhmaaalmlnblaa
