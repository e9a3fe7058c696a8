/- Merging of rows in order, no word of the program: what SymMerge's halves come to; a stable sort of two blocks. -/
import Derived.Test.YtloeabdohgdmkaaInsZ
namespace Go.Proofs.Ytloeabdohgdmkaa
set_option linter.unusedVariables false
set_option linter.unusedSimpArgs false

section
variable {α : Type} (lt : α → α → Bool)
theorem insV_frontS (c : α) (l : List α) (h : ∀ y ∈ l, lt c y = false) : insV lt c l = c :: l := by
  cases l with
  | nil => rfl
  | cons x xs => unfold insV; rw [if_neg (by simp [h x (by simp)])]
theorem insV_filterS (W : Weak lt) (p : α → Bool) (c : α) (l : List α) (h : l.Pairwise (fun x y => lt x y = false)) : (insV lt c l).filter p = if p c then insV lt c (l.filter p) else l.filter p := by
  induction l with
  | nil => cases hp : p c <;> simp [insV, List.filter, hp]
  | cons x xs ih =>
    obtain ⟨h1, h2⟩ := List.pairwise_cons.1 h
    have ih' := ih h2
    by_cases hlt : lt c x = true
    · have e : insV lt c (x :: xs) = x :: insV lt c xs := by
        show (if lt c x then _ else _) = _
        rw [if_pos hlt]
      rw [e]
      cases hx : p x
      · rw [List.filter_cons_of_neg (by simp [hx]), List.filter_cons_of_neg (by simp [hx]), ih']
      · rw [List.filter_cons_of_pos hx, List.filter_cons_of_pos hx, ih']
        cases hp : p c
        · simp
        · simp only [if_true]
          show _ = (if lt c x then _ else _)
          rw [if_pos hlt]
    · have hf : lt c x = false := by simpa using hlt
      have e : insV lt c (x :: xs) = c :: x :: xs := by
        show (if lt c x then _ else _) = _
        rw [if_neg hlt]
      rw [e]
      cases hp : p c
      · rw [List.filter_cons_of_neg (by simp [hp])]; simp
      · rw [List.filter_cons_of_pos hp]
        simp only [if_true]
        rw [insV_frontS lt c]
        intro y hy
        have hy' := (List.mem_filter.1 hy).1
        rcases List.mem_cons.1 hy' with rfl | hy'
        · exact hf
        · exact W.ntr y x c (h1 y hy') hf
theorem insR_filterS (W : Weak lt) (p : α → Bool) (c : α) (l : List α) (h : Ord lt l) : (insR lt c l).filter p = if p c then insR lt c (l.filter p) else l.filter p := by
  unfold insR
  rw [List.filter_reverse, insV_filterS lt W p c _ (List.pairwise_reverse.2 h)]
  cases hp : p c
  · simp
  · simp
theorem srt_filterS (W : Weak lt) (p : α → Bool) (ls : List α) : (srt lt ls).filter p = srt lt (ls.filter p) := by
  have key : ∀ (ls out : List α), Ord lt out → (ls.foldl (fun out c => insR lt c out) out).filter p = (ls.filter p).foldl (fun out c => insR lt c out) (out.filter p) := by
    intro ls
    induction ls with
    | nil => intro out _; rfl
    | cons x xs ih =>
      intro out ho
      simp only [List.foldl_cons]
      rw [ih _ (insR_ord lt W x out ho), insR_filterS lt W p x out ho]
      cases hp : p x
      · rw [List.filter_cons_of_neg (by simp [hp])]; simp
      · rw [List.filter_cons_of_pos hp]; simp
  exact key ls [] List.Pairwise.nil

/-- two rows in order put together; of those that are alike the left one's first -/
def mrg : List α → List α → List α
  | [], r => r
  | x :: l, [] => x :: l
  | x :: l, y :: r => if lt y x = true then y :: mrg (x :: l) r else x :: mrg l (y :: r)
termination_by l r => l.length + r.length
theorem mrg_nilL (r : List α) : mrg lt [] r = r := by unfold mrg; rfl
theorem mrg_nilR (l : List α) : mrg lt l [] = l := by cases l <;> simp [mrg]
theorem mrg_right {x y : α} {l r : List α} (h : lt y x = true) : mrg lt (x :: l) (y :: r) = y :: mrg lt (x :: l) r := by rw [mrg, if_pos h]
theorem mrg_left {x y : α} {l r : List α} (h : lt y x = false) : mrg lt (x :: l) (y :: r) = x :: mrg lt l (y :: r) := by rw [mrg, if_neg (by rw [h]; simp)]
theorem mrg_len (l r : List α) : (mrg lt l r).length = l.length + r.length := by
  fun_induction mrg lt l r <;> simp_all <;> omega
/-- halves that do not meet are put together apart -/
theorem mrg_split (L1 L2 R1 R2 : List α) (h1 : ∀ x ∈ L1, ∀ y ∈ R2, lt y x = false) (h2 : ∀ y ∈ R1, ∀ x ∈ L2, lt y x = true) : mrg lt (L1 ++ L2) (R1 ++ R2) = mrg lt L1 R1 ++ mrg lt L2 R2 := by
  obtain ⟨n, hn⟩ : ∃ n, L1.length + R1.length = n := ⟨_, rfl⟩
  induction n using Nat.strongRecOn generalizing L1 R1 with
  | ind n ih =>
    cases L1 with
    | nil =>
      cases R1 with
      | nil => simp [mrg_nilL]
      | cons y R1 =>
        cases L2 with
        | nil => simp [mrg_nilL]
        | cons x L2 =>
          have h3 := h2 y (by simp) x (by simp)
          have := ih (R1.length) (by simp at hn; omega) [] R1 (fun x hx => by cases hx) (fun y hy => h2 y (by simp [hy])) (by simp)
          simp only [List.nil_append, mrg_nilL] at this ⊢
          rw [List.cons_append, mrg_right lt h3, this]
          rfl
    | cons x L1 =>
      cases R1 with
      | nil =>
        have := ih L1.length (by simp at hn; omega) L1 [] (fun x hx => h1 x (by simp [hx])) (fun y hy => by cases hy) (by simp)
        simp only [List.nil_append, mrg_nilR] at this ⊢
        cases R2 with
        | nil => simp [mrg_nilR]
        | cons y R2 =>
          have h3 := h1 x (by simp) y (by simp)
          rw [List.cons_append, mrg_left lt h3, this]
          rfl
      | cons y R1 =>
        cases hyx : lt y x with
        | true =>
          have := ih (L1.length + 1 + R1.length) (by simp at hn; omega) (x :: L1) R1 h1 (fun y hy => h2 y (by simp [hy])) (by simp)
          rw [List.cons_append, List.cons_append, mrg_right lt hyx, mrg_right lt hyx, List.cons_append]
          rw [List.cons_append] at this
          rw [this]
        | false =>
          have := ih (L1.length + (R1.length + 1)) (by simp at hn; omega) L1 (y :: R1) (fun x hx => h1 x (by simp [hx])) h2 (by simp)
          rw [List.cons_append, List.cons_append, mrg_left lt hyx, mrg_left lt hyx, List.cons_append]
          rw [List.cons_append] at this
          rw [this]
theorem mrg_before (l r : List α) (h : ∀ x ∈ l, ∀ y ∈ r, lt y x = false) : mrg lt l r = l ++ r := by
  have := mrg_split lt l [] [] r h (fun y hy => by cases hy)
  simpa [mrg_nilL, mrg_nilR] using this
theorem mrg_behind (l r : List α) (h : ∀ y ∈ r, ∀ x ∈ l, lt y x = true) : mrg lt l r = r ++ l := by
  have := mrg_split lt [] l r [] (fun x hx => by cases hx) h
  simpa [mrg_nilL, mrg_nilR] using this
/-- one on the left -/
theorem mrg_oneL (x : α) (R1 R2 : List α) (h1 : ∀ y ∈ R1, lt y x = true) (h2 : ∀ y ∈ R2, lt y x = false) : mrg lt [x] (R1 ++ R2) = R1 ++ x :: R2 := by
  have := mrg_split lt [] [x] R1 R2 (fun x hx => by cases hx) (fun y hy z hz => by simp at hz; subst hz; exact h1 y hy)
  rw [List.nil_append, mrg_nilL] at this
  rw [this, mrg_before lt [x] R2 (fun z hz y hy => by simp at hz; subst hz; exact h2 y hy)]
  rfl
/-- one on the right -/
theorem mrg_oneR (y : α) (L1 L2 : List α) (h1 : ∀ x ∈ L1, lt y x = false) (h2 : ∀ x ∈ L2, lt y x = true) : mrg lt (L1 ++ L2) [y] = L1 ++ y :: L2 := by
  have := mrg_split lt L1 L2 [] [y] (fun x hx z hz => by simp at hz; subst hz; exact h1 x hx) (fun z hz => by cases hz)
  rw [List.nil_append, mrg_nilR] at this
  rw [this, mrg_behind lt L2 [y] (fun z hz x hx => by simp at hz; subst hz; exact h2 x hx)]
  rfl
theorem mrg_mem (z : α) (l r : List α) : z ∈ mrg lt l r ↔ z ∈ l ∨ z ∈ r := by
  fun_induction mrg lt l r with
  | case1 r => simp
  | case2 x l => simp
  | case3 x l y r h ih =>
    rw [List.mem_cons, ih, List.mem_cons (a := z) (b := y)]
    constructor
    · rintro (h1 | (h1 | h1))
      · exact .inr (.inl h1)
      · exact .inl h1
      · exact .inr (.inr h1)
    · rintro (h1 | (h1 | h1))
      · exact .inr (.inl h1)
      · exact .inl h1
      · exact .inr (.inr h1)
  | case4 x l y r h ih => rw [List.mem_cons, ih, List.mem_cons (a := z) (b := x), or_assoc]
theorem mrg_ord (W : Weak lt) (l r : List α) (hl : Ord lt l) (hr : Ord lt r) : Ord lt (mrg lt l r) := by
  fun_induction mrg lt l r with
  | case1 r => exact hr
  | case2 x l => exact hl
  | case3 x l y r h ih =>
    obtain ⟨r1, r2⟩ := List.pairwise_cons.1 hr
    obtain ⟨l1, l2⟩ := List.pairwise_cons.1 hl
    refine List.pairwise_cons.2 ⟨fun z hz => ?_, ih hl r2⟩
    rcases (mrg_mem lt z _ _).1 hz with hz | hz
    · have h3 : lt x y = false := W.asym _ _ h
      rcases List.mem_cons.1 hz with rfl | hz
      · exact h3
      · exact W.ntr y x z h3 (l1 z hz)
    · exact r1 z hz
  | case4 x l y r h ih =>
    obtain ⟨r1, r2⟩ := List.pairwise_cons.1 hr
    obtain ⟨l1, l2⟩ := List.pairwise_cons.1 hl
    have h3 : lt y x = false := by simpa using h
    refine List.pairwise_cons.2 ⟨fun z hz => ?_, ih l2 hr⟩
    rcases (mrg_mem lt z _ _).1 hz with hz | hz
    · exact l1 z hz
    · rcases List.mem_cons.1 hz with rfl | hz
      · exact h3
      · exact W.ntr x y z h3 (r1 z hz)
/-- neither is ahead of the other -/
def eqv (x y : α) : Bool := !lt x y && !lt y x
theorem eqv_self (W : Weak lt) (x : α) : eqv lt x x = true := by
  have : lt x x = false := by
    cases h : lt x x with
    | false => rfl
    | true => have := W.asym x x h; rw [h] at this; cases this
  simp [eqv, this]
theorem mrg_filter (W : Weak lt) (z : α) (l r : List α) (hl : Ord lt l) (hr : Ord lt r) : (mrg lt l r).filter (eqv lt z) = l.filter (eqv lt z) ++ r.filter (eqv lt z) := by
  fun_induction mrg lt l r with
  | case1 r => simp
  | case2 x l => simp
  | case3 x l y r h ih =>
    obtain ⟨r1, r2⟩ := List.pairwise_cons.1 hr
    obtain ⟨l1, l2⟩ := List.pairwise_cons.1 hl
    rw [List.filter_cons, ih hl r2, List.filter_cons (x := y) (xs := r)]
    cases hz : eqv lt z y with
    | false => simp
    | true =>
      simp only [eqv, Bool.and_eq_true, Bool.not_eq_true'] at hz
      have hno : (x :: l).filter (eqv lt z) = [] := by
        rw [List.filter_eq_nil_iff]
        intro a ha he
        simp only [eqv, Bool.and_eq_true, Bool.not_eq_true'] at he
        have hax : lt a x = false := by
          rcases List.mem_cons.1 ha with rfl | ha
          · have := eqv_self lt W a; simp only [eqv, Bool.and_eq_true, Bool.not_eq_true'] at this; exact this.1
          · exact l1 a ha
        have hay : lt y a = false := W.ntr a z y he.1 hz.2
        have : lt y x = false := by
          have h5 := W.ntr x a y
          exact h5 hax hay
        rw [this] at h
        cases h
      rw [hno]
      simp
  | case4 x l y r h ih =>
    obtain ⟨l1, l2⟩ := List.pairwise_cons.1 hl
    rw [List.filter_cons, ih l2 hr, List.filter_cons (x := x) (xs := l)]
    cases hz : eqv lt z x <;> simp
/-- rows in order that agree on those that are alike are the same -/
theorem ord_unique (W : Weak lt) : ∀ (l r : List α), Ord lt l → Ord lt r → (∀ z, l.filter (eqv lt z) = r.filter (eqv lt z)) → l = r := by
  intro l
  induction l with
  | nil =>
    intro r _ _ h
    cases r with
    | nil => rfl
    | cons y r => have := h y; rw [List.filter_cons, eqv_self lt W y] at this; simp at this
  | cons x l ih =>
    intro r hl hr h
    obtain ⟨l1, l2⟩ := List.pairwise_cons.1 hl
    have hx := h x
    rw [List.filter_cons, eqv_self lt W x] at hx
    simp only [if_true] at hx
    cases r with
    | nil => simp at hx
    | cons y r =>
      obtain ⟨r1, r2⟩ := List.pairwise_cons.1 hr
      have hxm : x ∈ y :: r := by
        have : x ∈ (y :: r).filter (eqv lt x) := by rw [← hx]; simp
        exact (List.mem_filter.1 this).1
      have hy := h y
      rw [List.filter_cons (x := y) (xs := r), eqv_self lt W y] at hy
      simp only [if_true] at hy
      have hym : y ∈ x :: l := by
        have : y ∈ (x :: l).filter (eqv lt y) := by rw [hy]; simp
        exact (List.mem_filter.1 this).1
      have hself : ∀ a, lt a a = false := fun a => by have := eqv_self lt W a; simp only [eqv, Bool.and_eq_true, Bool.not_eq_true'] at this; exact this.1
      have e1 : lt x y = false := by
        rcases List.mem_cons.1 hxm with rfl | hm
        · exact hself x
        · exact r1 x hm
      have e2 : lt y x = false := by
        rcases List.mem_cons.1 hym with rfl | hm
        · exact hself y
        · exact l1 y hm
      have e3 : eqv lt x y = true := by simp [eqv, e1, e2]
      rw [List.filter_cons (x := y), e3] at hx
      simp only [if_true, List.cons.injEq] at hx
      obtain ⟨rfl, hx⟩ := hx
      refine congrArg (x :: ·) (ih r l2 r2 fun z => ?_)
      have := h z
      rw [List.filter_cons, List.filter_cons] at this
      cases hz : eqv lt z x with
      | false => simpa [hz] using this
      | true => simpa [hz] using this
theorem srt_filter_eqv (W : Weak lt) (z : α) (ls : List α) : (srt lt ls).filter (eqv lt z) = ls.filter (eqv lt z) := by
  rw [srt_filterS lt W]
  refine srt_ord lt _ (List.pairwise_iff_getElem.2 fun i j hi hj hij => ?_)
  have h1 := (List.mem_filter.1 (List.getElem_mem hi)).2
  have h2 := (List.mem_filter.1 (List.getElem_mem hj)).2
  simp only [eqv, Bool.and_eq_true, Bool.not_eq_true'] at h1 h2
  exact W.ntr _ z _ h1.1 h2.2
/-- a stable sort of two blocks -/
theorem srt_blocks (W : Weak lt) (A B : List α) : srt lt (A ++ B) = mrg lt (srt lt A) (srt lt B) := by
  refine ord_unique lt W _ _ (srt_is lt W _) (mrg_ord lt W _ _ (srt_is lt W A) (srt_is lt W B)) fun z => ?_
  rw [srt_filter_eqv lt W, mrg_filter lt W z _ _ (srt_is lt W A) (srt_is lt W B), srt_filter_eqv lt W, srt_filter_eqv lt W, List.filter_append]
end
end Go.Proofs.Ytloeabdohgdmkaa

/- Lists laid over arrays: exchanges, a segment put in order by insertion, what a merge's halves come to. No word of the program. -/
namespace Go.Proofs.Ytloeabdohgdmkaa
open Go.Sort
set_option linter.unusedVariables false
set_option linter.unusedSimpArgs false
set_option linter.unusedSectionVars false

section
variable {α : Type} [Inhabited α] (lt : α → α → Bool)
theorem sy_swp {d : Array α} {X Y Z : List α} {x y : α} {i j : Nat} (h : d.toList = X ++ x :: (Y ++ y :: Z)) (hi : X.length = i) (hj : X.length + 1 + Y.length = j) : (swp d i j).toList = X ++ y :: (Y ++ x :: Z) ∧ (swp d j i).toList = X ++ y :: (Y ++ x :: Z) := by
  have e0 : d[i]! = x := at_of h hi
  have e1 : d[j]! = y := at_of (pre := X ++ x :: Y) (post := Z) (by simpa using h) (by simp; omega)
  subst hi
  subst hj
  have s1 : ∀ u v, (X ++ x :: (Y ++ u :: Z)).set X.length v = X ++ v :: (Y ++ u :: Z) := by
    intro u v
    rw [List.set_append_right _ _ (Nat.le_refl _), Nat.sub_self]; rfl
  have s2 : ∀ u v, (X ++ u :: (Y ++ y :: Z)).set (X.length + 1 + Y.length) v = X ++ u :: (Y ++ v :: Z) := by
    intro u v
    rw [List.set_append_right _ _ (by omega), show X.length + 1 + Y.length - X.length = Y.length + 1 from by omega, List.set_cons_succ, List.set_append_right _ _ (Nat.le_refl _), Nat.sub_self]; rfl
  unfold swp
  rw [e0, e1]
  constructor
  · rw [Array.toList_setIfInBounds, Array.toList_setIfInBounds, h, s1, s2]
  · rw [Array.toList_setIfInBounds, Array.toList_setIfInBounds, h, s2, s1]
theorem sy_get {d : Array α} {X Y Z : List α} (h : d.toList = X ++ (Y ++ Z)) (t : Nat) (ht : t < Y.length) : d[X.length + t]! = Y[t] := by
  have e : d[X.length + t]? = some Y[t] := by
    rw [← Array.getElem?_toList, h, List.getElem?_append_right (by omega), Nat.add_sub_cancel_left, List.getElem?_append_left ht, List.getElem?_eq_getElem ht]
  rw [getElem!_def, e]

theorem seg_inner (P : List α) : ∀ (j : Nat) (d : Array α) (out : List α) (c : α) (rest : List α), d.toList = P ++ (out ++ c :: rest) → P.length + out.length = j → (insInner lt P.length j d).toList = P ++ (insR lt c out ++ rest) := by
  intro j
  induction j with
  | zero =>
    intro d out c rest h hl
    have : out = [] := List.eq_nil_of_length_eq_zero (by omega)
    subst this
    simpa [insInner, insR_nil] using h
  | succ j ih =>
    intro d out c rest h hl
    rcases List.eq_nil_or_concat out with rfl | ⟨o, x, rfl⟩
    · unfold insInner
      simp only [List.length_nil] at hl
      have : ¬ j + 1 > P.length := by omega
      rw [if_neg (by simp [this]), h]
      rfl
    · rw [List.concat_eq_append] at h hl ⊢
      have hol : P.length + o.length = j := by simp at hl; omega
      have e1 : d[j + 1]! = c := at_of (pre := P ++ o ++ [x]) (post := rest) (by simpa using h) (by simp; omega)
      have e0 : d[j]! = x := at_of (pre := P ++ o) (post := c :: rest) (by simpa using h) (by simp; omega)
      have hgt : j + 1 > P.length := by omega
      unfold insInner
      rw [e1, e0]
      by_cases hlt : lt c x = true
      · rw [if_pos (by simp [hlt]; omega), insR_lt lt c x o hlt]
        have hs : (swp d (j + 1) j).toList = P ++ (o ++ c :: (x :: rest)) := by
          have := (sy_swp (d := d) (X := P ++ o) (Y := []) (Z := rest) (x := x) (y := c) (i := j) (j := j + 1) (by simpa using h) (by simp; omega) (by simp; omega)).2
          simpa using this
        rw [ih _ o c (x :: rest) hs hol]
        simp
      · have hf : lt c x = false := by simpa using hlt
        rw [if_neg (by simp [hf]), h, insR_ge lt c x o hf]
        simp
theorem seg_outer (P Q : List α) : ∀ (rest : List α) (d : Array α) (S : List α) (b : Nat), d.toList = P ++ (S ++ (rest ++ Q)) → b = P.length + S.length + rest.length → (insOuter lt P.length b (P.length + S.length) d).toList = P ++ (rest.foldl (fun out c => insR lt c out) S ++ Q) := by
  intro rest
  induction rest with
  | nil =>
    intro d S b h hb
    unfold insOuter
    rw [if_neg (by simp at hb; omega)]
    simpa using h
  | cons x xs ih =>
    intro d S b h hb
    unfold insOuter
    rw [if_pos (by simp at hb; omega)]
    have e := seg_inner lt P (P.length + S.length) d S x (xs ++ Q) (by simpa using h) rfl
    have hl := insR_len lt x S
    have := ih _ (insR lt x S) b e (by rw [hl]; simp at hb; omega)
    rw [hl] at this
    exact this
theorem seg_sort (P A Q : List α) (d : Array α) (b : Nat) (h : d.toList = P ++ (A ++ Q)) (hb : b = P.length + A.length) : (insertionSort lt d P.length b).toList = P ++ (srt lt A ++ Q) := by
  cases A with
  | nil =>
    unfold insertionSort insOuter
    rw [if_neg (by simp at hb; omega), h]
    rfl
  | cons x xs =>
    unfold insertionSort srt
    have := seg_outer lt P Q xs d [x] b (by simpa using h) (by simp at hb ⊢; omega)
    simpa [insR_nil] using this
theorem outer_size : ∀ (n a b i : Nat) (d : Array α), b - i ≤ n → (insOuter lt a b i d).size = d.size := by
  have hin : ∀ (a j : Nat) (d : Array α), (insInner lt a j d).size = d.size := by
    intro a j
    induction j with
    | zero => intro d; rfl
    | succ j ih => intro d; unfold insInner; split
                   · rw [ih, show (swp d (j + 1) j).size = d.size from by simp [swp]]
                   · rfl
  intro n
  induction n with
  | zero => intro a b i d h; unfold insOuter; rw [if_neg (by omega)]
  | succ n ih =>
    intro a b i d h
    unfold insOuter
    split
    · rw [ih _ _ _ _ (by omega), hin]
    · rfl
theorem seg_size (d : Array α) (a b : Nat) : (insertionSort lt d a b).size = d.size := outer_size lt _ _ _ _ _ (Nat.le_refl _)

/-- a row in order, by its places -/
theorem ord_at (W : Weak lt) {d : Array α} {X Y Z : List α} (h : d.toList = X ++ (Y ++ Z)) (ho : Ord lt Y) {a b : Nat} (ha : X.length = a) (hb : a + Y.length = b) (s t : Nat) (h1 : a ≤ s) (h2 : s ≤ t) (h3 : t < b) : lt d[t]! d[s]! = false := by
  obtain ⟨s, rfl⟩ : ∃ q, s = X.length + q := ⟨s - X.length, by omega⟩
  obtain ⟨t, rfl⟩ : ∃ q, t = X.length + q := ⟨t - X.length, by omega⟩
  rw [sy_get h s (by omega), sy_get h t (by omega)]
  rcases Nat.lt_or_ge s t with h4 | h4
  · exact List.pairwise_iff_getElem.1 ho s t _ _ h4
  · have : s = t := by omega
    subst this
    have := eqv_self lt W Y[s]
    simp only [eqv, Bool.and_eq_true, Bool.not_eq_true'] at this
    exact this.1
theorem take_all {l : List α} {q : Nat} {p : α → Prop} (h : ∀ t (ht : t < l.length), t < q → p l[t]) : ∀ y ∈ l.take q, p y := by
  intro y hy
  obtain ⟨t, ht, rfl⟩ := List.getElem_of_mem hy
  rw [List.length_take] at ht
  rw [List.getElem_take]
  exact h t (by omega) (by omega)
theorem drop_all {l : List α} {q : Nat} {p : α → Prop} (h : ∀ t (ht : t < l.length), q ≤ t → p l[t]) : ∀ y ∈ l.drop q, p y := by
  intro y hy
  obtain ⟨t, ht, rfl⟩ := List.getElem_of_mem hy
  rw [List.length_drop] at ht
  rw [List.getElem_drop]
  exact h (q + t) (by omega) (by omega)
/-- one on the left, its place found -/
theorem mer_left {d : Array α} {X R Z : List α} {x : α} {m b i : Nat} (h : d.toList = X ++ (R ++ Z)) (hm : X.length = m) (hb : m + R.length = b) (h0 : m ≤ i) (h1 : ∀ t, m ≤ t → t < i → lt d[t]! x = true) (h2 : ∀ t, i ≤ t → t < b → lt d[t]! x = false) : mrg lt [x] R = R.take (i - m) ++ x :: R.drop (i - m) := by
  have := mrg_oneL lt x (R.take (i - m)) (R.drop (i - m)) (take_all fun t ht hq => by rw [← sy_get h t ht]; exact h1 _ (by omega) (by omega)) (drop_all fun t ht hq => by rw [← sy_get h t ht]; exact h2 _ (by omega) (by omega))
  rw [List.take_append_drop] at this
  exact this
theorem mer_right {d : Array α} {X L Z : List α} {y : α} {a m i : Nat} (h : d.toList = X ++ (L ++ Z)) (ha : X.length = a) (hm : a + L.length = m) (h0 : a ≤ i) (h1 : ∀ t, a ≤ t → t < i → lt y d[t]! = false) (h2 : ∀ t, i ≤ t → t < m → lt y d[t]! = true) : mrg lt L [y] = L.take (i - a) ++ y :: L.drop (i - a) := by
  have := mrg_oneR lt y (L.take (i - a)) (L.drop (i - a)) (take_all fun t ht hq => by rw [← sy_get h t ht]; exact h1 _ (by omega) (by omega)) (drop_all fun t ht hq => by rw [← sy_get h t ht]; exact h2 _ (by omega) (by omega))
  rw [List.take_append_drop] at this
  exact this
/-- the two halves of a merge -/
theorem mer_halves (W : Weak lt) {L R : List α} (hL : Ord lt L) (hR : Ord lt R) (q u : Nat) (h1 : ∀ (i j : Nat) (hi : i < L.length) (hj : j < R.length), i + 1 = q → j = u → lt R[j] L[i] = false) (h2 : ∀ (i j : Nat) (hi : i < L.length) (hj : j < R.length), i = q → j + 1 = u → lt R[j] L[i] = true) (hq : q ≤ L.length) (hu : u ≤ R.length) : mrg lt L R = mrg lt (L.take q) (R.take u) ++ mrg lt (L.drop q) (R.drop u) := by
  have hself : ∀ a, lt a a = false := fun a => by have := eqv_self lt W a; simp only [eqv, Bool.and_eq_true, Bool.not_eq_true'] at this; exact this.1
  have oL : ∀ s t (hs : s < L.length) (ht : t < L.length), s ≤ t → lt L[t] L[s] = false := fun s t hs ht h => by
    rcases Nat.lt_or_ge s t with h' | h'
    · exact List.pairwise_iff_getElem.1 hL s t hs ht h'
    · have : s = t := by omega
      subst this; exact hself _
  have oR : ∀ s t (hs : s < R.length) (ht : t < R.length), s ≤ t → lt R[t] R[s] = false := fun s t hs ht h => by
    rcases Nat.lt_or_ge s t with h' | h'
    · exact List.pairwise_iff_getElem.1 hR s t hs ht h'
    · have : s = t := by omega
      subst this; exact hself _
  have key := mrg_split lt (L.take q) (L.drop q) (R.take u) (R.drop u) (take_all (p := fun x => ∀ y ∈ R.drop u, lt y x = false) fun s hs hsq => drop_all fun t ht htu => by
    have e := h1 (q - 1) u (by omega) (by omega) (by omega) rfl
    exact W.ntr _ _ _ (oL s (q - 1) hs (by omega) (by omega)) (W.ntr _ _ _ e (oR u t (by omega) ht htu))) (take_all (p := fun y => ∀ x ∈ L.drop q, lt y x = true) fun t ht htu => drop_all fun s hs hsq => by
    have e := h2 q (u - 1) (by omega) (by omega) rfl (by omega)
    cases hc : lt R[t] L[s] with
    | true => rfl
    | false =>
      have := W.ntr _ _ _ (oL q s (by omega) hs hsq) (W.ntr _ _ _ hc (oR t (u - 1) ht (by omega) (by omega)))
      rw [this] at e
      cases e)
  rw [List.take_append_drop, List.take_append_drop] at key
  exact key
end
end Go.Proofs.Ytloeabdohgdmkaa
