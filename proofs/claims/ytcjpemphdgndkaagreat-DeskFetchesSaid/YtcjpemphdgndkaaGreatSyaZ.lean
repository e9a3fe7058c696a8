/- Several texts as one: Sym, SymL, SymB, SymW. -/
import Derived.Test.YtcjpemphdgndkaaGreatInsZ
import Derived.Shelf.SlSortCmp.InsertionK
import Derived.Shelf.SlSortCmp.KitK
import Derived.Sort.WalkB2
import Derived.Sort.WalkB12
import Derived.Deep.LoopGhost
/- Merging of rows in order, no word of the program: what SymMerge's halves come to; a stable sort of two blocks. -/
namespace Go.Proofs.YtcjpemphdgndkaaGreat
set_option linter.unusedVariables false
set_option linter.unusedSimpArgs false

section
variable {α : Type} (lt : α → α → Bool)
theorem insV_frontS (c : α) (l : List α) (h : ∀ y ∈ l, lt c y = false) : insV lt c l = c :: l := by
  cases l with
  | nil => rfl
  | cons x xs => unfold insV; rw [if_neg (by simp [h x (by simp)])]
theorem insV_filterS (W : Weak lt) (p : α → Bool) (c : α) (l : List α) (h : l.Pairwise (fun x y => lt x y = false)) : (insV lt c l).filter p = if p c then insV lt c (l.filter p) else l.filter p := by
  induction l with
  | nil => cases hp : p c <;> simp [insV, List.filter, hp]
  | cons x xs ih =>
    obtain ⟨h1, h2⟩ := List.pairwise_cons.1 h
    have ih' := ih h2
    by_cases hlt : lt c x = true
    · have e : insV lt c (x :: xs) = x :: insV lt c xs := by
        show (if lt c x then _ else _) = _
        rw [if_pos hlt]
      rw [e]
      cases hx : p x
      · rw [List.filter_cons_of_neg (by simp [hx]), List.filter_cons_of_neg (by simp [hx]), ih']
      · rw [List.filter_cons_of_pos hx, List.filter_cons_of_pos hx, ih']
        cases hp : p c
        · simp
        · simp only [if_true]
          show _ = (if lt c x then _ else _)
          rw [if_pos hlt]
    · have hf : lt c x = false := by simpa using hlt
      have e : insV lt c (x :: xs) = c :: x :: xs := by
        show (if lt c x then _ else _) = _
        rw [if_neg hlt]
      rw [e]
      cases hp : p c
      · rw [List.filter_cons_of_neg (by simp [hp])]; simp
      · rw [List.filter_cons_of_pos hp]
        simp only [if_true]
        rw [insV_frontS lt c]
        intro y hy
        have hy' := (List.mem_filter.1 hy).1
        rcases List.mem_cons.1 hy' with rfl | hy'
        · exact hf
        · exact W.ntr y x c (h1 y hy') hf
theorem insR_filterS (W : Weak lt) (p : α → Bool) (c : α) (l : List α) (h : Ord lt l) : (insR lt c l).filter p = if p c then insR lt c (l.filter p) else l.filter p := by
  unfold insR
  rw [List.filter_reverse, insV_filterS lt W p c _ (List.pairwise_reverse.2 h)]
  cases hp : p c
  · simp
  · simp
theorem srt_filterS (W : Weak lt) (p : α → Bool) (ls : List α) : (srt lt ls).filter p = srt lt (ls.filter p) := by
  have key : ∀ (ls out : List α), Ord lt out → (ls.foldl (fun out c => insR lt c out) out).filter p = (ls.filter p).foldl (fun out c => insR lt c out) (out.filter p) := by
    intro ls
    induction ls with
    | nil => intro out _; rfl
    | cons x xs ih =>
      intro out ho
      simp only [List.foldl_cons]
      rw [ih _ (insR_ord lt W x out ho), insR_filterS lt W p x out ho]
      cases hp : p x
      · rw [List.filter_cons_of_neg (by simp [hp])]; simp
      · rw [List.filter_cons_of_pos hp]; simp
  exact key ls [] List.Pairwise.nil

/-- two rows in order put together; of those that are alike the left one's first -/
def mrg : List α → List α → List α
  | [], r => r
  | x :: l, [] => x :: l
  | x :: l, y :: r => if lt y x = true then y :: mrg (x :: l) r else x :: mrg l (y :: r)
termination_by l r => l.length + r.length
theorem mrg_nilL (r : List α) : mrg lt [] r = r := by unfold mrg; rfl
theorem mrg_nilR (l : List α) : mrg lt l [] = l := by cases l <;> simp [mrg]
theorem mrg_right {x y : α} {l r : List α} (h : lt y x = true) : mrg lt (x :: l) (y :: r) = y :: mrg lt (x :: l) r := by rw [mrg, if_pos h]
theorem mrg_left {x y : α} {l r : List α} (h : lt y x = false) : mrg lt (x :: l) (y :: r) = x :: mrg lt l (y :: r) := by rw [mrg, if_neg (by rw [h]; simp)]
theorem mrg_len (l r : List α) : (mrg lt l r).length = l.length + r.length := by
  fun_induction mrg lt l r <;> simp_all <;> omega
/-- halves that do not meet are put together apart -/
theorem mrg_split (L1 L2 R1 R2 : List α) (h1 : ∀ x ∈ L1, ∀ y ∈ R2, lt y x = false) (h2 : ∀ y ∈ R1, ∀ x ∈ L2, lt y x = true) : mrg lt (L1 ++ L2) (R1 ++ R2) = mrg lt L1 R1 ++ mrg lt L2 R2 := by
  obtain ⟨n, hn⟩ : ∃ n, L1.length + R1.length = n := ⟨_, rfl⟩
  induction n using Nat.strongRecOn generalizing L1 R1 with
  | ind n ih =>
    cases L1 with
    | nil =>
      cases R1 with
      | nil => simp [mrg_nilL]
      | cons y R1 =>
        cases L2 with
        | nil => simp [mrg_nilL]
        | cons x L2 =>
          have h3 := h2 y (by simp) x (by simp)
          have := ih (R1.length) (by simp at hn; omega) [] R1 (fun x hx => by cases hx) (fun y hy => h2 y (by simp [hy])) (by simp)
          simp only [List.nil_append, mrg_nilL] at this ⊢
          rw [List.cons_append, mrg_right lt h3, this]
          rfl
    | cons x L1 =>
      cases R1 with
      | nil =>
        have := ih L1.length (by simp at hn; omega) L1 [] (fun x hx => h1 x (by simp [hx])) (fun y hy => by cases hy) (by simp)
        simp only [List.nil_append, mrg_nilR] at this ⊢
        cases R2 with
        | nil => simp [mrg_nilR]
        | cons y R2 =>
          have h3 := h1 x (by simp) y (by simp)
          rw [List.cons_append, mrg_left lt h3, this]
          rfl
      | cons y R1 =>
        cases hyx : lt y x with
        | true =>
          have := ih (L1.length + 1 + R1.length) (by simp at hn; omega) (x :: L1) R1 h1 (fun y hy => h2 y (by simp [hy])) (by simp)
          rw [List.cons_append, List.cons_append, mrg_right lt hyx, mrg_right lt hyx, List.cons_append]
          rw [List.cons_append] at this
          rw [this]
        | false =>
          have := ih (L1.length + (R1.length + 1)) (by simp at hn; omega) L1 (y :: R1) (fun x hx => h1 x (by simp [hx])) h2 (by simp)
          rw [List.cons_append, List.cons_append, mrg_left lt hyx, mrg_left lt hyx, List.cons_append]
          rw [List.cons_append] at this
          rw [this]
theorem mrg_before (l r : List α) (h : ∀ x ∈ l, ∀ y ∈ r, lt y x = false) : mrg lt l r = l ++ r := by
  have := mrg_split lt l [] [] r h (fun y hy => by cases hy)
  simpa [mrg_nilL, mrg_nilR] using this
theorem mrg_behind (l r : List α) (h : ∀ y ∈ r, ∀ x ∈ l, lt y x = true) : mrg lt l r = r ++ l := by
  have := mrg_split lt [] l r [] (fun x hx => by cases hx) h
  simpa [mrg_nilL, mrg_nilR] using this
/-- one on the left -/
theorem mrg_oneL (x : α) (R1 R2 : List α) (h1 : ∀ y ∈ R1, lt y x = true) (h2 : ∀ y ∈ R2, lt y x = false) : mrg lt [x] (R1 ++ R2) = R1 ++ x :: R2 := by
  have := mrg_split lt [] [x] R1 R2 (fun x hx => by cases hx) (fun y hy z hz => by simp at hz; subst hz; exact h1 y hy)
  rw [List.nil_append, mrg_nilL] at this
  rw [this, mrg_before lt [x] R2 (fun z hz y hy => by simp at hz; subst hz; exact h2 y hy)]
  rfl
/-- one on the right -/
theorem mrg_oneR (y : α) (L1 L2 : List α) (h1 : ∀ x ∈ L1, lt y x = false) (h2 : ∀ x ∈ L2, lt y x = true) : mrg lt (L1 ++ L2) [y] = L1 ++ y :: L2 := by
  have := mrg_split lt L1 L2 [] [y] (fun x hx z hz => by simp at hz; subst hz; exact h1 x hx) (fun z hz => by cases hz)
  rw [List.nil_append, mrg_nilR] at this
  rw [this, mrg_behind lt L2 [y] (fun z hz x hx => by simp at hz; subst hz; exact h2 x hx)]
  rfl
theorem mrg_mem (z : α) (l r : List α) : z ∈ mrg lt l r ↔ z ∈ l ∨ z ∈ r := by
  fun_induction mrg lt l r with
  | case1 r => simp
  | case2 x l => simp
  | case3 x l y r h ih =>
    rw [List.mem_cons, ih, List.mem_cons (a := z) (b := y)]
    constructor
    · rintro (h1 | (h1 | h1))
      · exact .inr (.inl h1)
      · exact .inl h1
      · exact .inr (.inr h1)
    · rintro (h1 | (h1 | h1))
      · exact .inr (.inl h1)
      · exact .inl h1
      · exact .inr (.inr h1)
  | case4 x l y r h ih => rw [List.mem_cons, ih, List.mem_cons (a := z) (b := x), or_assoc]
theorem mrg_ord (W : Weak lt) (l r : List α) (hl : Ord lt l) (hr : Ord lt r) : Ord lt (mrg lt l r) := by
  fun_induction mrg lt l r with
  | case1 r => exact hr
  | case2 x l => exact hl
  | case3 x l y r h ih =>
    obtain ⟨r1, r2⟩ := List.pairwise_cons.1 hr
    obtain ⟨l1, l2⟩ := List.pairwise_cons.1 hl
    refine List.pairwise_cons.2 ⟨fun z hz => ?_, ih hl r2⟩
    rcases (mrg_mem lt z _ _).1 hz with hz | hz
    · have h3 : lt x y = false := W.asym _ _ h
      rcases List.mem_cons.1 hz with rfl | hz
      · exact h3
      · exact W.ntr y x z h3 (l1 z hz)
    · exact r1 z hz
  | case4 x l y r h ih =>
    obtain ⟨r1, r2⟩ := List.pairwise_cons.1 hr
    obtain ⟨l1, l2⟩ := List.pairwise_cons.1 hl
    have h3 : lt y x = false := by simpa using h
    refine List.pairwise_cons.2 ⟨fun z hz => ?_, ih l2 hr⟩
    rcases (mrg_mem lt z _ _).1 hz with hz | hz
    · exact l1 z hz
    · rcases List.mem_cons.1 hz with rfl | hz
      · exact h3
      · exact W.ntr x y z h3 (r1 z hz)
/-- neither is ahead of the other -/
def eqv (x y : α) : Bool := !lt x y && !lt y x
theorem eqv_self (W : Weak lt) (x : α) : eqv lt x x = true := by
  have : lt x x = false := by
    cases h : lt x x with
    | false => rfl
    | true => have := W.asym x x h; rw [h] at this; cases this
  simp [eqv, this]
theorem mrg_filter (W : Weak lt) (z : α) (l r : List α) (hl : Ord lt l) (hr : Ord lt r) : (mrg lt l r).filter (eqv lt z) = l.filter (eqv lt z) ++ r.filter (eqv lt z) := by
  fun_induction mrg lt l r with
  | case1 r => simp
  | case2 x l => simp
  | case3 x l y r h ih =>
    obtain ⟨r1, r2⟩ := List.pairwise_cons.1 hr
    obtain ⟨l1, l2⟩ := List.pairwise_cons.1 hl
    rw [List.filter_cons, ih hl r2, List.filter_cons (x := y) (xs := r)]
    cases hz : eqv lt z y with
    | false => simp
    | true =>
      simp only [eqv, Bool.and_eq_true, Bool.not_eq_true'] at hz
      have hno : (x :: l).filter (eqv lt z) = [] := by
        rw [List.filter_eq_nil_iff]
        intro a ha he
        simp only [eqv, Bool.and_eq_true, Bool.not_eq_true'] at he
        have hax : lt a x = false := by
          rcases List.mem_cons.1 ha with rfl | ha
          · have := eqv_self lt W a; simp only [eqv, Bool.and_eq_true, Bool.not_eq_true'] at this; exact this.1
          · exact l1 a ha
        have hay : lt y a = false := W.ntr a z y he.1 hz.2
        have : lt y x = false := by
          have h5 := W.ntr x a y
          exact h5 hax hay
        rw [this] at h
        cases h
      rw [hno]
      simp
  | case4 x l y r h ih =>
    obtain ⟨l1, l2⟩ := List.pairwise_cons.1 hl
    rw [List.filter_cons, ih l2 hr, List.filter_cons (x := x) (xs := l)]
    cases hz : eqv lt z x <;> simp
/-- rows in order that agree on those that are alike are the same -/
theorem ord_unique (W : Weak lt) : ∀ (l r : List α), Ord lt l → Ord lt r → (∀ z, l.filter (eqv lt z) = r.filter (eqv lt z)) → l = r := by
  intro l
  induction l with
  | nil =>
    intro r _ _ h
    cases r with
    | nil => rfl
    | cons y r => have := h y; rw [List.filter_cons, eqv_self lt W y] at this; simp at this
  | cons x l ih =>
    intro r hl hr h
    obtain ⟨l1, l2⟩ := List.pairwise_cons.1 hl
    have hx := h x
    rw [List.filter_cons, eqv_self lt W x] at hx
    simp only [if_true] at hx
    cases r with
    | nil => simp at hx
    | cons y r =>
      obtain ⟨r1, r2⟩ := List.pairwise_cons.1 hr
      have hxm : x ∈ y :: r := by
        have : x ∈ (y :: r).filter (eqv lt x) := by rw [← hx]; simp
        exact (List.mem_filter.1 this).1
      have hy := h y
      rw [List.filter_cons (x := y) (xs := r), eqv_self lt W y] at hy
      simp only [if_true] at hy
      have hym : y ∈ x :: l := by
        have : y ∈ (x :: l).filter (eqv lt y) := by rw [hy]; simp
        exact (List.mem_filter.1 this).1
      have hself : ∀ a, lt a a = false := fun a => by have := eqv_self lt W a; simp only [eqv, Bool.and_eq_true, Bool.not_eq_true'] at this; exact this.1
      have e1 : lt x y = false := by
        rcases List.mem_cons.1 hxm with rfl | hm
        · exact hself x
        · exact r1 x hm
      have e2 : lt y x = false := by
        rcases List.mem_cons.1 hym with rfl | hm
        · exact hself y
        · exact l1 y hm
      have e3 : eqv lt x y = true := by simp [eqv, e1, e2]
      rw [List.filter_cons (x := y), e3] at hx
      simp only [if_true, List.cons.injEq] at hx
      obtain ⟨rfl, hx⟩ := hx
      refine congrArg (x :: ·) (ih r l2 r2 fun z => ?_)
      have := h z
      rw [List.filter_cons, List.filter_cons] at this
      cases hz : eqv lt z x with
      | false => simpa [hz] using this
      | true => simpa [hz] using this
theorem srt_filter_eqv (W : Weak lt) (z : α) (ls : List α) : (srt lt ls).filter (eqv lt z) = ls.filter (eqv lt z) := by
  rw [srt_filterS lt W]
  refine srt_ord lt _ (List.pairwise_iff_getElem.2 fun i j hi hj hij => ?_)
  have h1 := (List.mem_filter.1 (List.getElem_mem hi)).2
  have h2 := (List.mem_filter.1 (List.getElem_mem hj)).2
  simp only [eqv, Bool.and_eq_true, Bool.not_eq_true'] at h1 h2
  exact W.ntr _ z _ h1.1 h2.2
/-- a stable sort of two blocks -/
theorem srt_blocks (W : Weak lt) (A B : List α) : srt lt (A ++ B) = mrg lt (srt lt A) (srt lt B) := by
  refine ord_unique lt W _ _ (srt_is lt W _) (mrg_ord lt W _ _ (srt_is lt W A) (srt_is lt W B)) fun z => ?_
  rw [srt_filter_eqv lt W, mrg_filter lt W z _ _ (srt_is lt W A) (srt_is lt W B), srt_filter_eqv lt W, srt_filter_eqv lt W, List.filter_append]
end
end Go.Proofs.YtcjpemphdgndkaaGreat

/- Lists laid over arrays: exchanges, a segment put in order by insertion, what a merge's halves come to. No word of the program. -/
namespace Go.Proofs.YtcjpemphdgndkaaGreat
open Go.Sort
set_option linter.unusedVariables false
set_option linter.unusedSimpArgs false
set_option linter.unusedSectionVars false

section
variable {α : Type} [Inhabited α] (lt : α → α → Bool)
theorem sy_swp {d : Array α} {X Y Z : List α} {x y : α} {i j : Nat} (h : d.toList = X ++ x :: (Y ++ y :: Z)) (hi : X.length = i) (hj : X.length + 1 + Y.length = j) : (swp d i j).toList = X ++ y :: (Y ++ x :: Z) ∧ (swp d j i).toList = X ++ y :: (Y ++ x :: Z) := by
  have e0 : d[i]! = x := at_of h hi
  have e1 : d[j]! = y := at_of (pre := X ++ x :: Y) (post := Z) (by simpa using h) (by simp; omega)
  subst hi
  subst hj
  have s1 : ∀ u v, (X ++ x :: (Y ++ u :: Z)).set X.length v = X ++ v :: (Y ++ u :: Z) := by
    intro u v
    rw [List.set_append_right _ _ (Nat.le_refl _), Nat.sub_self]; rfl
  have s2 : ∀ u v, (X ++ u :: (Y ++ y :: Z)).set (X.length + 1 + Y.length) v = X ++ u :: (Y ++ v :: Z) := by
    intro u v
    rw [List.set_append_right _ _ (by omega), show X.length + 1 + Y.length - X.length = Y.length + 1 from by omega, List.set_cons_succ, List.set_append_right _ _ (Nat.le_refl _), Nat.sub_self]; rfl
  unfold swp
  rw [e0, e1]
  constructor
  · rw [Array.toList_setIfInBounds, Array.toList_setIfInBounds, h, s1, s2]
  · rw [Array.toList_setIfInBounds, Array.toList_setIfInBounds, h, s2, s1]
theorem sy_get {d : Array α} {X Y Z : List α} (h : d.toList = X ++ (Y ++ Z)) (t : Nat) (ht : t < Y.length) : d[X.length + t]! = Y[t] := by
  have e : d[X.length + t]? = some Y[t] := by
    rw [← Array.getElem?_toList, h, List.getElem?_append_right (by omega), Nat.add_sub_cancel_left, List.getElem?_append_left ht, List.getElem?_eq_getElem ht]
  rw [getElem!_def, e]

theorem seg_inner (P : List α) : ∀ (j : Nat) (d : Array α) (out : List α) (c : α) (rest : List α), d.toList = P ++ (out ++ c :: rest) → P.length + out.length = j → (insInner lt P.length j d).toList = P ++ (insR lt c out ++ rest) := by
  intro j
  induction j with
  | zero =>
    intro d out c rest h hl
    have : out = [] := List.eq_nil_of_length_eq_zero (by omega)
    subst this
    simpa [insInner, insR_nil] using h
  | succ j ih =>
    intro d out c rest h hl
    rcases List.eq_nil_or_concat out with rfl | ⟨o, x, rfl⟩
    · unfold insInner
      simp only [List.length_nil] at hl
      have : ¬ j + 1 > P.length := by omega
      rw [if_neg (by simp [this]), h]
      rfl
    · rw [List.concat_eq_append] at h hl ⊢
      have hol : P.length + o.length = j := by simp at hl; omega
      have e1 : d[j + 1]! = c := at_of (pre := P ++ o ++ [x]) (post := rest) (by simpa using h) (by simp; omega)
      have e0 : d[j]! = x := at_of (pre := P ++ o) (post := c :: rest) (by simpa using h) (by simp; omega)
      have hgt : j + 1 > P.length := by omega
      unfold insInner
      rw [e1, e0]
      by_cases hlt : lt c x = true
      · rw [if_pos (by simp [hlt]; omega), insR_lt lt c x o hlt]
        have hs : (swp d (j + 1) j).toList = P ++ (o ++ c :: (x :: rest)) := by
          have := (sy_swp (d := d) (X := P ++ o) (Y := []) (Z := rest) (x := x) (y := c) (i := j) (j := j + 1) (by simpa using h) (by simp; omega) (by simp; omega)).2
          simpa using this
        rw [ih _ o c (x :: rest) hs hol]
        simp
      · have hf : lt c x = false := by simpa using hlt
        rw [if_neg (by simp [hf]), h, insR_ge lt c x o hf]
        simp
theorem seg_outer (P Q : List α) : ∀ (rest : List α) (d : Array α) (S : List α) (b : Nat), d.toList = P ++ (S ++ (rest ++ Q)) → b = P.length + S.length + rest.length → (insOuter lt P.length b (P.length + S.length) d).toList = P ++ (rest.foldl (fun out c => insR lt c out) S ++ Q) := by
  intro rest
  induction rest with
  | nil =>
    intro d S b h hb
    unfold insOuter
    rw [if_neg (by simp at hb; omega)]
    simpa using h
  | cons x xs ih =>
    intro d S b h hb
    unfold insOuter
    rw [if_pos (by simp at hb; omega)]
    have e := seg_inner lt P (P.length + S.length) d S x (xs ++ Q) (by simpa using h) rfl
    have hl := insR_len lt x S
    have := ih _ (insR lt x S) b e (by rw [hl]; simp at hb; omega)
    rw [hl] at this
    exact this
theorem seg_sort (P A Q : List α) (d : Array α) (b : Nat) (h : d.toList = P ++ (A ++ Q)) (hb : b = P.length + A.length) : (insertionSort lt d P.length b).toList = P ++ (srt lt A ++ Q) := by
  cases A with
  | nil =>
    unfold insertionSort insOuter
    rw [if_neg (by simp at hb; omega), h]
    rfl
  | cons x xs =>
    unfold insertionSort srt
    have := seg_outer lt P Q xs d [x] b (by simpa using h) (by simp at hb ⊢; omega)
    simpa [insR_nil] using this
theorem outer_size : ∀ (n a b i : Nat) (d : Array α), b - i ≤ n → (insOuter lt a b i d).size = d.size := by
  have hin : ∀ (a j : Nat) (d : Array α), (insInner lt a j d).size = d.size := by
    intro a j
    induction j with
    | zero => intro d; rfl
    | succ j ih => intro d; unfold insInner; split
                   · rw [ih, show (swp d (j + 1) j).size = d.size from by simp [swp]]
                   · rfl
  intro n
  induction n with
  | zero => intro a b i d h; unfold insOuter; rw [if_neg (by omega)]
  | succ n ih =>
    intro a b i d h
    unfold insOuter
    split
    · rw [ih _ _ _ _ (by omega), hin]
    · rfl
theorem seg_size (d : Array α) (a b : Nat) : (insertionSort lt d a b).size = d.size := outer_size lt _ _ _ _ _ (Nat.le_refl _)

/-- a row in order, by its places -/
theorem ord_at (W : Weak lt) {d : Array α} {X Y Z : List α} (h : d.toList = X ++ (Y ++ Z)) (ho : Ord lt Y) {a b : Nat} (ha : X.length = a) (hb : a + Y.length = b) (s t : Nat) (h1 : a ≤ s) (h2 : s ≤ t) (h3 : t < b) : lt d[t]! d[s]! = false := by
  obtain ⟨s, rfl⟩ : ∃ q, s = X.length + q := ⟨s - X.length, by omega⟩
  obtain ⟨t, rfl⟩ : ∃ q, t = X.length + q := ⟨t - X.length, by omega⟩
  rw [sy_get h s (by omega), sy_get h t (by omega)]
  rcases Nat.lt_or_ge s t with h4 | h4
  · exact List.pairwise_iff_getElem.1 ho s t _ _ h4
  · have : s = t := by omega
    subst this
    have := eqv_self lt W Y[s]
    simp only [eqv, Bool.and_eq_true, Bool.not_eq_true'] at this
    exact this.1
theorem take_all {l : List α} {q : Nat} {p : α → Prop} (h : ∀ t (ht : t < l.length), t < q → p l[t]) : ∀ y ∈ l.take q, p y := by
  intro y hy
  obtain ⟨t, ht, rfl⟩ := List.getElem_of_mem hy
  rw [List.length_take] at ht
  rw [List.getElem_take]
  exact h t (by omega) (by omega)
theorem drop_all {l : List α} {q : Nat} {p : α → Prop} (h : ∀ t (ht : t < l.length), q ≤ t → p l[t]) : ∀ y ∈ l.drop q, p y := by
  intro y hy
  obtain ⟨t, ht, rfl⟩ := List.getElem_of_mem hy
  rw [List.length_drop] at ht
  rw [List.getElem_drop]
  exact h (q + t) (by omega) (by omega)
/-- one on the left, its place found -/
theorem mer_left {d : Array α} {X R Z : List α} {x : α} {m b i : Nat} (h : d.toList = X ++ (R ++ Z)) (hm : X.length = m) (hb : m + R.length = b) (h0 : m ≤ i) (h1 : ∀ t, m ≤ t → t < i → lt d[t]! x = true) (h2 : ∀ t, i ≤ t → t < b → lt d[t]! x = false) : mrg lt [x] R = R.take (i - m) ++ x :: R.drop (i - m) := by
  have := mrg_oneL lt x (R.take (i - m)) (R.drop (i - m)) (take_all fun t ht hq => by rw [← sy_get h t ht]; exact h1 _ (by omega) (by omega)) (drop_all fun t ht hq => by rw [← sy_get h t ht]; exact h2 _ (by omega) (by omega))
  rw [List.take_append_drop] at this
  exact this
theorem mer_right {d : Array α} {X L Z : List α} {y : α} {a m i : Nat} (h : d.toList = X ++ (L ++ Z)) (ha : X.length = a) (hm : a + L.length = m) (h0 : a ≤ i) (h1 : ∀ t, a ≤ t → t < i → lt y d[t]! = false) (h2 : ∀ t, i ≤ t → t < m → lt y d[t]! = true) : mrg lt L [y] = L.take (i - a) ++ y :: L.drop (i - a) := by
  have := mrg_oneR lt y (L.take (i - a)) (L.drop (i - a)) (take_all fun t ht hq => by rw [← sy_get h t ht]; exact h1 _ (by omega) (by omega)) (drop_all fun t ht hq => by rw [← sy_get h t ht]; exact h2 _ (by omega) (by omega))
  rw [List.take_append_drop] at this
  exact this
/-- the two halves of a merge -/
theorem mer_halves (W : Weak lt) {L R : List α} (hL : Ord lt L) (hR : Ord lt R) (q u : Nat) (h1 : ∀ (i j : Nat) (hi : i < L.length) (hj : j < R.length), i + 1 = q → j = u → lt R[j] L[i] = false) (h2 : ∀ (i j : Nat) (hi : i < L.length) (hj : j < R.length), i = q → j + 1 = u → lt R[j] L[i] = true) (hq : q ≤ L.length) (hu : u ≤ R.length) : mrg lt L R = mrg lt (L.take q) (R.take u) ++ mrg lt (L.drop q) (R.drop u) := by
  have hself : ∀ a, lt a a = false := fun a => by have := eqv_self lt W a; simp only [eqv, Bool.and_eq_true, Bool.not_eq_true'] at this; exact this.1
  have oL : ∀ s t (hs : s < L.length) (ht : t < L.length), s ≤ t → lt L[t] L[s] = false := fun s t hs ht h => by
    rcases Nat.lt_or_ge s t with h' | h'
    · exact List.pairwise_iff_getElem.1 hL s t hs ht h'
    · have : s = t := by omega
      subst this; exact hself _
  have oR : ∀ s t (hs : s < R.length) (ht : t < R.length), s ≤ t → lt R[t] R[s] = false := fun s t hs ht h => by
    rcases Nat.lt_or_ge s t with h' | h'
    · exact List.pairwise_iff_getElem.1 hR s t hs ht h'
    · have : s = t := by omega
      subst this; exact hself _
  have key := mrg_split lt (L.take q) (L.drop q) (R.take u) (R.drop u) (take_all (p := fun x => ∀ y ∈ R.drop u, lt y x = false) fun s hs hsq => drop_all fun t ht htu => by
    have e := h1 (q - 1) u (by omega) (by omega) (by omega) rfl
    exact W.ntr _ _ _ (oL s (q - 1) hs (by omega) (by omega)) (W.ntr _ _ _ e (oR u t (by omega) ht htu))) (take_all (p := fun y => ∀ x ∈ L.drop q, lt y x = true) fun t ht htu => drop_all fun s hs hsq => by
    have e := h2 q (u - 1) (by omega) (by omega) rfl (by omega)
    cases hc : lt R[t] L[s] with
    | true => rfl
    | false =>
      have := W.ntr _ _ _ (oL q s (by omega) hs hsq) (W.ntr _ _ _ hc (oR t (u - 1) ht (by omega) (by omega)))
      rw [this] at e
      cases e)
  rw [List.take_append_drop, List.take_append_drop] at key
  exact key
end
end Go.Proofs.YtcjpemphdgndkaaGreat

/- The bodies of slices.swapRangeCmpFunc, rotateCmpFunc, symMergeCmpFunc, stableCmpFunc over any numbering: as the program prints them. -/
namespace Go.Proofs.YtcjpemphdgndkaaGreat
open Go.Shelf
set_option linter.unusedVariables false

def syB_swp (ρ : Ren) : Func := { name := "slices.swapRangeCmpFunc", origin := "slices.swapRangeCmpFunc", targs := #[ρ.t 24], params := #[ρ.t 22, ρ.t 3, ρ.t 3, ρ.t 3, ρ.t 25], resultTypes := #[], nfree := 0, ntmps := 38, results := #[], body := some ((Code.region 0 #[{ dst := some 10, op := Op.assign (Operand.const (Value.int IntKind.i64 0)), type := ρ.t 3, pos := "zsortanyfunc.go:330", after := #[], guard := none }] false).seq (Code.block 0 (((Code.region 1 #[{ dst := some 11, op := Op.move (Operand.tmp 10), type := ρ.t 3, pos := "zsortanyfunc.go:330", after := #[], guard := none }, { dst := some 12, op := Op.move (Operand.tmp 3), type := ρ.t 3, pos := "zsortanyfunc.go:330", after := #[], guard := none }, { dst := some 13, op := Op.binOp BinOp.lss (ρ.t 3) (Operand.tmp 11) (Operand.tmp 12) (ρ.t 3), type := ρ.t 4, pos := "zsortanyfunc.go:330", after := #[{ on := 0, ground := Ground.data }, { on := 1, ground := Ground.data }], guard := none }] false).seq (Code.cond (Operand.tmp 13) Code.skip (Code.exit 0))).seq ((Code.block 1 (Code.region 3 #[{ dst := some 16, op := Op.move (Operand.tmp 0), type := ρ.t 22, pos := "zsortanyfunc.go:331", after := #[], guard := none }, { dst := some 17, op := Op.move (Operand.tmp 1), type := ρ.t 3, pos := "zsortanyfunc.go:331", after := #[], guard := none }, { dst := some 18, op := Op.move (Operand.tmp 10), type := ρ.t 3, pos := "zsortanyfunc.go:331", after := #[], guard := none }, { dst := some 19, op := Op.binOp BinOp.add (ρ.t 3) (Operand.tmp 17) (Operand.tmp 18) (ρ.t 3), type := ρ.t 3, pos := "zsortanyfunc.go:331", after := #[{ on := 1, ground := Ground.data }, { on := 2, ground := Ground.data }], guard := none }, { dst := some 20, op := Op.move (Operand.tmp 0), type := ρ.t 22, pos := "zsortanyfunc.go:331", after := #[{ on := 21, ground := Ground.gcOnly Departure.lateStores }], guard := none }, { dst := some 21, op := Op.move (Operand.tmp 2), type := ρ.t 3, pos := "zsortanyfunc.go:331", after := #[{ on := 21, ground := Ground.gcOnly Departure.lateStores }], guard := none }, { dst := some 22, op := Op.move (Operand.tmp 10), type := ρ.t 3, pos := "zsortanyfunc.go:331", after := #[{ on := 21, ground := Ground.gcOnly Departure.lateStores }], guard := none }, { dst := some 23, op := Op.binOp BinOp.add (ρ.t 3) (Operand.tmp 21) (Operand.tmp 22) (ρ.t 3), type := ρ.t 3, pos := "zsortanyfunc.go:331", after := #[{ on := 5, ground := Ground.data }, { on := 6, ground := Ground.data }, { on := 21, ground := Ground.gcOnly Departure.lateStores }], guard := none }, { dst := some 24, op := Op.move (Operand.tmp 0), type := ρ.t 22, pos := "zsortanyfunc.go:331", after := #[], guard := none }, { dst := some 25, op := Op.move (Operand.tmp 2), type := ρ.t 3, pos := "zsortanyfunc.go:331", after := #[], guard := none }, { dst := some 26, op := Op.move (Operand.tmp 10), type := ρ.t 3, pos := "zsortanyfunc.go:331", after := #[], guard := none }, { dst := some 27, op := Op.binOp BinOp.add (ρ.t 3) (Operand.tmp 25) (Operand.tmp 26) (ρ.t 3), type := ρ.t 3, pos := "zsortanyfunc.go:331", after := #[{ on := 9, ground := Ground.data }, { on := 10, ground := Ground.data }], guard := none }, { dst := some 28, op := Op.indexAddr (ρ.t 22) (Operand.tmp 24) (Operand.tmp 27), type := ρ.t 0, pos := "zsortanyfunc.go:331", after := #[{ on := 8, ground := Ground.data }, { on := 11, ground := Ground.data }], guard := none }, { dst := some 29, op := Op.load (ρ.t 24) (Operand.tmp 28), type := ρ.t 24, pos := "zsortanyfunc.go:331", after := #[{ on := 12, ground := Ground.data }], guard := none }, { dst := some 30, op := Op.move (Operand.tmp 0), type := ρ.t 22, pos := "zsortanyfunc.go:331", after := #[], guard := none }, { dst := some 31, op := Op.move (Operand.tmp 1), type := ρ.t 3, pos := "zsortanyfunc.go:331", after := #[], guard := none }, { dst := some 32, op := Op.move (Operand.tmp 10), type := ρ.t 3, pos := "zsortanyfunc.go:331", after := #[], guard := none }, { dst := some 33, op := Op.binOp BinOp.add (ρ.t 3) (Operand.tmp 31) (Operand.tmp 32) (ρ.t 3), type := ρ.t 3, pos := "zsortanyfunc.go:331", after := #[{ on := 15, ground := Ground.data }, { on := 16, ground := Ground.data }], guard := none }, { dst := some 34, op := Op.indexAddr (ρ.t 22) (Operand.tmp 30) (Operand.tmp 33), type := ρ.t 0, pos := "zsortanyfunc.go:331", after := #[{ on := 14, ground := Ground.data }, { on := 17, ground := Ground.data }], guard := none }, { dst := some 35, op := Op.load (ρ.t 24) (Operand.tmp 34), type := ρ.t 24, pos := "zsortanyfunc.go:331", after := #[{ on := 18, ground := Ground.data }], guard := none }, { dst := some 36, op := Op.indexAddr (ρ.t 22) (Operand.tmp 16) (Operand.tmp 19), type := ρ.t 0, pos := "zsortanyfunc.go:331", after := #[{ on := 0, ground := Ground.data }, { on := 3, ground := Ground.data }, { on := 0, ground := Ground.phase }, { on := 1, ground := Ground.phase }, { on := 2, ground := Ground.phase }, { on := 3, ground := Ground.phase }, { on := 4, ground := Ground.textOnly Departure.lateStores }, { on := 5, ground := Ground.textOnly Departure.lateStores }, { on := 6, ground := Ground.textOnly Departure.lateStores }, { on := 7, ground := Ground.textOnly Departure.lateStores }, { on := 8, ground := Ground.phase }, { on := 9, ground := Ground.phase }, { on := 10, ground := Ground.phase }, { on := 11, ground := Ground.phase }, { on := 12, ground := Ground.phase }, { on := 13, ground := Ground.phase }, { on := 14, ground := Ground.textOnly Departure.lateStores }, { on := 15, ground := Ground.textOnly Departure.lateStores }, { on := 16, ground := Ground.textOnly Departure.lateStores }, { on := 17, ground := Ground.textOnly Departure.lateStores }, { on := 18, ground := Ground.textOnly Departure.lateStoresUnsure }, { on := 19, ground := Ground.phase }], guard := none }, { dst := none, op := Op.store (ρ.t 24) (Operand.tmp 36) (Operand.tmp 29), type := ρ.t 0, pos := "zsortanyfunc.go:331", after := #[{ on := 20, ground := Ground.data }, { on := 13, ground := Ground.data }, { on := 0, ground := Ground.phase }, { on := 1, ground := Ground.phase }, { on := 2, ground := Ground.phase }, { on := 3, ground := Ground.phase }, { on := 4, ground := Ground.textOnly Departure.lateStores }, { on := 5, ground := Ground.textOnly Departure.lateStores }, { on := 6, ground := Ground.textOnly Departure.lateStores }, { on := 7, ground := Ground.textOnly Departure.lateStores }, { on := 8, ground := Ground.phase }, { on := 9, ground := Ground.phase }, { on := 10, ground := Ground.phase }, { on := 11, ground := Ground.phase }, { on := 12, ground := Ground.phase }, { on := 13, ground := Ground.phase }, { on := 14, ground := Ground.textOnly Departure.lateStores }, { on := 15, ground := Ground.textOnly Departure.lateStores }, { on := 16, ground := Ground.textOnly Departure.lateStores }, { on := 17, ground := Ground.textOnly Departure.lateStores }, { on := 18, ground := Ground.textOnly Departure.lateStoresUnsure }, { on := 19, ground := Ground.phase }], guard := none }, { dst := some 37, op := Op.indexAddr (ρ.t 22) (Operand.tmp 20) (Operand.tmp 23), type := ρ.t 0, pos := "zsortanyfunc.go:331", after := #[{ on := 4, ground := Ground.data }, { on := 7, ground := Ground.data }, { on := 0, ground := Ground.phase }, { on := 1, ground := Ground.phase }, { on := 2, ground := Ground.phase }, { on := 3, ground := Ground.phase }, { on := 4, ground := Ground.phase }, { on := 5, ground := Ground.phase }, { on := 6, ground := Ground.phase }, { on := 7, ground := Ground.phase }, { on := 8, ground := Ground.phase }, { on := 9, ground := Ground.phase }, { on := 10, ground := Ground.phase }, { on := 11, ground := Ground.phase }, { on := 12, ground := Ground.phase }, { on := 13, ground := Ground.phase }, { on := 14, ground := Ground.phase }, { on := 15, ground := Ground.phase }, { on := 16, ground := Ground.phase }, { on := 17, ground := Ground.phase }, { on := 18, ground := Ground.phase }, { on := 19, ground := Ground.phase }, { on := 20, ground := Ground.phase }, { on := 21, ground := Ground.phase }], guard := none }, { dst := none, op := Op.store (ρ.t 24) (Operand.tmp 37) (Operand.tmp 35), type := ρ.t 0, pos := "zsortanyfunc.go:331", after := #[{ on := 22, ground := Ground.data }, { on := 19, ground := Ground.data }, { on := 21, ground := Ground.chain }, { on := 0, ground := Ground.phase }, { on := 1, ground := Ground.phase }, { on := 2, ground := Ground.phase }, { on := 3, ground := Ground.phase }, { on := 4, ground := Ground.phase }, { on := 5, ground := Ground.phase }, { on := 6, ground := Ground.phase }, { on := 7, ground := Ground.phase }, { on := 8, ground := Ground.phase }, { on := 9, ground := Ground.phase }, { on := 10, ground := Ground.phase }, { on := 11, ground := Ground.phase }, { on := 12, ground := Ground.phase }, { on := 13, ground := Ground.phase }, { on := 14, ground := Ground.phase }, { on := 15, ground := Ground.phase }, { on := 16, ground := Ground.phase }, { on := 17, ground := Ground.phase }, { on := 18, ground := Ground.phase }, { on := 19, ground := Ground.phase }, { on := 20, ground := Ground.phase }, { on := 21, ground := Ground.phase }], guard := none }] true)).seq (Code.region 2 #[{ dst := some 14, op := Op.move (Operand.tmp 10), type := ρ.t 3, pos := "zsortanyfunc.go:330", after := #[], guard := none }, { dst := some 15, op := Op.binOp BinOp.add (ρ.t 3) (Operand.tmp 14) (Operand.const (Value.int IntKind.i64 1)) (ρ.t 3), type := ρ.t 3, pos := "zsortanyfunc.go:330", after := #[{ on := 0, ground := Ground.data }], guard := none }, { dst := some 10, op := Op.assign (Operand.tmp 15), type := ρ.t 3, pos := "zsortanyfunc.go:330", after := #[{ on := 1, ground := Ground.data }, { on := 0, ground := Ground.phase }, { on := 1, ground := Ground.phase }], guard := none }] false))).loop)), norace := false, file := "slices/zsortanyfunc.go", endLine := 333, met := [Departure.mixedOrders, Departure.lateStoresUnsure, Departure.lateStores], tmpNames := #["data", "a", "b", "n", "cmp", "data", "a", "b", "n", "cmp", "i", "", "", "", "", "", "", "", "", "", "", "", "", "", "", "", "", "", "", "", "", "", "", "", "", "", "", ""] }
theorem syB_swp_ntmps (ρ : Ren) : (syB_swp ρ).ntmps = 38 := rfl
def syB_rot (ρ : Ren) : Func := { name := "slices.rotateCmpFunc", origin := "slices.rotateCmpFunc", targs := #[ρ.t 24], params := #[ρ.t 22, ρ.t 3, ρ.t 3, ρ.t 3, ρ.t 25], resultTypes := #[], nfree := 0, ntmps := 58, results := #[], body := some ((Code.region 0 #[{ dst := some 12, op := Op.move (Operand.tmp 2), type := ρ.t 3, pos := "zsortanyfunc.go:465", after := #[], guard := none }, { dst := some 13, op := Op.move (Operand.tmp 1), type := ρ.t 3, pos := "zsortanyfunc.go:465", after := #[], guard := none }, { dst := some 14, op := Op.binOp BinOp.sub (ρ.t 3) (Operand.tmp 12) (Operand.tmp 13) (ρ.t 3), type := ρ.t 3, pos := "zsortanyfunc.go:465", after := #[{ on := 0, ground := Ground.data }, { on := 1, ground := Ground.data }], guard := none }, { dst := some 10, op := Op.assign (Operand.tmp 14), type := ρ.t 3, pos := "zsortanyfunc.go:465", after := #[{ on := 2, ground := Ground.data }, { on := 0, ground := Ground.phase }, { on := 1, ground := Ground.phase }, { on := 2, ground := Ground.phase }], guard := none }] false).seq ((Code.region 1 #[{ dst := some 15, op := Op.move (Operand.tmp 3), type := ρ.t 3, pos := "zsortanyfunc.go:466", after := #[], guard := none }, { dst := some 16, op := Op.move (Operand.tmp 2), type := ρ.t 3, pos := "zsortanyfunc.go:466", after := #[], guard := none }, { dst := some 17, op := Op.binOp BinOp.sub (ρ.t 3) (Operand.tmp 15) (Operand.tmp 16) (ρ.t 3), type := ρ.t 3, pos := "zsortanyfunc.go:466", after := #[{ on := 0, ground := Ground.data }, { on := 1, ground := Ground.data }], guard := none }, { dst := some 11, op := Op.assign (Operand.tmp 17), type := ρ.t 3, pos := "zsortanyfunc.go:466", after := #[{ on := 2, ground := Ground.data }, { on := 0, ground := Ground.phase }, { on := 1, ground := Ground.phase }, { on := 2, ground := Ground.phase }], guard := none }] false).seq ((Code.block 0 (((Code.region 2 #[{ dst := some 18, op := Op.move (Operand.tmp 10), type := ρ.t 3, pos := "zsortanyfunc.go:468", after := #[], guard := none }, { dst := some 19, op := Op.move (Operand.tmp 11), type := ρ.t 3, pos := "zsortanyfunc.go:468", after := #[], guard := none }, { dst := some 20, op := Op.binOp BinOp.neq (ρ.t 3) (Operand.tmp 18) (Operand.tmp 19) (ρ.t 3), type := ρ.t 4, pos := "zsortanyfunc.go:468", after := #[{ on := 0, ground := Ground.data }, { on := 1, ground := Ground.data }], guard := none }] false).seq (Code.cond (Operand.tmp 20) Code.skip (Code.exit 0))).seq (Code.block 1 ((Code.region 3 #[{ dst := some 21, op := Op.move (Operand.tmp 10), type := ρ.t 3, pos := "zsortanyfunc.go:469", after := #[], guard := none }, { dst := some 22, op := Op.move (Operand.tmp 11), type := ρ.t 3, pos := "zsortanyfunc.go:469", after := #[], guard := none }, { dst := some 23, op := Op.binOp BinOp.gtr (ρ.t 3) (Operand.tmp 21) (Operand.tmp 22) (ρ.t 3), type := ρ.t 4, pos := "zsortanyfunc.go:469", after := #[{ on := 0, ground := Ground.data }, { on := 1, ground := Ground.data }], guard := none }] false).seq (Code.cond (Operand.tmp 23) ((Code.region 4 #[{ dst := some 24, op := Op.move (Operand.tmp 0), type := ρ.t 22, pos := "zsortanyfunc.go:470", after := #[], guard := none }, { dst := some 25, op := Op.move (Operand.tmp 2), type := ρ.t 3, pos := "zsortanyfunc.go:470", after := #[], guard := none }, { dst := some 26, op := Op.move (Operand.tmp 10), type := ρ.t 3, pos := "zsortanyfunc.go:470", after := #[], guard := none }, { dst := some 27, op := Op.binOp BinOp.sub (ρ.t 3) (Operand.tmp 25) (Operand.tmp 26) (ρ.t 3), type := ρ.t 3, pos := "zsortanyfunc.go:470", after := #[{ on := 1, ground := Ground.data }, { on := 2, ground := Ground.data }], guard := none }, { dst := some 28, op := Op.move (Operand.tmp 2), type := ρ.t 3, pos := "zsortanyfunc.go:470", after := #[], guard := none }, { dst := some 29, op := Op.move (Operand.tmp 11), type := ρ.t 3, pos := "zsortanyfunc.go:470", after := #[], guard := none }, { dst := some 30, op := Op.move (Operand.tmp 4), type := ρ.t 25, pos := "zsortanyfunc.go:470", after := #[], guard := none }, { dst := some 31, op := Op.call { callee := Callee.value (Operand.func (ρ.f 81)), args := #[Operand.tmp 24, Operand.tmp 27, Operand.tmp 28, Operand.tmp 29, Operand.tmp 30], argTypes := #[ρ.t 22, ρ.t 3, ρ.t 3, ρ.t 3, ρ.t 25] }, type := ρ.t 0, pos := "zsortanyfunc.go:470", after := #[{ on := 0, ground := Ground.data }, { on := 3, ground := Ground.data }, { on := 4, ground := Ground.data }, { on := 5, ground := Ground.data }, { on := 6, ground := Ground.data }], guard := none }] false).seq (Code.region 5 #[{ dst := some 32, op := Op.move (Operand.tmp 10), type := ρ.t 3, pos := "zsortanyfunc.go:471", after := #[], guard := none }, { dst := some 33, op := Op.move (Operand.tmp 11), type := ρ.t 3, pos := "zsortanyfunc.go:471", after := #[], guard := none }, { dst := some 34, op := Op.binOp BinOp.sub (ρ.t 3) (Operand.tmp 32) (Operand.tmp 33) (ρ.t 3), type := ρ.t 3, pos := "zsortanyfunc.go:471", after := #[{ on := 0, ground := Ground.data }, { on := 1, ground := Ground.data }], guard := none }, { dst := some 10, op := Op.assign (Operand.tmp 34), type := ρ.t 3, pos := "zsortanyfunc.go:471", after := #[{ on := 2, ground := Ground.data }, { on := 0, ground := Ground.phase }, { on := 1, ground := Ground.phase }, { on := 2, ground := Ground.phase }], guard := none }] false)) ((Code.region 6 #[{ dst := some 35, op := Op.move (Operand.tmp 0), type := ρ.t 22, pos := "zsortanyfunc.go:473", after := #[], guard := none }, { dst := some 36, op := Op.move (Operand.tmp 2), type := ρ.t 3, pos := "zsortanyfunc.go:473", after := #[], guard := none }, { dst := some 37, op := Op.move (Operand.tmp 10), type := ρ.t 3, pos := "zsortanyfunc.go:473", after := #[], guard := none }, { dst := some 38, op := Op.binOp BinOp.sub (ρ.t 3) (Operand.tmp 36) (Operand.tmp 37) (ρ.t 3), type := ρ.t 3, pos := "zsortanyfunc.go:473", after := #[{ on := 1, ground := Ground.data }, { on := 2, ground := Ground.data }], guard := none }, { dst := some 39, op := Op.move (Operand.tmp 2), type := ρ.t 3, pos := "zsortanyfunc.go:473", after := #[], guard := none }, { dst := some 40, op := Op.move (Operand.tmp 11), type := ρ.t 3, pos := "zsortanyfunc.go:473", after := #[], guard := none }, { dst := some 41, op := Op.binOp BinOp.add (ρ.t 3) (Operand.tmp 39) (Operand.tmp 40) (ρ.t 3), type := ρ.t 3, pos := "zsortanyfunc.go:473", after := #[{ on := 4, ground := Ground.data }, { on := 5, ground := Ground.data }], guard := none }, { dst := some 42, op := Op.move (Operand.tmp 10), type := ρ.t 3, pos := "zsortanyfunc.go:473", after := #[], guard := none }, { dst := some 43, op := Op.binOp BinOp.sub (ρ.t 3) (Operand.tmp 41) (Operand.tmp 42) (ρ.t 3), type := ρ.t 3, pos := "zsortanyfunc.go:473", after := #[{ on := 6, ground := Ground.data }, { on := 7, ground := Ground.data }], guard := none }, { dst := some 44, op := Op.move (Operand.tmp 10), type := ρ.t 3, pos := "zsortanyfunc.go:473", after := #[], guard := none }, { dst := some 45, op := Op.move (Operand.tmp 4), type := ρ.t 25, pos := "zsortanyfunc.go:473", after := #[], guard := none }, { dst := some 46, op := Op.call { callee := Callee.value (Operand.func (ρ.f 81)), args := #[Operand.tmp 35, Operand.tmp 38, Operand.tmp 43, Operand.tmp 44, Operand.tmp 45], argTypes := #[ρ.t 22, ρ.t 3, ρ.t 3, ρ.t 3, ρ.t 25] }, type := ρ.t 0, pos := "zsortanyfunc.go:473", after := #[{ on := 0, ground := Ground.data }, { on := 3, ground := Ground.data }, { on := 8, ground := Ground.data }, { on := 9, ground := Ground.data }, { on := 10, ground := Ground.data }], guard := none }] false).seq (Code.region 7 #[{ dst := some 47, op := Op.move (Operand.tmp 11), type := ρ.t 3, pos := "zsortanyfunc.go:474", after := #[], guard := none }, { dst := some 48, op := Op.move (Operand.tmp 10), type := ρ.t 3, pos := "zsortanyfunc.go:474", after := #[], guard := none }, { dst := some 49, op := Op.binOp BinOp.sub (ρ.t 3) (Operand.tmp 47) (Operand.tmp 48) (ρ.t 3), type := ρ.t 3, pos := "zsortanyfunc.go:474", after := #[{ on := 0, ground := Ground.data }, { on := 1, ground := Ground.data }], guard := none }, { dst := some 11, op := Op.assign (Operand.tmp 49), type := ρ.t 3, pos := "zsortanyfunc.go:474", after := #[{ on := 2, ground := Ground.data }, { on := 0, ground := Ground.phase }, { on := 1, ground := Ground.phase }, { on := 2, ground := Ground.phase }], guard := none }] false)))))).loop).seq (Code.region 8 #[{ dst := some 50, op := Op.move (Operand.tmp 0), type := ρ.t 22, pos := "zsortanyfunc.go:478", after := #[], guard := none }, { dst := some 51, op := Op.move (Operand.tmp 2), type := ρ.t 3, pos := "zsortanyfunc.go:478", after := #[], guard := none }, { dst := some 52, op := Op.move (Operand.tmp 10), type := ρ.t 3, pos := "zsortanyfunc.go:478", after := #[], guard := none }, { dst := some 53, op := Op.binOp BinOp.sub (ρ.t 3) (Operand.tmp 51) (Operand.tmp 52) (ρ.t 3), type := ρ.t 3, pos := "zsortanyfunc.go:478", after := #[{ on := 1, ground := Ground.data }, { on := 2, ground := Ground.data }], guard := none }, { dst := some 54, op := Op.move (Operand.tmp 2), type := ρ.t 3, pos := "zsortanyfunc.go:478", after := #[], guard := none }, { dst := some 55, op := Op.move (Operand.tmp 10), type := ρ.t 3, pos := "zsortanyfunc.go:478", after := #[], guard := none }, { dst := some 56, op := Op.move (Operand.tmp 4), type := ρ.t 25, pos := "zsortanyfunc.go:478", after := #[], guard := none }, { dst := some 57, op := Op.call { callee := Callee.value (Operand.func (ρ.f 81)), args := #[Operand.tmp 50, Operand.tmp 53, Operand.tmp 54, Operand.tmp 55, Operand.tmp 56], argTypes := #[ρ.t 22, ρ.t 3, ρ.t 3, ρ.t 3, ρ.t 25] }, type := ρ.t 0, pos := "zsortanyfunc.go:478", after := #[{ on := 0, ground := Ground.data }, { on := 3, ground := Ground.data }, { on := 4, ground := Ground.data }, { on := 5, ground := Ground.data }, { on := 6, ground := Ground.data }], guard := none }] false)))), norace := false, file := "slices/zsortanyfunc.go", endLine := 479, tmpNames := #["data", "a", "m", "b", "cmp", "data", "a", "m", "b", "cmp", "i", "j", "", "", "", "", "", "", "", "", "", "", "", "", "", "", "", "", "", "", "", "", "", "", "", "", "", "", "", "", "", "", "", "", "", "", "", "", "", "", "", "", "", "", "", "", "", ""] }
theorem syB_rot_ntmps (ρ : Ren) : (syB_rot ρ).ntmps = 58 := rfl
def syB_mer (ρ : Ren) : Func := { name := "slices.symMergeCmpFunc", origin := "slices.symMergeCmpFunc", targs := #[ρ.t 24], params := #[ρ.t 22, ρ.t 3, ρ.t 3, ρ.t 3, ρ.t 25], resultTypes := #[], nfree := 0, ntmps := 220, results := #[], body := some (((Code.region 0 #[{ dst := some 25, op := Op.move (Operand.tmp 2), type := ρ.t 3, pos := "zsortanyfunc.go:382", after := #[], guard := none }, { dst := some 26, op := Op.move (Operand.tmp 1), type := ρ.t 3, pos := "zsortanyfunc.go:382", after := #[], guard := none }, { dst := some 27, op := Op.binOp BinOp.sub (ρ.t 3) (Operand.tmp 25) (Operand.tmp 26) (ρ.t 3), type := ρ.t 3, pos := "zsortanyfunc.go:382", after := #[{ on := 0, ground := Ground.data }, { on := 1, ground := Ground.data }], guard := none }, { dst := some 28, op := Op.binOp BinOp.eql (ρ.t 3) (Operand.tmp 27) (Operand.const (Value.int IntKind.i64 1)) (ρ.t 3), type := ρ.t 4, pos := "zsortanyfunc.go:382", after := #[{ on := 2, ground := Ground.data }], guard := none }] false).seq (Code.cond (Operand.tmp 28) ((Code.region 1 #[{ dst := some 29, op := Op.move (Operand.tmp 2), type := ρ.t 3, pos := "zsortanyfunc.go:386", after := #[], guard := none }, { dst := some 10, op := Op.assign (Operand.tmp 29), type := ρ.t 3, pos := "zsortanyfunc.go:386", after := #[{ on := 0, ground := Ground.data }, { on := 0, ground := Ground.phase }], guard := none }] false).seq ((Code.region 2 #[{ dst := some 30, op := Op.move (Operand.tmp 3), type := ρ.t 3, pos := "zsortanyfunc.go:387", after := #[], guard := none }, { dst := some 11, op := Op.assign (Operand.tmp 30), type := ρ.t 3, pos := "zsortanyfunc.go:387", after := #[{ on := 0, ground := Ground.data }, { on := 0, ground := Ground.phase }], guard := none }] false).seq ((Code.block 0 (((Code.region 3 #[{ dst := some 31, op := Op.move (Operand.tmp 10), type := ρ.t 3, pos := "zsortanyfunc.go:388", after := #[], guard := none }, { dst := some 32, op := Op.move (Operand.tmp 11), type := ρ.t 3, pos := "zsortanyfunc.go:388", after := #[], guard := none }, { dst := some 33, op := Op.binOp BinOp.lss (ρ.t 3) (Operand.tmp 31) (Operand.tmp 32) (ρ.t 3), type := ρ.t 4, pos := "zsortanyfunc.go:388", after := #[{ on := 0, ground := Ground.data }, { on := 1, ground := Ground.data }], guard := none }] false).seq (Code.cond (Operand.tmp 33) Code.skip (Code.exit 0))).seq (Code.block 1 ((Code.region 4 #[{ dst := some 34, op := Op.move (Operand.tmp 10), type := ρ.t 3, pos := "zsortanyfunc.go:389", after := #[], guard := none }, { dst := some 35, op := Op.move (Operand.tmp 11), type := ρ.t 3, pos := "zsortanyfunc.go:389", after := #[], guard := none }, { dst := some 36, op := Op.binOp BinOp.add (ρ.t 3) (Operand.tmp 34) (Operand.tmp 35) (ρ.t 3), type := ρ.t 3, pos := "zsortanyfunc.go:389", after := #[{ on := 0, ground := Ground.data }, { on := 1, ground := Ground.data }], guard := none }, { dst := some 37, op := Op.convert (ρ.t 3) (ρ.t 39) (Operand.tmp 36), type := ρ.t 39, pos := "zsortanyfunc.go:389", after := #[{ on := 2, ground := Ground.data }], guard := none }, { dst := some 38, op := Op.binOp BinOp.shr (ρ.t 39) (Operand.tmp 37) (Operand.const (Value.int IntKind.u64 1)) (ρ.t 39), type := ρ.t 39, pos := "zsortanyfunc.go:389", after := #[{ on := 3, ground := Ground.data }], guard := none }, { dst := some 39, op := Op.convert (ρ.t 39) (ρ.t 3) (Operand.tmp 38), type := ρ.t 3, pos := "zsortanyfunc.go:389", after := #[{ on := 4, ground := Ground.data }], guard := none }, { dst := some 12, op := Op.assign (Operand.tmp 39), type := ρ.t 3, pos := "zsortanyfunc.go:389", after := #[{ on := 5, ground := Ground.data }, { on := 0, ground := Ground.phase }, { on := 1, ground := Ground.phase }, { on := 2, ground := Ground.phase }, { on := 3, ground := Ground.phase }, { on := 4, ground := Ground.phase }, { on := 5, ground := Ground.phase }], guard := none }] false).seq ((Code.region 5 #[{ dst := some 40, op := Op.move (Operand.tmp 4), type := ρ.t 25, pos := "zsortanyfunc.go:390", after := #[], guard := none }, { dst := some 41, op := Op.move (Operand.tmp 0), type := ρ.t 22, pos := "zsortanyfunc.go:390", after := #[], guard := none }, { dst := some 42, op := Op.move (Operand.tmp 12), type := ρ.t 3, pos := "zsortanyfunc.go:390", after := #[], guard := none }, { dst := some 43, op := Op.indexAddr (ρ.t 22) (Operand.tmp 41) (Operand.tmp 42), type := ρ.t 0, pos := "zsortanyfunc.go:390", after := #[{ on := 1, ground := Ground.data }, { on := 2, ground := Ground.data }], guard := none }, { dst := some 44, op := Op.load (ρ.t 24) (Operand.tmp 43), type := ρ.t 24, pos := "zsortanyfunc.go:390", after := #[{ on := 3, ground := Ground.data }], guard := none }, { dst := some 45, op := Op.move (Operand.tmp 0), type := ρ.t 22, pos := "zsortanyfunc.go:390", after := #[], guard := none }, { dst := some 46, op := Op.move (Operand.tmp 1), type := ρ.t 3, pos := "zsortanyfunc.go:390", after := #[], guard := none }, { dst := some 47, op := Op.indexAddr (ρ.t 22) (Operand.tmp 45) (Operand.tmp 46), type := ρ.t 0, pos := "zsortanyfunc.go:390", after := #[{ on := 5, ground := Ground.data }, { on := 6, ground := Ground.data }], guard := none }, { dst := some 48, op := Op.load (ρ.t 24) (Operand.tmp 47), type := ρ.t 24, pos := "zsortanyfunc.go:390", after := #[{ on := 7, ground := Ground.data }], guard := none }, { dst := some 49, op := Op.call { callee := Callee.value (Operand.tmp 40), args := #[Operand.tmp 44, Operand.tmp 48], argTypes := #[ρ.t 24, ρ.t 24] }, type := ρ.t 3, pos := "zsortanyfunc.go:390", after := #[{ on := 0, ground := Ground.data }, { on := 4, ground := Ground.data }, { on := 8, ground := Ground.data }], guard := none }, { dst := some 50, op := Op.binOp BinOp.lss (ρ.t 3) (Operand.tmp 49) (Operand.const (Value.int IntKind.i64 0)) (ρ.t 3), type := ρ.t 4, pos := "zsortanyfunc.go:390", after := #[{ on := 9, ground := Ground.data }], guard := none }] true).seq (Code.cond (Operand.tmp 50) (Code.region 6 #[{ dst := some 51, op := Op.move (Operand.tmp 12), type := ρ.t 3, pos := "zsortanyfunc.go:391", after := #[], guard := none }, { dst := some 52, op := Op.binOp BinOp.add (ρ.t 3) (Operand.tmp 51) (Operand.const (Value.int IntKind.i64 1)) (ρ.t 3), type := ρ.t 3, pos := "zsortanyfunc.go:391", after := #[{ on := 0, ground := Ground.data }], guard := none }, { dst := some 10, op := Op.assign (Operand.tmp 52), type := ρ.t 3, pos := "zsortanyfunc.go:391", after := #[{ on := 1, ground := Ground.data }, { on := 0, ground := Ground.phase }, { on := 1, ground := Ground.phase }], guard := none }] false) (Code.region 7 #[{ dst := some 53, op := Op.move (Operand.tmp 12), type := ρ.t 3, pos := "zsortanyfunc.go:393", after := #[], guard := none }, { dst := some 11, op := Op.assign (Operand.tmp 53), type := ρ.t 3, pos := "zsortanyfunc.go:393", after := #[{ on := 0, ground := Ground.data }, { on := 0, ground := Ground.phase }], guard := none }] false)))))).loop).seq (((Code.region 8 #[{ dst := some 54, op := Op.move (Operand.tmp 1), type := ρ.t 3, pos := "zsortanyfunc.go:397", after := #[], guard := none }, { dst := some 13, op := Op.assign (Operand.tmp 54), type := ρ.t 3, pos := "zsortanyfunc.go:397", after := #[{ on := 0, ground := Ground.data }, { on := 0, ground := Ground.phase }], guard := none }] false).seq (Code.block 2 (((Code.region 9 #[{ dst := some 55, op := Op.move (Operand.tmp 13), type := ρ.t 3, pos := "zsortanyfunc.go:397", after := #[], guard := none }, { dst := some 56, op := Op.move (Operand.tmp 10), type := ρ.t 3, pos := "zsortanyfunc.go:397", after := #[], guard := none }, { dst := some 57, op := Op.binOp BinOp.sub (ρ.t 3) (Operand.tmp 56) (Operand.const (Value.int IntKind.i64 1)) (ρ.t 3), type := ρ.t 3, pos := "zsortanyfunc.go:397", after := #[{ on := 1, ground := Ground.data }], guard := none }, { dst := some 58, op := Op.binOp BinOp.lss (ρ.t 3) (Operand.tmp 55) (Operand.tmp 57) (ρ.t 3), type := ρ.t 4, pos := "zsortanyfunc.go:397", after := #[{ on := 0, ground := Ground.data }, { on := 2, ground := Ground.data }], guard := none }] false).seq (Code.cond (Operand.tmp 58) Code.skip (Code.exit 2))).seq ((Code.block 3 (Code.region 11 #[{ dst := some 61, op := Op.move (Operand.tmp 0), type := ρ.t 22, pos := "zsortanyfunc.go:398", after := #[], guard := none }, { dst := some 62, op := Op.move (Operand.tmp 13), type := ρ.t 3, pos := "zsortanyfunc.go:398", after := #[], guard := none }, { dst := some 63, op := Op.move (Operand.tmp 0), type := ρ.t 22, pos := "zsortanyfunc.go:398", after := #[{ on := 15, ground := Ground.gcOnly Departure.lateStores }], guard := none }, { dst := some 64, op := Op.move (Operand.tmp 13), type := ρ.t 3, pos := "zsortanyfunc.go:398", after := #[{ on := 15, ground := Ground.gcOnly Departure.lateStores }], guard := none }, { dst := some 65, op := Op.binOp BinOp.add (ρ.t 3) (Operand.tmp 64) (Operand.const (Value.int IntKind.i64 1)) (ρ.t 3), type := ρ.t 3, pos := "zsortanyfunc.go:398", after := #[{ on := 3, ground := Ground.data }, { on := 15, ground := Ground.gcOnly Departure.lateStores }], guard := none }, { dst := some 66, op := Op.move (Operand.tmp 0), type := ρ.t 22, pos := "zsortanyfunc.go:398", after := #[], guard := none }, { dst := some 67, op := Op.move (Operand.tmp 13), type := ρ.t 3, pos := "zsortanyfunc.go:398", after := #[], guard := none }, { dst := some 68, op := Op.binOp BinOp.add (ρ.t 3) (Operand.tmp 67) (Operand.const (Value.int IntKind.i64 1)) (ρ.t 3), type := ρ.t 3, pos := "zsortanyfunc.go:398", after := #[{ on := 6, ground := Ground.data }], guard := none }, { dst := some 69, op := Op.indexAddr (ρ.t 22) (Operand.tmp 66) (Operand.tmp 68), type := ρ.t 0, pos := "zsortanyfunc.go:398", after := #[{ on := 5, ground := Ground.data }, { on := 7, ground := Ground.data }], guard := none }, { dst := some 70, op := Op.load (ρ.t 24) (Operand.tmp 69), type := ρ.t 24, pos := "zsortanyfunc.go:398", after := #[{ on := 8, ground := Ground.data }], guard := none }, { dst := some 71, op := Op.move (Operand.tmp 0), type := ρ.t 22, pos := "zsortanyfunc.go:398", after := #[], guard := none }, { dst := some 72, op := Op.move (Operand.tmp 13), type := ρ.t 3, pos := "zsortanyfunc.go:398", after := #[], guard := none }, { dst := some 73, op := Op.indexAddr (ρ.t 22) (Operand.tmp 71) (Operand.tmp 72), type := ρ.t 0, pos := "zsortanyfunc.go:398", after := #[{ on := 10, ground := Ground.data }, { on := 11, ground := Ground.data }], guard := none }, { dst := some 74, op := Op.load (ρ.t 24) (Operand.tmp 73), type := ρ.t 24, pos := "zsortanyfunc.go:398", after := #[{ on := 12, ground := Ground.data }], guard := none }, { dst := some 75, op := Op.indexAddr (ρ.t 22) (Operand.tmp 61) (Operand.tmp 62), type := ρ.t 0, pos := "zsortanyfunc.go:398", after := #[{ on := 0, ground := Ground.data }, { on := 1, ground := Ground.data }, { on := 0, ground := Ground.phase }, { on := 1, ground := Ground.phase }, { on := 2, ground := Ground.textOnly Departure.lateStores }, { on := 3, ground := Ground.textOnly Departure.lateStores }, { on := 4, ground := Ground.textOnly Departure.lateStores }, { on := 5, ground := Ground.phase }, { on := 6, ground := Ground.phase }, { on := 7, ground := Ground.phase }, { on := 8, ground := Ground.phase }, { on := 9, ground := Ground.phase }, { on := 10, ground := Ground.textOnly Departure.lateStores }, { on := 11, ground := Ground.textOnly Departure.lateStores }, { on := 12, ground := Ground.textOnly Departure.lateStoresUnsure }, { on := 13, ground := Ground.phase }], guard := none }, { dst := none, op := Op.store (ρ.t 24) (Operand.tmp 75) (Operand.tmp 70), type := ρ.t 0, pos := "zsortanyfunc.go:398", after := #[{ on := 14, ground := Ground.data }, { on := 9, ground := Ground.data }, { on := 0, ground := Ground.phase }, { on := 1, ground := Ground.phase }, { on := 2, ground := Ground.textOnly Departure.lateStores }, { on := 3, ground := Ground.textOnly Departure.lateStores }, { on := 4, ground := Ground.textOnly Departure.lateStores }, { on := 5, ground := Ground.phase }, { on := 6, ground := Ground.phase }, { on := 7, ground := Ground.phase }, { on := 8, ground := Ground.phase }, { on := 9, ground := Ground.phase }, { on := 10, ground := Ground.textOnly Departure.lateStores }, { on := 11, ground := Ground.textOnly Departure.lateStores }, { on := 12, ground := Ground.textOnly Departure.lateStoresUnsure }, { on := 13, ground := Ground.phase }], guard := none }, { dst := some 76, op := Op.indexAddr (ρ.t 22) (Operand.tmp 63) (Operand.tmp 65), type := ρ.t 0, pos := "zsortanyfunc.go:398", after := #[{ on := 2, ground := Ground.data }, { on := 4, ground := Ground.data }, { on := 0, ground := Ground.phase }, { on := 1, ground := Ground.phase }, { on := 2, ground := Ground.phase }, { on := 3, ground := Ground.phase }, { on := 4, ground := Ground.phase }, { on := 5, ground := Ground.phase }, { on := 6, ground := Ground.phase }, { on := 7, ground := Ground.phase }, { on := 8, ground := Ground.phase }, { on := 9, ground := Ground.phase }, { on := 10, ground := Ground.phase }, { on := 11, ground := Ground.phase }, { on := 12, ground := Ground.phase }, { on := 13, ground := Ground.phase }, { on := 14, ground := Ground.phase }, { on := 15, ground := Ground.phase }], guard := none }, { dst := none, op := Op.store (ρ.t 24) (Operand.tmp 76) (Operand.tmp 74), type := ρ.t 0, pos := "zsortanyfunc.go:398", after := #[{ on := 16, ground := Ground.data }, { on := 13, ground := Ground.data }, { on := 15, ground := Ground.chain }, { on := 0, ground := Ground.phase }, { on := 1, ground := Ground.phase }, { on := 2, ground := Ground.phase }, { on := 3, ground := Ground.phase }, { on := 4, ground := Ground.phase }, { on := 5, ground := Ground.phase }, { on := 6, ground := Ground.phase }, { on := 7, ground := Ground.phase }, { on := 8, ground := Ground.phase }, { on := 9, ground := Ground.phase }, { on := 10, ground := Ground.phase }, { on := 11, ground := Ground.phase }, { on := 12, ground := Ground.phase }, { on := 13, ground := Ground.phase }, { on := 14, ground := Ground.phase }, { on := 15, ground := Ground.phase }], guard := none }] true)).seq (Code.region 10 #[{ dst := some 59, op := Op.move (Operand.tmp 13), type := ρ.t 3, pos := "zsortanyfunc.go:397", after := #[], guard := none }, { dst := some 60, op := Op.binOp BinOp.add (ρ.t 3) (Operand.tmp 59) (Operand.const (Value.int IntKind.i64 1)) (ρ.t 3), type := ρ.t 3, pos := "zsortanyfunc.go:397", after := #[{ on := 0, ground := Ground.data }], guard := none }, { dst := some 13, op := Op.assign (Operand.tmp 60), type := ρ.t 3, pos := "zsortanyfunc.go:397", after := #[{ on := 1, ground := Ground.data }, { on := 0, ground := Ground.phase }, { on := 1, ground := Ground.phase }], guard := none }] false))).loop)).seq Code.ret)))) Code.skip)).seq (((Code.region 12 #[{ dst := some 77, op := Op.move (Operand.tmp 3), type := ρ.t 3, pos := "zsortanyfunc.go:406", after := #[], guard := none }, { dst := some 78, op := Op.move (Operand.tmp 2), type := ρ.t 3, pos := "zsortanyfunc.go:406", after := #[], guard := none }, { dst := some 79, op := Op.binOp BinOp.sub (ρ.t 3) (Operand.tmp 77) (Operand.tmp 78) (ρ.t 3), type := ρ.t 3, pos := "zsortanyfunc.go:406", after := #[{ on := 0, ground := Ground.data }, { on := 1, ground := Ground.data }], guard := none }, { dst := some 80, op := Op.binOp BinOp.eql (ρ.t 3) (Operand.tmp 79) (Operand.const (Value.int IntKind.i64 1)) (ρ.t 3), type := ρ.t 4, pos := "zsortanyfunc.go:406", after := #[{ on := 2, ground := Ground.data }], guard := none }] false).seq (Code.cond (Operand.tmp 80) ((Code.region 13 #[{ dst := some 81, op := Op.move (Operand.tmp 1), type := ρ.t 3, pos := "zsortanyfunc.go:410", after := #[], guard := none }, { dst := some 14, op := Op.assign (Operand.tmp 81), type := ρ.t 3, pos := "zsortanyfunc.go:410", after := #[{ on := 0, ground := Ground.data }, { on := 0, ground := Ground.phase }], guard := none }] false).seq ((Code.region 14 #[{ dst := some 82, op := Op.move (Operand.tmp 2), type := ρ.t 3, pos := "zsortanyfunc.go:411", after := #[], guard := none }, { dst := some 15, op := Op.assign (Operand.tmp 82), type := ρ.t 3, pos := "zsortanyfunc.go:411", after := #[{ on := 0, ground := Ground.data }, { on := 0, ground := Ground.phase }], guard := none }] false).seq ((Code.block 4 (((Code.region 15 #[{ dst := some 83, op := Op.move (Operand.tmp 14), type := ρ.t 3, pos := "zsortanyfunc.go:412", after := #[], guard := none }, { dst := some 84, op := Op.move (Operand.tmp 15), type := ρ.t 3, pos := "zsortanyfunc.go:412", after := #[], guard := none }, { dst := some 85, op := Op.binOp BinOp.lss (ρ.t 3) (Operand.tmp 83) (Operand.tmp 84) (ρ.t 3), type := ρ.t 4, pos := "zsortanyfunc.go:412", after := #[{ on := 0, ground := Ground.data }, { on := 1, ground := Ground.data }], guard := none }] false).seq (Code.cond (Operand.tmp 85) Code.skip (Code.exit 4))).seq (Code.block 5 ((Code.region 16 #[{ dst := some 86, op := Op.move (Operand.tmp 14), type := ρ.t 3, pos := "zsortanyfunc.go:413", after := #[], guard := none }, { dst := some 87, op := Op.move (Operand.tmp 15), type := ρ.t 3, pos := "zsortanyfunc.go:413", after := #[], guard := none }, { dst := some 88, op := Op.binOp BinOp.add (ρ.t 3) (Operand.tmp 86) (Operand.tmp 87) (ρ.t 3), type := ρ.t 3, pos := "zsortanyfunc.go:413", after := #[{ on := 0, ground := Ground.data }, { on := 1, ground := Ground.data }], guard := none }, { dst := some 89, op := Op.convert (ρ.t 3) (ρ.t 39) (Operand.tmp 88), type := ρ.t 39, pos := "zsortanyfunc.go:413", after := #[{ on := 2, ground := Ground.data }], guard := none }, { dst := some 90, op := Op.binOp BinOp.shr (ρ.t 39) (Operand.tmp 89) (Operand.const (Value.int IntKind.u64 1)) (ρ.t 39), type := ρ.t 39, pos := "zsortanyfunc.go:413", after := #[{ on := 3, ground := Ground.data }], guard := none }, { dst := some 91, op := Op.convert (ρ.t 39) (ρ.t 3) (Operand.tmp 90), type := ρ.t 3, pos := "zsortanyfunc.go:413", after := #[{ on := 4, ground := Ground.data }], guard := none }, { dst := some 16, op := Op.assign (Operand.tmp 91), type := ρ.t 3, pos := "zsortanyfunc.go:413", after := #[{ on := 5, ground := Ground.data }, { on := 0, ground := Ground.phase }, { on := 1, ground := Ground.phase }, { on := 2, ground := Ground.phase }, { on := 3, ground := Ground.phase }, { on := 4, ground := Ground.phase }, { on := 5, ground := Ground.phase }], guard := none }] false).seq ((Code.region 17 #[{ dst := some 92, op := Op.move (Operand.tmp 4), type := ρ.t 25, pos := "zsortanyfunc.go:414", after := #[], guard := none }, { dst := some 93, op := Op.move (Operand.tmp 0), type := ρ.t 22, pos := "zsortanyfunc.go:414", after := #[], guard := none }, { dst := some 94, op := Op.move (Operand.tmp 2), type := ρ.t 3, pos := "zsortanyfunc.go:414", after := #[], guard := none }, { dst := some 95, op := Op.indexAddr (ρ.t 22) (Operand.tmp 93) (Operand.tmp 94), type := ρ.t 0, pos := "zsortanyfunc.go:414", after := #[{ on := 1, ground := Ground.data }, { on := 2, ground := Ground.data }], guard := none }, { dst := some 96, op := Op.load (ρ.t 24) (Operand.tmp 95), type := ρ.t 24, pos := "zsortanyfunc.go:414", after := #[{ on := 3, ground := Ground.data }], guard := none }, { dst := some 97, op := Op.move (Operand.tmp 0), type := ρ.t 22, pos := "zsortanyfunc.go:414", after := #[], guard := none }, { dst := some 98, op := Op.move (Operand.tmp 16), type := ρ.t 3, pos := "zsortanyfunc.go:414", after := #[], guard := none }, { dst := some 99, op := Op.indexAddr (ρ.t 22) (Operand.tmp 97) (Operand.tmp 98), type := ρ.t 0, pos := "zsortanyfunc.go:414", after := #[{ on := 5, ground := Ground.data }, { on := 6, ground := Ground.data }], guard := none }, { dst := some 100, op := Op.load (ρ.t 24) (Operand.tmp 99), type := ρ.t 24, pos := "zsortanyfunc.go:414", after := #[{ on := 7, ground := Ground.data }], guard := none }, { dst := some 101, op := Op.call { callee := Callee.value (Operand.tmp 92), args := #[Operand.tmp 96, Operand.tmp 100], argTypes := #[ρ.t 24, ρ.t 24] }, type := ρ.t 3, pos := "zsortanyfunc.go:414", after := #[{ on := 0, ground := Ground.data }, { on := 4, ground := Ground.data }, { on := 8, ground := Ground.data }], guard := none }, { dst := some 102, op := Op.binOp BinOp.lss (ρ.t 3) (Operand.tmp 101) (Operand.const (Value.int IntKind.i64 0)) (ρ.t 3), type := ρ.t 4, pos := "zsortanyfunc.go:414", after := #[{ on := 9, ground := Ground.data }], guard := none }, { dst := some 103, op := Op.unOp UnOp.not (ρ.t 4) (Operand.tmp 102), type := ρ.t 4, pos := "zsortanyfunc.go:414", after := #[{ on := 10, ground := Ground.data }], guard := none }] true).seq (Code.cond (Operand.tmp 103) (Code.region 18 #[{ dst := some 104, op := Op.move (Operand.tmp 16), type := ρ.t 3, pos := "zsortanyfunc.go:415", after := #[], guard := none }, { dst := some 105, op := Op.binOp BinOp.add (ρ.t 3) (Operand.tmp 104) (Operand.const (Value.int IntKind.i64 1)) (ρ.t 3), type := ρ.t 3, pos := "zsortanyfunc.go:415", after := #[{ on := 0, ground := Ground.data }], guard := none }, { dst := some 14, op := Op.assign (Operand.tmp 105), type := ρ.t 3, pos := "zsortanyfunc.go:415", after := #[{ on := 1, ground := Ground.data }, { on := 0, ground := Ground.phase }, { on := 1, ground := Ground.phase }], guard := none }] false) (Code.region 19 #[{ dst := some 106, op := Op.move (Operand.tmp 16), type := ρ.t 3, pos := "zsortanyfunc.go:417", after := #[], guard := none }, { dst := some 15, op := Op.assign (Operand.tmp 106), type := ρ.t 3, pos := "zsortanyfunc.go:417", after := #[{ on := 0, ground := Ground.data }, { on := 0, ground := Ground.phase }], guard := none }] false)))))).loop).seq (((Code.region 20 #[{ dst := some 107, op := Op.move (Operand.tmp 2), type := ρ.t 3, pos := "zsortanyfunc.go:421", after := #[], guard := none }, { dst := some 17, op := Op.assign (Operand.tmp 107), type := ρ.t 3, pos := "zsortanyfunc.go:421", after := #[{ on := 0, ground := Ground.data }, { on := 0, ground := Ground.phase }], guard := none }] false).seq (Code.block 6 (((Code.region 21 #[{ dst := some 108, op := Op.move (Operand.tmp 17), type := ρ.t 3, pos := "zsortanyfunc.go:421", after := #[], guard := none }, { dst := some 109, op := Op.move (Operand.tmp 14), type := ρ.t 3, pos := "zsortanyfunc.go:421", after := #[], guard := none }, { dst := some 110, op := Op.binOp BinOp.gtr (ρ.t 3) (Operand.tmp 108) (Operand.tmp 109) (ρ.t 3), type := ρ.t 4, pos := "zsortanyfunc.go:421", after := #[{ on := 0, ground := Ground.data }, { on := 1, ground := Ground.data }], guard := none }] false).seq (Code.cond (Operand.tmp 110) Code.skip (Code.exit 6))).seq ((Code.block 7 (Code.region 23 #[{ dst := some 113, op := Op.move (Operand.tmp 0), type := ρ.t 22, pos := "zsortanyfunc.go:422", after := #[], guard := none }, { dst := some 114, op := Op.move (Operand.tmp 17), type := ρ.t 3, pos := "zsortanyfunc.go:422", after := #[], guard := none }, { dst := some 115, op := Op.move (Operand.tmp 0), type := ρ.t 22, pos := "zsortanyfunc.go:422", after := #[{ on := 15, ground := Ground.gcOnly Departure.lateStores }], guard := none }, { dst := some 116, op := Op.move (Operand.tmp 17), type := ρ.t 3, pos := "zsortanyfunc.go:422", after := #[{ on := 15, ground := Ground.gcOnly Departure.lateStores }], guard := none }, { dst := some 117, op := Op.binOp BinOp.sub (ρ.t 3) (Operand.tmp 116) (Operand.const (Value.int IntKind.i64 1)) (ρ.t 3), type := ρ.t 3, pos := "zsortanyfunc.go:422", after := #[{ on := 3, ground := Ground.data }, { on := 15, ground := Ground.gcOnly Departure.lateStores }], guard := none }, { dst := some 118, op := Op.move (Operand.tmp 0), type := ρ.t 22, pos := "zsortanyfunc.go:422", after := #[], guard := none }, { dst := some 119, op := Op.move (Operand.tmp 17), type := ρ.t 3, pos := "zsortanyfunc.go:422", after := #[], guard := none }, { dst := some 120, op := Op.binOp BinOp.sub (ρ.t 3) (Operand.tmp 119) (Operand.const (Value.int IntKind.i64 1)) (ρ.t 3), type := ρ.t 3, pos := "zsortanyfunc.go:422", after := #[{ on := 6, ground := Ground.data }], guard := none }, { dst := some 121, op := Op.indexAddr (ρ.t 22) (Operand.tmp 118) (Operand.tmp 120), type := ρ.t 0, pos := "zsortanyfunc.go:422", after := #[{ on := 5, ground := Ground.data }, { on := 7, ground := Ground.data }], guard := none }, { dst := some 122, op := Op.load (ρ.t 24) (Operand.tmp 121), type := ρ.t 24, pos := "zsortanyfunc.go:422", after := #[{ on := 8, ground := Ground.data }], guard := none }, { dst := some 123, op := Op.move (Operand.tmp 0), type := ρ.t 22, pos := "zsortanyfunc.go:422", after := #[], guard := none }, { dst := some 124, op := Op.move (Operand.tmp 17), type := ρ.t 3, pos := "zsortanyfunc.go:422", after := #[], guard := none }, { dst := some 125, op := Op.indexAddr (ρ.t 22) (Operand.tmp 123) (Operand.tmp 124), type := ρ.t 0, pos := "zsortanyfunc.go:422", after := #[{ on := 10, ground := Ground.data }, { on := 11, ground := Ground.data }], guard := none }, { dst := some 126, op := Op.load (ρ.t 24) (Operand.tmp 125), type := ρ.t 24, pos := "zsortanyfunc.go:422", after := #[{ on := 12, ground := Ground.data }], guard := none }, { dst := some 127, op := Op.indexAddr (ρ.t 22) (Operand.tmp 113) (Operand.tmp 114), type := ρ.t 0, pos := "zsortanyfunc.go:422", after := #[{ on := 0, ground := Ground.data }, { on := 1, ground := Ground.data }, { on := 0, ground := Ground.phase }, { on := 1, ground := Ground.phase }, { on := 2, ground := Ground.textOnly Departure.lateStores }, { on := 3, ground := Ground.textOnly Departure.lateStores }, { on := 4, ground := Ground.textOnly Departure.lateStores }, { on := 5, ground := Ground.phase }, { on := 6, ground := Ground.phase }, { on := 7, ground := Ground.phase }, { on := 8, ground := Ground.phase }, { on := 9, ground := Ground.phase }, { on := 10, ground := Ground.textOnly Departure.lateStores }, { on := 11, ground := Ground.textOnly Departure.lateStores }, { on := 12, ground := Ground.textOnly Departure.lateStoresUnsure }, { on := 13, ground := Ground.phase }], guard := none }, { dst := none, op := Op.store (ρ.t 24) (Operand.tmp 127) (Operand.tmp 122), type := ρ.t 0, pos := "zsortanyfunc.go:422", after := #[{ on := 14, ground := Ground.data }, { on := 9, ground := Ground.data }, { on := 0, ground := Ground.phase }, { on := 1, ground := Ground.phase }, { on := 2, ground := Ground.textOnly Departure.lateStores }, { on := 3, ground := Ground.textOnly Departure.lateStores }, { on := 4, ground := Ground.textOnly Departure.lateStores }, { on := 5, ground := Ground.phase }, { on := 6, ground := Ground.phase }, { on := 7, ground := Ground.phase }, { on := 8, ground := Ground.phase }, { on := 9, ground := Ground.phase }, { on := 10, ground := Ground.textOnly Departure.lateStores }, { on := 11, ground := Ground.textOnly Departure.lateStores }, { on := 12, ground := Ground.textOnly Departure.lateStoresUnsure }, { on := 13, ground := Ground.phase }], guard := none }, { dst := some 128, op := Op.indexAddr (ρ.t 22) (Operand.tmp 115) (Operand.tmp 117), type := ρ.t 0, pos := "zsortanyfunc.go:422", after := #[{ on := 2, ground := Ground.data }, { on := 4, ground := Ground.data }, { on := 0, ground := Ground.phase }, { on := 1, ground := Ground.phase }, { on := 2, ground := Ground.phase }, { on := 3, ground := Ground.phase }, { on := 4, ground := Ground.phase }, { on := 5, ground := Ground.phase }, { on := 6, ground := Ground.phase }, { on := 7, ground := Ground.phase }, { on := 8, ground := Ground.phase }, { on := 9, ground := Ground.phase }, { on := 10, ground := Ground.phase }, { on := 11, ground := Ground.phase }, { on := 12, ground := Ground.phase }, { on := 13, ground := Ground.phase }, { on := 14, ground := Ground.phase }, { on := 15, ground := Ground.phase }], guard := none }, { dst := none, op := Op.store (ρ.t 24) (Operand.tmp 128) (Operand.tmp 126), type := ρ.t 0, pos := "zsortanyfunc.go:422", after := #[{ on := 16, ground := Ground.data }, { on := 13, ground := Ground.data }, { on := 15, ground := Ground.chain }, { on := 0, ground := Ground.phase }, { on := 1, ground := Ground.phase }, { on := 2, ground := Ground.phase }, { on := 3, ground := Ground.phase }, { on := 4, ground := Ground.phase }, { on := 5, ground := Ground.phase }, { on := 6, ground := Ground.phase }, { on := 7, ground := Ground.phase }, { on := 8, ground := Ground.phase }, { on := 9, ground := Ground.phase }, { on := 10, ground := Ground.phase }, { on := 11, ground := Ground.phase }, { on := 12, ground := Ground.phase }, { on := 13, ground := Ground.phase }, { on := 14, ground := Ground.phase }, { on := 15, ground := Ground.phase }], guard := none }] true)).seq (Code.region 22 #[{ dst := some 111, op := Op.move (Operand.tmp 17), type := ρ.t 3, pos := "zsortanyfunc.go:421", after := #[], guard := none }, { dst := some 112, op := Op.binOp BinOp.sub (ρ.t 3) (Operand.tmp 111) (Operand.const (Value.int IntKind.i64 1)) (ρ.t 3), type := ρ.t 3, pos := "zsortanyfunc.go:421", after := #[{ on := 0, ground := Ground.data }], guard := none }, { dst := some 17, op := Op.assign (Operand.tmp 112), type := ρ.t 3, pos := "zsortanyfunc.go:421", after := #[{ on := 1, ground := Ground.data }, { on := 0, ground := Ground.phase }, { on := 1, ground := Ground.phase }], guard := none }] false))).loop)).seq Code.ret)))) Code.skip)).seq ((Code.region 24 #[{ dst := some 129, op := Op.move (Operand.tmp 1), type := ρ.t 3, pos := "zsortanyfunc.go:427", after := #[], guard := none }, { dst := some 130, op := Op.move (Operand.tmp 3), type := ρ.t 3, pos := "zsortanyfunc.go:427", after := #[], guard := none }, { dst := some 131, op := Op.binOp BinOp.add (ρ.t 3) (Operand.tmp 129) (Operand.tmp 130) (ρ.t 3), type := ρ.t 3, pos := "zsortanyfunc.go:427", after := #[{ on := 0, ground := Ground.data }, { on := 1, ground := Ground.data }], guard := none }, { dst := some 132, op := Op.convert (ρ.t 3) (ρ.t 39) (Operand.tmp 131), type := ρ.t 39, pos := "zsortanyfunc.go:427", after := #[{ on := 2, ground := Ground.data }], guard := none }, { dst := some 133, op := Op.binOp BinOp.shr (ρ.t 39) (Operand.tmp 132) (Operand.const (Value.int IntKind.u64 1)) (ρ.t 39), type := ρ.t 39, pos := "zsortanyfunc.go:427", after := #[{ on := 3, ground := Ground.data }], guard := none }, { dst := some 134, op := Op.convert (ρ.t 39) (ρ.t 3) (Operand.tmp 133), type := ρ.t 3, pos := "zsortanyfunc.go:427", after := #[{ on := 4, ground := Ground.data }], guard := none }, { dst := some 18, op := Op.assign (Operand.tmp 134), type := ρ.t 3, pos := "zsortanyfunc.go:427", after := #[{ on := 5, ground := Ground.data }, { on := 0, ground := Ground.phase }, { on := 1, ground := Ground.phase }, { on := 2, ground := Ground.phase }, { on := 3, ground := Ground.phase }, { on := 4, ground := Ground.phase }, { on := 5, ground := Ground.phase }], guard := none }] false).seq ((Code.region 25 #[{ dst := some 135, op := Op.move (Operand.tmp 18), type := ρ.t 3, pos := "zsortanyfunc.go:428", after := #[], guard := none }, { dst := some 136, op := Op.move (Operand.tmp 2), type := ρ.t 3, pos := "zsortanyfunc.go:428", after := #[], guard := none }, { dst := some 137, op := Op.binOp BinOp.add (ρ.t 3) (Operand.tmp 135) (Operand.tmp 136) (ρ.t 3), type := ρ.t 3, pos := "zsortanyfunc.go:428", after := #[{ on := 0, ground := Ground.data }, { on := 1, ground := Ground.data }], guard := none }, { dst := some 19, op := Op.assign (Operand.tmp 137), type := ρ.t 3, pos := "zsortanyfunc.go:428", after := #[{ on := 2, ground := Ground.data }, { on := 0, ground := Ground.phase }, { on := 1, ground := Ground.phase }, { on := 2, ground := Ground.phase }], guard := none }] false).seq ((Code.region 26 #[{ dst := some 20, op := Op.assign (Operand.const (Value.int IntKind.i64 0)), type := ρ.t 3, pos := "zsortanyfunc.go:429", after := #[], guard := none }, { dst := some 21, op := Op.assign (Operand.const (Value.int IntKind.i64 0)), type := ρ.t 3, pos := "zsortanyfunc.go:429", after := #[{ on := 0, ground := Ground.chain }], guard := none }] false).seq (((Code.region 27 #[{ dst := some 138, op := Op.move (Operand.tmp 2), type := ρ.t 3, pos := "zsortanyfunc.go:430", after := #[], guard := none }, { dst := some 139, op := Op.move (Operand.tmp 18), type := ρ.t 3, pos := "zsortanyfunc.go:430", after := #[], guard := none }, { dst := some 140, op := Op.binOp BinOp.gtr (ρ.t 3) (Operand.tmp 138) (Operand.tmp 139) (ρ.t 3), type := ρ.t 4, pos := "zsortanyfunc.go:430", after := #[{ on := 0, ground := Ground.data }, { on := 1, ground := Ground.data }], guard := none }] false).seq (Code.cond (Operand.tmp 140) ((Code.region 28 #[{ dst := some 141, op := Op.move (Operand.tmp 19), type := ρ.t 3, pos := "zsortanyfunc.go:431", after := #[], guard := none }, { dst := some 142, op := Op.move (Operand.tmp 3), type := ρ.t 3, pos := "zsortanyfunc.go:431", after := #[], guard := none }, { dst := some 143, op := Op.binOp BinOp.sub (ρ.t 3) (Operand.tmp 141) (Operand.tmp 142) (ρ.t 3), type := ρ.t 3, pos := "zsortanyfunc.go:431", after := #[{ on := 0, ground := Ground.data }, { on := 1, ground := Ground.data }], guard := none }, { dst := some 20, op := Op.assign (Operand.tmp 143), type := ρ.t 3, pos := "zsortanyfunc.go:431", after := #[{ on := 2, ground := Ground.data }, { on := 0, ground := Ground.phase }, { on := 1, ground := Ground.phase }, { on := 2, ground := Ground.phase }], guard := none }] false).seq (Code.region 29 #[{ dst := some 144, op := Op.move (Operand.tmp 18), type := ρ.t 3, pos := "zsortanyfunc.go:432", after := #[], guard := none }, { dst := some 21, op := Op.assign (Operand.tmp 144), type := ρ.t 3, pos := "zsortanyfunc.go:432", after := #[{ on := 0, ground := Ground.data }, { on := 0, ground := Ground.phase }], guard := none }] false)) ((Code.region 30 #[{ dst := some 145, op := Op.move (Operand.tmp 1), type := ρ.t 3, pos := "zsortanyfunc.go:434", after := #[], guard := none }, { dst := some 20, op := Op.assign (Operand.tmp 145), type := ρ.t 3, pos := "zsortanyfunc.go:434", after := #[{ on := 0, ground := Ground.data }, { on := 0, ground := Ground.phase }], guard := none }] false).seq (Code.region 31 #[{ dst := some 146, op := Op.move (Operand.tmp 2), type := ρ.t 3, pos := "zsortanyfunc.go:435", after := #[], guard := none }, { dst := some 21, op := Op.assign (Operand.tmp 146), type := ρ.t 3, pos := "zsortanyfunc.go:435", after := #[{ on := 0, ground := Ground.data }, { on := 0, ground := Ground.phase }], guard := none }] false)))).seq ((Code.region 32 #[{ dst := some 147, op := Op.move (Operand.tmp 19), type := ρ.t 3, pos := "zsortanyfunc.go:437", after := #[], guard := none }, { dst := some 148, op := Op.binOp BinOp.sub (ρ.t 3) (Operand.tmp 147) (Operand.const (Value.int IntKind.i64 1)) (ρ.t 3), type := ρ.t 3, pos := "zsortanyfunc.go:437", after := #[{ on := 0, ground := Ground.data }], guard := none }, { dst := some 22, op := Op.assign (Operand.tmp 148), type := ρ.t 3, pos := "zsortanyfunc.go:437", after := #[{ on := 1, ground := Ground.data }, { on := 0, ground := Ground.phase }, { on := 1, ground := Ground.phase }], guard := none }] false).seq ((Code.block 8 (((Code.region 33 #[{ dst := some 149, op := Op.move (Operand.tmp 20), type := ρ.t 3, pos := "zsortanyfunc.go:439", after := #[], guard := none }, { dst := some 150, op := Op.move (Operand.tmp 21), type := ρ.t 3, pos := "zsortanyfunc.go:439", after := #[], guard := none }, { dst := some 151, op := Op.binOp BinOp.lss (ρ.t 3) (Operand.tmp 149) (Operand.tmp 150) (ρ.t 3), type := ρ.t 4, pos := "zsortanyfunc.go:439", after := #[{ on := 0, ground := Ground.data }, { on := 1, ground := Ground.data }], guard := none }] false).seq (Code.cond (Operand.tmp 151) Code.skip (Code.exit 8))).seq (Code.block 9 ((Code.region 34 #[{ dst := some 152, op := Op.move (Operand.tmp 20), type := ρ.t 3, pos := "zsortanyfunc.go:440", after := #[], guard := none }, { dst := some 153, op := Op.move (Operand.tmp 21), type := ρ.t 3, pos := "zsortanyfunc.go:440", after := #[], guard := none }, { dst := some 154, op := Op.binOp BinOp.add (ρ.t 3) (Operand.tmp 152) (Operand.tmp 153) (ρ.t 3), type := ρ.t 3, pos := "zsortanyfunc.go:440", after := #[{ on := 0, ground := Ground.data }, { on := 1, ground := Ground.data }], guard := none }, { dst := some 155, op := Op.convert (ρ.t 3) (ρ.t 39) (Operand.tmp 154), type := ρ.t 39, pos := "zsortanyfunc.go:440", after := #[{ on := 2, ground := Ground.data }], guard := none }, { dst := some 156, op := Op.binOp BinOp.shr (ρ.t 39) (Operand.tmp 155) (Operand.const (Value.int IntKind.u64 1)) (ρ.t 39), type := ρ.t 39, pos := "zsortanyfunc.go:440", after := #[{ on := 3, ground := Ground.data }], guard := none }, { dst := some 157, op := Op.convert (ρ.t 39) (ρ.t 3) (Operand.tmp 156), type := ρ.t 3, pos := "zsortanyfunc.go:440", after := #[{ on := 4, ground := Ground.data }], guard := none }, { dst := some 23, op := Op.assign (Operand.tmp 157), type := ρ.t 3, pos := "zsortanyfunc.go:440", after := #[{ on := 5, ground := Ground.data }, { on := 0, ground := Ground.phase }, { on := 1, ground := Ground.phase }, { on := 2, ground := Ground.phase }, { on := 3, ground := Ground.phase }, { on := 4, ground := Ground.phase }, { on := 5, ground := Ground.phase }], guard := none }] false).seq ((Code.region 35 #[{ dst := some 158, op := Op.move (Operand.tmp 4), type := ρ.t 25, pos := "zsortanyfunc.go:441", after := #[], guard := none }, { dst := some 159, op := Op.move (Operand.tmp 0), type := ρ.t 22, pos := "zsortanyfunc.go:441", after := #[], guard := none }, { dst := some 160, op := Op.move (Operand.tmp 22), type := ρ.t 3, pos := "zsortanyfunc.go:441", after := #[], guard := none }, { dst := some 161, op := Op.move (Operand.tmp 23), type := ρ.t 3, pos := "zsortanyfunc.go:441", after := #[], guard := none }, { dst := some 162, op := Op.binOp BinOp.sub (ρ.t 3) (Operand.tmp 160) (Operand.tmp 161) (ρ.t 3), type := ρ.t 3, pos := "zsortanyfunc.go:441", after := #[{ on := 2, ground := Ground.data }, { on := 3, ground := Ground.data }], guard := none }, { dst := some 163, op := Op.indexAddr (ρ.t 22) (Operand.tmp 159) (Operand.tmp 162), type := ρ.t 0, pos := "zsortanyfunc.go:441", after := #[{ on := 1, ground := Ground.data }, { on := 4, ground := Ground.data }], guard := none }, { dst := some 164, op := Op.load (ρ.t 24) (Operand.tmp 163), type := ρ.t 24, pos := "zsortanyfunc.go:441", after := #[{ on := 5, ground := Ground.data }], guard := none }, { dst := some 165, op := Op.move (Operand.tmp 0), type := ρ.t 22, pos := "zsortanyfunc.go:441", after := #[], guard := none }, { dst := some 166, op := Op.move (Operand.tmp 23), type := ρ.t 3, pos := "zsortanyfunc.go:441", after := #[], guard := none }, { dst := some 167, op := Op.indexAddr (ρ.t 22) (Operand.tmp 165) (Operand.tmp 166), type := ρ.t 0, pos := "zsortanyfunc.go:441", after := #[{ on := 7, ground := Ground.data }, { on := 8, ground := Ground.data }], guard := none }, { dst := some 168, op := Op.load (ρ.t 24) (Operand.tmp 167), type := ρ.t 24, pos := "zsortanyfunc.go:441", after := #[{ on := 9, ground := Ground.data }], guard := none }, { dst := some 169, op := Op.call { callee := Callee.value (Operand.tmp 158), args := #[Operand.tmp 164, Operand.tmp 168], argTypes := #[ρ.t 24, ρ.t 24] }, type := ρ.t 3, pos := "zsortanyfunc.go:441", after := #[{ on := 0, ground := Ground.data }, { on := 6, ground := Ground.data }, { on := 10, ground := Ground.data }], guard := none }, { dst := some 170, op := Op.binOp BinOp.lss (ρ.t 3) (Operand.tmp 169) (Operand.const (Value.int IntKind.i64 0)) (ρ.t 3), type := ρ.t 4, pos := "zsortanyfunc.go:441", after := #[{ on := 11, ground := Ground.data }], guard := none }, { dst := some 171, op := Op.unOp UnOp.not (ρ.t 4) (Operand.tmp 170), type := ρ.t 4, pos := "zsortanyfunc.go:441", after := #[{ on := 12, ground := Ground.data }], guard := none }] true).seq (Code.cond (Operand.tmp 171) (Code.region 36 #[{ dst := some 172, op := Op.move (Operand.tmp 23), type := ρ.t 3, pos := "zsortanyfunc.go:442", after := #[], guard := none }, { dst := some 173, op := Op.binOp BinOp.add (ρ.t 3) (Operand.tmp 172) (Operand.const (Value.int IntKind.i64 1)) (ρ.t 3), type := ρ.t 3, pos := "zsortanyfunc.go:442", after := #[{ on := 0, ground := Ground.data }], guard := none }, { dst := some 20, op := Op.assign (Operand.tmp 173), type := ρ.t 3, pos := "zsortanyfunc.go:442", after := #[{ on := 1, ground := Ground.data }, { on := 0, ground := Ground.phase }, { on := 1, ground := Ground.phase }], guard := none }] false) (Code.region 37 #[{ dst := some 174, op := Op.move (Operand.tmp 23), type := ρ.t 3, pos := "zsortanyfunc.go:444", after := #[], guard := none }, { dst := some 21, op := Op.assign (Operand.tmp 174), type := ρ.t 3, pos := "zsortanyfunc.go:444", after := #[{ on := 0, ground := Ground.data }, { on := 0, ground := Ground.phase }], guard := none }] false)))))).loop).seq ((Code.region 38 #[{ dst := some 175, op := Op.move (Operand.tmp 19), type := ρ.t 3, pos := "zsortanyfunc.go:448", after := #[], guard := none }, { dst := some 176, op := Op.move (Operand.tmp 20), type := ρ.t 3, pos := "zsortanyfunc.go:448", after := #[], guard := none }, { dst := some 177, op := Op.binOp BinOp.sub (ρ.t 3) (Operand.tmp 175) (Operand.tmp 176) (ρ.t 3), type := ρ.t 3, pos := "zsortanyfunc.go:448", after := #[{ on := 0, ground := Ground.data }, { on := 1, ground := Ground.data }], guard := none }, { dst := some 24, op := Op.assign (Operand.tmp 177), type := ρ.t 3, pos := "zsortanyfunc.go:448", after := #[{ on := 2, ground := Ground.data }, { on := 0, ground := Ground.phase }, { on := 1, ground := Ground.phase }, { on := 2, ground := Ground.phase }], guard := none }] false).seq (((Code.region 39 #[{ dst := some 178, op := Op.move (Operand.tmp 20), type := ρ.t 3, pos := "zsortanyfunc.go:449", after := #[], guard := none }, { dst := some 179, op := Op.move (Operand.tmp 2), type := ρ.t 3, pos := "zsortanyfunc.go:449", after := #[], guard := none }, { dst := some 180, op := Op.binOp BinOp.lss (ρ.t 3) (Operand.tmp 178) (Operand.tmp 179) (ρ.t 3), type := ρ.t 4, pos := "zsortanyfunc.go:449", after := #[{ on := 0, ground := Ground.data }, { on := 1, ground := Ground.data }], guard := none }, { dst := some 181, op := Op.move (Operand.tmp 180), type := ρ.t 4, pos := "zsortanyfunc.go:449", after := #[{ on := 2, ground := Ground.data }], guard := none }, { dst := some 182, op := Op.move (Operand.tmp 2), type := ρ.t 3, pos := "zsortanyfunc.go:449", after := #[{ on := 3, ground := Ground.guard }], guard := some (3, true) }, { dst := some 183, op := Op.move (Operand.tmp 24), type := ρ.t 3, pos := "zsortanyfunc.go:449", after := #[{ on := 3, ground := Ground.guard }], guard := some (3, true) }, { dst := some 184, op := Op.binOp BinOp.lss (ρ.t 3) (Operand.tmp 182) (Operand.tmp 183) (ρ.t 3), type := ρ.t 4, pos := "zsortanyfunc.go:449", after := #[{ on := 4, ground := Ground.data }, { on := 5, ground := Ground.data }, { on := 3, ground := Ground.guard }], guard := some (3, true) }, { dst := some 185, op := Op.pick (Operand.tmp 181) (Operand.tmp 184) (Operand.const (Value.bool false)), type := ρ.t 4, pos := "zsortanyfunc.go:449", after := #[{ on := 3, ground := Ground.data }, { on := 6, ground := Ground.data }], guard := none }] false).seq (Code.cond (Operand.tmp 185) (Code.region 40 #[{ dst := some 186, op := Op.move (Operand.tmp 0), type := ρ.t 22, pos := "zsortanyfunc.go:450", after := #[], guard := none }, { dst := some 187, op := Op.move (Operand.tmp 20), type := ρ.t 3, pos := "zsortanyfunc.go:450", after := #[], guard := none }, { dst := some 188, op := Op.move (Operand.tmp 2), type := ρ.t 3, pos := "zsortanyfunc.go:450", after := #[], guard := none }, { dst := some 189, op := Op.move (Operand.tmp 24), type := ρ.t 3, pos := "zsortanyfunc.go:450", after := #[], guard := none }, { dst := some 190, op := Op.move (Operand.tmp 4), type := ρ.t 25, pos := "zsortanyfunc.go:450", after := #[], guard := none }, { dst := some 191, op := Op.call { callee := Callee.value (Operand.func (ρ.f 80)), args := #[Operand.tmp 186, Operand.tmp 187, Operand.tmp 188, Operand.tmp 189, Operand.tmp 190], argTypes := #[ρ.t 22, ρ.t 3, ρ.t 3, ρ.t 3, ρ.t 25] }, type := ρ.t 0, pos := "zsortanyfunc.go:450", after := #[{ on := 0, ground := Ground.data }, { on := 1, ground := Ground.data }, { on := 2, ground := Ground.data }, { on := 3, ground := Ground.data }, { on := 4, ground := Ground.data }], guard := none }] false) Code.skip)).seq (((Code.region 41 #[{ dst := some 192, op := Op.move (Operand.tmp 1), type := ρ.t 3, pos := "zsortanyfunc.go:452", after := #[], guard := none }, { dst := some 193, op := Op.move (Operand.tmp 20), type := ρ.t 3, pos := "zsortanyfunc.go:452", after := #[], guard := none }, { dst := some 194, op := Op.binOp BinOp.lss (ρ.t 3) (Operand.tmp 192) (Operand.tmp 193) (ρ.t 3), type := ρ.t 4, pos := "zsortanyfunc.go:452", after := #[{ on := 0, ground := Ground.data }, { on := 1, ground := Ground.data }], guard := none }, { dst := some 195, op := Op.move (Operand.tmp 194), type := ρ.t 4, pos := "zsortanyfunc.go:452", after := #[{ on := 2, ground := Ground.data }], guard := none }, { dst := some 196, op := Op.move (Operand.tmp 20), type := ρ.t 3, pos := "zsortanyfunc.go:452", after := #[{ on := 3, ground := Ground.guard }], guard := some (3, true) }, { dst := some 197, op := Op.move (Operand.tmp 18), type := ρ.t 3, pos := "zsortanyfunc.go:452", after := #[{ on := 3, ground := Ground.guard }], guard := some (3, true) }, { dst := some 198, op := Op.binOp BinOp.lss (ρ.t 3) (Operand.tmp 196) (Operand.tmp 197) (ρ.t 3), type := ρ.t 4, pos := "zsortanyfunc.go:452", after := #[{ on := 4, ground := Ground.data }, { on := 5, ground := Ground.data }, { on := 3, ground := Ground.guard }], guard := some (3, true) }, { dst := some 199, op := Op.pick (Operand.tmp 195) (Operand.tmp 198) (Operand.const (Value.bool false)), type := ρ.t 4, pos := "zsortanyfunc.go:452", after := #[{ on := 3, ground := Ground.data }, { on := 6, ground := Ground.data }], guard := none }] false).seq (Code.cond (Operand.tmp 199) (Code.region 42 #[{ dst := some 200, op := Op.move (Operand.tmp 0), type := ρ.t 22, pos := "zsortanyfunc.go:453", after := #[], guard := none }, { dst := some 201, op := Op.move (Operand.tmp 1), type := ρ.t 3, pos := "zsortanyfunc.go:453", after := #[], guard := none }, { dst := some 202, op := Op.move (Operand.tmp 20), type := ρ.t 3, pos := "zsortanyfunc.go:453", after := #[], guard := none }, { dst := some 203, op := Op.move (Operand.tmp 18), type := ρ.t 3, pos := "zsortanyfunc.go:453", after := #[], guard := none }, { dst := some 204, op := Op.move (Operand.tmp 4), type := ρ.t 25, pos := "zsortanyfunc.go:453", after := #[], guard := none }, { dst := some 205, op := Op.call { callee := Callee.value (Operand.func (ρ.f 79)), args := #[Operand.tmp 200, Operand.tmp 201, Operand.tmp 202, Operand.tmp 203, Operand.tmp 204], argTypes := #[ρ.t 22, ρ.t 3, ρ.t 3, ρ.t 3, ρ.t 25] }, type := ρ.t 0, pos := "zsortanyfunc.go:453", after := #[{ on := 0, ground := Ground.data }, { on := 1, ground := Ground.data }, { on := 2, ground := Ground.data }, { on := 3, ground := Ground.data }, { on := 4, ground := Ground.data }], guard := none }] false) Code.skip)).seq ((Code.region 43 #[{ dst := some 206, op := Op.move (Operand.tmp 18), type := ρ.t 3, pos := "zsortanyfunc.go:455", after := #[], guard := none }, { dst := some 207, op := Op.move (Operand.tmp 24), type := ρ.t 3, pos := "zsortanyfunc.go:455", after := #[], guard := none }, { dst := some 208, op := Op.binOp BinOp.lss (ρ.t 3) (Operand.tmp 206) (Operand.tmp 207) (ρ.t 3), type := ρ.t 4, pos := "zsortanyfunc.go:455", after := #[{ on := 0, ground := Ground.data }, { on := 1, ground := Ground.data }], guard := none }, { dst := some 209, op := Op.move (Operand.tmp 208), type := ρ.t 4, pos := "zsortanyfunc.go:455", after := #[{ on := 2, ground := Ground.data }], guard := none }, { dst := some 210, op := Op.move (Operand.tmp 24), type := ρ.t 3, pos := "zsortanyfunc.go:455", after := #[{ on := 3, ground := Ground.guard }], guard := some (3, true) }, { dst := some 211, op := Op.move (Operand.tmp 3), type := ρ.t 3, pos := "zsortanyfunc.go:455", after := #[{ on := 3, ground := Ground.guard }], guard := some (3, true) }, { dst := some 212, op := Op.binOp BinOp.lss (ρ.t 3) (Operand.tmp 210) (Operand.tmp 211) (ρ.t 3), type := ρ.t 4, pos := "zsortanyfunc.go:455", after := #[{ on := 4, ground := Ground.data }, { on := 5, ground := Ground.data }, { on := 3, ground := Ground.guard }], guard := some (3, true) }, { dst := some 213, op := Op.pick (Operand.tmp 209) (Operand.tmp 212) (Operand.const (Value.bool false)), type := ρ.t 4, pos := "zsortanyfunc.go:455", after := #[{ on := 3, ground := Ground.data }, { on := 6, ground := Ground.data }], guard := none }] false).seq (Code.cond (Operand.tmp 213) (Code.region 44 #[{ dst := some 214, op := Op.move (Operand.tmp 0), type := ρ.t 22, pos := "zsortanyfunc.go:456", after := #[], guard := none }, { dst := some 215, op := Op.move (Operand.tmp 18), type := ρ.t 3, pos := "zsortanyfunc.go:456", after := #[], guard := none }, { dst := some 216, op := Op.move (Operand.tmp 24), type := ρ.t 3, pos := "zsortanyfunc.go:456", after := #[], guard := none }, { dst := some 217, op := Op.move (Operand.tmp 3), type := ρ.t 3, pos := "zsortanyfunc.go:456", after := #[], guard := none }, { dst := some 218, op := Op.move (Operand.tmp 4), type := ρ.t 25, pos := "zsortanyfunc.go:456", after := #[], guard := none }, { dst := some 219, op := Op.call { callee := Callee.value (Operand.func (ρ.f 79)), args := #[Operand.tmp 214, Operand.tmp 215, Operand.tmp 216, Operand.tmp 217, Operand.tmp 218], argTypes := #[ρ.t 22, ρ.t 3, ρ.t 3, ρ.t 3, ρ.t 25] }, type := ρ.t 0, pos := "zsortanyfunc.go:456", after := #[{ on := 0, ground := Ground.data }, { on := 1, ground := Ground.data }, { on := 2, ground := Ground.data }, { on := 3, ground := Ground.data }, { on := 4, ground := Ground.data }], guard := none }] false) Code.skip))))))))))))), norace := false, file := "slices/zsortanyfunc.go", endLine := 458, met := [Departure.mixedOrders, Departure.lateStoresUnsure, Departure.lateStores], tmpNames := ((["data", "a", "m", "b", "cmp", "data", "a", "m", "b", "cmp", "i", "j", "h", "k", "i", "j", "h", "k", "mid", "n", "start", "r", "p", "c", "end", "", "", "", "", "", "", "", "", "", "", "", "", "", "", "", "", "", "", "", "", "", "", "", "", "", "", "", "", "", ""].append ["", "", "", "", "", "", "", "", "", "", "", "", "", "", "", "", "", "", "", "", "", "", "", "", "", "", "", "", "", "", "", "", "", "", "", "", "", "", "", "", "", "", "", "", "", "", "", "", "", "", "", "", "", "", ""]).append (["", "", "", "", "", "", "", "", "", "", "", "", "", "", "", "", "", "", "", "", "", "", "", "", "", "", "", "", "", "", "", "", "", "", "", "", "", "", "", "", "", "", "", "", "", "", "", "", "", "", "", "", "", "", ""].append ["", "", "", "", "", "", "", "", "", "", "", "", "", "", "", "", "", "", "", "", "", "", "", "", "", "", "", "", "", "", "", "", "", "", "", "", "", "", "", "", "", "", "", "", "", "", "", "", "", "", "", "", "", "", ""])).toArray }
theorem syB_mer_ntmps (ρ : Ren) : (syB_mer ρ).ntmps = 220 := rfl
def syB_stb (ρ : Ren) : Func := { name := "slices.stableCmpFunc", origin := "slices.stableCmpFunc", targs := #[ρ.t 24], params := #[ρ.t 22, ρ.t 3, ρ.t 25], resultTypes := #[], nfree := 0, ntmps := 63, results := #[], body := some ((Code.region 0 #[{ dst := some 6, op := Op.assign (Operand.const (Value.int IntKind.i64 20)), type := ρ.t 3, pos := "zsortanyfunc.go:336", after := #[], guard := none }] false).seq ((Code.region 1 #[{ dst := some 10, op := Op.move (Operand.tmp 6), type := ρ.t 3, pos := "zsortanyfunc.go:337", after := #[{ on := 1, ground := Ground.gcOnly Departure.lateStores }], guard := none }, { dst := some 7, op := Op.assign (Operand.const (Value.int IntKind.i64 0)), type := ρ.t 3, pos := "zsortanyfunc.go:337", after := #[{ on := 0, ground := Ground.textOnly Departure.lateStores }], guard := none }, { dst := some 8, op := Op.assign (Operand.tmp 10), type := ρ.t 3, pos := "zsortanyfunc.go:337", after := #[{ on := 0, ground := Ground.data }, { on := 1, ground := Ground.chain }, { on := 0, ground := Ground.phase }, { on := 1, ground := Ground.phase }], guard := none }] false).seq ((Code.block 0 (((Code.region 2 #[{ dst := some 11, op := Op.move (Operand.tmp 8), type := ρ.t 3, pos := "zsortanyfunc.go:338", after := #[], guard := none }, { dst := some 12, op := Op.move (Operand.tmp 1), type := ρ.t 3, pos := "zsortanyfunc.go:338", after := #[], guard := none }, { dst := some 13, op := Op.binOp BinOp.leq (ρ.t 3) (Operand.tmp 11) (Operand.tmp 12) (ρ.t 3), type := ρ.t 4, pos := "zsortanyfunc.go:338", after := #[{ on := 0, ground := Ground.data }, { on := 1, ground := Ground.data }], guard := none }] false).seq (Code.cond (Operand.tmp 13) Code.skip (Code.exit 0))).seq (Code.block 1 ((Code.region 3 #[{ dst := some 14, op := Op.move (Operand.tmp 0), type := ρ.t 22, pos := "zsortanyfunc.go:339", after := #[], guard := none }, { dst := some 15, op := Op.move (Operand.tmp 7), type := ρ.t 3, pos := "zsortanyfunc.go:339", after := #[], guard := none }, { dst := some 16, op := Op.move (Operand.tmp 8), type := ρ.t 3, pos := "zsortanyfunc.go:339", after := #[], guard := none }, { dst := some 17, op := Op.move (Operand.tmp 2), type := ρ.t 25, pos := "zsortanyfunc.go:339", after := #[], guard := none }, { dst := some 18, op := Op.call { callee := Callee.value (Operand.func (ρ.f 20)), args := #[Operand.tmp 14, Operand.tmp 15, Operand.tmp 16, Operand.tmp 17], argTypes := #[ρ.t 22, ρ.t 3, ρ.t 3, ρ.t 25] }, type := ρ.t 0, pos := "zsortanyfunc.go:339", after := #[{ on := 0, ground := Ground.data }, { on := 1, ground := Ground.data }, { on := 2, ground := Ground.data }, { on := 3, ground := Ground.data }], guard := none }] false).seq ((Code.region 4 #[{ dst := some 19, op := Op.move (Operand.tmp 8), type := ρ.t 3, pos := "zsortanyfunc.go:340", after := #[], guard := none }, { dst := some 7, op := Op.assign (Operand.tmp 19), type := ρ.t 3, pos := "zsortanyfunc.go:340", after := #[{ on := 0, ground := Ground.data }, { on := 0, ground := Ground.phase }], guard := none }] false).seq (Code.region 5 #[{ dst := some 20, op := Op.move (Operand.tmp 8), type := ρ.t 3, pos := "zsortanyfunc.go:341", after := #[], guard := none }, { dst := some 21, op := Op.move (Operand.tmp 6), type := ρ.t 3, pos := "zsortanyfunc.go:341", after := #[], guard := none }, { dst := some 22, op := Op.binOp BinOp.add (ρ.t 3) (Operand.tmp 20) (Operand.tmp 21) (ρ.t 3), type := ρ.t 3, pos := "zsortanyfunc.go:341", after := #[{ on := 0, ground := Ground.data }, { on := 1, ground := Ground.data }], guard := none }, { dst := some 8, op := Op.assign (Operand.tmp 22), type := ρ.t 3, pos := "zsortanyfunc.go:341", after := #[{ on := 2, ground := Ground.data }, { on := 0, ground := Ground.phase }, { on := 1, ground := Ground.phase }, { on := 2, ground := Ground.phase }], guard := none }] false))))).loop).seq ((Code.region 6 #[{ dst := some 23, op := Op.move (Operand.tmp 0), type := ρ.t 22, pos := "zsortanyfunc.go:343", after := #[], guard := none }, { dst := some 24, op := Op.move (Operand.tmp 7), type := ρ.t 3, pos := "zsortanyfunc.go:343", after := #[], guard := none }, { dst := some 25, op := Op.move (Operand.tmp 1), type := ρ.t 3, pos := "zsortanyfunc.go:343", after := #[], guard := none }, { dst := some 26, op := Op.move (Operand.tmp 2), type := ρ.t 25, pos := "zsortanyfunc.go:343", after := #[], guard := none }, { dst := some 27, op := Op.call { callee := Callee.value (Operand.func (ρ.f 20)), args := #[Operand.tmp 23, Operand.tmp 24, Operand.tmp 25, Operand.tmp 26], argTypes := #[ρ.t 22, ρ.t 3, ρ.t 3, ρ.t 25] }, type := ρ.t 0, pos := "zsortanyfunc.go:343", after := #[{ on := 0, ground := Ground.data }, { on := 1, ground := Ground.data }, { on := 2, ground := Ground.data }, { on := 3, ground := Ground.data }], guard := none }] false).seq (Code.block 2 (((Code.region 7 #[{ dst := some 28, op := Op.move (Operand.tmp 6), type := ρ.t 3, pos := "zsortanyfunc.go:345", after := #[], guard := none }, { dst := some 29, op := Op.move (Operand.tmp 1), type := ρ.t 3, pos := "zsortanyfunc.go:345", after := #[], guard := none }, { dst := some 30, op := Op.binOp BinOp.lss (ρ.t 3) (Operand.tmp 28) (Operand.tmp 29) (ρ.t 3), type := ρ.t 4, pos := "zsortanyfunc.go:345", after := #[{ on := 0, ground := Ground.data }, { on := 1, ground := Ground.data }], guard := none }] false).seq (Code.cond (Operand.tmp 30) Code.skip (Code.exit 2))).seq (Code.block 3 ((Code.region 8 #[{ dst := some 31, op := Op.move (Operand.tmp 6), type := ρ.t 3, pos := "zsortanyfunc.go:346", after := #[{ on := 2, ground := Ground.gcOnly Departure.lateStores }], guard := none }, { dst := some 32, op := Op.binOp BinOp.mul (ρ.t 3) (Operand.const (Value.int IntKind.i64 2)) (Operand.tmp 31) (ρ.t 3), type := ρ.t 3, pos := "zsortanyfunc.go:346", after := #[{ on := 0, ground := Ground.data }, { on := 2, ground := Ground.gcOnly Departure.lateStores }], guard := none }, { dst := some 7, op := Op.assign (Operand.const (Value.int IntKind.i64 0)), type := ρ.t 3, pos := "zsortanyfunc.go:346", after := #[{ on := 0, ground := Ground.textOnly Departure.lateStores }, { on := 1, ground := Ground.textOnly Departure.lateStores }], guard := none }, { dst := some 8, op := Op.assign (Operand.tmp 32), type := ρ.t 3, pos := "zsortanyfunc.go:346", after := #[{ on := 1, ground := Ground.data }, { on := 2, ground := Ground.chain }, { on := 0, ground := Ground.phase }, { on := 1, ground := Ground.phase }, { on := 2, ground := Ground.phase }], guard := none }] false).seq ((Code.block 4 (((Code.region 9 #[{ dst := some 33, op := Op.move (Operand.tmp 8), type := ρ.t 3, pos := "zsortanyfunc.go:347", after := #[], guard := none }, { dst := some 34, op := Op.move (Operand.tmp 1), type := ρ.t 3, pos := "zsortanyfunc.go:347", after := #[], guard := none }, { dst := some 35, op := Op.binOp BinOp.leq (ρ.t 3) (Operand.tmp 33) (Operand.tmp 34) (ρ.t 3), type := ρ.t 4, pos := "zsortanyfunc.go:347", after := #[{ on := 0, ground := Ground.data }, { on := 1, ground := Ground.data }], guard := none }] false).seq (Code.cond (Operand.tmp 35) Code.skip (Code.exit 4))).seq (Code.block 5 ((Code.region 10 #[{ dst := some 36, op := Op.move (Operand.tmp 0), type := ρ.t 22, pos := "zsortanyfunc.go:348", after := #[], guard := none }, { dst := some 37, op := Op.move (Operand.tmp 7), type := ρ.t 3, pos := "zsortanyfunc.go:348", after := #[], guard := none }, { dst := some 38, op := Op.move (Operand.tmp 7), type := ρ.t 3, pos := "zsortanyfunc.go:348", after := #[], guard := none }, { dst := some 39, op := Op.move (Operand.tmp 6), type := ρ.t 3, pos := "zsortanyfunc.go:348", after := #[], guard := none }, { dst := some 40, op := Op.binOp BinOp.add (ρ.t 3) (Operand.tmp 38) (Operand.tmp 39) (ρ.t 3), type := ρ.t 3, pos := "zsortanyfunc.go:348", after := #[{ on := 2, ground := Ground.data }, { on := 3, ground := Ground.data }], guard := none }, { dst := some 41, op := Op.move (Operand.tmp 8), type := ρ.t 3, pos := "zsortanyfunc.go:348", after := #[], guard := none }, { dst := some 42, op := Op.move (Operand.tmp 2), type := ρ.t 25, pos := "zsortanyfunc.go:348", after := #[], guard := none }, { dst := some 43, op := Op.call { callee := Callee.value (Operand.func (ρ.f 79)), args := #[Operand.tmp 36, Operand.tmp 37, Operand.tmp 40, Operand.tmp 41, Operand.tmp 42], argTypes := #[ρ.t 22, ρ.t 3, ρ.t 3, ρ.t 3, ρ.t 25] }, type := ρ.t 0, pos := "zsortanyfunc.go:348", after := #[{ on := 0, ground := Ground.data }, { on := 1, ground := Ground.data }, { on := 4, ground := Ground.data }, { on := 5, ground := Ground.data }, { on := 6, ground := Ground.data }], guard := none }] false).seq ((Code.region 11 #[{ dst := some 44, op := Op.move (Operand.tmp 8), type := ρ.t 3, pos := "zsortanyfunc.go:349", after := #[], guard := none }, { dst := some 7, op := Op.assign (Operand.tmp 44), type := ρ.t 3, pos := "zsortanyfunc.go:349", after := #[{ on := 0, ground := Ground.data }, { on := 0, ground := Ground.phase }], guard := none }] false).seq (Code.region 12 #[{ dst := some 45, op := Op.move (Operand.tmp 8), type := ρ.t 3, pos := "zsortanyfunc.go:350", after := #[], guard := none }, { dst := some 46, op := Op.move (Operand.tmp 6), type := ρ.t 3, pos := "zsortanyfunc.go:350", after := #[], guard := none }, { dst := some 47, op := Op.binOp BinOp.mul (ρ.t 3) (Operand.const (Value.int IntKind.i64 2)) (Operand.tmp 46) (ρ.t 3), type := ρ.t 3, pos := "zsortanyfunc.go:350", after := #[{ on := 1, ground := Ground.data }], guard := none }, { dst := some 48, op := Op.binOp BinOp.add (ρ.t 3) (Operand.tmp 45) (Operand.tmp 47) (ρ.t 3), type := ρ.t 3, pos := "zsortanyfunc.go:350", after := #[{ on := 0, ground := Ground.data }, { on := 2, ground := Ground.data }], guard := none }, { dst := some 8, op := Op.assign (Operand.tmp 48), type := ρ.t 3, pos := "zsortanyfunc.go:350", after := #[{ on := 3, ground := Ground.data }, { on := 0, ground := Ground.phase }, { on := 1, ground := Ground.phase }, { on := 2, ground := Ground.phase }, { on := 3, ground := Ground.phase }], guard := none }] false))))).loop).seq (((Code.region 13 #[{ dst := some 49, op := Op.move (Operand.tmp 7), type := ρ.t 3, pos := "zsortanyfunc.go:352", after := #[], guard := none }, { dst := some 50, op := Op.move (Operand.tmp 6), type := ρ.t 3, pos := "zsortanyfunc.go:352", after := #[], guard := none }, { dst := some 51, op := Op.binOp BinOp.add (ρ.t 3) (Operand.tmp 49) (Operand.tmp 50) (ρ.t 3), type := ρ.t 3, pos := "zsortanyfunc.go:352", after := #[{ on := 0, ground := Ground.data }, { on := 1, ground := Ground.data }], guard := none }, { dst := some 9, op := Op.assign (Operand.tmp 51), type := ρ.t 3, pos := "zsortanyfunc.go:352", after := #[{ on := 2, ground := Ground.data }, { on := 0, ground := Ground.phase }, { on := 1, ground := Ground.phase }, { on := 2, ground := Ground.phase }], guard := none }] false).seq ((Code.region 14 #[{ dst := some 52, op := Op.move (Operand.tmp 9), type := ρ.t 3, pos := "zsortanyfunc.go:352", after := #[], guard := none }, { dst := some 53, op := Op.move (Operand.tmp 1), type := ρ.t 3, pos := "zsortanyfunc.go:352", after := #[], guard := none }, { dst := some 54, op := Op.binOp BinOp.lss (ρ.t 3) (Operand.tmp 52) (Operand.tmp 53) (ρ.t 3), type := ρ.t 4, pos := "zsortanyfunc.go:352", after := #[{ on := 0, ground := Ground.data }, { on := 1, ground := Ground.data }], guard := none }] false).seq (Code.cond (Operand.tmp 54) (Code.region 15 #[{ dst := some 55, op := Op.move (Operand.tmp 0), type := ρ.t 22, pos := "zsortanyfunc.go:353", after := #[], guard := none }, { dst := some 56, op := Op.move (Operand.tmp 7), type := ρ.t 3, pos := "zsortanyfunc.go:353", after := #[], guard := none }, { dst := some 57, op := Op.move (Operand.tmp 9), type := ρ.t 3, pos := "zsortanyfunc.go:353", after := #[], guard := none }, { dst := some 58, op := Op.move (Operand.tmp 1), type := ρ.t 3, pos := "zsortanyfunc.go:353", after := #[], guard := none }, { dst := some 59, op := Op.move (Operand.tmp 2), type := ρ.t 25, pos := "zsortanyfunc.go:353", after := #[], guard := none }, { dst := some 60, op := Op.call { callee := Callee.value (Operand.func (ρ.f 79)), args := #[Operand.tmp 55, Operand.tmp 56, Operand.tmp 57, Operand.tmp 58, Operand.tmp 59], argTypes := #[ρ.t 22, ρ.t 3, ρ.t 3, ρ.t 3, ρ.t 25] }, type := ρ.t 0, pos := "zsortanyfunc.go:353", after := #[{ on := 0, ground := Ground.data }, { on := 1, ground := Ground.data }, { on := 2, ground := Ground.data }, { on := 3, ground := Ground.data }, { on := 4, ground := Ground.data }], guard := none }] false) Code.skip))).seq (Code.region 16 #[{ dst := some 61, op := Op.move (Operand.tmp 6), type := ρ.t 3, pos := "zsortanyfunc.go:355", after := #[], guard := none }, { dst := some 62, op := Op.binOp BinOp.mul (ρ.t 3) (Operand.tmp 61) (Operand.const (Value.int IntKind.i64 2)) (ρ.t 3), type := ρ.t 3, pos := "zsortanyfunc.go:355", after := #[{ on := 0, ground := Ground.data }], guard := none }, { dst := some 6, op := Op.assign (Operand.tmp 62), type := ρ.t 3, pos := "zsortanyfunc.go:355", after := #[{ on := 1, ground := Ground.data }, { on := 0, ground := Ground.phase }, { on := 1, ground := Ground.phase }], guard := none }] false)))))).loop))))), norace := false, file := "slices/zsortanyfunc.go", endLine := 357, met := [Departure.mixedOrders, Departure.lateStores], tmpNames := #["data", "n", "cmp", "data", "n", "cmp", "blockSize", "a", "b", "m", "", "", "", "", "", "", "", "", "", "", "", "", "", "", "", "", "", "", "", "", "", "", "", "", "", "", "", "", "", "", "", "", "", "", "", "", "", "", "", "", "", "", "", "", "", "", "", "", "", "", "", "", ""] }
theorem syB_stb_ntmps (ρ : Ren) : (syB_stb ρ).ntmps = 63 := rfl
end Go.Proofs.YtcjpemphdgndkaaGreat

/- slices.swapRangeCmpFunc, rotateCmpFunc at structs, over any program. -/
namespace Go.Proofs.YtcjpemphdgndkaaGreat
open Go.Shelf Go.RowKit Go.Lib Go.Sort
set_option linter.unusedVariables false
set_option linter.unusedSimpArgs false
set_option linter.unusedSectionVars false
variable {P : Program} {ρ : Ren} {α : Type} [Inhabited α]
set_option maxHeartbeats 2000000 in
set_option maxRecDepth 1000000 in
theorem sySwap (L : SlLaysF0.n20 P ρ) (FG : Bears P (ρ.f 81) (syB_swp ρ)) (k : Nat) (aE : ∀ w, (isAgg (ρ.t 24)).run P w = .ok true w) (zE : ∀ w, (Go.sizeOf (ρ.t 24)).run P w = .ok k w) (enc : α → List Value) (g : Nat) (cb : Array Value) (blk off cap : Nat) (a b n : Nat) (N : Nat) (d0 d : Array α) (w0 w : World) (R : RowK enc k w0 blk off d0) (hs : d0.size = N) (hN : d.size = N) (S : SWK enc k w0 blk off d w) (X A M B Z : List α) (hd : d.toList = X ++ (A ++ (M ++ (B ++ Z)))) (ha : X.length = a) (hA : A.length = n) (hb : a + n + M.length = b) (hB : B.length = n) (hsz : N < 4611686018427387904) :
    Calls P (ρ.f 81) #[.slice (some ⟨blk, off, none⟩) N cap, .int .i64 a, .int .i64 b, .int .i64 n, .func (.func g) #[] cb] w fun e w' => e = .returned (.tuple #[]) ∧ ∃ d' : Array α, d'.size = N ∧ d'.toList = X ++ (B ++ (M ++ (A ++ Z))) ∧ SWK enc k w0 blk off d' w' := by
  have mixed := L.mixed; have t0 := L.t0; have a0 := L.a0; have z0 := L.z0; have v0 := L.v0; have t3 := L.t3; have a3 := L.a3; have z3 := L.z3; have v3 := L.v3; have t4 := L.t4; have a4 := L.a4; have z4 := L.z4; have v4 := L.v4; have t22 := L.t22; have a22 := L.a22; have z22 := L.z22; have v22 := L.v22; have t25 := L.t25; have a25 := L.a25; have z25 := L.z25; have v25 := L.v25
  obtain ⟨_, _, FG⟩ := FG
  have hbd : b + n ≤ N := by
    have := congrArg List.length hd
    simp at this
    omega
  have HM : Hid (d.toList = X ++ (A ++ (M ++ (B ++ Z))) ∧ X.length = a ∧ A.length = n ∧ a + n + M.length = b ∧ B.length = n) := ⟨hd, ha, hA, hb, hB⟩
  have hab : a + n ≤ b := by omega
  have S0 : Aside (SWK enc k w0 blk off d w) := S
  clear S hd ha hA hb hB
  go_enter FG, syB_swp_ntmps ρ
  go_wp2
  go_loopg [10] n (fun kx s10 wr => ∃ (i : Nat) (dk : Array α), s10 = .int .i64 i ∧ i ≤ n ∧ n - i ≤ kx ∧ dk.size = N ∧ Aside (SWK enc k w0 blk off dk wr) ∧ Hid (∃ A1 A2 B1 B2, A = A1 ++ A2 ∧ B = B1 ++ B2 ∧ A1.length = i ∧ B1.length = i ∧ dk.toList = X ++ (B1 ++ (A2 ++ (M ++ (A1 ++ (B2 ++ Z)))))))
  case atStart => exact ⟨0, d, rfl, by omega, by omega, hN, S0, [], A, [], B, rfl, rfl, rfl, rfl, by simpa using HM.out.1⟩
  case round =>
    clear S0
    obtain ⟨i, dk, rfl, hin, hkx, hds, S1, HL⟩ := hrel
    by_cases hlt : i < n
    · have hltz : (i : Int) < (n : Int) := by omega
      go_wp2_with fail
      have ea44 : ((a : Int) + (i : Int)).toNat = a + i := by omega
      have pa44 : (0 : Int) ≤ (a : Int) + (i : Int) := by omega
      have ba44 : (a : Int) + (i : Int) < (N : Int) := by omega
      have ra44 : IntKind.i64.wrap ((a : Int) + (i : Int)) = (a : Int) + (i : Int) := by rw [IntKind.wrap_i64]; omega
      have ec44 : ((b : Int) + (i : Int)).toNat = b + i := by omega
      have pc44 : (0 : Int) ≤ (b : Int) + (i : Int) := by omega
      have bc44 : (b : Int) + (i : Int) < (N : Int) := by omega
      have rc44 : IntKind.i64.wrap ((b : Int) + (i : Int)) = (b : Int) + (i : Int) := by rw [IntKind.wrap_i64]; omega
      have S2 : Aside (SWK enc k w0 blk off (swp dk (a + i) (b + i)) ((wr.drew.setCells blk (off + (a + i) * k) (enc dk[b + i]!)).setCells blk (off + (b + i) * k) (enc dk[a + i]!))) := S1.out.swapped R (a + i) (b + i) (by omega) (by omega)
      have l44a := S1.out.ld1 R (by omega) P (a + i) (by omega)
      have l44b := S1.out.ld1 R (by omega) P (b + i) (by omega)
      have s44a := S1.out.st1 R (by omega) P (a + i) (by omega) dk[b + i]!
      have s44b := S1.out.st2 R (by omega) P (a + i) (b + i) (by omega) (by omega) dk[b + i]! dk[a + i]!
      have n44a : (enc dk[a + i]!).length = k := R.hk _
      have n44b : (enc dk[b + i]!).length = k := R.hk _
      generalize enc dk[a + i]! = cI44 at S2 l44a s44b n44a
      generalize enc dk[b + i]! = cJ44 at S2 l44b s44a s44b n44b
      clear S1
      go_wp2_with fail
      go_big_region_o
      clear l44a l44b s44a s44b
      generalize (wr.drew.setCells blk (off + (a + i) * k) cJ44).setCells blk (off + (b + i) * k) cI44 = w2 at S2 ⊢
      go_wp2
      go_roundg (n - (i + 1))
      case measure => omega
      case rel =>
        refine ⟨i + 1, swp dk (a + i) (b + i), by first | rfl | go_num | (congr 1; omega), by omega, Nat.le_refl _, by rw [size_swp]; exact hds, S2, (show Hid _ from ?_)⟩
        obtain ⟨A1, A2, B1, B2, rfl, rfl, h1, h2, h3⟩ := HL.out
        obtain ⟨m1, m2, m3, m4, m5⟩ := HM.out
        simp only [List.length_append] at m3 m5
        obtain ⟨x, A2, rfl⟩ : ∃ x l, A2 = x :: l := by cases A2 with | nil => (simp at m3; omega) | cons x l => exact ⟨x, l, rfl⟩
        obtain ⟨y, B2, rfl⟩ : ∃ x l, B2 = x :: l := by cases B2 with | nil => (simp at m5; omega) | cons x l => exact ⟨x, l, rfl⟩
        simp only [List.length_cons] at m3 m5
        refine ⟨A1 ++ [x], A2, B1 ++ [y], B2, by simp, by simp, by simp [h1], by simp [h2], ?_⟩
        have := (sy_swp (d := dk) (X := X ++ B1) (Y := A2 ++ (M ++ A1)) (Z := B2 ++ Z) (x := x) (y := y) (i := a + i) (j := b + i) (by simpa using h3) (by simp; omega) (by simp; omega)).1
        simpa using this
    · have hltz : ¬ (i : Int) < (n : Int) := by omega
      go_wp2
      go_end0
      refine ⟨rfl, dk, hds, ?_, S1.out⟩
      obtain ⟨A1, A2, B1, B2, rfl, rfl, h1, h2, h3⟩ := HL.out
      obtain ⟨m1, m2, m3, m4, m5⟩ := HM.out
      simp only [List.length_append] at m3 m5
      have e1 : A2 = [] := List.eq_nil_of_length_eq_zero (by omega)
      have e2 : B2 = [] := List.eq_nil_of_length_eq_zero (by omega)
      subst e1
      subst e2
      simpa using h3

set_option maxHeartbeats 2000000 in
set_option maxRecDepth 1000000 in
theorem syRot (L : SlLaysF0.n20 P ρ) (F81 : Bears P (ρ.f 81) (syB_swp ρ)) (FG : Bears P (ρ.f 80) (syB_rot ρ)) (k : Nat) (aE : ∀ w, (isAgg (ρ.t 24)).run P w = .ok true w) (zE : ∀ w, (Go.sizeOf (ρ.t 24)).run P w = .ok k w) (enc : α → List Value) (g : Nat) (cb : Array Value) (blk off cap : Nat) (a m b : Nat) (N : Nat) (d0 d : Array α) (w0 w : World) (R : RowK enc k w0 blk off d0) (hs : d0.size = N) (hN : d.size = N) (S : SWK enc k w0 blk off d w) (X U V Z : List α) (hd : d.toList = X ++ (U ++ (V ++ Z))) (ha : X.length = a) (hU : a + U.length = m) (hV : m + V.length = b) (ham : a < m) (hmb : m < b) (hsz : N < 4611686018427387904) :
    Calls P (ρ.f 80) #[.slice (some ⟨blk, off, none⟩) N cap, .int .i64 a, .int .i64 m, .int .i64 b, .func (.func g) #[] cb] w fun e w' => e = .returned (.tuple #[]) ∧ ∃ d' : Array α, d'.size = N ∧ d'.toList = X ++ (V ++ (U ++ Z)) ∧ SWK enc k w0 blk off d' w' := by
  have e81 : ∀ args w, (callFunc (ρ.f 81) args).run P w = .ok (.enter (ρ.f 81) args) w := F81.enters rfl
  have hsw : Aside (∀ (a b n : Nat) (d : Array α) (w : World) (hN : d.size = N) (S : SWK enc k w0 blk off d w) (X A M B Z : List α) (hd : d.toList = X ++ (A ++ (M ++ (B ++ Z)))) (ha : X.length = a) (hA : A.length = n) (hb : a + n + M.length = b) (hB : B.length = n), Calls P (ρ.f 81) #[.slice (some ⟨blk, off, none⟩) N cap, .int .i64 a, .int .i64 b, .int .i64 n, .func (.func g) #[] cb] w fun e w' => e = .returned (.tuple #[]) ∧ ∃ d' : Array α, d'.size = N ∧ d'.toList = X ++ (B ++ (M ++ (A ++ Z))) ∧ SWK enc k w0 blk off d' w') := fun a b n d w hN S X A M B Z hd ha hA hb hB => sySwap L F81 k aE zE enc g cb blk off cap a b n N d0 d w0 w R hs hN S X A M B Z hd ha hA hb hB hsz
  have mixed := L.mixed; have t0 := L.t0; have a0 := L.a0; have z0 := L.z0; have v0 := L.v0; have t3 := L.t3; have a3 := L.a3; have z3 := L.z3; have v3 := L.v3; have t4 := L.t4; have a4 := L.a4; have z4 := L.z4; have v4 := L.v4; have t22 := L.t22; have a22 := L.a22; have z22 := L.z22; have v22 := L.v22; have t25 := L.t25; have a25 := L.a25; have z25 := L.z25; have v25 := L.v25
  obtain ⟨_, _, FG⟩ := FG
  have hbd : b ≤ N := by
    have := congrArg List.length hd
    simp at this
    omega
  obtain ⟨T, hT⟩ : ∃ T, T = X ++ (V ++ (U ++ Z)) := ⟨_, rfl⟩
  obtain ⟨i0, hi0⟩ : ∃ q, q = U.length := ⟨_, rfl⟩
  obtain ⟨j0, hj0⟩ : ∃ q, q = V.length := ⟨_, rfl⟩
  have HM : Hid (∃ X' U' V' Y', d.toList = X' ++ (U' ++ (V' ++ Y')) ∧ T = X' ++ (V' ++ (U' ++ Y')) ∧ U'.length = i0 ∧ V'.length = j0 ∧ X'.length + i0 = m) := ⟨X, U, V, Z, hd, hT, hi0.symm, hj0.symm, by omega⟩
  have S0 : Aside (SWK enc k w0 blk off d w) := S
  rw [← hT]
  have q1 : (m : Int) - (a : Int) = (i0 : Int) := by omega
  have q2 : (b : Int) - (m : Int) = (j0 : Int) := by omega
  have v1 : IntKind.i64.wrap (i0 : Int) = (i0 : Int) := by rw [IntKind.wrap_i64]; omega
  have v2 : IntKind.i64.wrap (j0 : Int) = (j0 : Int) := by rw [IntKind.wrap_i64]; omega
  have p1 : 0 < i0 := by omega
  have p2 : 0 < j0 := by omega
  have p3 : i0 ≤ m := by omega
  have p4 : m + j0 ≤ N := by omega
  clear S hd ha hU hV hT hi0 hj0 ham hmb hbd
  go_enter FG, syB_rot_ntmps ρ
  go_wp2
  clear q1 q2 v1 v2
  go_loopg [10, 11] (i0 + j0) (fun kx s10 s11 wr => ∃ (i j : Nat) (dk : Array α), s10 = .int .i64 i ∧ s11 = .int .i64 j ∧ 0 < i ∧ 0 < j ∧ i ≤ m ∧ m + j ≤ N ∧ i + j ≤ kx ∧ dk.size = N ∧ Aside (SWK enc k w0 blk off dk wr) ∧ Hid (∃ X' U' V' Y', dk.toList = X' ++ (U' ++ (V' ++ Y')) ∧ T = X' ++ (V' ++ (U' ++ Y')) ∧ U'.length = i ∧ V'.length = j ∧ X'.length + i = m))
  case atStart => exact ⟨i0, j0, d, rfl, rfl, p1, p2, p3, p4, Nat.le_refl _, hN, S0, HM⟩
  case round =>
    clear S0 HM p1 p2 p3 p4
    obtain ⟨i, j, dk, rfl, rfl, hi, hj, him, hjm, hkx, hds, S1, HL⟩ := hrel
    obtain ⟨u, hu⟩ : ∃ u, u + i = m := ⟨m - i, by omega⟩
    have q1 : (m : Int) - (i : Int) = (u : Int) := by omega
    have v1 : IntKind.i64.wrap (u : Int) = (u : Int) := by rw [IntKind.wrap_i64]; omega
    by_cases hij : i = j
    · have hne : ((i : Int) == (j : Int)) = true := by simp; omega
      have hne2 : ((i : Int) != (j : Int)) = false := by simp; omega
      obtain ⟨X', U', V', Y', h1, h2, h3, h4, h5⟩ := HL.out
      have hc := hsw.out u m i dk wr hds S1.out X' U' [] V' Y' (by simpa using h1) (by omega) h3 (by simp; omega) (by omega)
      have HT : Hid (T = X' ++ (V' ++ (U' ++ Y'))) := h2
      clear h1 h2 h3 h4 h5 HL hsw
      subst hij
      go_wp2_with (go_at_fn (ρ.f 81); refine hc.mono ?_; rintro e w2 ⟨rfl, d2, hz2, hl2, S2⟩)
      go_end0
      exact ⟨rfl, d2, hz2, by rw [HT.out]; simpa using hl2, S2⟩
    · have hne : ((i : Int) == (j : Int)) = false := by simp; omega
      have hne2 : ((i : Int) != (j : Int)) = true := by simp; omega
      by_cases hgt : j < i
      · have hgtz : (j : Int) < (i : Int) := by omega
        obtain ⟨X', U', V', Y', h1, h2, h3, h4, h5⟩ := HL.out
        obtain ⟨U1, U2, rfl, hU1⟩ : ∃ U1 U2, U' = U1 ++ U2 ∧ U1.length = j := ⟨U'.take j, U'.drop j, (List.take_append_drop _ _).symm, by rw [List.length_take]; omega⟩
        rw [List.length_append] at h3
        have hc := hsw.out u m j dk wr hds S1.out X' U1 U2 V' Y' (by simpa using h1) (by omega) hU1 (by omega) h4
        obtain ⟨i2, hi2⟩ : ∃ q, q + j = i := ⟨i - j, by omega⟩
        have q2 : (i : Int) - (j : Int) = (i2 : Int) := by omega
        have v2 : IntKind.i64.wrap (i2 : Int) = (i2 : Int) := by rw [IntKind.wrap_i64]; omega
        have HT : Hid (T = X' ++ (V' ++ ((U1 ++ U2) ++ Y')) ∧ U1.length = j ∧ U2.length = i2 ∧ V'.length = j ∧ X'.length + i = m) := ⟨h2, hU1, by omega, h4, h5⟩
        clear h1 h2 h3 h4 h5 HL hU1
        go_wp2_with (go_at_fn (ρ.f 81); refine hc.mono ?_; rintro e w2 ⟨rfl, d2, hz2, hl2, S2⟩)
        have S2 : Aside _ := S2
        have HL2 : Hid _ := hl2
        clear hc hl2
        go_roundg (i2 + j)
        case measure => omega
        case rel =>
          obtain ⟨h2, t1, t2, t3, t4⟩ := HT.out
          exact ⟨i2, j, d2, rfl, rfl, by omega, hj, by omega, hjm, Nat.le_refl _, hz2, S2, (show Hid _ from ⟨X' ++ V', U2, U1, Y', by rw [HL2.out]; simp, by rw [h2]; simp, t2, t1, by simp; omega⟩)⟩
      · have hgtz : ¬ (j : Int) < (i : Int) := by omega
        obtain ⟨X', U', V', Y', h1, h2, h3, h4, h5⟩ := HL.out
        obtain ⟨V1, V2, rfl, hV2⟩ : ∃ V1 V2, V' = V1 ++ V2 ∧ V2.length = i := ⟨V'.take (j - i), V'.drop (j - i), (List.take_append_drop _ _).symm, by rw [List.length_drop]; omega⟩
        rw [List.length_append] at h4
        obtain ⟨j2, hj2⟩ : ∃ q, q + i = j := ⟨j - i, by omega⟩
        obtain ⟨y, hy⟩ : ∃ q, q = m + j2 := ⟨_, rfl⟩
        have hc := hsw.out u y i dk wr hds S1.out X' U' V1 V2 Y' (by simpa using h1) (by omega) h3 (by omega) hV2
        have q0 : IntKind.i64.wrap ((m : Int) + (j : Int)) = (m : Int) + (j : Int) := by rw [IntKind.wrap_i64]; omega
        have q3 : (m : Int) + (j : Int) - (i : Int) = (y : Int) := by omega
        have q2 : (j : Int) - (i : Int) = (j2 : Int) := by omega
        have v2 : IntKind.i64.wrap (j2 : Int) = (j2 : Int) := by rw [IntKind.wrap_i64]; omega
        have v3 : IntKind.i64.wrap (y : Int) = (y : Int) := by rw [IntKind.wrap_i64]; omega
        have HY : Hid (y = m + j2) := hy
        clear hy
        have HT : Hid (T = X' ++ ((V1 ++ V2) ++ (U' ++ Y')) ∧ V2.length = i ∧ V1.length = j2 ∧ U'.length = i ∧ X'.length + i = m) := ⟨h2, hV2, by omega, h3, h5⟩
        clear h1 h2 h3 h4 h5 HL hV2
        go_wp2_with (go_at_fn (ρ.f 81); refine hc.mono ?_; rintro e w2 ⟨rfl, d2, hz2, hl2, S2⟩)
        have S2 : Aside _ := S2
        have HL2 : Hid _ := hl2
        clear hc hl2
        go_roundg (i + j2)
        case measure => omega
        case rel =>
          obtain ⟨h2, t1, t2, t3, t4⟩ := HT.out
          exact ⟨i, j2, d2, rfl, rfl, hi, by omega, him, by omega, Nat.le_refl _, hz2, S2, (show Hid _ from ⟨X', V2, V1, U' ++ Y', HL2.out, by rw [h2]; simp, t1, t2, t4⟩)⟩

end Go.Proofs.YtcjpemphdgndkaaGreat
