/- Cards in another order have the same bytes; one byte that is another one. -/
import Derived.Test.YtfcghnkcjangmaaSealP
namespace Go.Proofs.Ytfcghnkcjangmaa
open Go.RowKit
set_option linter.unusedVariables false
set_option linter.unusedSimpArgs false

abbrev Str (ls : List Cd) : Prop := ls.Pairwise (fun x y => klt x y = true)
theorem klt_trans {x y z : Cd} (h1 : klt x y = true) (h2 : klt y z = true) : klt x z = true := by
  have e1 := klt_of h1
  have e2 := klt_of h2
  have n1 := kcmp_neg x z
  rcases Int.lt_or_le (kcmp x z) 0 with h | h
  · exact klt_yes h
  · exfalso
    have h3 := kcmp_le (x := z) (y := x) (z := y) (by omega) (by omega)
    have n2 := kcmp_neg y z
    omega
theorem kcmp_key {x y z : Cd} (ha : x.a = y.a) (hi : x.i = y.i) : kcmp z x = kcmp z y ∧ kcmp x z = kcmp y z := by unfold kcmp; rw [ha, hi]; exact ⟨rfl, rfl⟩
theorem kq_iff {x y : Cd} (h : kq x y = true) : x.a = y.a ∧ x.i = y.i := by simpa [kq] using h
theorem kq_ne {x y : Cd} (h : kq x y = false) : kcmp x y ≠ 0 := by
  intro e
  obtain ⟨h1, h2⟩ := kc_zero e
  rw [kq_yes h1 h2] at h
  cases h
theorem on_str (T : List Cd) : ∀ out : List Cd, Str out → Ord klt (out ++ T) → Str (T.foldl onS out) := by
  induction T with
  | nil => intro out h _; exact h
  | cons x xs ih =>
    intro out h ho
    rcases List.eq_nil_or_concat out with rfl | ⟨o, y, rfl⟩
    · exact ih [x] (List.pairwise_singleton _ _) (by simpa using ho)
    · rw [List.concat_eq_append] at h ho
      obtain ⟨h1, h2, h3⟩ := List.pairwise_append.1 h
      show Str (xs.foldl onS (onS (o.concat y) x))
      rw [List.concat_eq_append]
      cases hk : kq y x
      · rw [onS_other _ _ _ hk]
        refine ih _ ?_ (by simpa using ho)
        have hyx : klt y x = true := by
          have h4 : klt x y = false := (List.pairwise_append.1 ho).2.2 y (by simp) x (by simp)
          have h5 := klt_nof h4
          have h6 := kq_ne hk
          have h7 := kcmp_neg y x
          exact klt_yes (by omega)
        refine List.pairwise_append.2 ⟨h, List.pairwise_singleton _ _, fun z hz w hw => ?_⟩
        simp at hw
        subst hw
        rcases List.mem_append.1 hz with hz | hz
        · exact klt_trans (h3 z hz y (by simp)) hyx
        · simp at hz; subst hz; exact hyx
      · rw [onS_same _ _ _ hk]
        obtain ⟨e1, e2⟩ := kq_iff hk
        refine ih _ ?_ ?_
        · refine List.pairwise_append.2 ⟨h1, List.pairwise_singleton _ _, fun z hz w hw => ?_⟩
          simp at hw
          subst hw
          have := h3 z hz y (by simp)
          unfold klt at this ⊢
          rw [← (kcmp_key (z := z) e1 e2).1]
          exact this
        · refine List.Pairwise.sublist ?_ ho
          rw [List.append_assoc, List.append_assoc]
          exact List.Sublist.append (List.Sublist.refl o) (List.sublist_append_right [y] _)
theorem onc_str (cs : List Cd) : Str (onc cs) := on_str _ [] List.Pairwise.nil (by simpa using srt_is klt klt_weak cs)
theorem insV_all (c : Cd) (l : List Cd) (h : ∀ x ∈ l, klt c x = true) : insV klt c l = l ++ [c] := by
  induction l with
  | nil => rfl
  | cons x xs ih => unfold insV; rw [if_pos (h x (by simp)), ih (fun y hy => h y (by simp [hy]))]; rfl
theorem srt_rev (X : List Cd) (h : Str X) : srt klt X.reverse = X := by
  induction X with
  | nil => rfl
  | cons x xs ih =>
    obtain ⟨h1, h2⟩ := List.pairwise_cons.1 h
    rw [List.reverse_cons, srt_snoc, ih h2]
    unfold insR
    rw [insV_all x xs.reverse (fun y hy => h1 y (by simpa using hy))]
    simp
/-- a card with this stamp -/
def setS (t k n : Int) (c : Cd) : Cd := ⟨c.a, c.i, c.s, c.o, c.l, t, k, n, c.g⟩
theorem setS_B (t k n : Int) (c : Cd) : cardB (setS t k n c) = cardB c := rfl
theorem setS_klt (t k n : Int) (x y : Cd) : klt (setS t k n x) (setS t k n y) = klt x y := rfl
theorem insV_map (f : Cd → Cd) (hf : ∀ x y, klt (f x) (f y) = klt x y) (c : Cd) (l : List Cd) : insV klt (f c) (l.map f) = (insV klt c l).map f := by
  induction l with
  | nil => rfl
  | cons x xs ih =>
    simp only [List.map_cons]
    unfold insV
    rw [hf, ih]
    split <;> rfl
theorem srt_map (f : Cd → Cd) (hf : ∀ x y, klt (f x) (f y) = klt x y) (l : List Cd) : srt klt (l.map f) = (srt klt l).map f := by
  have key : ∀ (l out : List Cd), (l.map f).foldl (fun out c => insR klt c out) (out.map f) = (l.foldl (fun out c => insR klt c out) out).map f := by
    intro l
    induction l with
    | nil => intro out; rfl
    | cons x xs ih =>
      intro out
      simp only [List.map_cons, List.foldl_cons]
      rw [show insR klt (f x) (out.map f) = (insR klt x out).map f from by unfold insR; rw [← List.map_reverse, insV_map f hf, List.map_reverse]]
      exact ih _
  exact key l []
def cGone : Cd := ⟨⟨#[103, 111, 110, 101]⟩, ⟨#[103, 111, 110, 101]⟩, 0, 0, 0, 0, 0, 0, true⟩
def other (t k n : Int) (l : List Cd) : List Cd := (l.reverse).map (setS t k n) ++ [cGone]
theorem seal_other (t k n : Int) (l : List Cd) (h : Str l) : sealB (other t k n l) = sealB l := by
  have e1 : seenL (other t k n l) = (seenL l).map (setS t k n) := by
    unfold seenL other
    rw [List.filter_append]
    have h1 : [cGone].filter (fun c => !c.g) = [] := rfl
    rw [h1, List.append_nil, List.filter_map]
    rw [show ((fun c : Cd => !c.g) ∘ setS t k n) = (fun c => !c.g) from rfl]
    rw [srt_map _ (setS_klt t k n), List.filter_reverse]
    have hf : Str (l.filter (fun c => !c.g)) := List.Pairwise.filter _ h
    rw [srt_rev _ hf]
    rw [srt_ord klt _ (hf.imp (fun {x y} hxy => klt_weak.asym x y hxy))]
  unfold sealB
  rw [e1, List.flatMap_map]
  rfl
/-- the card that shows another thing -/
def over (c : Cd) (o : Int) : Cd := ⟨c.a, c.i, c.s, o, c.l, c.t, c.k, c.n, c.g⟩
theorem klt_set (v : List Cd) (k : Nat) (y : Cd) (o : Int) (hk : v[k]? = some y) (h : Ord klt v) : Ord klt (v.set k (over y o)) := by
  have key : ∀ (w : List Cd), Ord klt w ↔ (w.map (fun c => (c.a, c.i))).Pairwise (fun p q => decide (kc q.1 q.2 p.1 p.2 < 0) = false) := fun w => by rw [List.pairwise_map]; rfl
  rw [key] at h ⊢
  have e : (v.set k (over y o)).map (fun c => (c.a, c.i)) = v.map (fun c => (c.a, c.i)) := by
    rw [List.map_set]
    apply List.ext_getElem?
    intro j
    by_cases e : k = j
    · subst e
      have hlt : k < v.length := by
        rcases Nat.lt_or_ge k v.length with h' | h'
        · exact h'
        · rw [List.getElem?_eq_none h'] at hk; cases hk
      rw [List.getElem?_set_self (by rw [List.length_map]; exact hlt), List.getElem?_map, hk]; rfl
    · rw [List.getElem?_set_ne e]
  rw [e]
  exact h
theorem seal_turn (v : List Cd) (k : Nat) (y : Cd) (o : Int) (hk : v[k]? = some y) (h : Ord klt v) (hg : ∀ x ∈ v, x.g = false) (ho : o ≠ 0) (hs0 : 0 ≤ shw y) (hs1 : shw y < 256) (ho0 : 0 ≤ o) (ho1 : o < 256) (hne : o ≠ shw y) : sm (sealB (v.set k (over y o))) ≠ sm (sealB v) := by
  have hlt : k < v.length := by
    rcases Nat.lt_or_ge k v.length with h' | h'
    · exact h'
    · rw [List.getElem?_eq_none h'] at hk; cases hk
  have hyg := hg y (List.mem_of_getElem? hk)
  have hg' : ∀ x ∈ v.set k (over y o), x.g = false := by
    intro x hx
    rcases List.mem_or_eq_of_mem_set hx with hx | rfl
    · exact hg x hx
    · exact hyg
  have e1 : sealB v = v.flatMap cardB := by unfold sealB; rw [seen_ord v h, List.filter_eq_self.2 (fun x hx => by simp [hg x hx])]
  have e2 : sealB (v.set k (over y o)) = (v.set k (over y o)).flatMap cardB := by unfold sealB; rw [seen_ord _ (klt_set v k y o hk h), List.filter_eq_self.2 (fun x hx => by simp [hg' x hx])]
  have e3 : v = v.take k ++ y :: v.drop (k + 1) := by rw [← drop_at hk, List.take_append_drop]
  have e4 : v.set k (over y o) = v.take k ++ over y o :: v.drop (k + 1) := by rw [List.set_eq_take_append_cons_drop, if_pos hlt]
  rw [e1, e2, e4]
  conv => rhs; rw [e3]
  have hso : shw (over y o) = o := by simp [shw, over, hyg, ho]
  simp only [List.flatMap_append, List.flatMap_cons, cardB, hso, Int.emod_eq_of_lt hs0 hs1, Int.emod_eq_of_lt ho0 ho1]
  have h9 := sm_turn (List.flatMap cardB (v.take k) ++ txt y.a ++ txt y.i) (be y.l ++ List.flatMap cardB (v.drop (k + 1))) o (shw y) ho0 ho1 hs0 hs1 hne
  simpa [over, List.append_assoc] using h9
theorem seen_empty {l : List Cd} (h : (seenL l).length = 0) : sealB l = [] := by unfold sealB; rw [List.eq_nil_of_length_eq_zero h]; rfl
theorem shw_ok {c : Cd} (h : CdOk c) (hg : c.g = false) : 1 ≤ shw c ∧ shw c ≤ 3 := by
  obtain ⟨-, -, h1, h2, h3, h4, -⟩ := h
  unfold shw
  rw [hg]
  simp only [Bool.false_eq_true, if_false]
  split <;> omega

end Go.Proofs.Ytfcghnkcjangmaa
