/- What Compare and Answer tell of rows in order: over lists. -/
import Derived.Test.YtmgdhgaodjkifaaGosC
namespace Go.Proofs.Ytmgdhgaodjkifaa
open Go.RowKit
set_option linter.unusedVariables false
set_option linter.unusedSimpArgs false

abbrev Str (ls : List Cd) : Prop := ls.Pairwise (fun x y => klt x y = true)

theorem klt_trans {x y z : Cd} (h1 : klt x y = true) (h2 : klt y z = true) : klt x z = true := by
  have e1 := klt_of h1
  have e2 := klt_of h2
  have n1 := kcmp_neg x z
  rcases Int.lt_or_le (kcmp x z) 0 with h | h
  · exact klt_yes h
  · exfalso
    have h3 := kcmp_le (x := z) (y := x) (z := y) (by omega) (by omega)
    have n2 := kcmp_neg y z
    omega

theorem kcmp_key {x y z : Cd} (ha : x.a = y.a) (hi : x.i = y.i) : kcmp z x = kcmp z y ∧ kcmp x z = kcmp y z := by unfold kcmp; rw [ha, hi]; exact ⟨rfl, rfl⟩

theorem kq_iff {x y : Cd} (h : kq x y = true) : x.a = y.a ∧ x.i = y.i := by simpa [kq] using h

theorem kq_ne {x y : Cd} (h : kq x y = false) : kcmp x y ≠ 0 := by
  intro e
  obtain ⟨h1, h2⟩ := kc_zero e
  rw [kq_yes h1 h2] at h
  cases h

theorem on_str (T : List Cd) : ∀ out : List Cd, Str out → Ord klt (out ++ T) → Str (T.foldl onS out) := by
  induction T with
  | nil => intro out h _; exact h
  | cons x xs ih =>
    intro out h ho
    rcases List.eq_nil_or_concat out with rfl | ⟨o, y, rfl⟩
    · exact ih [x] (List.pairwise_singleton _ _) (by simpa using ho)
    · rw [List.concat_eq_append] at h ho
      obtain ⟨h1, h2, h3⟩ := List.pairwise_append.1 h
      show Str (xs.foldl onS (onS (o.concat y) x))
      rw [List.concat_eq_append]
      cases hk : kq y x
      · rw [onS_other _ _ _ hk]
        refine ih _ ?_ (by simpa using ho)
        have hyx : klt y x = true := by
          have h4 : klt x y = false := (List.pairwise_append.1 ho).2.2 y (by simp) x (by simp)
          have h5 := klt_nof h4
          have h6 := kq_ne hk
          have h7 := kcmp_neg y x
          exact klt_yes (by omega)
        refine List.pairwise_append.2 ⟨h, List.pairwise_singleton _ _, fun z hz w hw => ?_⟩
        simp at hw
        subst hw
        rcases List.mem_append.1 hz with hz | hz
        · exact klt_trans (h3 z hz y (by simp)) hyx
        · simp at hz; subst hz; exact hyx
      · rw [onS_same _ _ _ hk]
        obtain ⟨e1, e2⟩ := kq_iff hk
        refine ih _ ?_ ?_
        · refine List.pairwise_append.2 ⟨h1, List.pairwise_singleton _ _, fun z hz w hw => ?_⟩
          simp at hw
          subst hw
          have := h3 z hz y (by simp)
          unfold klt at this ⊢
          rw [← (kcmp_key (z := z) e1 e2).1]
          exact this
        · refine List.Pairwise.sublist ?_ ho
          rw [List.append_assoc, List.append_assoc]
          exact List.Sublist.append (List.Sublist.refl o) (List.sublist_append_right [y] _)

theorem onc_str (cs : List Cd) : Str (onc cs) := on_str _ [] List.Pairwise.nil (by simpa using srt_is klt klt_weak cs)

theorem on_mem (T : List Cd) : ∀ out : List Cd, ∀ y ∈ T.foldl onS out, y ∈ out ∨ y ∈ T := by
  induction T with
  | nil => intro out y h; exact .inl h
  | cons x xs ih =>
    intro out y h
    rcases ih (onS out x) y h with h1 | h1
    · have : y ∈ out ∨ y = x := by
        rcases List.eq_nil_or_concat out with rfl | ⟨o, z, rfl⟩
        · simp [onS_nil] at h1; exact .inr h1
        · rw [List.concat_eq_append] at h1 ⊢
          cases hk : kq z x
          · rw [onS_other _ _ _ hk] at h1
            rcases List.mem_append.1 h1 with h2 | h2
            · exact .inl h2
            · exact .inr (by simpa using h2)
          · rw [onS_same _ _ _ hk] at h1
            rcases List.mem_append.1 h1 with h2 | h2
            · exact .inl (List.mem_append.2 (.inl h2))
            · exact .inr (by simpa using h2)
      rcases this with h2 | h2
      · exact .inl h2
      · exact .inr (by simp [h2])
    · exact .inr (by simp [h1])

theorem onc_mem {cs : List Cd} {y : Cd} (h : y ∈ onc cs) : y ∈ cs := by
  rcases on_mem _ [] y h with h1 | h1
  · cases h1
  · exact (srt_mem klt y cs).1 h1

theorem klt_not {x y : Cd} (h : klt x y = true) : klt y x = false := klt_weak.asym _ _ h
theorem klt_self (x : Cd) : klt x x = false := by
  cases h : klt x x
  · rfl
  · have := klt_not h; rw [h] at this; cases this
theorem stl_self (x : Cd) : stl x x = false := by simp [stl, sLess]
theorem klt_kq {x y : Cd} (h : klt x y = true) : kq x y = false := by
  cases hk : kq x y
  · rfl
  · obtain ⟨e1, e2⟩ := kq_iff hk
    have h1 := (kcmp_key (z := x) e1 e2).1
    have h2 := klt_self x
    unfold klt at h h2
    rw [← h1] at h
    rw [h] at h2; cases h2
theorem Str.ord {l : List Cd} (h : Str l) : Ord klt l := h.imp (fun {a b} h => klt_not h)
theorem on_id (T : List Cd) : ∀ out : List Cd, Str (out ++ T) → T.foldl onS out = out ++ T := by
  induction T with
  | nil => intro out _; simp
  | cons x xs ih =>
    intro out h
    have e : onS out x = out ++ [x] := by
      rcases List.eq_nil_or_concat out with rfl | ⟨o, y, rfl⟩
      · rfl
      · rw [List.concat_eq_append] at h ⊢
        exact onS_other _ _ _ (klt_kq ((List.pairwise_append.1 h).2.2 y (by simp) x (by simp)))
    rw [List.foldl_cons, e, ih _ (by simpa using h)]
    simp
theorem onc_id {l : List Cd} (h : Str l) : onc l = l := by
  unfold onc
  rw [srt_ord klt l h.ord]
  simpa using on_id l [] (by simpa using h)
theorem gk_self : ∀ (f : Nat) (l : List Cd), gk f l l = []
  | 0, _ => rfl
  | _ + 1, [] => rfl
  | f + 1, x :: l => by simp [gk, klt_self, stl_self, gk_self f l]
theorem gc_self : ∀ (f : Nat) (l : List Cd), gc f l l = []
  | 0, _ => rfl
  | _ + 1, [] => rfl
  | f + 1, x :: l => by simp [gc, klt_self, stl_self, gc_self f l]
theorem gk_left : ∀ (f : Nat) (l : List Cd), gk f l [] = []
  | 0, _ => rfl
  | _ + 1, [] => rfl
  | f + 1, _ :: l => gk_left f l
theorem gc_left : ∀ (f : Nat) (l : List Cd), l.length ≤ f → gc f l [] = l
  | 0, [], _ => rfl
  | 0, _ :: _, h => by simp at h
  | _ + 1, [], _ => rfl
  | f + 1, x :: l, h => by simp only [gc]; rw [gc_left f l (by simpa using h)]
theorem gc_right : ∀ (f : Nat) (l : List Cd), gc f [] l = []
  | 0, _ => rfl
  | _ + 1, [] => rfl
  | f + 1, _ :: l => gc_right f l
theorem gk_gc : ∀ (f : Nat) (a b : List Cd), gk f a b = (gc f b a).map kyc
  | 0, _, _ => rfl
  | _ + 1, [], [] => rfl
  | f + 1, x :: a, [] => by simp only [gk, gc]; exact gk_gc f a []
  | f + 1, [], y :: b => by simp only [gk, gc, List.map_cons]; rw [gk_gc f [] b]
  | f + 1, x :: a, y :: b => by
    have h1 := gk_gc f a (y :: b)
    have h2 := gk_gc f (x :: a) b
    have h3 := gk_gc f a b
    simp only [gk, gc]
    cases hL : klt x y
    · cases hM : klt y x
      · simp only [Bool.false_eq_true, if_false]
        rw [List.map_append, h3]
        cases stl x y <;> simp
      · simp only [if_true, Bool.false_eq_true, if_false, List.map_cons]
        rw [h2]
    · have hM := klt_not hL
      simp only [hM, if_true, Bool.false_eq_true, if_false]
      exact h1
theorem gc_sub : ∀ (f : Nat) (h t : List Cd), (gc f h t).Sublist h
  | 0, _, _ => List.nil_sublist _
  | _ + 1, [], [] => List.Sublist.refl _
  | f + 1, x :: h, [] => (gc_sub f h []).cons_cons x
  | f + 1, [], y :: t => gc_sub f [] t
  | f + 1, x :: h, y :: t => by
    have h1 := gc_sub f h (y :: t)
    have h2 := gc_sub f (x :: h) t
    have h3 := gc_sub f h t
    simp only [gc]
    split
    · exact h1.cons_cons x
    · split
      · exact h2
      · split
        · exact h3.cons_cons x
        · exact h3.cons x
theorem lastU_some (ls : List Cd) : ∀ x ∈ ls, ∃ v, lastU ls (kyc x) = some v := by
  have key : ∀ n (ls : List Cd), ls.length = n → ∀ x ∈ ls, ∃ v, lastU ls (kyc x) = some v := by
    intro n
    induction n with
    | zero => intro ls h x hx; rw [List.eq_nil_of_length_eq_zero h] at hx; cases hx
    | succ n ih =>
      intro ls h x hx
      rcases List.eq_nil_or_concat ls with rfl | ⟨o, y, rfl⟩
      · simp at h
      · rw [List.concat_eq_append] at h hx ⊢
        rw [lastU_snoc]
        unfold fput
        by_cases e : kyc x = kyc y
        · rw [if_pos e]; exact ⟨_, rfl⟩
        · rw [if_neg e]
          rcases List.mem_append.1 hx with hx | hx
          · exact ih o (by simpa using h) x hx
          · simp at hx; subst hx; exact absurd rfl e
  exact key _ ls rfl
theorem str_key {l : List Cd} (h : Str l) : l.Pairwise (fun x y => kyc x ≠ kyc y) := h.imp (fun {a b} hab e => by
  have h1 := klt_kq hab
  simp only [kyc, Prod.mk.injEq] at e
  rw [kq_yes e.1 e.2] at h1
  cases h1)
theorem key_one {l : List Cd} (h : Str l) {x y : Cd} (hx : x ∈ l) (hy : y ∈ l) (e : kyc x = kyc y) : x = y := by
  have hp := str_key h
  clear h
  induction l with
  | nil => cases hx
  | cons z l ih =>
    obtain ⟨h1, h2⟩ := List.pairwise_cons.1 hp
    rcases List.mem_cons.1 hx with rfl | hx' <;> rcases List.mem_cons.1 hy with rfl | hy'
    · rfl
    · exact absurd e (h1 y hy')
    · exact absurd e.symm (h1 x hx')
    · exact ih hx' hy' h2
theorem look_mem {l : List Cd} (h : Str l) {x : Cd} (hx : x ∈ l) : look l (kyc x) = some x := by
  obtain ⟨v, hv⟩ := lastU_some l x hx
  obtain ⟨I, y, rfl, hy, hk⟩ := lastU_spec l _ v hv
  have := key_one h (List.mem_of_getElem? hy) hx hk
  subst this
  unfold look
  rw [hv]
  simpa using hy
theorem ans_sub {b D : List Cd} (hb : Str b) (hD : D.Sublist b) : ansL b (D.map kyc) = D := by
  have hk : D.Pairwise (fun x y => kyc x ≠ kyc y) := (str_key hb).sublist hD
  have hm : ∀ d ∈ D, look b (kyc d) = some d := fun d hd => look_mem hb (hD.subset hd)
  clear hD
  have key : ∀ n (D : List Cd), D.length = n → D.Pairwise (fun x y => kyc x ≠ kyc y) → (∀ d ∈ D, look b (kyc d) = some d) → ansL b (D.map kyc) = D := by
    intro n
    induction n with
    | zero => intro D h _ _; rw [List.eq_nil_of_length_eq_zero h]; rfl
    | succ n ih =>
      intro D h hp hl
      rcases List.eq_nil_or_concat D with rfl | ⟨o, y, rfl⟩
      · simp at h
      · rw [List.concat_eq_append] at h hp hl ⊢
        have h1 := ih o (by simpa using h) (List.pairwise_append.1 hp).1 (fun d hd => hl d (by simp [hd]))
        have h2 := hl y (by simp)
        rw [List.map_append]
        simp only [List.map_cons, List.map_nil]
        rw [ansL_snoc, h1, h2, if_neg]
        · rfl
        · intro hmem
          obtain ⟨z, hz, e⟩ := List.mem_map.1 hmem
          exact (List.pairwise_append.1 hp).2.2 z hz y (by simp) e
  exact key _ D rfl hk hm

end Go.Proofs.Ytmgdhgaodjkifaa
