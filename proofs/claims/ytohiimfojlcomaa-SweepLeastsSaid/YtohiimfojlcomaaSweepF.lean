/- Package sweep: what its rows have in common. -/
import Derived.Test.YtohiimfojlcomaaSweepK
namespace Go.Proofs.Ytohiimfojlcomaa
open Go.RowKit
set_option linter.unusedVariables false
set_option linter.unusedSimpArgs false

abbrev Str (ls : List Cd) : Prop := ls.Pairwise (fun x y => klt x y = true)
theorem klt_trans {x y z : Cd} (h1 : klt x y = true) (h2 : klt y z = true) : klt x z = true := by
  have e1 := klt_of h1
  have e2 := klt_of h2
  have n1 := kcmp_neg x z
  rcases Int.lt_or_le (kcmp x z) 0 with h | h
  · exact klt_yes h
  · exfalso
    have h3 := kcmp_le (x := z) (y := x) (z := y) (by omega) (by omega)
    have n2 := kcmp_neg y z
    omega
theorem kcmp_key {x y z : Cd} (ha : x.a = y.a) (hi : x.i = y.i) : kcmp z x = kcmp z y ∧ kcmp x z = kcmp y z := by unfold kcmp; rw [ha, hi]; exact ⟨rfl, rfl⟩
theorem kq_iff {x y : Cd} (h : kq x y = true) : x.a = y.a ∧ x.i = y.i := by simpa [kq] using h
theorem kq_ne {x y : Cd} (h : kq x y = false) : kcmp x y ≠ 0 := by
  intro e
  obtain ⟨h1, h2⟩ := kc_zero e
  rw [kq_yes h1 h2] at h
  cases h
theorem on_str (T : List Cd) : ∀ out : List Cd, Str out → Ord klt (out ++ T) → Str (T.foldl onS out) := by
  induction T with
  | nil => intro out h _; exact h
  | cons x xs ih =>
    intro out h ho
    rcases List.eq_nil_or_concat out with rfl | ⟨o, y, rfl⟩
    · exact ih [x] (List.pairwise_singleton _ _) (by simpa using ho)
    · rw [List.concat_eq_append] at h ho
      obtain ⟨h1, h2, h3⟩ := List.pairwise_append.1 h
      show Str (xs.foldl onS (onS (o.concat y) x))
      rw [List.concat_eq_append]
      cases hk : kq y x
      · rw [onS_other _ _ _ hk]
        refine ih _ ?_ (by simpa using ho)
        have hyx : klt y x = true := by
          have h4 : klt x y = false := (List.pairwise_append.1 ho).2.2 y (by simp) x (by simp)
          have h5 := klt_nof h4
          have h6 := kq_ne hk
          have h7 := kcmp_neg y x
          exact klt_yes (by omega)
        refine List.pairwise_append.2 ⟨h, List.pairwise_singleton _ _, fun z hz w hw => ?_⟩
        simp at hw
        subst hw
        rcases List.mem_append.1 hz with hz | hz
        · exact klt_trans (h3 z hz y (by simp)) hyx
        · simp at hz; subst hz; exact hyx
      · rw [onS_same _ _ _ hk]
        obtain ⟨e1, e2⟩ := kq_iff hk
        refine ih _ ?_ ?_
        · refine List.pairwise_append.2 ⟨h1, List.pairwise_singleton _ _, fun z hz w hw => ?_⟩
          simp at hw
          subst hw
          have := h3 z hz y (by simp)
          unfold klt at this ⊢
          rw [← (kcmp_key (z := z) e1 e2).1]
          exact this
        · refine List.Pairwise.sublist ?_ ho
          rw [List.append_assoc, List.append_assoc]
          exact List.Sublist.append (List.Sublist.refl o) (List.sublist_append_right [y] _)
theorem onc_str (cs : List Cd) : Str (onc cs) := on_str _ [] List.Pairwise.nil (by simpa using srt_is klt klt_weak cs)

def key (e : En) : Ky := (e.c.a, e.c.i)
abbrev Apart (es : List En) : Prop := es.Pairwise (fun x y => key x ≠ key y)
theorem keys_apart {es : List En} {cs : List Cd} (h : es.map (fun e => e.c) = onc cs) : Apart es := by
  have h1 := onc_str cs
  rw [← h] at h1
  unfold Str at h1
  rw [List.pairwise_map] at h1
  refine h1.imp (fun {x y} hxy e => ?_)
  have h2 := klt_of hxy
  have h3 := kcmp_neg x.c y.c
  simp only [key, Prod.mk.injEq] at e
  have h4 : kcmp x.c y.c = kcmp y.c x.c := by unfold kcmp; rw [e.1, e.2]
  omega
theorem key_inj {es : List En} (h : Apart es) : ∀ x ∈ es, ∀ y ∈ es, key x = key y → x = y := by
  induction es with
  | nil => intro x hx; cases hx
  | cons z zs ih =>
    obtain ⟨h1, h2⟩ := List.pairwise_cons.1 h
    intro x hx y hy e
    rcases List.mem_cons.1 hx with rfl | hx1 <;> rcases List.mem_cons.1 hy with rfl | hy1
    · rfl
    · exact absurd e (h1 y hy1)
    · exact absurd e.symm (h1 x hx1)
    · exact ih h2 x hx1 y hy1 e
theorem tars_mem {l : List En} {now m : Int} {t : Td} (h : t ∈ tars l now m) : ∃ e ∈ l, m < late e now ∧ t = ⟨e.c.a, e.c.i, late e now⟩ := by
  unfold tars at h
  obtain ⟨e, he, rfl⟩ := List.mem_map.1 h
  obtain ⟨h1, h2⟩ := List.mem_filter.1 he
  exact ⟨e, h1, of_decide_eq_true h2, rfl⟩
theorem pick_mem {l : List En} {now m : Int} {k : Ky} (h : k ∈ pickL l now m) : ∃ e ∈ l, m < late e now ∧ key e = k := by
  unfold pickL at h
  obtain ⟨t, ht, rfl⟩ := List.mem_map.1 h
  obtain ⟨e, h1, h2, rfl⟩ := tars_mem ((srt_mem tlt t _).1 (List.mem_of_mem_take ht))
  exact ⟨e, h1, h2, rfl⟩
theorem dead_mem {l : List En} {now : Int} {k : Ky} (h : k ∈ deadL l now) : ∃ e ∈ l, isDead now e = true ∧ key e = k := by
  unfold deadL at h
  obtain ⟨e, he, rfl⟩ := List.mem_map.1 h
  obtain ⟨h1, h2⟩ := List.mem_filter.1 he
  exact ⟨e, h1, h2, rfl⟩
theorem late_live {e : En} {now : Int} (h : 0 < late e now) : e.c.g = false := by
  cases hg : e.c.g
  · rfl
  · unfold late at h; rw [if_pos hg] at h; omega
theorem pick_dead {es : List En} {now : Int} (h : Apart es) {k d : Ky} (hk : k ∈ pickL es now 0) (hd : d ∈ deadL es now) : k ≠ d := by
  intro e
  subst e
  obtain ⟨x, h1, h2, h3⟩ := pick_mem hk
  obtain ⟨y, h4, h5, h6⟩ := dead_mem hd
  have := key_inj h x h1 y h4 (h3.trans h6.symm)
  subst this
  have h7 := late_live h2
  unfold isDead at h5
  rw [h7] at h5
  cases h5
theorem dead_app (a b : List En) (now : Int) : deadL (a ++ b) now = deadL a now ++ deadL b now := by unfold deadL; rw [List.filter_append, List.map_append]
theorem dead_at {l : List En} {now : Int} {J : Nat} {x : En} (hx : l[J]? = some x) (hd : isDead now x = true) : (deadL l now)[(deadL (l.take J) now).length]? = some (key x) := by
  have e : l = l.take J ++ ([x] ++ l.drop (J + 1)) := by
    conv => lhs; rw [← List.take_append_drop J l, drop_at hx]
    rfl
  have e1 : deadL l now = deadL (l.take J) now ++ ([key x] ++ deadL (l.drop (J + 1)) now) := by
    conv => lhs; rw [e]
    rw [dead_app, dead_app]
    congr 2
    unfold deadL
    simp [List.filter, hd, key]
  rw [e1, List.getElem?_append_right (by omega), Nat.sub_self]
  rfl
theorem dead_is {e : En} {now : Int} (hs : EnS e) (h0 : 0 ≤ now) (h1 : now < 4096) : isDead now e = (e.c.g && decide (400 < now - e.seen)) := by
  have h2 : e.seen < 120 := hs.2.1
  have h3 : 0 ≤ e.seen := hs.1
  unfold isDead; rw [hd_is h0 (by omega), hd_is h3 (by omega)]
theorem late_is {e : En} {now : Int} (hs : EnS e) (h0 : 0 ≤ now) (h1 : now < 4096) (hg : e.c.g = false) : late e now = if now - e.seen - e.c.l < 0 then 0 else now - e.seen - e.c.l := by
  obtain ⟨s0, s1, s2, s3⟩ := hs
  unfold late; rw [if_neg (by simp [hg]), hd_is h0 (by omega), hd_is s0 (by omega), hd_is (show 0 ≤ e.c.l by omega) (by omega)]
theorem pick_len (l : List En) (now m : Int) : (pickL l now m).length = min (mostN (lives l)) (tars l now m).length := by
  unfold pickL; rw [List.length_map, List.length_take, srt_len]

section
variable {α : Type} (lt : α → α → Bool)
theorem insV_front (c : α) (l : List α) (h : ∀ y ∈ l, lt c y = false) : insV lt c l = c :: l := by
  cases l with
  | nil => rfl
  | cons x xs => unfold insV; rw [if_neg (by simp [h x (by simp)])]
theorem insV_filter (W : Weak lt) (p : α → Bool) (c : α) (l : List α) (h : l.Pairwise (fun x y => lt x y = false)) : (insV lt c l).filter p = if p c then insV lt c (l.filter p) else l.filter p := by
  induction l with
  | nil => cases hp : p c <;> simp [insV, List.filter, hp]
  | cons x xs ih =>
    obtain ⟨h1, h2⟩ := List.pairwise_cons.1 h
    have ih' := ih h2
    by_cases hlt : lt c x = true
    · have e : insV lt c (x :: xs) = x :: insV lt c xs := by
        show (if lt c x then _ else _) = _
        rw [if_pos hlt]
      rw [e]
      cases hx : p x
      · rw [List.filter_cons_of_neg (by simp [hx]), List.filter_cons_of_neg (by simp [hx]), ih']
      · rw [List.filter_cons_of_pos hx, List.filter_cons_of_pos hx, ih']
        cases hp : p c
        · simp
        · simp only [if_true]
          show _ = (if lt c x then _ else _)
          rw [if_pos hlt]
    · have hf : lt c x = false := by simpa using hlt
      have e : insV lt c (x :: xs) = c :: x :: xs := by
        show (if lt c x then _ else _) = _
        rw [if_neg hlt]
      rw [e]
      cases hp : p c
      · rw [List.filter_cons_of_neg (by simp [hp])]; simp
      · rw [List.filter_cons_of_pos hp]
        simp only [if_true]
        rw [insV_front lt c]
        intro y hy
        have hy' := (List.mem_filter.1 hy).1
        rcases List.mem_cons.1 hy' with rfl | hy'
        · exact hf
        · exact W.ntr y x c (h1 y hy') hf
theorem insR_filter (W : Weak lt) (p : α → Bool) (c : α) (l : List α) (h : Ord lt l) : (insR lt c l).filter p = if p c then insR lt c (l.filter p) else l.filter p := by
  unfold insR
  rw [List.filter_reverse, insV_filter lt W p c _ (List.pairwise_reverse.2 h)]
  cases hp : p c
  · simp
  · simp
theorem srt_filter (W : Weak lt) (p : α → Bool) (ls : List α) : (srt lt ls).filter p = srt lt (ls.filter p) := by
  have key : ∀ (ls out : List α), Ord lt out → (ls.foldl (fun out c => insR lt c out) out).filter p = (ls.filter p).foldl (fun out c => insR lt c out) (out.filter p) := by
    intro ls
    induction ls with
    | nil => intro out _; rfl
    | cons x xs ih =>
      intro out ho
      simp only [List.foldl_cons]
      rw [ih _ (insR_ord lt W x out ho), insR_filter lt W p x out ho]
      cases hp : p x
      · rw [List.filter_cons_of_neg (by simp [hp])]; simp
      · rw [List.filter_cons_of_pos hp]; simp
  exact key ls [] List.Pairwise.nil
end
section
variable {α : Type} (lt : α → α → Bool)
theorem insV_perm (c : α) (l : List α) : (insV lt c l).Perm (c :: l) := by
  induction l with
  | nil => exact List.Perm.refl _
  | cons x xs ih =>
    unfold insV
    split
    · exact (ih.cons x).trans (List.Perm.swap c x xs)
    · exact List.Perm.refl _
theorem insR_perm (c : α) (l : List α) : (insR lt c l).Perm (c :: l) := by
  unfold insR
  exact (List.reverse_perm _).trans ((insV_perm lt c _).trans ((List.reverse_perm l).cons c))
theorem fold_perm (ls : List α) : ∀ out : List α, (ls.foldl (fun out c => insR lt c out) out).Perm (out ++ ls) := by
  induction ls with
  | nil => intro out; simp
  | cons x xs ih =>
    intro out
    simp only [List.foldl_cons]
    refine (ih _).trans (((insR_perm lt x out).append_right xs).trans ?_)
    exact (List.perm_middle (a := x) (l₁ := out) (l₂ := xs)).symm
theorem srt_perm (ls : List α) : (srt lt ls).Perm ls := by unfold srt; simpa using fold_perm lt ls []
end
theorem pick_apart {es : List En} (h : Apart es) (now m : Int) : (pickL es now m).Pairwise (fun x y => x ≠ y) := by
  unfold pickL
  have h1 : ((tars es now m).map (fun t => (t.a, t.i))).Pairwise (fun x y : Ky => x ≠ y) := by
    unfold tars
    rw [List.map_map, List.pairwise_map]
    exact (h.filter _).imp (fun {x y} hxy => hxy)
  have h2 : ((srt tlt (tars es now m)).map (fun t => (t.a, t.i))).Pairwise (fun x y : Ky => x ≠ y) :=
    (((srt_perm tlt (tars es now m)).map (fun t => (t.a, t.i))).pairwise_iff (fun {x y} h => h.symm)).2 h1
  rw [List.map_take]
  exact h2.sublist (List.take_sublist _ _)

end Go.Proofs.Ytohiimfojlcomaa
