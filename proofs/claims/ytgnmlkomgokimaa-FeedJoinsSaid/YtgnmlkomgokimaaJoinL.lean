/- What a delta is put into: lists and sets of cards, by key. -/
import Derived.Test.YtgnmlkomgokimaaFeedC
import Derived.Test.YtgnmlkomgokimaaMapD
import Derived.Test.YtgnmlkomgokimaaBn
import Derived.Test.YtgnmlkomgokimaaBk
namespace Go.Proofs.Ytgnmlkomgokimaa
open Go.RowKit
set_option linter.unusedVariables false
set_option linter.unusedSimpArgs false

section
variable {α : Type} (lt : α → α → Bool)
theorem insV_perm (c : α) (l : List α) : (insV lt c l).Perm (c :: l) := by
  induction l with
  | nil => exact List.Perm.refl _
  | cons x xs ih =>
    unfold insV
    split
    · exact (ih.cons x).trans (List.Perm.swap c x xs)
    · exact List.Perm.refl _
theorem insR_perm (c : α) (l : List α) : (insR lt c l).Perm (c :: l) := by
  unfold insR
  exact (List.reverse_perm _).trans ((insV_perm lt c _).trans ((List.reverse_perm l).cons c))
theorem fold_perm (ls : List α) : ∀ out : List α, (ls.foldl (fun out c => insR lt c out) out).Perm (out ++ ls) := by
  induction ls with
  | nil => intro out; simp
  | cons x xs ih =>
    intro out
    simp only [List.foldl_cons]
    refine (ih _).trans (((insR_perm lt x out).append_right xs).trans ?_)
    exact (List.perm_middle (a := x) (l₁ := out) (l₂ := xs)).symm
theorem srt_perm (ls : List α) : (srt lt ls).Perm ls := by unfold srt; simpa using fold_perm lt ls []
end
def ck (c : Cd) : Ky := (c.a, c.i)
def zE (c : Cd) : En := ⟨c, 0⟩
theorem zE_inj {c d : Cd} (h : zE c = zE d) : c = d := congrArg En.c h
theorem nd_at {β : Type} {f : Cd → β} {ls : List Cd} (hn : (ls.map f).Nodup) {c d : Cd} (hc : c ∈ ls) (hd : d ∈ ls) (e : f c = f d) : c = d := by
  obtain ⟨p, hp⟩ := List.mem_iff_getElem?.1 hc
  obtain ⟨q, hq⟩ := List.mem_iff_getElem?.1 hd
  obtain ⟨l1, g1⟩ := List.getElem?_eq_some_iff.1 hp
  obtain ⟨l2, g2⟩ := List.getElem?_eq_some_iff.1 hq
  have hp2 : ls.Pairwise (fun x y => f x ≠ f y) := List.pairwise_map.1 hn
  rw [List.pairwise_iff_getElem] at hp2
  rcases Nat.lt_trichotomy p q with h | h | h
  · exact absurd (by rw [g1, g2, e]) (hp2 p q l1 l2 h)
  · subst h
    rw [g1] at g2
    exact g2
  · exact absurd (by rw [g1, g2, e]) (hp2 q p l2 l1 h)
theorem snocset {ls : List Cd} (hn : (ls.map ck).Nodup) {J : Nat} {c : Cd} (hc : ls[J]? = some c) : ∀ y, y ∈ (ls.take (J + 1)).map zE ↔ y = zE c ∨ (y ∈ (ls.take J).map zE ∧ enK y ≠ enK (zE c)) := by
  intro y
  have e : ls.take (J + 1) = ls.take J ++ [c] := by rw [List.take_add_one, hc]; rfl
  have hs : ((ls.take J ++ [c]).map ck).Nodup := by rw [← e]; exact hn.sublist ((List.take_sublist _ _).map ck)
  rw [e, List.map_append, List.mem_append]
  simp only [List.map_cons, List.map_nil, List.mem_singleton]
  constructor
  · rintro (h | h)
    · right
      refine ⟨h, fun e2 => ?_⟩
      obtain ⟨d, hd, rfl⟩ := List.mem_map.1 h
      rw [List.map_append, List.nodup_append] at hs
      exact hs.2.2 (ck d) (List.mem_map.2 ⟨d, hd, rfl⟩) (ck c) (by simp) e2
    · exact .inl h
  · rintro (h | h)
    · exact .inr h
    · exact .inl h.1
theorem mem_seen {es : List En} {c : Cd} : c ∈ seenL (es.map (·.c)) ↔ ∃ e ∈ es, e.c = c ∧ c.g = false := by
  unfold seenL
  rw [srt_mem, List.mem_filter, List.mem_map]
  constructor
  · rintro ⟨⟨e, he, rfl⟩, h⟩
    exact ⟨e, he, rfl, by simpa using h⟩
  · rintro ⟨e, he, rfl, h⟩
    exact ⟨⟨e, he, rfl⟩, by simp [h]⟩
theorem seen_nd {es : List En} (h : Asc es) : ((seenL (es.map (·.c))).map ck).Nodup := by
  have h1 := asc_nodup h
  have h2 : (es.map (·.c)).map ck = es.map enK := by rw [List.map_map]; rfl
  rw [← h2] at h1
  unfold seenL
  exact (((srt_perm klt _).map ck).nodup_iff).2 (h1.sublist (List.filter_sublist.map ck))
theorem cur_key {es : List En} {k : Ky} (h : isIn k es = true) : ck (cur es k) = k ∧ ∃ e ∈ es, e.c = cur es k := by
  obtain ⟨x, hx, e1, e2⟩ := isIn_at h
  rw [cur_yes h hx]
  exact ⟨Prod.ext e1 e2, x, List.mem_of_getElem? hx, rfl⟩
theorem cur_of {es : List En} (hs : Asc es) {e : En} (he : e ∈ es) : cur es (enK e) = e.c := by
  obtain ⟨h1, h2⟩ := isIn_of hs he
  exact cur_yes h1 h2
/-- since es0 keys ks have changed, and each of them is there -/
def Ch (es0 es : List En) (ks : List Ky) : Prop := (∀ e, enK e ∉ ks → (e ∈ es ↔ e ∈ es0)) ∧ ∀ k ∈ ks, isIn k es = true
theorem Ch.nil (es : List En) : Ch es es [] := ⟨fun e _ => Iff.rfl, fun k h => by cases h⟩
theorem Ch.put {es0 es fs : List En} {ks : List Ky} (h : Ch es0 es ks) (hf : Asc fs) (e : En) (hm : ∀ x, x ∈ fs ↔ x = e ∨ (x ∈ es ∧ enK x ≠ enK e)) : Ch es0 fs (ks ++ [enK e]) := by
  refine ⟨fun x hx => ?_, fun k hk => ?_⟩
  · rw [List.mem_append] at hx
    have h1 : enK x ∉ ks := fun h' => hx (.inl h')
    have h2 : enK x ≠ enK e := fun h' => hx (.inr (by rw [h']; simp))
    rw [hm, ← h.1 x h1]
    exact ⟨fun h' => by rcases h' with rfl | h'; (· exact absurd rfl h2); (· exact h'.1), fun h' => .inr ⟨h', h2⟩⟩
  · have he : e ∈ fs := (hm e).2 (.inl rfl)
    by_cases h2 : k = enK e
    · subst h2
      exact (isIn_of hf he).1
    · rw [List.mem_append] at hk
      rcases hk with hk | hk
      · obtain ⟨x, hx, rfl, -⟩ := isIn_ex (h.2 k hk)
        exact (isIn_of hf ((hm x).2 (.inr ⟨hx, h2⟩))).1
      · exact absurd (by simpa using hk) h2
theorem kp_nd (bs : List Ky) (p : Nat) (hp : p ≤ bs.length) : (kp bs p).Nodup ∧ ∀ k ∈ kp bs p, k ∉ bs.drop p := by
  induction p with
  | zero => exact ⟨List.nodup_nil, fun k hk => by simp [kp] at hk⟩
  | succ p ih =>
    obtain ⟨h1, h2⟩ := ih (by omega)
    obtain ⟨k, hk⟩ : ∃ k, bs[p]? = some k := ⟨bs[p]'(by omega), by simp⟩
    have hd : bs.drop p = k :: bs.drop (p + 1) := by
      rw [List.drop_eq_getElem_cons (by omega)]
      congr 1
      exact (List.getElem?_eq_some_iff.1 hk).2
    have h3 : ∀ x ∈ kp bs p, x ≠ k ∧ x ∉ bs.drop (p + 1) := fun x hx => by
      have := h2 x hx
      rw [hd] at this
      exact ⟨fun e => this (by rw [e]; simp), fun e => this (List.mem_cons_of_mem _ e)⟩
    cases hb : hasB (bs.drop (p + 1)) k with
    | true => rw [kp_yes hk hb]; exact ⟨h1, fun x hx => (h3 x hx).2⟩
    | false =>
      rw [kp_no hk hb]
      have hk2 : k ∉ bs.drop (p + 1) := fun e => by rw [hasB_yes e] at hb; cases hb
      refine ⟨?_, fun x hx => ?_⟩
      · rw [List.nodup_append]
        exact ⟨h1, by simp, fun a ha b hb2 => by simp at hb2; subst hb2; exact (h3 a ha).1⟩
      · rw [List.mem_append] at hx
        rcases hx with hx | hx
        · exact (h3 x hx).2
        · simp at hx; subst hx; exact hk2
theorem kp_mem {bs : List Ky} {k : Ky} : k ∈ kp bs bs.length ↔ k ∈ bs := by
  have h := cnt_kpR k bs bs.length (Nat.le_refl _)
  constructor
  · intro hk
    rcases Classical.em (k ∈ bs) with hb | hb
    · exact hb
    · have h0 := h.2 (fun e => hb e.1)
      unfold cntR at h0
      rw [List.countP_eq_zero] at h0
      exact absurd (by simp) (h0 k hk)
  · intro hb
    have h1 := h.1 ⟨hb, by simp⟩
    unfold cntR at h1
    obtain ⟨x, hx, e⟩ := List.countP_pos_iff.1 (Nat.lt_of_lt_of_eq Nat.zero_lt_one h1.symm)
    have : k = x := by simpa using e
    rw [this]; exact hx
open Classical in
/-- what is left of F without the key k -/
noncomputable def woK (F : List En) (k : Ky) : List En := F.filter (fun y => decide (enK y ≠ k))
theorem woK_mem {F : List En} {k : Ky} {x : En} : x ∈ woK F k ↔ x ∈ F ∧ enK x ≠ k := by unfold woK; rw [List.mem_filter]; simp
/-- A, with the cards B put into it, whose keys are K -/
def Fn (A B : List Cd) (K : List Ky) (F : List En) : Prop := ∀ y, y ∈ F ↔ ∃ c, y = zE c ∧ ((c ∈ A ∧ ck c ∉ K) ∨ (c ∈ B ∧ c.g = false))
theorem Fn.start (A : List Cd) : Fn A [] [] (A.map zE) := fun y => by
  rw [List.mem_map]
  constructor
  · rintro ⟨c, hc, rfl⟩
    exact ⟨c, rfl, .inl ⟨hc, by simp⟩⟩
  · rintro ⟨c, rfl, h | h⟩
    · exact ⟨c, h.1, rfl⟩
    · cases h.1
theorem Fn.put {A B : List Cd} {K : List Ky} {F : List En} (h : Fn A B K F) (hB : ∀ b ∈ B, ck b ∈ K) {c : Cd} (hc : ck c ∉ K) (hg : c.g = false) : Fn A (B ++ [c]) (K ++ [ck c]) (zE c :: woK F (ck c)) := fun y => by
  rw [List.mem_cons, woK_mem, h y]
  constructor
  · rintro (rfl | ⟨⟨d, rfl, hd⟩, hk⟩)
    · exact ⟨c, rfl, .inr ⟨by simp, hg⟩⟩
    · refine ⟨d, rfl, ?_⟩
      rcases hd with hd | hd
      · exact .inl ⟨hd.1, fun e => by rw [List.mem_append] at e; rcases e with e | e; (· exact hd.2 e); (· exact hk (show ck d = ck c from by simpa using e))⟩
      · exact .inr ⟨List.mem_append.2 (.inl hd.1), hd.2⟩
  · rintro ⟨d, rfl, hd⟩
    rcases hd with hd | hd
    · exact .inr ⟨⟨d, rfl, .inl ⟨hd.1, fun e => hd.2 (List.mem_append.2 (.inl e))⟩⟩, fun e => hd.2 (List.mem_append.2 (.inr (by rw [show ck d = ck c from e]; simp)))⟩
    · rcases List.mem_append.1 hd.1 with h1 | h1
      · exact .inr ⟨⟨d, rfl, .inr ⟨h1, hd.2⟩⟩, fun e => hc (by rw [← show ck d = ck c from e]; exact hB d h1)⟩
      · exact .inl (by rw [show d = c by simpa using h1])
theorem Fn.putset {F : List En} {c : Cd} : ∀ x, x ∈ (zE c :: woK F (ck c)) ↔ x = zE c ∨ (x ∈ F ∧ enK x ≠ enK (zE c)) := fun x => by rw [List.mem_cons, woK_mem]; rfl
theorem Fn.del {A B : List Cd} {K : List Ky} {F : List En} (h : Fn A B K F) (hB : ∀ b ∈ B, ck b ∈ K) {c : Cd} (hc : ck c ∉ K) (hg : c.g = true) : Fn A (B ++ [c]) (K ++ [ck c]) (woK F (ck c)) := fun y => by
  rw [woK_mem, h y]
  constructor
  · rintro ⟨⟨d, rfl, hd⟩, hk⟩
    refine ⟨d, rfl, ?_⟩
    rcases hd with hd | hd
    · exact .inl ⟨hd.1, fun e => by rw [List.mem_append] at e; rcases e with e | e; (· exact hd.2 e); (· exact hk (show ck d = ck c from by simpa using e))⟩
    · exact .inr ⟨List.mem_append.2 (.inl hd.1), hd.2⟩
  · rintro ⟨d, rfl, hd⟩
    rcases hd with hd | hd
    · exact ⟨⟨d, rfl, .inl ⟨hd.1, fun e => hd.2 (List.mem_append.2 (.inl e))⟩⟩, fun e => hd.2 (List.mem_append.2 (.inr (by rw [show ck d = ck c from e]; simp)))⟩
    · rcases List.mem_append.1 hd.1 with h1 | h1
      · exact ⟨⟨d, rfl, .inr ⟨h1, hd.2⟩⟩, fun e => hc (by rw [← show ck d = ck c from e]; exact hB d h1)⟩
      · have e1 : d = c := by simpa using h1
        rw [e1, hg] at hd
        cases hd.2
theorem Fn.done {es0 es : List En} {bs kk : List Ky} {F : List En} (hs : Asc es) (hc : Ch es0 es bs) (hk : ∀ k, k ∈ kk ↔ k ∈ bs) (h : Fn (seenL (es0.map (·.c))) (kk.map (cur es)) kk F) : ∀ y, y ∈ F ↔ y ∈ (seenL (es.map (·.c))).map zE := fun y => by
  rw [h y, List.mem_map]
  constructor
  · rintro ⟨c, rfl, h1 | h1⟩
    · obtain ⟨e, he, rfl, hg⟩ := mem_seen.1 h1.1
      exact ⟨_, mem_seen.2 ⟨e, (hc.1 e (fun e2 => h1.2 ((hk _).2 e2))).2 he, rfl, hg⟩, rfl⟩
    · obtain ⟨k, hk1, rfl⟩ := List.mem_map.1 h1.1
      obtain ⟨-, e, he, e1⟩ := cur_key (hc.2 k ((hk k).1 hk1))
      exact ⟨_, mem_seen.2 ⟨e, he, e1, h1.2⟩, rfl⟩
  · rintro ⟨c, h1, rfl⟩
    obtain ⟨e, he, rfl, hg⟩ := mem_seen.1 h1
    refine ⟨_, rfl, ?_⟩
    rcases Classical.em (enK e ∈ kk) with h2 | h2
    · exact .inr ⟨List.mem_map.2 ⟨enK e, h2, cur_of hs he⟩, hg⟩
    · exact .inl ⟨mem_seen.2 ⟨e, (hc.1 e (fun e2 => h2 ((hk _).2 e2))).1 he, rfl, hg⟩, h2⟩
theorem HoD.congr {D : DataW Cd} {es fs : List En} (h : HoD D es) (hm : ∀ y, y ∈ es ↔ y ∈ fs) : HoD D fs :=
  ⟨fun e he => h.1 e ((hm e).2 he), fun k hk hno => h.2.1 k hk fun e he => hno e ((hm e).1 he), h.2.2⟩
/-- of G those have come up that are not left -/
def Tk (left : Lit → Bool) (G ls : List Cd) : Prop := ls.Nodup ∧ ∀ c, c ∈ ls ↔ c ∈ G ∧ left (klit (ck c)) = false
theorem Tk.start {D : DataW Cd} {G : List Cd} (h : HoD D (G.map zE)) : Tk (Maps.has D) G [] := ⟨List.nodup_nil, fun c => by
  constructor
  · intro h; cases h
  · rintro ⟨hc, h2⟩
    have := (h.1 (zE c) (List.mem_map.2 ⟨c, hc, rfl⟩)).2.1
    rw [show enK (zE c) = ck c from rfl, h2] at this
    cases this⟩
theorem Tk.step {D : DataW Cd} {G ls : List Cd} {left : Lit → Bool} (h : HoD D (G.map zE)) (hn : (G.map ck).Nodup) (ht : Tk left G ls) {c : Cd} (hc : c ∈ G) (hl : left (klit (ck c)) = true) : Tk (fun z => left z && !z.sameKey (klit (ck c))) G (ls ++ [c]) := by
  have hK : ∀ d ∈ G, KyS (ck d) := fun d hd => (h.1 (zE d) (List.mem_map.2 ⟨d, hd, rfl⟩)).1
  have hself : (klit (ck c)).sameKey (klit (ck c)) = true := WideAt.sameKey_self (klit_key _ (hK c hc))
  have hnc : c ∉ ls := fun e => by have := ((ht.2 c).1 e).2; rw [hl] at this; cases this
  refine ⟨?_, fun d => ?_⟩
  · rw [List.nodup_append]
    exact ⟨ht.1, by simp, fun a ha b hb e => by simp at hb; subst hb; subst e; exact hnc ha⟩
  · rw [List.mem_append, ht.2 d]
    constructor
    · rintro (h1 | h1)
      · exact ⟨h1.1, by simp [h1.2]⟩
      · have e : d = c := by simpa using h1
        subst e
        exact ⟨hc, by simp [hself]⟩
    · rintro ⟨h1, h2⟩
      cases hd : left (klit (ck d)) with
      | false => exact .inl ⟨h1, rfl⟩
      | true =>
        right
        have h2' : (left (klit (ck d)) && !(klit (ck d)).sameKey (klit (ck c))) = false := h2
        rw [hd] at h2'
        have h3 : (klit (ck d)).sameKey (klit (ck c)) = true := by simpa using h2'
        have h4 := klit_inj (hK d h1) (hK c hc) (WideAt.sameKey_eq h3)
        rw [nd_at hn h1 hc h4]
        simp
theorem Tk.all {G ls : List Cd} {left : Lit → Bool} (ht : Tk left G ls) (hl : ∀ z, left z = false) (hn : (G.map ck).Nodup) : ls.Perm G :=
  (List.perm_ext_iff_of_nodup ht.1 ((List.pairwise_map.1 hn).imp (fun h e => h (congrArg ck e)))).2 fun c => by rw [ht.2 c]; exact ⟨fun h => h.1, fun h => ⟨h, hl _⟩⟩
theorem seen_perm {L ls : List Cd} (hp : ls.Perm (seenL L)) (hn : ((seenL L).map ck).Nodup) : seenL ls = seenL L := by
  have hg : ls.filter (fun c => !c.g) = ls := List.filter_eq_self.2 (fun c hc => by simp [(seenL_mem (hp.mem_iff.1 hc)).2])
  have h1 : (seenL ls).Perm (seenL L) := by
    unfold seenL at hp ⊢
    rw [hg]
    exact (srt_perm klt ls).trans hp
  refine List.Perm.eq_of_pairwise (le := fun a b => klt b a = false) (fun a b ha hb h2 h3 => ?_) ?_ ?_ h1
  · have e2 := klt_nof h2
    have e3 := klt_nof h3
    have e4 := kcmp_neg a b
    obtain ⟨q1, q2⟩ := kc_zero (show kc a.a a.i b.a b.i = 0 from by unfold kcmp at e2 e3 e4; omega)
    exact nd_at hn (h1.mem_iff.1 ha) hb (Prod.ext q1 q2)
  · exact srt_is klt klt_weak _
  · exact srt_is klt klt_weak _
end Go.Proofs.Ytgnmlkomgokimaa
