/- Cards that are put into a desk: what becomes of it. -/
import Derived.Test.YtloeabdohgdmkaaMgDZ
import Derived.Test.YtloeabdohgdmkaaDkbZ
import Derived.Test.YtloeabdohgdmkaaTapeFZ
namespace Go.Proofs.Ytloeabdohgdmkaa
open Go.RowKit
set_option linter.unusedVariables false
set_option linter.unusedSimpArgs false

theorem mem_put {es : List En} {e x : En} (hs : Asc es) : x ∈ putE es e ↔ x = e ∨ (x ∈ es ∧ enK x ≠ enK e) := by
  unfold putE
  by_cases hi : isIn (enK e) es = true
  · rw [if_pos hi]; exact mem_set hs hi
  · rw [if_neg hi]; exact mem_ins hs (by simpa using hi) _
theorem asc_putE {es : List En} {e : En} (hs : Asc es) : Asc (putE es e) := by
  unfold putE
  by_cases hi : isIn (enK e) es = true
  · rw [if_pos hi]; exact asc_put hs hi
  · rw [if_neg hi]; exact asc_ins hs (by simpa using hi)
theorem ge_mem {es : List En} {k : Ky} (hi : isIn k es = true) : ge es k ∈ es := List.mem_of_getElem? (ge_yes hi).1
/-- what a merge goes through -/
structure Is where
  es : List En
  ks : List Ky
  out : List Cd
  ref : Nat
def ck (c : Cd) : Ky := (c.a, c.i)
def into1 (now : Int) (s : Is) (c : Cd) : Is :=
  if c.a.size = 0 then s
  else if isIn (ck c) s.es = false ∨ ltC (ge s.es (ck c)).c c = true then
    (if isIn (ck c) s.es = true ∨ s.es.length < 32 then ⟨putE s.es ⟨c, now⟩, s.ks ++ [ck c], s.out ++ [c], s.ref⟩ else ⟨s.es, s.ks, s.out, s.ref + 1⟩)
  else if ((ge s.es (ck c)).c.t = c.t ∧ (ge s.es (ck c)).c.k = c.k ∧ (ge s.es (ck c)).c.n = c.n) ∧ (ge s.es (ck c)).c.g = false then ⟨putE s.es ⟨(ge s.es (ck c)).c, now⟩, s.ks, s.out, s.ref⟩
  else s
def intoL (now : Int) (s : Is) (ls : List Cd) : Is := ls.foldl (into1 now) s
theorem intoL_snoc (now : Int) (s : Is) (ls : List Cd) (c : Cd) : intoL now s (ls ++ [c]) = into1 now (intoL now s ls) c := by simp [intoL]
section
variable {now : Int} {s : Is} {c : Cd}
theorem into_zero (h : c.a.size = 0) : into1 now s c = s := by unfold into1; rw [if_pos h]
theorem into_set (h : c.a.size ≠ 0) (h1 : isIn (ck c) s.es = false ∨ ltC (ge s.es (ck c)).c c = true) (h2 : isIn (ck c) s.es = true ∨ s.es.length < 32) : into1 now s c = ⟨putE s.es ⟨c, now⟩, s.ks ++ [ck c], s.out ++ [c], s.ref⟩ := by
  unfold into1; rw [if_neg h, if_pos h1, if_pos h2]
theorem into_full (h : c.a.size ≠ 0) (h1 : isIn (ck c) s.es = false) (h2 : ¬ s.es.length < 32) : into1 now s c = ⟨s.es, s.ks, s.out, s.ref + 1⟩ := by
  unfold into1; rw [if_neg h, if_pos (.inl h1), if_neg]
  rintro (q | q)
  · rw [h1] at q; cases q
  · exact h2 q
theorem into_see (h : c.a.size ≠ 0) (h1 : isIn (ck c) s.es = true) (h3 : ltC (ge s.es (ck c)).c c = false) (h2 : ((ge s.es (ck c)).c.t = c.t ∧ (ge s.es (ck c)).c.k = c.k ∧ (ge s.es (ck c)).c.n = c.n) ∧ (ge s.es (ck c)).c.g = false) : into1 now s c = ⟨putE s.es ⟨(ge s.es (ck c)).c, now⟩, s.ks, s.out, s.ref⟩ := by
  unfold into1; rw [if_neg h, if_neg (by rw [h1, h3]; simp), if_pos h2]
theorem into_no (h : c.a.size ≠ 0) (h1 : isIn (ck c) s.es = true) (h3 : ltC (ge s.es (ck c)).c c = false) (h2 : ¬(((ge s.es (ck c)).c.t = c.t ∧ (ge s.es (ck c)).c.k = c.k ∧ (ge s.es (ck c)).c.n = c.n) ∧ (ge s.es (ck c)).c.g = false)) : into1 now s c = s := by
  unfold into1; rw [if_neg h, if_neg (by rw [h1, h3]; simp), if_neg h2]
end
theorem asc_str {es : List En} : Asc es ↔ StrC (es.map (·.c)) := by
  unfold StrC Asc
  rw [List.pairwise_map]
theorem asc_key9 {es : List En} (hs : Asc es) {x y : En} (hx : x ∈ es) (hy : y ∈ es) (e1 : x.c.a = y.c.a) (e2 : x.c.i = y.c.i) : x = y := by
  induction es with
  | nil => cases hx
  | cons z es ih =>
    obtain ⟨a1, a2⟩ := List.pairwise_cons.1 hs
    rcases List.mem_cons.1 hx with hx1 | hx1
    · rcases List.mem_cons.1 hy with hy1 | hy1
      · rw [hx1, hy1]
      · have := a1 y hy1
        rw [← hx1, e1, e2, kc_self9] at this
        omega
    · rcases List.mem_cons.1 hy with hy1 | hy1
      · have := a1 x hx1
        rw [← hy1, e1, e2, kc_self9] at this
        omega
      · exact ih a2 hx1 hy1
/-- what is put leaves the later ones -/
theorem dom_put {C : List Cd} {es : List En} {c : Cd} {now : Int} (h : Dom C (es.map (·.c))) (h1 : isIn (ck c) es = false ∨ ltC (ge es (ck c)).c c = true) : Dom (C ++ [c]) ((putE es ⟨c, now⟩).map (·.c)) := by
  have hs : Asc es := asc_str.2 h.asc
  have hk : enK (⟨c, now⟩ : En) = ck c := rfl
  have old : ∀ x ∈ es, x.c.a = c.a → x.c.i = c.i → ltC x.c c = true := by
    intro x hx e1 e2
    have hi := isIn_of hs hx
    have hxk : enK x = ck c := by unfold enK ck; rw [e1, e2]
    rw [hxk] at hi
    rcases h1 with h1 | h1
    · rw [hi.1] at h1; cases h1
    · have : ge es (ck c) = x := asc_key9 hs (ge_mem hi.1) hx (by have := (ge_yes hi.1).2; exact (congrArg Prod.fst this).trans e1.symm) (by have := (ge_yes hi.1).2; exact (congrArg Prod.snd this).trans e2.symm)
      rw [this] at h1
      exact h1
  refine ⟨asc_str.1 (asc_putE hs), fun y hy => ?_, fun y hy c' hc' e1 e2 => ?_, fun c' hc' => ?_⟩
  · obtain ⟨x, hx, rfl⟩ := List.mem_map.1 hy
    rcases (mem_put hs).1 hx with rfl | ⟨hx, -⟩
    · simp
    · exact List.mem_append_left _ (h.sub x.c (List.mem_map.2 ⟨x, hx, rfl⟩))
  · obtain ⟨x, hx, rfl⟩ := List.mem_map.1 hy
    rcases (mem_put hs).1 hx with rfl | ⟨hx, hne⟩
    · rcases List.mem_append.1 hc' with hc' | hc'
      · obtain ⟨z, hz, f1, f2⟩ := h.has c' hc'
        obtain ⟨x', hx', rfl⟩ := List.mem_map.1 hz
        have q1 := old x' hx' (f1.trans e1) (f2.trans e2)
        have q2 := h.top x'.c (List.mem_map.2 ⟨x', hx', rfl⟩) c' hc' f1.symm f2.symm
        have q3 := ltC_iff.1 q1
        have q4 := ltC_no.1 q2
        show ltC c c' = false
        exact ltC_no.2 (by omega)
      · simp at hc'; subst hc'
        show ltC c' c' = false
        exact ltC_no.2 (by omega)
    · rcases List.mem_append.1 hc' with hc' | hc'
      · exact h.top x.c (List.mem_map.2 ⟨x, hx, rfl⟩) c' hc' e1 e2
      · simp at hc'; subst hc'
        exact absurd (show enK x = enK (⟨c', now⟩ : En) from by unfold enK; rw [e1, e2]) hne
  · rcases List.mem_append.1 hc' with hc' | hc'
    · obtain ⟨z, hz, f1, f2⟩ := h.has c' hc'
      obtain ⟨x, hx, rfl⟩ := List.mem_map.1 hz
      by_cases hq : enK x = enK (⟨c, now⟩ : En)
      · exact ⟨c, List.mem_map.2 ⟨⟨c, now⟩, (mem_put hs).2 (.inl rfl), rfl⟩, by have : x.c.a = c.a := congrArg Prod.fst hq; rw [← this, f1], by have : x.c.i = c.i := congrArg Prod.snd hq; rw [← this, f2]⟩
      · exact ⟨x.c, List.mem_map.2 ⟨x, (mem_put hs).2 (.inr ⟨hx, hq⟩), rfl⟩, f1, f2⟩
    · simp at hc'; subst hc'
      exact ⟨c', List.mem_map.2 ⟨⟨c', now⟩, (mem_put hs).2 (.inl rfl), rfl⟩, rfl, rfl⟩
/-- a card that is no later one -/
theorem dom_no {C : List Cd} {es : List En} {c : Cd} (h : Dom C (es.map (·.c))) (h1 : isIn (ck c) es = true) (h3 : ltC (ge es (ck c)).c c = false) : Dom (C ++ [c]) (es.map (·.c)) := by
  have hs : Asc es := asc_str.2 h.asc
  have hg := ge_yes h1
  refine ⟨h.asc, fun y hy => List.mem_append_left _ (h.sub y hy), fun y hy c' hc' e1 e2 => ?_, fun c' hc' => ?_⟩
  · rcases List.mem_append.1 hc' with hc' | hc'
    · exact h.top y hy c' hc' e1 e2
    · simp at hc'; subst hc'
      obtain ⟨x, hx, rfl⟩ := List.mem_map.1 hy
      have : ge es (ck c') = x := asc_key9 hs (ge_mem h1) hx ((congrArg Prod.fst hg.2).trans e1) ((congrArg Prod.snd hg.2).trans e2)
      rw [this] at h3
      exact h3
  · rcases List.mem_append.1 hc' with hc' | hc'
    · exact h.has c' hc'
    · simp at hc'; subst hc'
      exact ⟨(ge es (ck c')).c, List.mem_map.2 ⟨_, ge_mem h1, rfl⟩, congrArg Prod.fst hg.2, congrArg Prod.snd hg.2⟩
/-- an entry that is seen anew has its card -/
theorem see_map {es : List En} {k : Ky} {now : Int} (h1 : isIn k es = true) : (putE es ⟨(ge es k).c, now⟩).map (·.c) = es.map (·.c) := by
  have hg := ge_yes h1
  have hk : enK (⟨(ge es k).c, now⟩ : En) = k := hg.2
  unfold putE
  rw [hk, if_pos h1, List.map_set]
  refine List.ext_getElem? fun i => ?_
  by_cases hi : low k es = i
  · subst hi
    rw [List.getElem?_set_self (by have := (List.getElem?_eq_some_iff.1 hg.1).1; simpa using this), List.getElem?_map, hg.1]
    rfl
  · rw [List.getElem?_set_ne hi]
structure IOk (C : List Cd) (n : Nat) (s : Is) : Prop where
  dom : Dom C (s.es.map (·.c))
  few : s.es.length ≤ 20
  ks : s.ks.length ≤ n
  out : s.out.length ≤ n
  ref : s.ref = 0
theorem IOk.asc {C : List Cd} {n : Nat} {s : Is} (h : IOk C n s) : Asc s.es := asc_str.2 h.dom.asc
/-- cards of the few keys go in, and none is refused -/
theorem IOk.step {C : List Cd} {n : Nat} {s : Is} {c : Cd} (now : Int) (h : IOk C n s) (hC : ∀ x ∈ C ++ [c], KA x.a ∧ KI x.i) : IOk (C ++ [c]) (n + 1) (into1 now s c) := by
  have hz : c.a.size ≠ 0 := by rcases (hC c (by simp)).1 with h | h | h | h <;> rw [h] <;> decide
  have hf : ∀ es : List En, Dom (C ++ [c]) (es.map (·.c)) → es.length ≤ 20 := fun es hd => _root_.Go.Proofs.Ytloeabdohgdmkaa.few (asc_str.2 hd.asc) fun x hx => hC x.c (hd.sub x.c (List.mem_map.2 ⟨x, hx, rfl⟩))
  by_cases h1 : isIn (ck c) s.es = false ∨ ltC (ge s.es (ck c)).c c = true
  · rw [into_set hz h1 (.inr (by have := h.few; omega))]
    have hd := dom_put (now := now) h.dom h1
    exact ⟨hd, hf _ hd, by have := h.ks; simp; omega, by have := h.out; simp; omega, h.ref⟩
  · have hi : isIn (ck c) s.es = true := by
      cases hi : isIn (ck c) s.es
      · exact absurd (.inl hi) h1
      · rfl
    have hl : ltC (ge s.es (ck c)).c c = false := by
      cases hl : ltC (ge s.es (ck c)).c c
      · rfl
      · exact absurd (.inr hl) h1
    have hd := dom_no h.dom hi hl
    by_cases h2 : ((ge s.es (ck c)).c.t = c.t ∧ (ge s.es (ck c)).c.k = c.k ∧ (ge s.es (ck c)).c.n = c.n) ∧ (ge s.es (ck c)).c.g = false
    · rw [into_see hz hi hl h2]
      rw [← see_map (now := now) hi] at hd
      exact ⟨hd, hf _ hd, by have := h.ks; show s.ks.length ≤ _; omega, by have := h.out; show s.out.length ≤ _; omega, h.ref⟩
    · rw [into_no hz hi hl h2]
      exact ⟨hd, hf _ hd, by have := h.ks; omega, by have := h.out; omega, h.ref⟩
theorem IOk.all {now : Int} : ∀ (ls : List Cd) {C : List Cd} {n : Nat} {s : Is}, IOk C n s → (∀ x ∈ C ++ ls, KA x.a ∧ KI x.i) → IOk (C ++ ls) (n + ls.length) (intoL now s ls) := by
  intro ls
  induction ls with
  | nil => intro C n s h _; simpa [intoL] using h
  | cons c ls ih =>
    intro C n s h hC
    have h1 := h.step (c := c) now fun x hx => hC x (by simp at hx ⊢; rcases hx with hx | hx; (· exact .inl hx); (· exact .inr (.inl hx)))
    have h2 := ih h1 (by simpa using hC)
    have e1 : intoL now s (c :: ls) = intoL now (into1 now s c) ls := rfl
    rw [e1, List.length_cons, show n + (ls.length + 1) = n + 1 + ls.length by omega]
    simpa using h2
/-- what was joined once changes nothing -/
theorem again {now : Int} {es : List En} {ks : List Ky} (hs : Asc es) (hz : ∀ x ∈ es, x.c.a.size ≠ 0) : ∀ (ls : List Cd) (fs : List En), fs.map (·.c) = es.map (·.c) → (∀ c ∈ ls, ∃ x ∈ es, x.c = c) → ∃ gs, intoL now ⟨fs, ks, [], 0⟩ ls = ⟨gs, ks, [], 0⟩ ∧ gs.map (·.c) = es.map (·.c) := by
  intro ls
  induction ls with
  | nil => intro fs h _; exact ⟨fs, rfl, h⟩
  | cons c ls ih =>
    intro fs h hc
    obtain ⟨x, hx, rfl⟩ := hc c (by simp)
    have hfs : Asc fs := asc_str.2 (by rw [h]; exact asc_str.1 hs)
    obtain ⟨y, hy, hyx⟩ : ∃ y ∈ fs, y.c = x.c := by
      have : x.c ∈ fs.map (·.c) := by rw [h]; exact List.mem_map.2 ⟨x, hx, rfl⟩
      obtain ⟨y, hy, e⟩ := List.mem_map.1 this
      exact ⟨y, hy, e⟩
    have hin := isIn_of hfs hy
    have hyk : enK y = ck x.c := by unfold enK ck; rw [hyx]
    rw [hyk] at hin
    have hge : (ge fs (ck x.c)).c = x.c := by
      have : ge fs (ck x.c) = y := asc_key9 hfs (ge_mem hin.1) hy (by have := (ge_yes hin.1).2; rw [hyx]; exact congrArg Prod.fst this) (by have := (ge_yes hin.1).2; rw [hyx]; exact congrArg Prod.snd this)
      rw [this, hyx]
    have hl : ltC (ge fs (ck x.c)).c x.c = false := by rw [hge]; exact ltC_no.2 (by omega)
    have e1 : ∀ s, intoL now s (x.c :: ls) = intoL now (into1 now s x.c) ls := fun s => rfl
    rw [e1]
    by_cases hg : (ge fs (ck x.c)).c.g = false
    · rw [into_see (s := ⟨fs, ks, [], 0⟩) (hz x hx) hin.1 hl ⟨by show _ = _ ∧ _ = _ ∧ _ = _; rw [hge]; exact ⟨rfl, rfl, rfl⟩, hg⟩]
      exact ih _ ((see_map hin.1).trans h) (fun c hc' => hc c (by simp [hc']))
    · rw [into_no (s := ⟨fs, ks, [], 0⟩) (hz x hx) hin.1 hl (fun q => hg q.2)]
      exact ih _ h (fun c hc' => hc c (by simp [hc']))
end Go.Proofs.Ytloeabdohgdmkaa
