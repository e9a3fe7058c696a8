/- Package gossip: what is told by merging is what is told by looking up; no word of the program. -/
import Derived.Test.YtmgdhgaodjkifaaGosL
namespace Go.Proofs.Ytmgdhgaodjkifaa
open Go.RowKit
set_option linter.unusedVariables false
set_option linter.unusedSimpArgs false

theorem look_none {l : List Cd} {k : Ky} (h : ∀ x ∈ l, kyc x ≠ k) : look l k = none := by
  unfold look
  cases hv : lastU l k with
  | none => rfl
  | some v =>
    obtain ⟨I, x, -, hx, hk⟩ := lastU_spec l k v hv
    exact absurd hk (h x (List.mem_of_getElem? hx))
theorem look_skip {y : Cd} {t : List Cd} {k : Ky} (h : Str (y :: t)) (hk : kyc y ≠ k) : look (y :: t) k = look t k := by
  by_cases hz : ∃ z ∈ t, kyc z = k
  · obtain ⟨z, hz, rfl⟩ := hz
    rw [look_mem h (List.mem_cons_of_mem _ hz), look_mem (List.pairwise_cons.1 h).2 hz]
  · have h0 : ∀ z ∈ t, kyc z ≠ k := fun z hz' e => hz ⟨z, hz', e⟩
    rw [look_none h0, look_none (l := y :: t)]
    intro x hx
    rcases List.mem_cons.1 hx with rfl | hx
    · exact hk
    · exact h0 x hx
theorem klt_key {x y : Cd} (h : klt x y = true) : kyc x ≠ kyc y := by
  intro e
  have e1 : x.a = y.a := congrArg Prod.fst e
  have e2 : x.i = y.i := congrArg Prod.snd e
  have := klt_kq h
  rw [kq_yes e1 e2] at this
  cases this
theorem key_eq {x y : Cd} (h1 : klt x y = false) (h2 : klt y x = false) : kyc x = kyc y := by
  have e : kq x y = true := by
    cases hq : kq x y with
    | true => rfl
    | false =>
      have h3 := kq_ne hq
      have h4 : kcmp y x = - kcmp x y := kc_neg x.a x.i y.a y.i
      simp only [klt, decide_eq_false_iff_not] at h1 h2
      omega
  obtain ⟨e1, e2⟩ := kq_iff e
  exact Prod.ext e1 e2
/-- is c to be told, where t is what the others have? -/
noncomputable def tell (t : List Cd) (c : Cd) : Bool := match look t (kyc c) with
  | none => true
  | some x => stl x c
theorem tell_skip {y : Cd} {t : List Cd} (h : Str (y :: t)) {l : List Cd} (hl : ∀ c ∈ l, kyc y ≠ kyc c) : l.filter (tell (y :: t)) = l.filter (tell t) := by
  refine List.filter_congr fun c hc => ?_
  unfold tell
  rw [look_skip h (hl c hc)]
theorem gc_fil : ∀ (f : Nat) (h t : List Cd), Str h → Str t → h.length + t.length ≤ f → gc f h t = h.filter (tell t) := by
  intro f
  induction f with
  | zero =>
    intro h t _ _ hf
    have : h = [] := List.eq_nil_of_length_eq_zero (by omega)
    subst this
    rfl
  | succ f ih =>
    intro h t sh st hf
    cases h with
    | nil =>
      cases t with
      | nil => rfl
      | cons y t =>
        show gc f [] t = _
        rw [ih [] t sh (List.pairwise_cons.1 st).2 (by simp at hf ⊢; omega)]
        rfl
    | cons x h =>
      cases t with
      | nil =>
        show x :: gc f h [] = _
        rw [ih h [] (List.pairwise_cons.1 sh).2 st (by simp at hf ⊢; omega)]
        have e : tell [] x = true := by unfold tell; rw [look_none (by intro x hx; cases hx)]
        rw [List.filter_cons, e]
        rfl
      | cons y t =>
        obtain ⟨sx, sh'⟩ := List.pairwise_cons.1 sh
        obtain ⟨sy, st'⟩ := List.pairwise_cons.1 st
        simp only [List.length_cons] at hf
        cases hL : klt x y with
        | true =>
          have e : tell (y :: t) x = true := by
            unfold tell
            rw [look_none]
            intro z hz
            rcases List.mem_cons.1 hz with rfl | hz
            · exact fun e => klt_key hL e.symm
            · exact fun e => klt_key (klt_trans hL (sy z hz)) e.symm
          simp only [gc, hL, if_true]
          rw [ih h (y :: t) sh' st (by simp; omega), List.filter_cons, e]
          rfl
        | false =>
          cases hM : klt y x with
          | true =>
            simp only [gc, hL, hM, if_true, Bool.false_eq_true, if_false]
            rw [ih (x :: h) t sh st' (by simp; omega), tell_skip st]
            intro c hc
            rcases List.mem_cons.1 hc with rfl | hc
            · exact klt_key hM
            · exact klt_key (klt_trans hM (sx c hc))
          | false =>
            have hk := key_eq hL hM
            have e : tell (y :: t) x = stl y x := by
              unfold tell
              rw [hk, look_mem st (by simp)]
            simp only [gc, hL, hM, Bool.false_eq_true, if_false]
            rw [ih h t sh' st' (by omega), List.filter_cons, e, tell_skip st (fun c hc => by rw [← hk]; exact klt_key (sx c hc))]
            cases stl y x <;> rfl
theorem gk_fil (f : Nat) (h t : List Cd) (sh : Str h) (st : Str t) (hf : h.length + t.length ≤ f) : gk f h t = (t.filter (tell h)).map kyc := by
  rw [gk_gc, gc_fil f t h st sh (by omega)]

end Go.Proofs.Ytmgdhgaodjkifaa
