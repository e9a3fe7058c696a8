/- 'known' of layer 10; lists. -/
import Derived.Test.YtnmpjagdkbaidaaShfA
namespace Go.Proofs.Ytnmpjagdkbaidaa
open Go.RowKit
set_option linter.unusedVariables false
set_option linter.unusedSimpArgs false

abbrev Str (ls : List Cd) : Prop := ls.Pairwise (fun x y => klt x y = true)
theorem klt_trans {x y z : Cd} (h1 : klt x y = true) (h2 : klt y z = true) : klt x z = true := by
  have e1 := klt_of h1
  have e2 := klt_of h2
  have n1 := kcmp_neg x z
  rcases Int.lt_or_le (kcmp x z) 0 with h | h
  · exact klt_yes h
  · exfalso
    have h3 := kcmp_le (x := z) (y := x) (z := y) (by omega) (by omega)
    have n2 := kcmp_neg y z
    omega

theorem kcmp_key {x y z : Cd} (ha : x.a = y.a) (hi : x.i = y.i) : kcmp z x = kcmp z y ∧ kcmp x z = kcmp y z := by unfold kcmp; rw [ha, hi]; exact ⟨rfl, rfl⟩

theorem kq_iff {x y : Cd} (h : kq x y = true) : x.a = y.a ∧ x.i = y.i := by simpa [kq] using h

theorem kq_ne {x y : Cd} (h : kq x y = false) : kcmp x y ≠ 0 := by
  intro e
  obtain ⟨h1, h2⟩ := kc_zero e
  rw [kq_yes h1 h2] at h
  cases h

theorem on_str (T : List Cd) : ∀ out : List Cd, Str out → Ord klt (out ++ T) → Str (T.foldl onS out) := by
  induction T with
  | nil => intro out h _; exact h
  | cons x xs ih =>
    intro out h ho
    rcases List.eq_nil_or_concat out with rfl | ⟨o, y, rfl⟩
    · exact ih [x] (List.pairwise_singleton _ _) (by simpa using ho)
    · rw [List.concat_eq_append] at h ho
      obtain ⟨h1, h2, h3⟩ := List.pairwise_append.1 h
      show Str (xs.foldl onS (onS (o.concat y) x))
      rw [List.concat_eq_append]
      cases hk : kq y x
      · rw [onS_other _ _ _ hk]
        refine ih _ ?_ (by simpa using ho)
        have hyx : klt y x = true := by
          have h4 : klt x y = false := (List.pairwise_append.1 ho).2.2 y (by simp) x (by simp)
          have h5 := klt_nof h4
          have h6 := kq_ne hk
          have h7 := kcmp_neg y x
          exact klt_yes (by omega)
        refine List.pairwise_append.2 ⟨h, List.pairwise_singleton _ _, fun z hz w hw => ?_⟩
        simp at hw
        subst hw
        rcases List.mem_append.1 hz with hz | hz
        · exact klt_trans (h3 z hz y (by simp)) hyx
        · simp at hz; subst hz; exact hyx
      · rw [onS_same _ _ _ hk]
        obtain ⟨e1, e2⟩ := kq_iff hk
        refine ih _ ?_ ?_
        · refine List.pairwise_append.2 ⟨h1, List.pairwise_singleton _ _, fun z hz w hw => ?_⟩
          simp at hw
          subst hw
          have := h3 z hz y (by simp)
          unfold klt at this ⊢
          rw [← (kcmp_key (z := z) e1 e2).1]
          exact this
        · refine List.Pairwise.sublist ?_ ho
          rw [List.append_assoc, List.append_assoc]
          exact List.Sublist.append (List.Sublist.refl o) (List.sublist_append_right [y] _)

theorem onc_str (cs : List Cd) : Str (onc cs) := on_str _ [] List.Pairwise.nil (by simpa using srt_is klt klt_weak cs)

theorem on_mem (T : List Cd) : ∀ out : List Cd, ∀ y ∈ T.foldl onS out, y ∈ out ∨ y ∈ T := by
  induction T with
  | nil => intro out y h; exact .inl h
  | cons x xs ih =>
    intro out y h
    rcases ih (onS out x) y h with h1 | h1
    · have : y ∈ out ∨ y = x := by
        rcases List.eq_nil_or_concat out with rfl | ⟨o, z, rfl⟩
        · simp [onS_nil] at h1; exact .inr h1
        · rw [List.concat_eq_append] at h1 ⊢
          cases hk : kq z x
          · rw [onS_other _ _ _ hk] at h1
            rcases List.mem_append.1 h1 with h2 | h2
            · exact .inl h2
            · exact .inr (by simpa using h2)
          · rw [onS_same _ _ _ hk] at h1
            rcases List.mem_append.1 h1 with h2 | h2
            · exact .inl (List.mem_append.2 (.inl h2))
            · exact .inr (by simpa using h2)
      rcases this with h2 | h2
      · exact .inl h2
      · exact .inr (by simp [h2])
    · exact .inr (by simp [h1])

theorem onc_mem {cs : List Cd} {y : Cd} (h : y ∈ onc cs) : y ∈ cs := by
  rcases on_mem _ [] y h with h1 | h1
  · cases h1
  · exact (srt_mem klt y cs).1 h1


theorem ShP.rim {w w' : World} {s s' : Nat} {most : Int} {es : List En} (h : ShP w s most es) (hr : Rim s' w w') (hne : s ≠ s') {cur : Array Value} (hs : w.heap[s']? = some (.cells cur 69 (0, 0))) : ShP w' s most es := by
  obtain ⟨a, c, h1, h2, h3⟩ := h
  refine ⟨a, c, (hr.block s hne (blk_lt h1)).trans h1, h2.keep fun b cur' hc _ => hr.block b (fun e => ?_) (blk_lt hc), h3⟩
  subst e
  rw [hs] at hc
  simp at hc
theorem ShP.cur {w : World} {s : Nat} {most : Int} {es : List En} (h : ShP w s most es) : ∃ cur, w.heap[s]? = some (.cells cur 69 (0, 0)) := by
  obtain ⟨a, c, h1, -⟩ := h
  exact ⟨_, h1⟩
def en0 (c : Cd) : En := ⟨c, 0⟩
def en9 (c : Cd) : En := ⟨c, 9⟩
theorem low_all (k : Ky) (es : List En) (h : ∀ e ∈ es, elk k e = true) : low k es = es.length := by
  induction es with
  | nil => rfl
  | cons x xs ih =>
    unfold low
    rw [h x (by simp), if_pos rfl, ih (fun e he => h e (List.mem_cons_of_mem _ he))]
    rfl
theorem low_no (k : Ky) (es : List En) (h : ∀ e ∈ es, elk k e = false) : low k es = 0 := by
  cases es with
  | nil => rfl
  | cons x xs =>
    unfold low
    rw [h x (by simp)]
    rfl
theorem str_asc {l : List Cd} (h : Str l) : Asc (l.map en0) := List.pairwise_map.2 (List.Pairwise.imp (fun h => klt_of h) h)
/-- the next one behind all -/
theorem back_no {l : List Cd} (h : Str l) {J : Nat} {x : Cd} (hx : l[J]? = some x) : isIn (enK (en0 x)) ((l.take J).map en0) = false ∧ insAt ((l.take J).map en0) (low (enK (en0 x)) ((l.take J).map en0)) (en0 x) = (l.take (J + 1)).map en0 := by
  have h1 : ∀ e ∈ (l.take J).map en0, elk (enK (en0 x)) e = true := by
    intro e he
    obtain ⟨c, hc, rfl⟩ := List.mem_map.1 he
    have h2 : Str (l.take (J + 1)) := List.Pairwise.sublist (List.take_sublist _ _) h
    rw [List.take_add_one, hx] at h2
    have h3 := (List.pairwise_append.1 h2).2.2 c hc x (by simp)
    exact h3
  have h2 := low_all _ _ h1
  constructor
  · unfold isIn
    rw [h2, List.getElem?_eq_none (Nat.le_refl _)]
  · rw [h2, insAt_end, List.take_add_one, hx, List.map_append]
    rfl
theorem kc_self (a i : ByteArray) : kc a i a i = 0 := by
  have := kc_neg a i a i
  omega
/-- the next one ahead of all -/
theorem front_no {y : Cd} {t : List Cd} (h : Str (y :: t)) : isIn (enK (en9 y)) (t.map en0) = false ∧ insAt (t.map en0) (low (enK (en9 y)) (t.map en0)) (en9 y) = en9 y :: t.map en0 := by
  obtain ⟨h1, h2⟩ := List.pairwise_cons.1 h
  have h3 : ∀ e ∈ t.map en0, elk (enK (en9 y)) e = false := by
    intro e he
    obtain ⟨c, hc, rfl⟩ := List.mem_map.1 he
    have h4 := klt_of (h1 c hc)
    have h5 := kcmp_neg y c
    refine decide_eq_false (fun h6 => ?_)
    have h7 : kcmp c y < 0 := h6
    omega
  have h4 := low_no _ _ h3
  constructor
  · unfold isIn
    rw [h4]
    cases t with
    | nil => rfl
    | cons c cs =>
      have h5 := klt_of (h1 c (by simp))
      have h6 : ¬ (c.a = y.a ∧ c.i = y.i) := by
        rintro ⟨e1, e2⟩
        unfold kcmp at h5
        rw [e1, e2, kc_self] at h5
        omega
      show (decide (c.a = y.a) && decide (c.i = y.i)) = false
      by_cases e1 : c.a = y.a
      · have e2 : ¬ c.i = y.i := fun e2 => h6 ⟨e1, e2⟩
        simp [e2]
      · simp [e1]
  · rw [h4]
    rfl
theorem front_yes {y : Cd} {t : List Cd} : isIn (enK (en0 y)) (en9 y :: t.map en0) = true ∧ (en9 y :: t.map en0).set (low (enK (en0 y)) (en9 y :: t.map en0)) (en0 y) = (y :: t).map en0 := by
  have h1 : elk (enK (en0 y)) (en9 y) = false := decide_eq_false (by show ¬ kc y.a y.i y.a y.i < 0; rw [kc_self]; omega)
  have h4 : low (enK (en0 y)) (en9 y :: t.map en0) = 0 := by
    unfold low
    rw [h1]
    rfl
  constructor
  · unfold isIn
    rw [h4]
    show (decide (y.a = y.a) && decide (y.i = y.i)) = true
    simp
  · rw [h4]
    rfl
theorem front_asc {y : Cd} {t : List Cd} (h : Str (y :: t)) : Asc (en9 y :: t.map en0) := by
  obtain ⟨h1, h2⟩ := List.pairwise_cons.1 h
  refine List.pairwise_cons.2 ⟨fun e he => ?_, str_asc h2⟩
  obtain ⟨c, hc, rfl⟩ := List.mem_map.1 he
  exact klt_of (h1 c hc)

def eA : En := ⟨⟨⟨#[97]⟩, ⟨#[]⟩, 0, 0, 0, 0, 0, 0, true⟩, 0⟩
def eB : En := ⟨⟨⟨#[98]⟩, ⟨#[]⟩, 0, 0, 0, 0, 0, 0, false⟩, 0⟩
def eC : En := ⟨⟨⟨#[99]⟩, ⟨#[]⟩, 0, 0, 0, 0, 0, 0, false⟩, 0⟩
def eD : En := ⟨⟨⟨#[98]⟩, ⟨#[]⟩, 0, 0, 0, 0, 0, 0, false⟩, 4⟩
theorem asc0 : Asc [] := List.Pairwise.nil
theorem asc1 (e : En) : Asc [e] := List.pairwise_singleton _ _
theorem ascAB : Asc [eA, eB] := List.pairwise_cons.2 ⟨fun e he => by simp at he; subst he; show kc ⟨#[97]⟩ ⟨#[]⟩ ⟨#[98]⟩ ⟨#[]⟩ < 0; rw [show kc ⟨#[97]⟩ ⟨#[]⟩ ⟨#[98]⟩ ⟨#[]⟩ = -1 from rfl]; omega, asc1 _⟩
theorem ascAD : Asc [eA, eD] := List.pairwise_cons.2 ⟨fun e he => by simp at he; subst he; show kc ⟨#[97]⟩ ⟨#[]⟩ ⟨#[98]⟩ ⟨#[]⟩ < 0; rw [show kc ⟨#[97]⟩ ⟨#[]⟩ ⟨#[98]⟩ ⟨#[]⟩ = -1 from rfl]; omega, asc1 _⟩
theorem k0 : isIn (enK En.zero) [] = false := rfl
theorem k1 : isIn (enK eB) [] = false ∧ insAt [] (low (enK eB) []) eB = [eB] := ⟨rfl, rfl⟩
theorem k2 : isIn (enK eA) [eB] = false ∧ insAt [eB] (low (enK eA) [eB]) eA = [eA, eB] := ⟨rfl, rfl⟩
theorem k3 : isIn (enK eC) [eA, eB] = false := rfl
theorem k4 : isIn (enK eD) [eA, eB] = true ∧ [eA, eB].set (low (enK eD) [eA, eB]) eD = [eA, eD] := ⟨rfl, rfl⟩
theorem k5 : isIn (⟨#[]⟩, ⟨#[]⟩) [eA, eD] = false := rfl
theorem k6 : livN [eA, eD] = 1 := rfl

set_option maxRecDepth 100000 in
set_option maxHeartbeats 4000000 in
theorem law10known (w : World) :
    Calls Try.prog 9 #[] w fun r w' => r = .returned (.bool true) ∧ Below w.heap.size w w' := by
  go_enter Try.func9, Try.ntmps9
  go_wp2_with fail
  refine (shNew 2 _ (by omega)).mono ?_
  rintro r w1 ⟨rfl, hs1, hb1⟩
  obtain ⟨sa, hsa⟩ : ∃ sa, w.heap.size = sa := ⟨_, rfl⟩
  rw [hsa] at hs1 ⊢
  have HSA := Lib.hid hsa
  have H1 := Lib.hid hs1
  have HB1 := Lib.hid hb1
  clear hs1 hb1 hsa
  go_wp2_with fail
  refine (shNew 0 _ (by omega)).mono ?_
  rintro r w2 ⟨rfl, hs2, hb2⟩
  have HNE := Lib.hid (show sa ≠ w1.heap.size by have := H1.out.lt; omega)
  obtain ⟨sz, hsz⟩ : ∃ sz, w1.heap.size = sz := ⟨_, rfl⟩
  rw [hsz] at hs2 HNE ⊢
  have HZ := Lib.hid hs2
  have H2 := Lib.hid (H1.out.ext hb2)
  have HB2 := Lib.hid (ext_trans HB1.out hb2)
  clear hs2 hb2 hsz H1 HB1
  go_wp2_with fail
  refine (shPutNo sz 0 [] En.zero _ HZ.out asc0 (by decide) k0 (by decide)).mono ?_
  rintro r w3 ⟨rfl, hb3⟩
  have H3 := Lib.hid (H2.out.ext hb3)
  have HB3 := Lib.hid (ext_trans HB2.out hb3)
  clear hb3 H2 HB2 HZ
  go_wp2_with fail
  refine (shPutNew sa 2 [] eB _ H3.out asc0 (by decide) k1.1 (by decide)).mono ?_
  rintro r w4 ⟨rfl, hs4, hr4⟩
  rw [k1.2] at hs4
  have H4 := Lib.hid hs4
  have HB4 := Lib.hid (HB3.out.trans (hr4.below (by have := HSA.out; omega) HB3.out.size))
  clear hs4 hr4 H3 HB3
  go_wp2_with fail
  refine (shPutNew sa 2 [eB] eA _ H4.out (asc1 _) (by decide) k2.1 (by decide)).mono ?_
  rintro r w5 ⟨rfl, hs5, hr5⟩
  rw [k2.2] at hs5
  have H5 := Lib.hid hs5
  have HB5 := Lib.hid (HB4.out.trans (hr5.below (by have := HSA.out; omega) HB4.out.size))
  clear hs5 hr5 H4 HB4
  go_wp2_with fail
  refine (shPutNo sa 2 [eA, eB] eC _ H5.out ascAB (by decide) k3 (by decide)).mono ?_
  rintro r w6 ⟨rfl, hb6⟩
  have H6 := Lib.hid (H5.out.ext hb6)
  have HB6 := Lib.hid (ext_trans HB5.out hb6)
  clear hb6 H5 HB5
  go_wp2_with fail
  refine (shPutIn sa 2 [eA, eB] eD _ H6.out ascAB (by decide) k4.1).mono ?_
  rintro r w7 ⟨rfl, hs7, hr7⟩
  rw [k4.2] at hs7
  have H7 := Lib.hid hs7
  have HB7 := Lib.hid (HB6.out.trans (hr7.below (by have := HSA.out; omega) HB6.out.size))
  clear hs7 hr7 H6 HB6
  go_wp2_with fail
  refine (shAll sa 2 [eA, eD] _ H7.out (by decide)).mono ?_
  rintro r w8 ⟨v8, rfl, ho8, hb8⟩
  obtain ⟨b8, c8, rfl, hc8, -, hat8, -, -⟩ := OwnR.read ec_len ho8
  obtain ⟨b, o, rfl⟩ : ∃ b o, b8 = some ⟨b, o, none⟩ := by
    rcases hat8 with h | ⟨b, o, e, _⟩
    · cases h
    · exact ⟨b, o, e⟩
  have hla : ([eA, eD].length : Int) = 2 := rfl
  have hlb : [eA, eD].length = 2 := rfl
  rw [hlb] at hc8 ⊢
  obtain ⟨x0, -⟩ := EAt.at (i := 0) hat8 rfl
  obtain ⟨-, -, -, -, -, -, -, -, -, x9⟩ := EAt.at (i := 1) hat8 rfl
  simp only [eA, eD, Nat.zero_mul, Nat.add_zero, Nat.one_mul] at x0 x9
  have H8 := Lib.hid (H7.out.ext hb8)
  have HB8 := Lib.hid (ext_trans HB7.out hb8)
  clear ho8 hb8 hat8 H7 HB7
  go_wp2_with fail
  refine (shLive sa 2 [eA, eD] _ H8.out (by decide)).mono ?_
  rintro r w9 ⟨rfl, hb9⟩
  rw [k6]
  have H9 := Lib.hid (H8.out.ext hb9)
  have HB9 := Lib.hid (ext_trans HB8.out hb9)
  clear hb9 H8 HB8 x0 x9
  go_wp2_with fail
  refine (shLen sa 2 [eA, eD] _ H9.out (by decide)).mono ?_
  rintro r w10 ⟨rfl, hb10⟩
  rw [hla]
  have H10 := Lib.hid (H9.out.ext hb10)
  have HB10 := Lib.hid (ext_trans HB9.out hb10)
  clear hb10 H9 HB9
  go_wp2_with fail
  refine (shDropNo sa 2 [eA, eD] (⟨#[]⟩, ⟨#[]⟩) _ H10.out ascAD (by decide) k5).mono ?_
  rintro r w11 ⟨rfl, hb11⟩
  have HB11 := Lib.hid (ext_trans HB10.out hb11)
  clear hb11 H10 HB10
  go_wp2
  go_ret
  exact ⟨rfl, HB11.out⟩

end Go.Proofs.Ytnmpjagdkbaidaa
