/- Package shelf: where an entry is. -/
import Derived.Test.YtnmpjagdkbaidaaShfC
namespace Go.Proofs.Ytnmpjagdkbaidaa
open Go.RowKit
set_option linter.unusedVariables false
set_option linter.unusedSimpArgs false

/-- is x ahead of the key k? -/
def elk (k : Ky) (x : En) : Bool := decide (kc x.c.a x.c.i k.1 k.2 < 0)
/-- entries by key, none twice -/
def Asc (es : List En) : Prop := es.Pairwise (fun x y => kc x.c.a x.c.i y.c.a y.c.i < 0)
/-- how many are ahead of k -/
def low (k : Ky) : List En → Nat
  | [] => 0
  | x :: xs => if elk k x then low k xs + 1 else 0
theorem low_le (k : Ky) (es : List En) : low k es ≤ es.length := by
  induction es with
  | nil => simp [low]
  | cons x xs ih => unfold low; split <;> simp <;> omega
theorem low_iff (k : Ky) : ∀ (es : List En), Asc es → ∀ (p : Nat) (x : En), es[p]? = some x → elk k x = decide (p < low k es) := by
  intro es
  induction es with
  | nil => intro _ p x h; simp at h
  | cons y ys ih =>
    intro hs p x h
    obtain ⟨h1, h2⟩ := List.pairwise_cons.1 hs
    unfold low
    cases p with
    | zero =>
      obtain rfl : y = x := by simpa using h
      cases hy : elk k y <;> simp
    | succ p =>
      have hx : ys[p]? = some x := by simpa using h
      cases hy : elk k y
      · simp only [Bool.false_eq_true, if_false, Nat.not_lt_zero, decide_false]
        have h3 := h1 x (List.mem_of_getElem? hx)
        unfold elk at hy ⊢
        have h4 : 0 ≤ kc y.c.a y.c.i k.1 k.2 := by have := of_decide_eq_false hy; omega
        refine decide_eq_false fun h5 => ?_
        have h6 := kc_le (a := y.c.a) (i := y.c.i) (b := x.c.a) (j := x.c.i) (c := k.1) (k := k.2) (by omega) (by omega)
        have h7 := kc_neg k.1 k.2 x.c.a x.c.i
        have h8 := kc_neg k.1 k.2 y.c.a y.c.i
        have h9 := kc_le (a := k.1) (i := k.2) (b := y.c.a) (j := y.c.i) (c := x.c.a) (k := x.c.i) (by omega) (by omega)
        omega
      · rw [ih h2 p x hx]
        simp
/-- is k's entry there? -/
def isIn (k : Ky) (es : List En) : Bool := match es[low k es]? with
  | some x => decide (x.c.a = k.1) && decide (x.c.i = k.2)
  | none => false
theorem cardLessB (a i b j : ByteArray) (w : World) :
    Calls Try.prog 42 #[.agg #[.string a, .string i], .agg #[.string b, .string j]] w fun e w' => e = .returned (.bool (decide (kc a i b j < 0))) ∧ Below w.heap.size w w' :=
  (cardLess a i b j w).mono fun e w' ⟨h1, h2⟩ => ⟨h1, h2.below⟩
def BoxP (w : World) (p sb : Nat) : Prop := w.heap[p]? = some (.cells #[.pointer (some ⟨sb, 0, none⟩)] 43 (0, 0))
def BoxK (w : World) (p : Nat) (k : Ky) : Prop := w.heap[p]? = some (.cells #[.string k.1, .string k.2] 27 (0, 0))
def BoxS (w : World) (sb : Nat) (most : Int) (a : Option Addr) (n c : Nat) : Prop := w.heap[sb]? = some (.cells #[.int .i64 most, .slice a n c] 69 (0, 0))

set_option maxRecDepth 100000 in
set_option maxHeartbeats 1000000 in
theorem shClosure (p1 p2 sb : Nat) (most : Int) (a : Option Addr) (n c j : Nat) (es : List En) (k : Ky) (x : En) (w : World) (h1 : BoxP w p1 sb) (h2 : BoxK w p2 k) (h3 : BoxS w sb most a n c) (h : EAt w a es) (hx : es[j]? = some x) (hl : es.length = n) (hn : n ≤ 1000) :
    Calls Try.prog 41 #[.int .i64 j, .pointer (some ⟨p1, 0, none⟩), .pointer (some ⟨p2, 0, none⟩)] w fun r w' => r = .returned (.bool (!(elk k x))) ∧ Below w.heap.size w w' := by
  have hj : j < n := by rw [← hl]; exact (List.getElem?_eq_some_iff.1 hx).1
  obtain ⟨b, o, rfl⟩ : ∃ b o, a = some ⟨b, o, none⟩ := by
    rcases h with h | ⟨b, o, e, _⟩
    · rw [h] at hx; simp at hx
    · exact ⟨b, o, e⟩
  obtain ⟨x0, x1, -⟩ := EAt.at h hx
  have c1 := blk_cell h1 0
  have c2 := blk_cell h2 0
  have c3 := blk_cell h2 1
  have c4 := blk_cell h3 1
  simp only [List.getElem?_toArray, List.getElem?_cons_zero, List.getElem?_cons_succ] at c1 c2 c3 c4
  have hj0 : (j : Int) < (n : Int) := by omega
  clear h h1 h2 h3 hx hl
  go_enter Try.func41, Try.ntmps41
  go_wp2_with fail
  haveI hIq : Nonempty (Of w) := of_some _
  have hF0 := of_cell c1
  have hF1 := of_cell c2
  have hF2 := of_cell c3
  have hF3 := of_cell c4
  have hF4 := of_cell x0
  have hF5 := of_cell x1
  first | (refine wp_region_stay w (by kernel_rfl) (by kernel_rfl) (by go_grown) ?_) | (refine wp_region_stay_seq w (by go_grown) ?_)
  repeat (go_big_quiet_step ((go_at_call 42; with_reducible refine stay_call (cardLessB x.c.a x.c.i k.1 k.2 _))))
  refine wpQuiet_nil ?_
  intro w5 hb5
  clear hIq hF0 hF1 hF2 hF3 hF4 hF5

  have HB := Lib.hid hb5
  clear hb5
  go_wp2
  go_ret
  exact ⟨rfl, HB.out⟩

set_option maxRecDepth 100000 in
set_option maxHeartbeats 1000000 in
theorem shSearch (p1 p2 sb : Nat) (most : Int) (a : Option Addr) (n c : Nat) (es : List En) (k : Ky) (w : World) (h1 : BoxP w p1 sb) (h2 : BoxK w p2 k) (h3 : BoxS w sb most a n c) (h : EAt w a es) (hs : Asc es) (hl : es.length = n) (hn : n ≤ 1000) :
    Calls Try.prog 40 #[.int .i64 n, .func (.func 41) #[] #[.pointer (some ⟨p1, 0, none⟩), .pointer (some ⟨p2, 0, none⟩)]] w fun r w' => r = .returned (.int .i64 (low k es)) ∧ Below w.heap.size w w' := by
  have H1 := Lib.hid h1
  have H2 := Lib.hid h2
  have H3 := Lib.hid h3
  have HE := Lib.hid h
  have HL := Lib.hid hl
  have HI := Lib.hid (low_iff k es hs)
  have hll := low_le k es
  rw [hl] at hll
  obtain ⟨L, hL⟩ : ∃ L, low k es = L := ⟨_, rfl⟩
  rw [hL] at hll HI ⊢
  clear h1 h2 h3 h hl hs hL
  go_enter Try.func40, Try.ntmps40
  go_wp2_with fail
  go_loopw [5, 6] (fun i j wr => ∃ I J : Nat, I ≤ L ∧ L ≤ J ∧ J ≤ n ∧ i = .int .i64 (I : Int) ∧ j = .int .i64 (J : Int) ∧ Below w.heap.size w wr) (fun i j _ => (intOf j).toNat - (intOf i).toNat)
  case atStart => exact ⟨0, n, by omega, hll, by omega, rfl, rfl, Below.refl _ _⟩
  case round =>
    obtain ⟨w2, rfl⟩ : ∃ y : World, y = wr := ⟨_, rfl⟩
    obtain ⟨I, J, hI, hJ, hJn, rfl, rfl, hb2⟩ := hrel
    have HB2 := Lib.hid hb2
    by_cases hlt : I < J
    · have hlt' : decide ((I : Int) < (J : Int)) = true := by simp; omega
      obtain ⟨M, hM⟩ : ∃ M, (I + J) / 2 = M := ⟨_, rfl⟩
      have hM1 : I ≤ M := by omega
      have hM2 : M < J := by omega
      obtain ⟨x, hx⟩ : ∃ x, es[M]? = some x := ⟨_, List.getElem?_eq_getElem (by have := HL.out; omega)⟩
      have HX := Lib.hid hx
      have HQ := Lib.hid (HI.out M x hx)
      have HM := Lib.hid hM
      clear hx hb2 hM
      go_wp2_with fail
      rw [show ((I : Int) + (J : Int)) / 2 = (M : Int) from by have := HM.out; omega]
      refine (shClosure p1 p2 sb most a n c M es k x _ (blk_ext HB2.out H1.out) (blk_ext HB2.out H2.out) (blk_ext HB2.out H3.out) (HE.out.ext HB2.out) HX.out HL.out hn).mono ?_
      rintro e w3 ⟨rfl, hb3⟩
      rw [HQ.out]
      have HB3 := Lib.hid (ext_trans HB2.out hb3)
      clear hb3
      by_cases hml : M < L
      · rw [decide_eq_true hml]
        go_wp2
        go_roundw
        case rel => exact ⟨M + 1, J, by omega, hJ, hJn, by go_num, rfl, HB3.out⟩
        case measure => simp [intOf]; omega
      · rw [decide_eq_false hml]
        go_wp2
        go_roundw
        case rel => exact ⟨I, M, hI, by omega, by omega, rfl, by go_num, HB3.out⟩
        case measure => simp [intOf]; omega
    · obtain rfl : I = L := by omega
      have hlt' : decide ((I : Int) < (J : Int)) = false := by simp; omega
      clear hb2
      go_wp2
      go_ret
      exact ⟨rfl, HB2.out⟩

set_option maxRecDepth 100000 in
set_option maxHeartbeats 2000000 in
theorem shFind (sb : Nat) (most : Int) (a : Option Addr) (n c : Nat) (es : List En) (k : Ky) (w : World) (h3 : BoxS w sb most a n c) (h : EAt w a es) (hs : Asc es) (hl : es.length = n) (hn : n ≤ 1000) :
    Calls Try.prog 29 #[.pointer (some ⟨sb, 0, none⟩), .agg #[.string k.1, .string k.2]] w fun r w' => r = .returned (.tuple #[.int .i64 (low k es), .bool (isIn k es)]) ∧ Below w.heap.size w w' := by
  have E0 : Below w.heap.size w ((w.alloc (.cells #[.pointer (some ⟨sb, 0, none⟩)] 43)).alloc (.cells #[.string k.1, .string k.2] 27)) := ((Below.refl _ _).alloc (Nat.le_refl _) _).alloc (by simp) _
  have H1 := Lib.hid (show BoxP ((w.alloc (.cells #[.pointer (some ⟨sb, 0, none⟩)] 43)).alloc (.cells #[.string k.1, .string k.2] 27)) w.heap.size sb from blk_alloc (blk_new _ _ _) _)
  have H2 := Lib.hid (show BoxK ((w.alloc (.cells #[.pointer (some ⟨sb, 0, none⟩)] 43)).alloc (.cells #[.string k.1, .string k.2] 27)) (w.heap.size + 1) k from blk_new_at (by simp) _ _)
  have H3 := Lib.hid (show BoxS ((w.alloc (.cells #[.pointer (some ⟨sb, 0, none⟩)] 43)).alloc (.cells #[.string k.1, .string k.2] 27)) sb most a n c from blk_ext E0 h3)
  have HE := Lib.hid (SAt.ext h E0)
  have HB0 := Lib.hid E0
  have HL := Lib.hid hl
  have HS := Lib.hid hs
  have hll := low_le k es
  rw [hl] at hll
  obtain ⟨P, hP⟩ : ∃ P, low k es = P := ⟨_, rfl⟩
  obtain ⟨R, hR⟩ : ∃ R, isIn k es = R := ⟨_, rfl⟩
  have HP := Lib.hid hP
  have HI := Lib.hid (show R = match es[P]? with
    | some x => decide (x.c.a = k.1) && decide (x.c.i = k.2)
    | none => false from by rw [← hR, ← hP]; rfl)
  rw [hP] at hll
  rw [hP, hR]
  clear h3 h hs hl E0 hP hR
  go_enter Try.func29, Try.ntmps29
  go_upto_region 1 with (fail)
  obtain ⟨p1, hp1⟩ : ∃ p1, w.heap.size = p1 := ⟨_, rfl⟩
  rw [hp1] at H1 H2 ⊢
  generalize ((w.alloc (.cells #[.pointer (some ⟨sb, 0, none⟩)] 43)).alloc (.cells #[.string k.1, .string k.2] 27)) = w0 at *
  have c1 := blk_cell H1.out 0
  have c4 := blk_cell H3.out 1
  simp only [List.getElem?_toArray, List.getElem?_cons_zero, List.getElem?_cons_succ] at c1 c4
  have l1 := blk_lt H1.out
  go_wp2_with fail
  refine (shSearch p1 (p1 + 1) sb most a n c es k _ H1.out H2.out H3.out HE.out HS.out HL.out hn).mono ?_
  rintro e w1 ⟨rfl, hb1⟩
  clear c1 c4 l1
  have HB1 := Lib.hid (show Below w.heap.size w w1 from ext_trans HB0.out hb1)
  have c1 := blk_cell (blk_ext hb1 H1.out) 0
  have c2 := blk_cell (blk_ext hb1 H2.out) 0
  have c3 := blk_cell (blk_ext hb1 H2.out) 1
  have c4 := blk_cell (blk_ext hb1 H3.out) 1
  simp only [List.getElem?_toArray, List.getElem?_cons_zero, List.getElem?_cons_succ] at c1 c2 c3 c4
  have HE1 := Lib.hid (SAt.ext HE.out hb1)
  have hin := HI.out
  rw [HP.out]
  clear HI HP hb1 H1 H2 H3 HE HB0 HS
  by_cases hp : P < n
  · obtain ⟨x, hx⟩ : ∃ x, es[P]? = some x := ⟨_, List.getElem?_eq_getElem (by have := HL.out; omega)⟩
    rw [hx] at hin
    obtain ⟨b, o, rfl⟩ : ∃ b o, a = some ⟨b, o, none⟩ := by
      rcases HE1.out with h | ⟨b, o, e, _⟩
      · rw [h] at hx; simp at hx
      · exact ⟨b, o, e⟩
    obtain ⟨x0, x1, -⟩ := EAt.at HE1.out hx
    have hd1 : decide ((P : Int) < (n : Int)) = true := by simp; omega
    have hd2 : (P : Int) < (n : Int) := by omega
    clear hx
    obtain ⟨k1, k2⟩ := k
    simp only at *
    by_cases e1 : x.c.a = k1
    · by_cases e2 : x.c.i = k2
      · obtain rfl : R = true := by rw [hin, e1, e2]; simp
        rw [e1] at x0
        rw [e2] at x1
        clear hin e1 e2
        skip
        go_wp2_with fail
        haveI hIq : Nonempty (Of w1) := of_some _
        have hF0 := of_cell c1
        have hF1 := of_cell c2
        have hF2 := of_cell c3
        have hF3 := of_cell c4
        have hF4 := of_cell x0
        have hF5 := of_cell x1
        first | (refine wp_region_stay w1 (by kernel_rfl) (by kernel_rfl) (by go_grown) ?_) | (refine wp_region_stay_seq w1 (by go_grown) ?_)
        repeat (go_big_quiet_step (fail))
        refine wpQuiet_nil ?_
        intro w5 hb5
        clear hIq hF0 hF1 hF2 hF3 hF4 hF5
        have HB := Lib.hid (ext_trans HB1.out hb5)
        clear hb5
        go_wp2
        exact bodyPost_ret (v := .tuple #[.int .i64 P, .bool true]) (by simp [results, Try.results29, go_sem]) rfl ⟨rfl, HB.out⟩
      · obtain rfl : R = false := by rw [hin]; simp [e2]
        rw [e1] at x0
        have h4 : ¬ x.c.i.toList = k2.toList := fun e => e2 (str_inj e)
        clear hin e1 e2
        skip
        go_wp2_with fail
        haveI hIq : Nonempty (Of w1) := of_some _
        have hF0 := of_cell c1
        have hF1 := of_cell c2
        have hF2 := of_cell c3
        have hF3 := of_cell c4
        have hF4 := of_cell x0
        have hF5 := of_cell x1
        first | (refine wp_region_stay w1 (by kernel_rfl) (by kernel_rfl) (by go_grown) ?_) | (refine wp_region_stay_seq w1 (by go_grown) ?_)
        repeat (go_big_quiet_step (fail))
        refine wpQuiet_nil ?_
        intro w5 hb5
        clear hIq hF0 hF1 hF2 hF3 hF4 hF5
        have HB := Lib.hid (ext_trans HB1.out hb5)
        clear hb5
        go_wp2
        exact bodyPost_ret (v := .tuple #[.int .i64 P, .bool false]) (by simp [results, Try.results29, go_sem]) rfl ⟨rfl, HB.out⟩
    · obtain rfl : R = false := by rw [hin]; simp [e1]
      have h4 : ¬ x.c.a.toList = k1.toList := fun e => e1 (str_inj e)
      clear hin e1
      skip
      go_wp2_with fail
      haveI hIq : Nonempty (Of w1) := of_some _
      have hF0 := of_cell c1
      have hF1 := of_cell c2
      have hF2 := of_cell c3
      have hF3 := of_cell c4
      have hF4 := of_cell x0
      have hF5 := of_cell x1
      first | (refine wp_region_stay w1 (by kernel_rfl) (by kernel_rfl) (by go_grown) ?_) | (refine wp_region_stay_seq w1 (by go_grown) ?_)
      repeat (go_big_quiet_step (fail))
      refine wpQuiet_nil ?_
      intro w5 hb5
      clear hIq hF0 hF1 hF2 hF3 hF4 hF5
      have HB := Lib.hid (ext_trans HB1.out hb5)
      clear hb5
      go_wp2
      exact bodyPost_ret (v := .tuple #[.int .i64 P, .bool false]) (by simp [results, Try.results29, go_sem]) rfl ⟨rfl, HB.out⟩
  · obtain rfl : R = false := by rw [hin, List.getElem?_eq_none (by have := HL.out; omega)]
    have hd1 : decide ((P : Int) < (n : Int)) = false := by simp; omega
    clear hin
    skip
    go_wp2_with fail
    haveI hIq : Nonempty (Of w1) := of_some _
    have hF0 := of_cell c1
    have hF1 := of_cell c2
    have hF2 := of_cell c3
    have hF3 := of_cell c4
    first | (refine wp_region_stay w1 (by kernel_rfl) (by kernel_rfl) (by go_grown) ?_) | (refine wp_region_stay_seq w1 (by go_grown) ?_)
    repeat (go_big_quiet_step (fail))
    refine wpQuiet_nil ?_
    intro w5 hb5
    clear hIq hF0 hF1 hF2 hF3
    have HB := Lib.hid (ext_trans HB1.out hb5)
    clear hb5
    go_wp2
    exact bodyPost_ret (v := .tuple #[.int .i64 P, .bool false]) (by simp [results, Try.results29, go_sem]) rfl ⟨rfl, HB.out⟩

end Go.Proofs.Ytnmpjagdkbaidaa
