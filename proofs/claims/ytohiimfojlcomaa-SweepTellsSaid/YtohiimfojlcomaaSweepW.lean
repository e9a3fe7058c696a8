/- Package sweep: what is late, keys and tardies in order. -/
import Derived.Test.YtohiimfojlcomaaOnce
import Derived.Test.YtohiimfojlcomaaRowAt
import Derived.BigRegion
import Derived.RegionTactic
namespace Go.Proofs.Ytohiimfojlcomaa
open Go.RowKit
set_option linter.unusedVariables false
set_option linter.unusedSimpArgs false

def hd (n : Int) : Int := if n < 0 then 0 else if 4611686018427387904 < n then 4611686018427387904 else n
theorem hd_lo (n : Int) : 0 ≤ hd n := by unfold hd; split <;> (try split) <;> omega
theorem hd_hi (n : Int) : hd n ≤ 4611686018427387904 := by unfold hd; split <;> (try split) <;> omega
theorem hd_is {n : Int} (h0 : 0 ≤ n) (h1 : n ≤ 4611686018427387904) : hd n = n := by unfold hd; rw [if_neg (by omega), if_neg (by omega)]
def late (e : En) (now : Int) : Int := if e.c.g then 0 else if hd now - hd e.seen - hd e.c.l < 0 then 0 else hd now - hd e.seen - hd e.c.l
theorem late_lo (e : En) (now : Int) : 0 ≤ late e now := by unfold late; split; (· omega); (· split <;> omega)
theorem late_hi (e : En) (now : Int) : late e now ≤ 4611686018427387904 := by
  have h1 := hd_lo e.seen
  have h2 := hd_lo e.c.l
  have h3 := hd_hi now
  unfold late; split; (· omega); (· split <;> omega)

set_option maxHeartbeats 400000 in
theorem leaseHeld (n : Int) (w : World) :
    Calls Try.prog 34 #[.int .i64 n] w fun r w' => r = .returned (.int .i64 (hd n)) ∧ w = w' := by
  go_enter Try.func34, Try.ntmps34
  go_wp2
  all_goals (go_ret; refine ⟨?_, rfl⟩; simp [hd]; (repeat' split) <;> omega)

set_option maxHeartbeats 400000 in
theorem sweepHeld (n : Int) (w : World) :
    Calls Try.prog 26 #[.int .i64 n] w fun r w' => r = .returned (.int .i64 (hd n)) ∧ w = w' := by
  go_enter Try.func26, Try.ntmps26
  go_wp2
  all_goals (go_ret; refine ⟨?_, rfl⟩; simp [hd]; (repeat' split) <;> omega)

set_option maxHeartbeats 400000 in
theorem refHold (n : Int) (w : World) :
    Calls Try.prog 33 #[.int .i64 n] w fun r w' => r = .returned (.int .i64 (hd n)) ∧ w = w' := by
  go_enter Try.func33, Try.ntmps33
  go_wp2
  all_goals (go_ret; refine ⟨?_, rfl⟩; simp [hd]; (repeat' split) <;> omega)

set_option maxHeartbeats 400000 in
theorem leaseLate0_gone (e : En) (now : Int) (w : World) (h : e.c.g = true) :
    Calls Try.prog 23 #[e.v, .int .i64 now] w fun r w' => r = .returned (.int .i64 0) ∧ Below w.heap.size w w' := by
  go_enter Try.func23, Try.ntmps23
  go_wp2
  all_goals (go_returns; exact ⟨by simp [*]; try omega, by go_grown⟩)

set_option maxHeartbeats 400000 in
theorem refLate0_gone (e : En) (now : Int) (w : World) (h : e.c.g = true) :
    Calls Try.prog 30 #[e.v, .int .i64 now] w fun r w' => r = .returned (.int .i64 0) ∧ Below w.heap.size w w' := by
  go_enter Try.func30, Try.ntmps30
  go_wp2
  all_goals (go_returns; exact ⟨by simp [*]; try omega, by go_grown⟩)

set_option maxHeartbeats 400000 in
theorem leaseLate1 (e : En) (now : Int) (w : World) (h : e.c.g = false) (b1 : 0 ≤ hd now) (b2 : 0 ≤ hd e.seen) (b3 : 0 ≤ hd e.c.l) (c1 : hd now ≤ 4611686018427387904) (c2 : hd e.seen ≤ 4611686018427387904) (c3 : hd e.c.l ≤ 4611686018427387904) :
    Calls Try.prog 23 #[e.v, .int .i64 now] w fun r w' => r = .returned (.int .i64 (late e now)) ∧ Below w.heap.size w w' := by
  go_enter Try.func23, Try.ntmps23
  go_wp2_with fail
  haveI hIq : Nonempty (Of (w.alloc (.cells #[.string e.c.a, .string e.c.i, .int .i64 e.c.s, .int .i64 e.c.o, .int .i64 e.c.l, .int .i64 e.c.t, .int .i64 e.c.k, .int .i64 e.c.n, .bool false, .int .i64 e.seen] 36))) := of_some _
  have hFq0 := of_cell (W := (w.alloc (.cells #[.string e.c.a, .string e.c.i, .int .i64 e.c.s, .int .i64 e.c.o, .int .i64 e.c.l, .int .i64 e.c.t, .int .i64 e.c.k, .int .i64 e.c.n, .bool false, .int .i64 e.seen] 36))) (b := w.heap.size) (o := 4) (v := .int .i64 e.c.l) (by first | (with_reducible assumption) | (with_reducible (refine ext_cell ((Below.refl _ _).alloc (Nat.le_refl _) _) ?_; assumption)) | (go_cell; done) | (go_keep; done))
  have hFq1 := of_cell (W := (w.alloc (.cells #[.string e.c.a, .string e.c.i, .int .i64 e.c.s, .int .i64 e.c.o, .int .i64 e.c.l, .int .i64 e.c.t, .int .i64 e.c.k, .int .i64 e.c.n, .bool false, .int .i64 e.seen] 36))) (b := w.heap.size) (o := 9) (v := .int .i64 e.seen) (by first | (with_reducible assumption) | (with_reducible (refine ext_cell ((Below.refl _ _).alloc (Nat.le_refl _) _) ?_; assumption)) | (go_cell; done) | (go_keep; done))
  first | (refine wp_region_stay (w.alloc (.cells #[.string e.c.a, .string e.c.i, .int .i64 e.c.s, .int .i64 e.c.o, .int .i64 e.c.l, .int .i64 e.c.t, .int .i64 e.c.k, .int .i64 e.c.n, .bool false, .int .i64 e.seen] 36)) (by kernel_rfl) (by kernel_rfl) (by go_grown) ?_) | (refine wp_region_stay_seq (w.alloc (.cells #[.string e.c.a, .string e.c.i, .int .i64 e.c.s, .int .i64 e.c.o, .int .i64 e.c.l, .int .i64 e.c.t, .int .i64 e.c.k, .int .i64 e.c.n, .bool false, .int .i64 e.seen] 36)) (by go_grown) ?_)
  repeat (go_big_quiet_step ((first | (go_at_call 34; refine stay_same (leaseHeld _ _)))))
  refine wpQuiet_nil ?_
  intro wq hq
  have Bq : Below w.heap.size w wq := ext_trans (a := w) (by go_grown) hq
  clear hIq hFq0 hFq1
  go_wp2
  all_goals (go_ret; refine ⟨?_, Bq⟩; simp [late, *]; try omega)

set_option maxHeartbeats 400000 in
theorem refLate1 (e : En) (now : Int) (w : World) (h : e.c.g = false) (b1 : 0 ≤ hd now) (b2 : 0 ≤ hd e.seen) (b3 : 0 ≤ hd e.c.l) (c1 : hd now ≤ 4611686018427387904) (c2 : hd e.seen ≤ 4611686018427387904) (c3 : hd e.c.l ≤ 4611686018427387904) :
    Calls Try.prog 30 #[e.v, .int .i64 now] w fun r w' => r = .returned (.int .i64 (late e now)) ∧ Below w.heap.size w w' := by
  go_enter Try.func30, Try.ntmps30
  go_wp2_with fail
  haveI hIq : Nonempty (Of (w.alloc (.cells #[.string e.c.a, .string e.c.i, .int .i64 e.c.s, .int .i64 e.c.o, .int .i64 e.c.l, .int .i64 e.c.t, .int .i64 e.c.k, .int .i64 e.c.n, .bool false, .int .i64 e.seen] 65))) := of_some _
  have hFq0 := of_cell (W := (w.alloc (.cells #[.string e.c.a, .string e.c.i, .int .i64 e.c.s, .int .i64 e.c.o, .int .i64 e.c.l, .int .i64 e.c.t, .int .i64 e.c.k, .int .i64 e.c.n, .bool false, .int .i64 e.seen] 65))) (b := w.heap.size) (o := 4) (v := .int .i64 e.c.l) (by first | (with_reducible assumption) | (with_reducible (refine ext_cell ((Below.refl _ _).alloc (Nat.le_refl _) _) ?_; assumption)) | (go_cell; done) | (go_keep; done))
  have hFq1 := of_cell (W := (w.alloc (.cells #[.string e.c.a, .string e.c.i, .int .i64 e.c.s, .int .i64 e.c.o, .int .i64 e.c.l, .int .i64 e.c.t, .int .i64 e.c.k, .int .i64 e.c.n, .bool false, .int .i64 e.seen] 65))) (b := w.heap.size) (o := 9) (v := .int .i64 e.seen) (by first | (with_reducible assumption) | (with_reducible (refine ext_cell ((Below.refl _ _).alloc (Nat.le_refl _) _) ?_; assumption)) | (go_cell; done) | (go_keep; done))
  first | (refine wp_region_stay (w.alloc (.cells #[.string e.c.a, .string e.c.i, .int .i64 e.c.s, .int .i64 e.c.o, .int .i64 e.c.l, .int .i64 e.c.t, .int .i64 e.c.k, .int .i64 e.c.n, .bool false, .int .i64 e.seen] 65)) (by kernel_rfl) (by kernel_rfl) (by go_grown) ?_) | (refine wp_region_stay_seq (w.alloc (.cells #[.string e.c.a, .string e.c.i, .int .i64 e.c.s, .int .i64 e.c.o, .int .i64 e.c.l, .int .i64 e.c.t, .int .i64 e.c.k, .int .i64 e.c.n, .bool false, .int .i64 e.seen] 65)) (by go_grown) ?_)
  repeat (go_big_quiet_step ((first | (go_at_call 33; refine stay_same (refHold _ _)))))
  refine wpQuiet_nil ?_
  intro wq hq
  have Bq : Below w.heap.size w wq := ext_trans (a := w) (by go_grown) hq
  clear hIq hFq0 hFq1
  go_wp2
  all_goals (go_ret; refine ⟨?_, Bq⟩; simp [late, *]; try omega)

theorem leaseLate (e : En) (now : Int) (w : World) :
    Calls Try.prog 23 #[e.v, .int .i64 now] w fun r w' => r = .returned (.int .i64 (late e now)) ∧ Below w.heap.size w w' := by
  cases h : e.c.g
  · exact leaseLate1 e now w h (hd_lo _) (hd_lo _) (hd_lo _) (hd_hi _) (hd_hi _) (hd_hi _)
  · exact (leaseLate0_gone e now w h).mono fun _ _ ⟨he, hb⟩ => ⟨by rw [he]; simp [late, h], hb⟩

theorem refLate (e : En) (now : Int) (w : World) :
    Calls Try.prog 30 #[e.v, .int .i64 now] w fun r w' => r = .returned (.int .i64 (late e now)) ∧ Below w.heap.size w w' := by
  cases h : e.c.g
  · exact refLate1 e now w h (hd_lo _) (hd_lo _) (hd_lo _) (hd_hi _) (hd_hi _) (hd_hi _)
  · exact (refLate0_gone e now w h).mono fun _ _ ⟨he, hb⟩ => ⟨by rw [he]; simp [late, h], hb⟩

/-- grown, and some orders drawn -/
def Grew (w w' : World) : Prop := ∃ q os, w' = Go.Sort.grow (w.drewN q) os
theorem Grew.refl (w : World) : Grew w w := ⟨0, #[], by rw [Go.Sort.grow_empty]; rfl⟩
theorem Grew.alloc (w : World) (o : Obj) : Grew w (w.alloc o) := ⟨0, _, by rw [Go.Sort.alloc_eq_grow]; rfl⟩
theorem Grew.trans {a b c : World} (h : Grew a b) (k : Grew b c) : Grew a c := by
  obtain ⟨q, os, rfl⟩ := h
  obtain ⟨r, ot, rfl⟩ := k
  exact ⟨q + r, os ++ ot, by show Go.Sort.grow (Go.Sort.grow ((a.drewN q).drewN r) os) ot = _; rw [Go.Sort.grow_grow, World.drewN_drewN]⟩

theorem Grew.below {w w' : World} (h : Grew w w') : Below w.heap.size w w' := by
  obtain ⟨q, os, rfl⟩ := h
  refine ⟨rfl, rfl, rfl, by show _ ≤ (w.heap ++ os).size; simp, fun k hk => ?_⟩
  show (w.heap ++ os)[k]? = _
  rw [Array.getElem?_append_left hk]
/-- one that is late -/
structure Td where
  a : ByteArray
  i : ByteArray
  by_ : Int
instance : Inhabited Td := ⟨⟨⟨#[]⟩, ⟨#[]⟩, 0⟩⟩
def tc (t : Td) : List Value := [.string t.a, .string t.i, .int .i64 t.by_]
theorem tc_len (t : Td) : (tc t).length = 3 := rfl
theorem tc_one (t : Td) : ∀ u ∈ tc t, u.oneCell' = true := by
  intro u hu
  simp only [tc, List.mem_cons, List.not_mem_nil, or_false] at hu
  rcases hu with rfl | rfl | rfl <;> rfl
def tcmp (x y : Td) : Int := if y.by_ < x.by_ then -1 else if x.by_ < y.by_ then 1 else if kc x.a x.i y.a y.i < 0 then -1 else if kc y.a y.i x.a x.i < 0 then 1 else 0
def tlt (x y : Td) : Bool := decide (tcmp x y < 0)
theorem tlt_iff (x y : Td) : tlt x y = true ↔ y.by_ < x.by_ ∨ (x.by_ = y.by_ ∧ kc x.a x.i y.a y.i < 0) := by
  unfold tlt tcmp
  rw [decide_eq_true_iff]
  constructor
  · intro h
    split at h
    · exact .inl (by assumption)
    · split at h
      · omega
      · split at h
        · exact .inr ⟨by omega, by assumption⟩
        · split at h <;> omega
  · rintro (h | ⟨h1, h2⟩)
    · rw [if_pos h]; omega
    · rw [if_neg (by omega), if_neg (by omega), if_pos h2]; omega
theorem tlt_no (x y : Td) : tlt x y = false ↔ x.by_ < y.by_ ∨ (x.by_ = y.by_ ∧ 0 ≤ kc x.a x.i y.a y.i) := by
  constructor
  · intro h
    have h1 : ¬ tlt x y = true := by simp [h]
    rw [tlt_iff] at h1
    by_cases h2 : x.by_ < y.by_
    · exact .inl h2
    · refine .inr ⟨?_, ?_⟩
      · apply Classical.byContradiction; intro h3; exact h1 (.inl (by omega))
      · apply Classical.byContradiction
        intro h3
        by_cases h4 : y.by_ < x.by_
        · exact h1 (.inl h4)
        · exact h1 (.inr ⟨by omega, by omega⟩)
  · intro h
    cases h1 : tlt x y
    · rfl
    · rcases (tlt_iff x y).1 h1 with h2 | ⟨h2, h3⟩ <;> rcases h with h4 | ⟨h4, h5⟩ <;> omega
theorem tlt_weak : Weak tlt where
  asym x y h := by
    have n1 := kc_neg x.a x.i y.a y.i
    rw [tlt_iff] at h
    rw [tlt_no]
    rcases h with h | ⟨h, h2⟩
    · exact .inl h
    · exact .inr ⟨h.symm, by omega⟩
  ntr x y z h1 h2 := by
    have n1 := kc_neg x.a x.i y.a y.i
    have n2 := kc_neg y.a y.i z.a z.i
    have n3 := kc_neg x.a x.i z.a z.i
    rw [tlt_no] at h1 h2 ⊢
    rcases h1 with h1 | ⟨h1, g1⟩ <;> rcases h2 with h2 | ⟨h2, g2⟩
    · exact .inl (by omega)
    · exact .inl (by omega)
    · exact .inl (by omega)
    · refine .inr ⟨by omega, ?_⟩
      have := kc_le (a := x.a) (i := x.i) (b := y.a) (j := y.i) (c := z.a) (k := z.i) (by omega) (by omega)
      omega

set_option maxRecDepth 100000 in
set_option maxHeartbeats 1000000 in
theorem cardLess (a i b j : ByteArray) (w : World) :
    Calls Try.prog 36 #[.agg #[.string a, .string i], .agg #[.string b, .string j]] w fun e w' => e = .returned (.bool (decide (kc a i b j < 0))) ∧ Grew w w' := by
  go_enter Try.func36, Try.ntmps36
  go_wp2_with fail
  refine (cardCompare a i b j _).mono ?_
  rintro e w1 ⟨rfl, hg⟩
  have HG := Lib.hid (show Grew w w1 from ((Grew.alloc _ _).trans (Grew.alloc _ _)).trans hg)
  go_wp2
  go_ret
  exact ⟨rfl, HG.out⟩

set_option maxRecDepth 100000 in
set_option maxHeartbeats 1000000 in
theorem sweepCompare (x y : Td) (w : World) :
    Calls Try.prog 25 #[.agg #[.string x.a, .string x.i, .int .i64 x.by_], .agg #[.string y.a, .string y.i, .int .i64 y.by_]] w fun e w' => e = .returned (.int .i64 (tcmp x y)) ∧ Grew w w' := by
  have HB := Lib.hid ((Grew.alloc w (.cells #[.string x.a, .string x.i, .int .i64 x.by_] 59)).trans (Grew.alloc _ (.cells #[.string y.a, .string y.i, .int .i64 y.by_] 59)))
  by_cases h1 : y.by_ < x.by_
  · have e : tcmp x y = -1 := if_pos h1
    have hd1 : decide (y.by_ < x.by_) = true := decide_eq_true h1
    rw [e]
    clear e
    go_enter Try.func25, Try.ntmps25
    go_wp2
    go_ret
    exact ⟨rfl, HB.out⟩
  · have hd1 : decide (y.by_ < x.by_) = false := decide_eq_false h1
    by_cases h2 : x.by_ < y.by_
    · have e : tcmp x y = 1 := by unfold tcmp; rw [if_neg h1, if_pos h2]
      have hd2 : decide (x.by_ < y.by_) = true := decide_eq_true h2
      rw [e]
      clear e
      go_enter Try.func25, Try.ntmps25
      go_wp2
      go_ret
      exact ⟨rfl, HB.out⟩
    · have hd2 : decide (x.by_ < y.by_) = false := decide_eq_false h2
      by_cases h3 : kc x.a x.i y.a y.i < 0
      · have e : tcmp x y = -1 := by unfold tcmp; rw [if_neg h1, if_neg h2, if_pos h3]
        have HD3 := Lib.hid (decide_eq_true h3)
        rw [e]
        clear e h3
        go_enter Try.func25, Try.ntmps25
        go_wp2_with fail
        refine (cardLess x.a x.i y.a y.i _).mono ?_
        rintro e w1 ⟨rfl, hg⟩
        have HG := Lib.hid (HB.out.trans hg)
        rw [HD3.out]
        clear hg
        go_wp2
        go_ret
        exact ⟨rfl, HG.out⟩
      · have HD3 := Lib.hid (decide_eq_false h3)
        have HC3 := Lib.hid h3
        clear h3
        go_enter Try.func25, Try.ntmps25
        go_wp2_with fail
        refine (cardLess x.a x.i y.a y.i _).mono ?_
        rintro e w1 ⟨rfl, hg⟩
        have HG := Lib.hid (HB.out.trans hg)
        rw [HD3.out]
        have y0 := ext_cell (Grew.below hg) (b := w.heap.size) (o := 0) (v := .string x.a) (by go_cell)
        have y1 := ext_cell (Grew.below hg) (b := w.heap.size) (o := 1) (v := .string x.i) (by go_cell)
        have z0 := ext_cell (Grew.below hg) (b := w.heap.size + 1) (o := 0) (v := .string y.a) (by go_cell)
        have z1 := ext_cell (Grew.below hg) (b := w.heap.size + 1) (o := 1) (v := .string y.i) (by go_cell)
        clear hg
        go_wp2_with fail
        refine (cardLess y.a y.i x.a x.i _).mono ?_
        rintro e w2 ⟨rfl, hg2⟩
        have HG2 := Lib.hid (HG.out.trans hg2)
        clear hg2
        by_cases h4 : kc y.a y.i x.a x.i < 0
        · have HE := Lib.hid (show tcmp x y = 1 from by unfold tcmp; rw [if_neg (by omega), if_neg (by omega), if_neg (by have := HC3.out; omega), if_pos h4])
          rw [decide_eq_true h4]
          clear h4
          go_wp2
          go_ret
          exact ⟨by rw [HE.out]; rfl, HG2.out⟩
        · have HE := Lib.hid (show tcmp x y = 0 from by unfold tcmp; rw [if_neg (by omega), if_neg (by omega), if_neg (by have := HC3.out; omega), if_neg h4])
          rw [decide_eq_false h4]
          clear h4
          go_wp2
          go_ret
          exact ⟨by rw [HE.out]; rfl, HG2.out⟩

end Go.Proofs.Ytohiimfojlcomaa
