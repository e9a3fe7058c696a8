/- Nobody is late: nobody is picked. -/
import Derived.Test.YtcjpemphdgndkaaGreatDkL
namespace Go.Proofs.YtcjpemphdgndkaaGreat
open Go.RowKit
set_option linter.unusedVariables false
set_option linter.unusedSimpArgs false

def hd (n : Int) : Int := if n < 0 then 0 else if 4611686018427387904 < n then 4611686018427387904 else n

theorem hd_lo (n : Int) : 0 ≤ hd n := by unfold hd; split <;> (try split) <;> omega

theorem hd_hi (n : Int) : hd n ≤ 4611686018427387904 := by unfold hd; split <;> (try split) <;> omega

theorem hd_is {n : Int} (h0 : 0 ≤ n) (h1 : n ≤ 4611686018427387904) : hd n = n := by unfold hd; rw [if_neg (by omega), if_neg (by omega)]

def late (e : En) (now : Int) : Int := if e.c.g then 0 else if hd now - hd e.seen - hd e.c.l < 0 then 0 else hd now - hd e.seen - hd e.c.l

theorem late_lo (e : En) (now : Int) : 0 ≤ late e now := by unfold late; split; (· omega); (· split <;> omega)

theorem late_hi (e : En) (now : Int) : late e now ≤ 4611686018427387904 := by
  have h1 := hd_lo e.seen
  have h2 := hd_lo e.c.l
  have h3 := hd_hi now
  unfold late; split; (· omega); (· split <;> omega)

set_option maxHeartbeats 400000 in
theorem leaseHeld (n : Int) (w : World) :
    Calls Tryz.prog 136 #[.int .i64 n] w fun r w' => r = .returned (.int .i64 (hd n)) ∧ w = w' := by
  go_enter Tryz.func136, Tryz.ntmps136
  go_wp2
  all_goals (go_ret; refine ⟨?_, rfl⟩; simp [hd]; (repeat' split) <;> omega)

set_option maxHeartbeats 400000 in
theorem leaseLate0_gone (e : En) (now : Int) (w : World) (h : e.c.g = true) :
    Calls Tryz.prog 92 #[e.v, .int .i64 now] w fun r w' => r = .returned (.int .i64 0) ∧ Below w.heap.size w w' := by
  go_enter Tryz.func92, Tryz.ntmps92
  go_wp2
  all_goals (go_returns; exact ⟨by simp [*]; try omega, by go_grown⟩)

set_option maxHeartbeats 400000 in
theorem leaseLate1 (e : En) (now : Int) (w : World) (h : e.c.g = false) (b1 : 0 ≤ hd now) (b2 : 0 ≤ hd e.seen) (b3 : 0 ≤ hd e.c.l) (c1 : hd now ≤ 4611686018427387904) (c2 : hd e.seen ≤ 4611686018427387904) (c3 : hd e.c.l ≤ 4611686018427387904) :
    Calls Tryz.prog 92 #[e.v, .int .i64 now] w fun r w' => r = .returned (.int .i64 (late e now)) ∧ Below w.heap.size w w' := by
  go_enter Tryz.func92, Tryz.ntmps92
  go_wp2_with fail
  haveI hIq : Nonempty (Of (w.alloc (.cells #[.string e.c.a, .string e.c.i, .int .i64 e.c.s, .int .i64 e.c.o, .int .i64 e.c.l, .int .i64 e.c.t, .int .i64 e.c.k, .int .i64 e.c.n, .bool false, .int .i64 e.seen] 58))) := of_some _
  have hFq0 := of_cell (W := (w.alloc (.cells #[.string e.c.a, .string e.c.i, .int .i64 e.c.s, .int .i64 e.c.o, .int .i64 e.c.l, .int .i64 e.c.t, .int .i64 e.c.k, .int .i64 e.c.n, .bool false, .int .i64 e.seen] 58))) (b := w.heap.size) (o := 4) (v := .int .i64 e.c.l) (by first | (with_reducible assumption) | (with_reducible (refine ext_cell ((Below.refl _ _).alloc (Nat.le_refl _) _) ?_; assumption)) | (go_cell; done) | (go_keep; done))
  have hFq1 := of_cell (W := (w.alloc (.cells #[.string e.c.a, .string e.c.i, .int .i64 e.c.s, .int .i64 e.c.o, .int .i64 e.c.l, .int .i64 e.c.t, .int .i64 e.c.k, .int .i64 e.c.n, .bool false, .int .i64 e.seen] 58))) (b := w.heap.size) (o := 9) (v := .int .i64 e.seen) (by first | (with_reducible assumption) | (with_reducible (refine ext_cell ((Below.refl _ _).alloc (Nat.le_refl _) _) ?_; assumption)) | (go_cell; done) | (go_keep; done))
  first | (refine wp_region_stay (w.alloc (.cells #[.string e.c.a, .string e.c.i, .int .i64 e.c.s, .int .i64 e.c.o, .int .i64 e.c.l, .int .i64 e.c.t, .int .i64 e.c.k, .int .i64 e.c.n, .bool false, .int .i64 e.seen] 58)) (by kernel_rfl) (by kernel_rfl) (by go_grown) ?_) | (refine wp_region_stay_seq (w.alloc (.cells #[.string e.c.a, .string e.c.i, .int .i64 e.c.s, .int .i64 e.c.o, .int .i64 e.c.l, .int .i64 e.c.t, .int .i64 e.c.k, .int .i64 e.c.n, .bool false, .int .i64 e.seen] 58)) (by go_grown) ?_)
  repeat (go_big_quiet_step ((first | (go_at_call 136; refine stay_same (leaseHeld _ _)))))
  refine wpQuiet_nil ?_
  intro wq hq
  have Bq : Below w.heap.size w wq := ext_trans (a := w) (by go_grown) hq
  clear hIq hFq0 hFq1
  go_wp2
  all_goals (go_ret; refine ⟨?_, Bq⟩; simp [late, *]; try omega)

theorem leaseLate (e : En) (now : Int) (w : World) :
    Calls Tryz.prog 92 #[e.v, .int .i64 now] w fun r w' => r = .returned (.int .i64 (late e now)) ∧ Below w.heap.size w w' := by
  cases h : e.c.g
  · exact leaseLate1 e now w h (hd_lo _) (hd_lo _) (hd_lo _) (hd_hi _) (hd_hi _) (hd_hi _)
  · exact (leaseLate0_gone e now w h).mono fun _ _ ⟨he, hb⟩ => ⟨by rw [he]; simp [late, h], hb⟩

def mostN (n : Nat) : Nat := (n * 15 + 99) / 100

set_option maxRecDepth 100000 in
set_option maxHeartbeats 1000000 in
theorem sweepMost (n : Nat) (w : World) (h : n ≤ 1000) :
    Calls Tryz.prog 95 #[.int .i64 n] w fun e w' => e = .returned (.int .i64 (mostN n : Nat)) ∧ w = w' := by
  have h0 : ¬ ((n : Int) < 0) := by omega
  go_enter Tryz.func95, Tryz.ntmps95
  go_wp2
  all_goals (go_ret; refine ⟨?_, rfl⟩; simp [mostN]; try omega)

theorem lateg (x : En) (b : Bool) (h : x.c.g = b) : (⟨{ x.c with g := b }, x.seen⟩ : En) = x := by
  obtain ⟨⟨x1, x2, x3, x4, x5, x6, x7, x8, x9⟩, x10⟩ := x
  simp only at h
  subst h
  rfl

set_option maxRecDepth 100000 in
set_option maxHeartbeats 1000000 in
theorem insNone (F : Value) (w : World) :
    Calls Tryz.prog 156 #[.slice none 0 0, .int .i64 0, .int .i64 0, F] w fun r w' => r = .returned (.tuple #[]) ∧ w' = w := by
  go_enter Tryz.func156, Tryz.ntmps156
  go_wp2
  refine wp_loop_rounds 1 ?_
  rw [rounds_succ]
  go_wp2
  first | go_end0 | go_returns
  exact ⟨rfl, rfl⟩

set_option maxRecDepth 100000 in
set_option maxHeartbeats 1000000 in
theorem stableNone (F : Value) (w : World) :
    Calls Tryz.prog 137 #[.slice none 0 0, .int .i64 0, F] w fun r w' => r = .returned (.tuple #[]) ∧ w' = w := by
  go_enter Tryz.func137, Tryz.ntmps137
  go_wp2_with fail
  refine wp_loop_rounds 1 ?_
  rw [rounds_succ]
  go_wp2_with fail
  refine (insNone F w).mono ?_
  rintro r x ⟨rfl, hx⟩
  obtain rfl := hx.symm
  go_wp2_with fail
  refine wp_loop_rounds 1 ?_
  rw [rounds_succ]
  go_wp2
  first | go_end0 | go_returns
  exact ⟨rfl, rfl⟩

set_option maxRecDepth 100000 in
set_option maxHeartbeats 1000000 in
theorem sortStableNone (F : Value) (w : World) :
    Calls Tryz.prog 93 #[.slice none 0 0, F] w fun r w' => r = .returned (.tuple #[]) ∧ w' = w := by
  go_enter Tryz.func93, Tryz.ntmps93
  go_wp2_with fail
  refine (stableNone F w).mono ?_
  rintro r x ⟨rfl, hx⟩
  obtain rfl := hx.symm
  go_wp2
  first | go_end0 | go_returns
  exact ⟨rfl, rfl⟩

set_option maxRecDepth 100000 in
set_option maxHeartbeats 2000000 in
theorem pickNone (a : Option Addr) (n c : Nat) (l : List En) (now lt : Int) (w : World) (h : EAt w a l) (hl : l.length = n) (hn : n ≤ 900) (hnc : n ≤ c) (hg : ∀ e ∈ l, late e now = 0 ∧ e.c.g = false) :
    Calls Tryz.prog 50 #[.slice a n c, .int .i64 now, .int .i64 lt] w fun r w' => r = .returned (.slice none 0 0) ∧ Below w.heap.size w w' := by
  have HA := Lib.hid h
  have HN := Lib.hid hl
  have HG := Lib.hid hg
  have hmx : decide (max lt 0 < 0) = false := decide_eq_false (by omega)
  clear h hl hg
  go_enter Tryz.func50, Tryz.ntmps50
  go_wp2_with fail
  go_loopw [7, 8, 17] (fun lv g j wr => ∃ J : Nat, J ≤ n ∧ j = .int .i64 (J : Int) ∧ lv = .int .i64 (J : Int) ∧ g = .slice none 0 0 ∧ Below w.heap.size w wr) (fun lv g j _ => n - (intOf j).toNat)
  case atStart => exact ⟨0, by omega, rfl, rfl, rfl, Below.refl _ _⟩
  case round =>
    obtain ⟨w2, rfl⟩ : ∃ y : World, y = wr := ⟨_, rfl⟩
    obtain ⟨J, hJ, rfl, rfl, rfl, hb2⟩ := hrel
    by_cases hlt : J < n
    · obtain ⟨x, hx⟩ : ∃ x, l[J]? = some x := ⟨_, List.getElem?_eq_getElem (by have := HN.out; omega)⟩
      obtain ⟨hL0, hG0⟩ := HG.out x (List.mem_of_getElem? hx)
      obtain ⟨tb, tof, rfl⟩ : ∃ b o, a = some ⟨b, o, none⟩ := by
        rcases HA.out with h | ⟨b, o, e, _⟩
        · rw [h] at hx; simp at hx
        · exact ⟨b, o, e⟩
      obtain ⟨x0, x1, x2, x3, x4, x5, x6, x7, x8, x9⟩ := EAt.at (HA.out.ext hb2) hx
      rw [hG0] at x8
      have HX := Lib.hid (blk_new w2 #[.string x.c.a, .string x.c.i, .int .i64 x.c.s, .int .i64 x.c.o, .int .i64 x.c.l, .int .i64 x.c.t, .int .i64 x.c.k, .int .i64 x.c.n, .bool false, .int .i64 x.seen] 58)
      have HB3 := Lib.hid (ext_trans hb2 ((Below.refl _ _).alloc (Nat.le_refl _) (.cells #[.string x.c.a, .string x.c.i, .int .i64 x.c.s, .int .i64 x.c.o, .int .i64 x.c.l, .int .i64 x.c.t, .int .i64 x.c.k, .int .i64 x.c.n, .bool false, .int .i64 x.seen] 58)))
      have HL0 := Lib.hid hL0
      have HG0 := Lib.hid hG0
      clear hb2 hx hL0 hG0
      go_upto_region 6 with (fail)
      obtain ⟨r, hr⟩ : ∃ r, w2.heap.size = r := ⟨_, rfl⟩
      rw [hr] at HX ⊢
      clear hr
      generalize (w2.alloc (.cells #[.string x.c.a, .string x.c.i, .int .i64 x.c.s, .int .i64 x.c.o, .int .i64 x.c.l, .int .i64 x.c.t, .int .i64 x.c.k, .int .i64 x.c.n, .bool false, .int .i64 x.seen] 58)) = w4 at *
      clear x0 x1 x2 x3 x4 x5 x6 x7 x8 x9
      have hk4 := blk_cell HX.out
      have hl4 := blk_lt HX.out
      go_wp2_with fail
      refine (leaseLate ⟨{ x.c with g := false }, x.seen⟩ now _).mono ?_
      rintro e w5 ⟨rfl, hb5⟩
      rw [lateg x _ HG0.out, HL0.out]
      have HB5 := Lib.hid (ext_trans HB3.out hb5)
      clear hb5 hk4 hl4
      go_wp2
      go_roundw
      case rel => exact ⟨J + 1, by omega, by go_num, by go_num, rfl, HB5.out⟩
      case measure => simp [intOf]; omega
    · obtain rfl : J = n := by omega
      have hmn : min (0 : Int) ((mostN J : Nat) : Int) = 0 := by omega
      go_wp2_with fail
      refine (sortStableNone _ w2).mono ?_
      rintro r x ⟨rfl, hx⟩
      obtain rfl := hx.symm
      go_wp2_with fail
      refine (sweepMost J w2 (by omega)).mono ?_
      rintro r x ⟨rfl, hx⟩
      obtain rfl := hx
      go_wp2_with fail
      refine wp_loop_rounds 1 ?_
      rw [rounds_succ]
      go_wp2
      go_ret
      exact ⟨rfl, hb2⟩

end Go.Proofs.YtcjpemphdgndkaaGreat
