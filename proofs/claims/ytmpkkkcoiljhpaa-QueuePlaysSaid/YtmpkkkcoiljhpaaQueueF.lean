/- Package queue's walks: peers are found. -/
import Derived.Test.YtmpkkkcoiljhpaaQueueL
namespace Go.Proofs.Ytmpkkkcoiljhpaa
open Go.RowKit
set_option linter.unusedVariables false

/-- the first row of peer k, from number q on -/
def ixP (k : Int) : Nat → List (Int × Value) → Int
  | _, [] => -1
  | q, x :: l => if x.1 = k then (q : Int) else ixP k (q + 1) l
theorem ixP_hit (k : Int) (q : Nat) (x : Int × Value) (l : List (Int × Value)) (h : x.1 = k) : ixP k q (x :: l) = q := by simp [ixP, h]
theorem ixP_miss (k : Int) (q : Nat) (x : Int × Value) (l : List (Int × Value)) (h : x.1 ≠ k) : ixP k q (x :: l) = ixP k (q + 1) l := by simp [ixP, h]

set_option maxRecDepth 100000 in
set_option maxHeartbeats 1000000 in
theorem peerSame (p k : Int) (a : Option Addr) (n c s : Nat) (w : World) (hs : w.heap[s]? = some (.cells #[.int .i64 k] 3 (0, 0))) (h : p = k) :
    Calls Try.prog 30 #[.agg #[.int .i64 p, .slice a n c], .pointer (some ⟨s, 0, none⟩)] w fun e w' => e = .returned (.bool true) ∧ Below w.heap.size w w' := by
  have hc := blk_cell hs
  have hl := blk_lt hs
  have hd : (p == k) = true := by simp [h]
  clear hs h
  go_enter Try.func30, Try.ntmps30
  go_wp2
  go_ret
  exact ⟨rfl, (Below.refl _ _).alloc (Nat.le_refl _) _⟩

set_option maxRecDepth 100000 in
set_option maxHeartbeats 1000000 in
theorem peerOther (p k : Int) (a : Option Addr) (n c s : Nat) (w : World) (hs : w.heap[s]? = some (.cells #[.int .i64 k] 3 (0, 0))) (h : p ≠ k) :
    Calls Try.prog 30 #[.agg #[.int .i64 p, .slice a n c], .pointer (some ⟨s, 0, none⟩)] w fun e w' => e = .returned (.bool false) ∧ Below w.heap.size w w' := by
  have hc := blk_cell hs
  have hl := blk_lt hs
  have hd : (p == k) = false := by simp [h]
  clear hs h
  go_enter Try.func30, Try.ntmps30
  go_wp2
  go_ret
  exact ⟨rfl, (Below.refl _ _).alloc (Nat.le_refl _) _⟩

set_option maxRecDepth 100000 in
set_option maxHeartbeats 1000000 in
theorem indexR (qb np : Nat) (sl : List (Int × Value)) (lost k : Int) (s : Nat) (w : World) (h : QB w qb np sl lost) (h6 : sl.length = 6) (hn : np ≤ 6) (hv : ∀ x ∈ sl, ∃ a n c, x.2 = .slice a n c) (hs : w.heap[s]? = some (.cells #[.int .i64 k] 3 (0, 0))) :
    Calls Try.prog 29 #[.slice (some ⟨qb, 1, none⟩) np 6, .func (.func 30) #[] #[.pointer (some ⟨s, 0, none⟩)]] w fun e w' => e = .returned (.int .i64 (ixP k 0 (sl.take np))) ∧ Below w.heap.size w w' := by
  have HB := Lib.hid h
  have H6 := Lib.hid h6
  have HS := Lib.hid hs
  have HV := Lib.hid hv
  clear h h6 hs hv
  go_enter Try.func29, Try.ntmps29
  go_wp2_with fail
  go_loopw [8] (fun i wr => ∃ j : Nat, j ≤ np ∧ i = .int .i64 (j : Int) ∧ ixP k 0 (sl.take np) = ixP k j ((sl.take np).drop j) ∧ Below w.heap.size w wr) (fun i _ => np - (intOf i).toNat)
  case atStart => exact ⟨0, by omega, rfl, rfl, Below.refl _ _⟩
  case round =>
    obtain ⟨w2, rfl⟩ : ∃ y : World, y = wr := ⟨_, rfl⟩
    obtain ⟨j, hj, rfl, hix, B2⟩ := hrel
    have HIX := Lib.hid hix
    clear hix
    by_cases hlt : j < np
    · obtain ⟨x, hx⟩ : ∃ x, sl[j]? = some x := ⟨_, List.getElem?_eq_getElem (by have := H6.out; omega)⟩
      obtain ⟨a, n, c, hxv⟩ := HV.out x (List.mem_of_getElem? hx)
      obtain ⟨p, v⟩ := x
      simp only at hxv
      subst hxv
      have HS2 := Lib.hid (blk_ext B2 HS.out)
      have HB2 := HB.out.ext B2
      have HDR := Lib.hid (drop_at (l := sl.take np) (i := j) (x := (p, .slice a n c)) (by rw [List.getElem?_take_of_lt hlt]; exact hx))
      have hc0 : w2.cell? ⟨qb, 1 + j * 2, none⟩ = some (.int .i64 p) := HB2.cp hx
      have hc1 : w2.cell? ⟨qb, 1 + j * 2 + 1, none⟩ = some (.slice a n c) := HB2.cv hx
      have hlq := HB2.lt
      clear hx HB2
      by_cases hq : p = k
      · have HQ := Lib.hid hq
        clear hq
        go_wp2_with fail
        refine (peerSame p k a n c s _ HS2.out HQ.out).mono ?_
        rintro e w3 ⟨rfl, hb⟩
        have B3 := ext_trans B2 hb
        clear hb
        go_wp2
        go_ret
        exact ⟨by rw [HIX.out, HDR.out, ixP_hit _ _ _ _ HQ.out]; rfl, B3⟩
      · have HQ := Lib.hid (show p ≠ k from hq)
        clear hq
        go_wp2_with fail
        refine (peerOther p k a n c s _ HS2.out HQ.out).mono ?_
        rintro e w3 ⟨rfl, hb⟩
        have B3 := ext_trans B2 hb
        clear hb
        go_wp2
        go_roundw
        case rel => exact ⟨j + 1, by omega, by go_num, by rw [HIX.out, HDR.out, ixP_miss _ _ _ _ HQ.out], B3⟩
        case measure => simp [intOf]; omega
    · obtain rfl : j = np := by omega
      have HE := Lib.hid (show ixP k 0 (sl.take j) = -1 by rw [HIX.out, List.drop_of_length_le (by rw [List.length_take]; omega)]; rfl)
      go_wp2
      go_ret
      exact ⟨by rw [HE.out]; rfl, B2⟩

set_option maxRecDepth 100000 in
set_option maxHeartbeats 1000000 in
theorem queueFind (qb np : Nat) (sl : List (Int × Value)) (lost k : Int) (w : World) (h : QB w qb np sl lost) (h6 : sl.length = 6) (hn : np ≤ 6) (hv : ∀ x ∈ sl, ∃ a n c, x.2 = .slice a n c) :
    Calls Try.prog 23 #[.pointer (some ⟨qb, 0, none⟩), .int .i64 k] w fun e w' => e = .returned (.int .i64 (ixP k 0 (sl.take np))) ∧ Below w.heap.size w w' := by
  have D0 : Below w.heap.size w (w.alloc (.cells #[.int .i64 k] 3)) := (Below.refl _ _).alloc (Nat.le_refl _) _
  have HB := Lib.hid (h.ext D0)
  have HX := Lib.hid (blk_new w #[.int .i64 k] 3)
  have H6 := Lib.hid h6
  have HV := Lib.hid hv
  have hlt := h.lt
  have hmf : ∀ (fn : Fn) (first cap : Array Value) (w : World), (Instr.makeFunc fn first cap).run Try.prog w = .ok (.func fn first cap) w := fun _ _ _ _ => rfl
  clear h h6 hv
  go_enter Try.func23, Try.ntmps23
  go_wp2_with fail
  obtain ⟨s, hs⟩ : ∃ s, w.heap.size = s := ⟨_, rfl⟩
  rw [hs] at HX ⊢
  have HSS := Lib.hid hs
  clear hs
  generalize (w.alloc (.cells #[.int .i64 k] 3)) = w1 at *
  have hlb := HB.out.lt
  haveI hIq : Nonempty (Of w1) := of_some _
  have hF0 := of_cell HB.out.c0
  have hnI : (np : Int) ≤ 6 := by omega
  refine wp_region_stay w1 (by kernel_rfl) (by kernel_rfl) (by go_grown) ?_
  repeat (go_big_quiet_step ((go_at_call 29; refine stay_call (indexR qb np sl lost k s _ (HB.out.ext (In.h _)) H6.out hn HV.out (blk_ext (In.h _) HX.out)))))
  refine wpQuiet_nil ?_
  intro w2 hb
  have D2 := ext_trans D0 hb
  clear hIq hF0 hb
  go_wp2
  go_ret
  exact ⟨rfl, by rw [HSS.out]; rw [HSS.out] at D2; exact D2⟩

set_option maxRecDepth 100000 in
set_option maxHeartbeats 1000000 in
theorem queueLen (qb np i : Nat) (sl : List (Int × Value)) (lost k p : Int) (v : Value) (cs : List Cd) (w : World) (h : QB w qb np sl lost) (h6 : sl.length = 6) (hn : np ≤ 6) (hv : ∀ x ∈ sl, ∃ a n c, x.2 = .slice a n c) (hix : ixP k 0 (sl.take np) = (i : Int)) (hi : sl[i]? = some (p, v)) (hs : SlC w v cs) :
    Calls Try.prog 17 #[.pointer (some ⟨qb, 0, none⟩), .int .i64 k] w fun e w' => e = .returned (.int .i64 (cs.length : Int)) ∧ Below w.heap.size w w' := by
  obtain ⟨a, c, rfl, hnc, hcm, -, -⟩ := hs
  have hi6 : i < 6 := by
    rcases Nat.lt_or_ge i 6 with h' | h'
    · exact h'
    · rw [List.getElem?_eq_none (by omega)] at hi; cases hi
  have HB := Lib.hid h
  have H6 := Lib.hid h6
  have HV := Lib.hid hv
  have HIX := Lib.hid hix
  have HI := Lib.hid hi
  have hiI : (i : Int) < 6 := by omega
  obtain ⟨m, hm⟩ : ∃ m, cs.length = m := ⟨_, rfl⟩
  rw [hm] at HI hnc ⊢
  clear h h6 hv hix hi hm
  go_enter Try.func17, Try.ntmps17
  go_wp2_with fail
  refine (queueFind qb np sl lost k _ HB.out H6.out hn HV.out).mono ?_
  rintro e w1 ⟨rfl, hb⟩
  rw [HIX.out]
  have HB1 := HB.out.ext hb
  have hc1 : w1.cell? ⟨qb, 1 + i * 2 + 1, none⟩ = some (.slice a m c) := HB1.cv HI.out
  have hlq := HB1.lt
  clear HB1
  go_wp2
  go_ret
  exact ⟨rfl, hb⟩

set_option maxRecDepth 100000 in
set_option maxHeartbeats 1000000 in
theorem queueLen_no (qb np : Nat) (sl : List (Int × Value)) (lost k : Int) (w : World) (h : QB w qb np sl lost) (h6 : sl.length = 6) (hn : np ≤ 6) (hv : ∀ x ∈ sl, ∃ a n c, x.2 = .slice a n c) (hix : ixP k 0 (sl.take np) = -1) :
    Calls Try.prog 17 #[.pointer (some ⟨qb, 0, none⟩), .int .i64 k] w fun e w' => e = .returned (.int .i64 0) ∧ Below w.heap.size w w' := by
  have HB := Lib.hid h
  have H6 := Lib.hid h6
  have HV := Lib.hid hv
  have HIX := Lib.hid hix
  clear h h6 hv hix
  go_enter Try.func17, Try.ntmps17
  go_wp2_with fail
  refine (queueFind qb np sl lost k _ HB.out H6.out hn HV.out).mono ?_
  rintro e w1 ⟨rfl, hb⟩
  rw [HIX.out]
  go_wp2
  go_ret
  exact ⟨rfl, hb⟩

set_option maxRecDepth 100000 in
set_option maxHeartbeats 1000000 in
theorem queueLost (qb np : Nat) (sl : List (Int × Value)) (lost : Int) (w : World) (h : QB w qb np sl lost) (h6 : sl.length = 6) :
    Calls Try.prog 16 #[.pointer (some ⟨qb, 0, none⟩)] w fun e w' => e = .returned (.int .i64 lost) ∧ w = w' := by
  have hc := h.cl h6
  have hl := h.lt
  clear h h6
  go_enter Try.func16, Try.ntmps16
  go_wp2
  go_ret
  exact ⟨rfl, rfl⟩

set_option maxRecDepth 100000 in
set_option maxHeartbeats 1000000 in
theorem queueTake_no (qb np : Nat) (sl : List (Int × Value)) (lost k : Int) (w : World) (h : QB w qb np sl lost) (h6 : sl.length = 6) (hn : np ≤ 6) (hv : ∀ x ∈ sl, ∃ a n c, x.2 = .slice a n c) (hix : ixP k 0 (sl.take np) = -1) :
    Calls Try.prog 14 #[.pointer (some ⟨qb, 0, none⟩), .int .i64 k] w fun e w' => e = .returned (.slice none 0 0) ∧ Below w.heap.size w w' := by
  have HB := Lib.hid h
  have H6 := Lib.hid h6
  have HV := Lib.hid hv
  have HIX := Lib.hid hix
  clear h h6 hv hix
  go_enter Try.func14, Try.ntmps14
  go_wp2_with fail
  refine (queueFind qb np sl lost k _ HB.out H6.out hn HV.out).mono ?_
  rintro e w1 ⟨rfl, hb⟩
  rw [HIX.out]
  go_wp2
  go_ret
  exact ⟨rfl, hb⟩

end Go.Proofs.Ytmpkkkcoiljhpaa
