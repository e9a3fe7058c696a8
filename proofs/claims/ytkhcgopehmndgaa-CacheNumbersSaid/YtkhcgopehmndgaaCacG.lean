/- Package cache: put, in general. -/
import Derived.Test.YtkhcgopehmndgaaCacI
import Derived.Test.YtkhcgopehmndgaaMapD
namespace Go.Proofs.Ytkhcgopehmndgaa
open Go.RowKit
set_option linter.unusedVariables false
set_option linter.unusedSimpArgs false

def ck (c : Cd) : Ky := (c.a, c.i)
def zE (c : Cd) : En := ⟨c, 0⟩

theorem delAt_zE (cs : List Cd) (i : Nat) : (delAtK cs i).map zE = delAt (cs.map zE) i := by unfold delAtK delAt; rw [List.map_append, List.map_take, List.map_drop]
theorem insAt_zE (cs : List Cd) (i : Nat) (t : Cd) : (insAtK cs i t).map zE = insAt (cs.map zE) i (zE t) := by unfold insAtK insAt; rw [List.map_append, List.map_append, List.map_take, List.map_drop]; rfl
theorem ins_del (cs : List Cd) (i : Nat) (t : Cd) (h : i < cs.length) : insAtK (delAtK cs i) i t = cs.set i t := by
  unfold insAtK delAtK
  have e : (cs.take i).length = i := by rw [List.length_take]; omega
  rw [List.take_append_of_le_length (by omega), List.take_of_length_le (by omega), List.drop_append_of_le_length (by omega), List.drop_of_length_le (by omega), List.nil_append, List.set_eq_take_append_cons_drop, if_pos h]
  simp
/-- what put makes of cards by key -/
def putC (cs : List Cd) (t : Cd) : List Cd := if isIn (ck t) (cs.map zE) = true then (if t.g = true then delAtK cs (low (ck t) (cs.map zE)) else cs.set (low (ck t) (cs.map zE)) t) else (if t.g = true then cs else insAtK cs (low (ck t) (cs.map zE)) t)
/-- cards that a cache may hold -/
def WfC (cs : List Cd) : Prop := Asc (cs.map zE) ∧ ∀ c ∈ cs, CdR c ∧ KA c.a ∧ KI c.i ∧ c.g = false
theorem WfC.nil : WfC [] := ⟨List.Pairwise.nil, fun c h => by cases h⟩
theorem WfC.put {cs : List Cd} {t : Cd} (h : WfC cs) (hr : CdR t) (ha : KA t.a) (hi : KI t.i) : WfC (putC cs t) := by
  obtain ⟨h1, h2⟩ := h
  unfold putC
  cases hin : isIn (ck t) (cs.map zE) with
  | true =>
    simp only [if_true]
    cases hg : t.g with
    | true =>
      simp only [if_true]
      exact ⟨by rw [delAt_zE]; exact asc_del h1 _, fun c hc => h2 c (by unfold delAtK at hc; rcases List.mem_append.1 hc with h | h; (· exact List.mem_of_mem_take h); (· exact List.mem_of_mem_drop h))⟩
    | false =>
      simp only [Bool.false_eq_true, if_false]
      refine ⟨?_, fun c hc => ?_⟩
      · rw [List.map_set]
        exact asc_put (e := zE t) h1 hin
      · rcases List.mem_or_eq_of_mem_set hc with h | h
        · exact h2 c h
        · subst h; exact ⟨hr, ha, hi, hg⟩
  | false =>
    simp only [Bool.false_eq_true, if_false]
    cases hg : t.g with
    | true => simp only [if_true]; exact ⟨h1, h2⟩
    | false =>
      simp only [Bool.false_eq_true, if_false]
      refine ⟨?_, fun c hc => ?_⟩
      · rw [insAt_zE]
        exact asc_ins (e := zE t) h1 hin
      · unfold insAtK at hc
        rcases List.mem_append.1 hc with h | h
        · rcases List.mem_append.1 h with h | h
          · exact h2 c (List.mem_of_mem_take h)
          · have e : c = t := by simpa using h
            subst e; exact ⟨hr, ha, hi, hg⟩
        · exact h2 c (List.mem_of_mem_drop h)
set_option maxRecDepth 100000 in
set_option maxHeartbeats 1000000 in
theorem cacheClosureG (gb : Bool) (p1 p2 : Nat) (a : Option Addr) (n c j : Nat) (cs : List Cd) (t x : Cd) (w : World) (h1 : w.heap[p1]? = some (.cells #[.slice a n c] 33 (0, 0))) (h2 : w.heap[p2]? = some (.cells #[.string t.a, .string t.i, .int .i64 t.s, .int .i64 t.o, .int .i64 t.l, .int .i64 t.t, .int .i64 t.k, .int .i64 t.n, .bool gb] 49 (0, 0))) (h : CAt w a cs) (hx : cs[j]? = some x) (hl : cs.length = n) (hn : n ≤ 1000) :
    Calls Try.prog 71 #[.int .i64 j, .pointer (some ⟨p1, 0, none⟩), .pointer (some ⟨p2, 0, none⟩)] w fun r w' => r = .returned (.bool (!(decide (kc x.a x.i t.a t.i < 0)))) ∧ Below w.heap.size w w' := by
  have hj : j < n := by rw [← hl]; exact (List.getElem?_eq_some_iff.1 hx).1
  obtain ⟨b, o, rfl⟩ : ∃ b o, a = some ⟨b, o, none⟩ := by
    rcases h with h | ⟨b, o, e, _⟩
    · rw [h] at hx; simp at hx
    · exact ⟨b, o, e⟩
  obtain ⟨x0, x1, -⟩ := h.at hx
  have c1 := blk_cell h1 0
  have c2 := blk_cell h2 0
  have c3 := blk_cell h2 1
  simp only [List.getElem?_toArray, List.getElem?_cons_zero, List.getElem?_cons_succ] at c1 c2 c3
  have hj0 : (j : Int) < (n : Int) := by omega
  clear h h1 h2 hx hl
  go_enter Try.func71, Try.ntmps71
  go_wp2_with fail
  haveI hIq : Nonempty (Of w) := of_some _
  have hF0 := of_cell c1
  have hF1 := of_cell c2
  have hF2 := of_cell c3
  have hF3 := of_cell x0
  have hF4 := of_cell x1
  first | (refine wp_region_stay w (by kernel_rfl) (by kernel_rfl) (by go_grown) ?_) | (refine wp_region_stay_seq w (by go_grown) ?_)
  repeat (go_big_quiet_step ((go_at_call 58; with_reducible refine stay_call (cardLessC x.a x.i t.a t.i _))))
  refine wpQuiet_nil ?_
  intro w5 hb5
  clear hIq hF0 hF1 hF2 hF3 hF4

  have HB := Lib.hid hb5
  clear hb5
  go_wp2
  go_ret
  exact ⟨rfl, HB.out⟩
set_option maxRecDepth 100000 in
set_option maxHeartbeats 1000000 in
theorem cacheSearchG (gb : Bool) (p1 p2 : Nat) (a : Option Addr) (n c L : Nat) (cs : List Cd) (t : Cd) (w : World) (h1 : w.heap[p1]? = some (.cells #[.slice a n c] 33 (0, 0))) (h2 : w.heap[p2]? = some (.cells #[.string t.a, .string t.i, .int .i64 t.s, .int .i64 t.o, .int .i64 t.l, .int .i64 t.t, .int .i64 t.k, .int .i64 t.n, .bool gb] 49 (0, 0))) (h : CAt w a cs) (hI : ∀ (p : Nat) (x : Cd), cs[p]? = some x → decide (kc x.a x.i t.a t.i < 0) = decide (p < L)) (hll : L ≤ n) (hl : cs.length = n) (hn : n ≤ 1000) :
    Calls Try.prog 56 #[.int .i64 n, .func (.func 71) #[] #[.pointer (some ⟨p1, 0, none⟩), .pointer (some ⟨p2, 0, none⟩)]] w fun r w' => r = .returned (.int .i64 L) ∧ Below w.heap.size w w' := by
  have H1 := Lib.hid h1
  have H2 := Lib.hid h2
  have HE := Lib.hid h
  have HL := Lib.hid hl
  have HI := Lib.hid hI
  clear h1 h2 h hl hI
  go_enter Try.func56, Try.ntmps56
  go_wp2_with fail
  go_loopw [5, 6] (fun i j wr => ∃ I J : Nat, I ≤ L ∧ L ≤ J ∧ J ≤ n ∧ i = .int .i64 (I : Int) ∧ j = .int .i64 (J : Int) ∧ Below w.heap.size w wr) (fun i j _ => (intOf j).toNat - (intOf i).toNat)
  case atStart => exact ⟨0, n, by omega, hll, by omega, rfl, rfl, Below.refl _ _⟩
  case round =>
    obtain ⟨w2, rfl⟩ : ∃ y : World, y = wr := ⟨_, rfl⟩
    obtain ⟨I, J, hI, hJ, hJn, rfl, rfl, hb2⟩ := hrel
    have HB2 := Lib.hid hb2
    by_cases hlt : I < J
    · have hlt' : decide ((I : Int) < (J : Int)) = true := by simp; omega
      obtain ⟨M, hM⟩ : ∃ M, (I + J) / 2 = M := ⟨_, rfl⟩
      have hM1 : I ≤ M := by omega
      have hM2 : M < J := by omega
      obtain ⟨x, hx⟩ : ∃ x, cs[M]? = some x := ⟨_, List.getElem?_eq_getElem (by have := HL.out; omega)⟩
      have HX := Lib.hid hx
      have HQ := Lib.hid (HI.out M x hx)
      have HM := Lib.hid hM
      clear hx hb2 hM
      go_wp2_with fail
      rw [show ((I : Int) + (J : Int)) / 2 = (M : Int) from by have := HM.out; omega]
      refine (cacheClosureG gb p1 p2 a n c M cs t x _ (blk_ext HB2.out H1.out) (blk_ext HB2.out H2.out) (HE.out.ext HB2.out) HX.out HL.out hn).mono ?_
      rintro e w3 ⟨rfl, hb3⟩
      rw [HQ.out]
      have HB3 := Lib.hid (ext_trans HB2.out hb3)
      clear hb3
      by_cases hml : M < L
      · rw [decide_eq_true hml]
        go_wp2
        go_roundw
        case rel => exact ⟨M + 1, J, by omega, hJ, hJn, by go_num, rfl, HB3.out⟩
        case measure => simp [intOf]; omega
      · rw [decide_eq_false hml]
        go_wp2
        go_roundw
        case rel => exact ⟨I, M, hI, by omega, by omega, rfl, by go_num, HB3.out⟩
        case measure => simp [intOf]; omega
    · obtain rfl : I = L := by omega
      have hlt' : decide ((I : Int) < (J : Int)) = false := by simp; omega
      clear hb2
      go_wp2
      go_ret
      exact ⟨rfl, HB2.out⟩
set_option maxRecDepth 100000 in
set_option maxHeartbeats 4000000 in
theorem cachePutNG (base n c : Nat) (a : Option Addr) (cs : List Cd) (t : Cd) (w : World) (h : OwnC base w (.slice a n c) cs) (hl : cs.length = n) (hn : n ≤ 1000) (hs : Asc (cs.map zE)) (hbase : base ≤ w.heap.size) (hg : t.g = true) (hin : isIn (ck t) (cs.map zE) = false) :
    Calls Try.prog 45 #[.slice a n c, .agg #[.string t.a, .string t.i, .int .i64 t.s, .int .i64 t.o, .int .i64 t.l, .int .i64 t.t, .int .i64 t.k, .int .i64 t.n, .bool true]] w fun r w' => ∃ v', r = .returned v' ∧ OwnC base w' v' (putC cs t) ∧ Below base w w' := by
  have D0 := Lib.hid (show Below w.heap.size w ((w.alloc (.cells #[.slice a n c] 33)).alloc (.cells #[.string t.a, .string t.i, .int .i64 t.s, .int .i64 t.o, .int .i64 t.l, .int .i64 t.t, .int .i64 t.k, .int .i64 t.n, .bool true] 49)) from ((Below.refl _ _).alloc (Nat.le_refl _) _).alloc (by simp) _)
  have HX1 := Lib.hid (blk_alloc (blk_new w #[.slice a n c] 33) (.cells #[.string t.a, .string t.i, .int .i64 t.s, .int .i64 t.o, .int .i64 t.l, .int .i64 t.t, .int .i64 t.k, .int .i64 t.n, .bool true] 49))
  have HX2 := Lib.hid (show ((w.alloc (.cells #[.slice a n c] 33)).alloc (.cells #[.string t.a, .string t.i, .int .i64 t.s, .int .i64 t.o, .int .i64 t.l, .int .i64 t.t, .int .i64 t.k, .int .i64 t.n, .bool true] 49)).heap[w.heap.size + 1]? = some (.cells #[.string t.a, .string t.i, .int .i64 t.s, .int .i64 t.o, .int .i64 t.l, .int .i64 t.t, .int .i64 t.k, .int .i64 t.n, .bool true] 49 (0, 0)) from blk_new_at (by simp) _ _)
  have HBW := Lib.hid (show ∀ g o, a = some ⟨g, o, none⟩ → base ≤ g ∧ g < w.heap.size ∧ o = 0 from by
    obtain ⟨a', c', e1, -, -, -, h5, -⟩ := h.read
    simp only [Value.slice.injEq] at e1
    obtain ⟨rfl, -, rfl⟩ := e1
    exact fun g o e => ⟨(h5 g o e).1, (h5 g o e).2.1, (h5 g o e).2.2⟩)
  have HO := Lib.hid (OwnR.ext h D0.out)
  have HL := Lib.hid hl
  have hll : low (ck t) (cs.map zE) ≤ n := by have := low_le (ck t) (cs.map zE); rw [List.length_map] at this; omega
  have HI := Lib.hid (show ∀ (p : Nat) (x : Cd), cs[p]? = some x → decide (kc x.a x.i t.a t.i < 0) = decide (p < low (ck t) (cs.map zE)) from fun p x hx => low_iff (ck t) (cs.map zE) hs p (zE x) (by rw [List.getElem?_map, hx]; rfl))
  obtain ⟨L, hL⟩ : ∃ L, low (ck t) (cs.map zE) = L := ⟨_, rfl⟩
  have HLW := Lib.hid hL
  rw [hL] at hll HI
  have HIN := Lib.hid hin
  clear h hl hs hL hin
  go_enter Try.func45, Try.ntmps45
  go_upto_region 1 with (fail)
  obtain ⟨p1, hp1⟩ : ∃ p, w.heap.size = p := ⟨_, rfl⟩
  obtain ⟨p2, hp2⟩ : ∃ r, w.heap.size + 1 = r := ⟨_, rfl⟩
  have HPL := Lib.hid (show w.heap.size ≤ p1 ∧ w.heap.size ≤ p2 ∧ p2 ≠ p1 from ⟨by omega, by omega, by omega⟩)
  rw [hp1] at HX1
  rw [hp2] at HX2
  try rw [hp2]
  try rw [hp1]
  try rw [hp1] at hp2
  try rw [hp2]
  clear hp1 hp2
  generalize ((w.alloc (.cells #[.slice a n c] 33)).alloc (.cells #[.string t.a, .string t.i, .int .i64 t.s, .int .i64 t.o, .int .i64 t.l, .int .i64 t.t, .int .i64 t.k, .int .i64 t.n, .bool true] 49)) = w2 at *
  have hk1 := blk_cell HX1.out
  have hl1 := blk_lt HX1.out
  have hk2 := blk_cell HX2.out
  have hl2 := blk_lt HX2.out
  have HC := Lib.hid (show CAt w2 a cs from by
    obtain ⟨a', c', e1, -, -, h3, -, -⟩ := (show OwnC base w2 (.slice a n c) cs from HO.out).read
    simp only [Value.slice.injEq] at e1
    obtain ⟨rfl, -, rfl⟩ := e1
    exact h3)
  go_wp2_with fail
  refine (cacheSearchG true p1 p2 a n c L cs t _ HX1.out HX2.out HC.out HI.out hll HL.out hn).mono ?_
  rintro e w3 ⟨rfl, hb⟩
  have HY1 := Lib.hid (blk_ext hb HX1.out)
  have HY2 := Lib.hid (blk_ext hb HX2.out)
  have HO3 := Lib.hid (OwnR.ext HO.out hb)
  have HC3 := Lib.hid (HC.out.ext hb)
  have D3 := Lib.hid (ext_trans D0.out hb)
  clear hk1 hl1 hk2 hl2 hb HX1 HX2 HO D0 HC HI
  go_upto_region 2 with (fail)
  by_cases hp : L < n
  · obtain ⟨x, hx⟩ : ∃ x, cs[L]? = some x := ⟨_, List.getElem?_eq_getElem (by have := HL.out; omega)⟩
    have hne : ¬ (x.a = t.a ∧ x.i = t.i) := fun e => by
      have h9 := HIN.out
      unfold isIn at h9
      rw [HLW.out, List.getElem?_map, hx] at h9
      simp [zE, ck, e.1, e.2] at h9
    obtain ⟨b, o, rfl⟩ : ∃ b o, a = some ⟨b, o, none⟩ := by
      rcases HC3.out with h | ⟨b, o, e, _⟩
      · rw [h] at hx; simp at hx
      · exact ⟨b, o, e⟩
    obtain ⟨x0, x1, -⟩ := HC3.out.at hx
    have hd1 : decide ((L : Int) < (n : Int)) = true := by simp; omega
    have hd2 : (L : Int) < (n : Int) := by omega
    clear hx HC3
    by_cases e1 : x.a = t.a
    · have h4 : ¬ x.i.toList = t.i.toList := fun e => hne ⟨e1, str_inj e⟩
      rw [e1] at x0
      clear e1 hne
      haveI hIq : Nonempty (Of w3) := of_some _
      have hF0 := of_cell x0
      have hF1 := of_cell x1
      have hG0 := blk_of HY1.out
      have hG1 := blk_of HY2.out
      first | (refine wp_region_stay w3 (by kernel_rfl) (by kernel_rfl) (by go_grown) ?_) | (refine wp_region_stay_seq w3 (by go_grown) ?_)
      repeat (go_big_quiet_step (fail))
      refine wpQuiet_nil ?_
      intro w4 hb4
      clear hIq hF0 hF1 hG0 hG1
      have HZ1 := Lib.hid (blk_ext hb4 HY1.out)
      have HZ2 := Lib.hid (blk_ext hb4 HY2.out)
      have HO4 := Lib.hid (OwnR.ext HO3.out hb4)
      have D4 := Lib.hid (ext_trans D3.out hb4)
      clear hb4 HY1 HY2 HO3 D3
      have hk1 := blk_cell HZ1.out
      have hl1 := blk_lt HZ1.out
      have hk2 := blk_cell HZ2.out
      have hl2 := blk_lt HZ2.out
      go_wp2
      go_ret
      exact ⟨_, rfl, by unfold putC; rw [HIN.out, hg]; exact HO4.out, D4.out.mono hbase⟩
    · have h4 : ¬ x.a.toList = t.a.toList := fun e => e1 (str_inj e)
      clear e1 hne
      haveI hIq : Nonempty (Of w3) := of_some _
      have hF0 := of_cell x0
      have hF1 := of_cell x1
      have hG0 := blk_of HY1.out
      have hG1 := blk_of HY2.out
      first | (refine wp_region_stay w3 (by kernel_rfl) (by kernel_rfl) (by go_grown) ?_) | (refine wp_region_stay_seq w3 (by go_grown) ?_)
      repeat (go_big_quiet_step (fail))
      refine wpQuiet_nil ?_
      intro w4 hb4
      clear hIq hF0 hF1 hG0 hG1
      have HZ1 := Lib.hid (blk_ext hb4 HY1.out)
      have HZ2 := Lib.hid (blk_ext hb4 HY2.out)
      have HO4 := Lib.hid (OwnR.ext HO3.out hb4)
      have D4 := Lib.hid (ext_trans D3.out hb4)
      clear hb4 HY1 HY2 HO3 D3
      have hk1 := blk_cell HZ1.out
      have hl1 := blk_lt HZ1.out
      have hk2 := blk_cell HZ2.out
      have hl2 := blk_lt HZ2.out
      go_wp2
      go_ret
      exact ⟨_, rfl, by unfold putC; rw [HIN.out, hg]; exact HO4.out, D4.out.mono hbase⟩
  · have hd1 : decide ((L : Int) < (n : Int)) = false := by simp; omega
    clear HC3
    haveI hIq : Nonempty (Of w3) := of_some _
    have hG0 := blk_of HY1.out
    have hG1 := blk_of HY2.out
    first | (refine wp_region_stay w3 (by kernel_rfl) (by kernel_rfl) (by go_grown) ?_) | (refine wp_region_stay_seq w3 (by go_grown) ?_)
    repeat (go_big_quiet_step (fail))
    refine wpQuiet_nil ?_
    intro w4 hb4
    clear hIq hG0 hG1
    have HZ1 := Lib.hid (blk_ext hb4 HY1.out)
    have HZ2 := Lib.hid (blk_ext hb4 HY2.out)
    have HO4 := Lib.hid (OwnR.ext HO3.out hb4)
    have D4 := Lib.hid (ext_trans D3.out hb4)
    clear hb4 HY1 HY2 HO3 D3
    have hk1 := blk_cell HZ1.out
    have hl1 := blk_lt HZ1.out
    have hk2 := blk_cell HZ2.out
    have hl2 := blk_lt HZ2.out
    go_wp2
    go_ret
    exact ⟨_, rfl, by unfold putC; rw [HIN.out, hg]; exact HO4.out, D4.out.mono hbase⟩

set_option maxRecDepth 100000 in
set_option maxHeartbeats 4000000 in
theorem cachePutNP (base n c : Nat) (a : Option Addr) (cs : List Cd) (t : Cd) (w : World) (h : OwnC base w (.slice a n c) cs) (hl : cs.length = n) (hn : n ≤ 1000) (hs : Asc (cs.map zE)) (hbase : base ≤ w.heap.size) (hg : t.g = false) (hin : isIn (ck t) (cs.map zE) = false) :
    Calls Try.prog 45 #[.slice a n c, .agg #[.string t.a, .string t.i, .int .i64 t.s, .int .i64 t.o, .int .i64 t.l, .int .i64 t.t, .int .i64 t.k, .int .i64 t.n, .bool false]] w fun r w' => ∃ v', r = .returned v' ∧ OwnC base w' v' (putC cs t) ∧ Below base w w' := by
  have D0 := Lib.hid (show Below w.heap.size w ((w.alloc (.cells #[.slice a n c] 33)).alloc (.cells #[.string t.a, .string t.i, .int .i64 t.s, .int .i64 t.o, .int .i64 t.l, .int .i64 t.t, .int .i64 t.k, .int .i64 t.n, .bool false] 49)) from ((Below.refl _ _).alloc (Nat.le_refl _) _).alloc (by simp) _)
  have HX1 := Lib.hid (blk_alloc (blk_new w #[.slice a n c] 33) (.cells #[.string t.a, .string t.i, .int .i64 t.s, .int .i64 t.o, .int .i64 t.l, .int .i64 t.t, .int .i64 t.k, .int .i64 t.n, .bool false] 49))
  have HX2 := Lib.hid (show ((w.alloc (.cells #[.slice a n c] 33)).alloc (.cells #[.string t.a, .string t.i, .int .i64 t.s, .int .i64 t.o, .int .i64 t.l, .int .i64 t.t, .int .i64 t.k, .int .i64 t.n, .bool false] 49)).heap[w.heap.size + 1]? = some (.cells #[.string t.a, .string t.i, .int .i64 t.s, .int .i64 t.o, .int .i64 t.l, .int .i64 t.t, .int .i64 t.k, .int .i64 t.n, .bool false] 49 (0, 0)) from blk_new_at (by simp) _ _)
  have HBW := Lib.hid (show ∀ g o, a = some ⟨g, o, none⟩ → base ≤ g ∧ g < w.heap.size ∧ o = 0 from by
    obtain ⟨a', c', e1, -, -, -, h5, -⟩ := h.read
    simp only [Value.slice.injEq] at e1
    obtain ⟨rfl, -, rfl⟩ := e1
    exact fun g o e => ⟨(h5 g o e).1, (h5 g o e).2.1, (h5 g o e).2.2⟩)
  have HO := Lib.hid (OwnR.ext h D0.out)
  have HL := Lib.hid hl
  have hll : low (ck t) (cs.map zE) ≤ n := by have := low_le (ck t) (cs.map zE); rw [List.length_map] at this; omega
  have HI := Lib.hid (show ∀ (p : Nat) (x : Cd), cs[p]? = some x → decide (kc x.a x.i t.a t.i < 0) = decide (p < low (ck t) (cs.map zE)) from fun p x hx => low_iff (ck t) (cs.map zE) hs p (zE x) (by rw [List.getElem?_map, hx]; rfl))
  obtain ⟨L, hL⟩ : ∃ L, low (ck t) (cs.map zE) = L := ⟨_, rfl⟩
  have HLW := Lib.hid hL
  rw [hL] at hll HI
  have HIN := Lib.hid hin
  clear h hl hs hL hin
  go_enter Try.func45, Try.ntmps45
  go_upto_region 1 with (fail)
  obtain ⟨p1, hp1⟩ : ∃ p, w.heap.size = p := ⟨_, rfl⟩
  obtain ⟨p2, hp2⟩ : ∃ r, w.heap.size + 1 = r := ⟨_, rfl⟩
  have HPL := Lib.hid (show w.heap.size ≤ p1 ∧ w.heap.size ≤ p2 ∧ p2 ≠ p1 from ⟨by omega, by omega, by omega⟩)
  rw [hp1] at HX1
  rw [hp2] at HX2
  try rw [hp2]
  try rw [hp1]
  try rw [hp1] at hp2
  try rw [hp2]
  clear hp1 hp2
  generalize ((w.alloc (.cells #[.slice a n c] 33)).alloc (.cells #[.string t.a, .string t.i, .int .i64 t.s, .int .i64 t.o, .int .i64 t.l, .int .i64 t.t, .int .i64 t.k, .int .i64 t.n, .bool false] 49)) = w2 at *
  have hk1 := blk_cell HX1.out
  have hl1 := blk_lt HX1.out
  have hk2 := blk_cell HX2.out
  have hl2 := blk_lt HX2.out
  have HC := Lib.hid (show CAt w2 a cs from by
    obtain ⟨a', c', e1, -, -, h3, -, -⟩ := (show OwnC base w2 (.slice a n c) cs from HO.out).read
    simp only [Value.slice.injEq] at e1
    obtain ⟨rfl, -, rfl⟩ := e1
    exact h3)
  go_wp2_with fail
  refine (cacheSearchG false p1 p2 a n c L cs t _ HX1.out HX2.out HC.out HI.out hll HL.out hn).mono ?_
  rintro e w3 ⟨rfl, hb⟩
  have HY1 := Lib.hid (blk_ext hb HX1.out)
  have HY2 := Lib.hid (blk_ext hb HX2.out)
  have HO3 := Lib.hid (OwnR.ext HO.out hb)
  have HC3 := Lib.hid (HC.out.ext hb)
  have D3 := Lib.hid (ext_trans D0.out hb)
  clear hk1 hl1 hk2 hl2 hb HX1 HX2 HO D0 HC HI
  go_upto_region 2 with (fail)
  by_cases hp : L < n
  · obtain ⟨x, hx⟩ : ∃ x, cs[L]? = some x := ⟨_, List.getElem?_eq_getElem (by have := HL.out; omega)⟩
    have hne : ¬ (x.a = t.a ∧ x.i = t.i) := fun e => by
      have h9 := HIN.out
      unfold isIn at h9
      rw [HLW.out, List.getElem?_map, hx] at h9
      simp [zE, ck, e.1, e.2] at h9
    obtain ⟨b, o, rfl⟩ : ∃ b o, a = some ⟨b, o, none⟩ := by
      rcases HC3.out with h | ⟨b, o, e, _⟩
      · rw [h] at hx; simp at hx
      · exact ⟨b, o, e⟩
    obtain ⟨x0, x1, -⟩ := HC3.out.at hx
    have hd1 : decide ((L : Int) < (n : Int)) = true := by simp; omega
    have hd2 : (L : Int) < (n : Int) := by omega
    clear hx HC3
    by_cases e1 : x.a = t.a
    · have h4 : ¬ x.i.toList = t.i.toList := fun e => hne ⟨e1, str_inj e⟩
      rw [e1] at x0
      clear e1 hne
      haveI hIq : Nonempty (Of w3) := of_some _
      have hF0 := of_cell x0
      have hF1 := of_cell x1
      have hG0 := blk_of HY1.out
      have hG1 := blk_of HY2.out
      first | (refine wp_region_stay w3 (by kernel_rfl) (by kernel_rfl) (by go_grown) ?_) | (refine wp_region_stay_seq w3 (by go_grown) ?_)
      repeat (go_big_quiet_step (fail))
      refine wpQuiet_nil ?_
      intro w4 hb4
      clear hIq hF0 hF1 hG0 hG1
      have HZ1 := Lib.hid (blk_ext hb4 HY1.out)
      have HZ2 := Lib.hid (blk_ext hb4 HY2.out)
      have HO4 := Lib.hid (OwnR.ext HO3.out hb4)
      have D4 := Lib.hid (ext_trans D3.out hb4)
      clear hb4 HY1 HY2 HO3 D3
      have hk1 := blk_cell HZ1.out
      have hl1 := blk_lt HZ1.out
      have hk2 := blk_cell HZ2.out
      have hl2 := blk_lt HZ2.out
      have HL4 := HL
      have hn4 := hn
      have hll4 := hll
      have E5 := Lib.hid (show Below w4.heap.size w4 (w4.alloc (.cells #[.string t.a, .string t.i, .int .i64 t.s, .int .i64 t.o, .int .i64 t.l, .int .i64 t.t, .int .i64 t.k, .int .i64 t.n, .bool false] 49)) from (Below.refl _ _).alloc (Nat.le_refl _) _)
      have HV5 := Lib.hid (show (w4.alloc (.cells #[.string t.a, .string t.i, .int .i64 t.s, .int .i64 t.o, .int .i64 t.l, .int .i64 t.t, .int .i64 t.k, .int .i64 t.n, .bool false] 49)).heap[w4.heap.size]? = some (.cells #[.string t.a, .string t.i, .int .i64 t.s, .int .i64 t.o, .int .i64 t.l, .int .i64 t.t, .int .i64 t.k, .int .i64 t.n, .bool t.g] 49 (0, 0)) from by rw [hg]; exact blk_new w4 _ _)
      have HO5 := Lib.hid (OwnR.ext HO4.out E5.out)
      have hs4 : base ≤ w4.heap.size := Nat.le_trans hbase (D4.out.mono hbase).size
      have hsz : base ≤ (w4.alloc (.cells #[.string t.a, .string t.i, .int .i64 t.s, .int .i64 t.o, .int .i64 t.l, .int .i64 t.t, .int .i64 t.k, .int .i64 t.n, .bool false] 49)).heap.size := Nat.le_trans hs4 E5.out.size
      have HNV := Lib.hid (show ∀ (g9 o9 : Nat), (some ⟨b, o, none⟩ : Option Addr) = some ⟨g9, o9, none⟩ → w4.heap.size ≠ g9 from fun g9 o9 e => by
        obtain ⟨a', c', e1, -, -, -, h5, -⟩ := (show OwnC base w4 (.slice (some ⟨b, o, none⟩) (n) (c)) (cs) from HO4.out).read
        simp only [Value.slice.injEq] at e1
        obtain ⟨e2, -, -⟩ := e1
        rw [← e2] at h5
        have := (h5 g9 o9 e).2.1
        omega)
      go_wp2_with fail
      refine (insertEK base (some ⟨b, o, none⟩) (n) (c) L (cs) t w4.heap.size _ HO5.out HL4.out hn4 hll4 HV5.out HNV.out hsz).mono ?_
      rintro e w6 ⟨v', rfl, ho, hb⟩
      have HO6 := Lib.hid ho
      have D6 := Lib.hid (show Below base w w6 from ((D4.out.mono hbase).trans (E5.out.mono hs4)).trans hb)
      clear ho hb hk1 hl1 hk2 hl2
      go_wp2
      go_ret
      exact ⟨v', rfl, by unfold putC; rw [HIN.out, hg, HLW.out]; exact HO6.out, D6.out⟩
    · have h4 : ¬ x.a.toList = t.a.toList := fun e => e1 (str_inj e)
      clear e1 hne
      haveI hIq : Nonempty (Of w3) := of_some _
      have hF0 := of_cell x0
      have hF1 := of_cell x1
      have hG0 := blk_of HY1.out
      have hG1 := blk_of HY2.out
      first | (refine wp_region_stay w3 (by kernel_rfl) (by kernel_rfl) (by go_grown) ?_) | (refine wp_region_stay_seq w3 (by go_grown) ?_)
      repeat (go_big_quiet_step (fail))
      refine wpQuiet_nil ?_
      intro w4 hb4
      clear hIq hF0 hF1 hG0 hG1
      have HZ1 := Lib.hid (blk_ext hb4 HY1.out)
      have HZ2 := Lib.hid (blk_ext hb4 HY2.out)
      have HO4 := Lib.hid (OwnR.ext HO3.out hb4)
      have D4 := Lib.hid (ext_trans D3.out hb4)
      clear hb4 HY1 HY2 HO3 D3
      have hk1 := blk_cell HZ1.out
      have hl1 := blk_lt HZ1.out
      have hk2 := blk_cell HZ2.out
      have hl2 := blk_lt HZ2.out
      have HL4 := HL
      have hn4 := hn
      have hll4 := hll
      have E5 := Lib.hid (show Below w4.heap.size w4 (w4.alloc (.cells #[.string t.a, .string t.i, .int .i64 t.s, .int .i64 t.o, .int .i64 t.l, .int .i64 t.t, .int .i64 t.k, .int .i64 t.n, .bool false] 49)) from (Below.refl _ _).alloc (Nat.le_refl _) _)
      have HV5 := Lib.hid (show (w4.alloc (.cells #[.string t.a, .string t.i, .int .i64 t.s, .int .i64 t.o, .int .i64 t.l, .int .i64 t.t, .int .i64 t.k, .int .i64 t.n, .bool false] 49)).heap[w4.heap.size]? = some (.cells #[.string t.a, .string t.i, .int .i64 t.s, .int .i64 t.o, .int .i64 t.l, .int .i64 t.t, .int .i64 t.k, .int .i64 t.n, .bool t.g] 49 (0, 0)) from by rw [hg]; exact blk_new w4 _ _)
      have HO5 := Lib.hid (OwnR.ext HO4.out E5.out)
      have hs4 : base ≤ w4.heap.size := Nat.le_trans hbase (D4.out.mono hbase).size
      have hsz : base ≤ (w4.alloc (.cells #[.string t.a, .string t.i, .int .i64 t.s, .int .i64 t.o, .int .i64 t.l, .int .i64 t.t, .int .i64 t.k, .int .i64 t.n, .bool false] 49)).heap.size := Nat.le_trans hs4 E5.out.size
      have HNV := Lib.hid (show ∀ (g9 o9 : Nat), (some ⟨b, o, none⟩ : Option Addr) = some ⟨g9, o9, none⟩ → w4.heap.size ≠ g9 from fun g9 o9 e => by
        obtain ⟨a', c', e1, -, -, -, h5, -⟩ := (show OwnC base w4 (.slice (some ⟨b, o, none⟩) (n) (c)) (cs) from HO4.out).read
        simp only [Value.slice.injEq] at e1
        obtain ⟨e2, -, -⟩ := e1
        rw [← e2] at h5
        have := (h5 g9 o9 e).2.1
        omega)
      go_wp2_with fail
      refine (insertEK base (some ⟨b, o, none⟩) (n) (c) L (cs) t w4.heap.size _ HO5.out HL4.out hn4 hll4 HV5.out HNV.out hsz).mono ?_
      rintro e w6 ⟨v', rfl, ho, hb⟩
      have HO6 := Lib.hid ho
      have D6 := Lib.hid (show Below base w w6 from ((D4.out.mono hbase).trans (E5.out.mono hs4)).trans hb)
      clear ho hb hk1 hl1 hk2 hl2
      go_wp2
      go_ret
      exact ⟨v', rfl, by unfold putC; rw [HIN.out, hg, HLW.out]; exact HO6.out, D6.out⟩
  · have hd1 : decide ((L : Int) < (n : Int)) = false := by simp; omega
    clear HC3
    haveI hIq : Nonempty (Of w3) := of_some _
    have hG0 := blk_of HY1.out
    have hG1 := blk_of HY2.out
    first | (refine wp_region_stay w3 (by kernel_rfl) (by kernel_rfl) (by go_grown) ?_) | (refine wp_region_stay_seq w3 (by go_grown) ?_)
    repeat (go_big_quiet_step (fail))
    refine wpQuiet_nil ?_
    intro w4 hb4
    clear hIq hG0 hG1
    have HZ1 := Lib.hid (blk_ext hb4 HY1.out)
    have HZ2 := Lib.hid (blk_ext hb4 HY2.out)
    have HO4 := Lib.hid (OwnR.ext HO3.out hb4)
    have D4 := Lib.hid (ext_trans D3.out hb4)
    clear hb4 HY1 HY2 HO3 D3
    have hk1 := blk_cell HZ1.out
    have hl1 := blk_lt HZ1.out
    have hk2 := blk_cell HZ2.out
    have hl2 := blk_lt HZ2.out
    have HL4 := HL
    have hn4 := hn
    have hll4 := hll
    have E5 := Lib.hid (show Below w4.heap.size w4 (w4.alloc (.cells #[.string t.a, .string t.i, .int .i64 t.s, .int .i64 t.o, .int .i64 t.l, .int .i64 t.t, .int .i64 t.k, .int .i64 t.n, .bool false] 49)) from (Below.refl _ _).alloc (Nat.le_refl _) _)
    have HV5 := Lib.hid (show (w4.alloc (.cells #[.string t.a, .string t.i, .int .i64 t.s, .int .i64 t.o, .int .i64 t.l, .int .i64 t.t, .int .i64 t.k, .int .i64 t.n, .bool false] 49)).heap[w4.heap.size]? = some (.cells #[.string t.a, .string t.i, .int .i64 t.s, .int .i64 t.o, .int .i64 t.l, .int .i64 t.t, .int .i64 t.k, .int .i64 t.n, .bool t.g] 49 (0, 0)) from by rw [hg]; exact blk_new w4 _ _)
    have HO5 := Lib.hid (OwnR.ext HO4.out E5.out)
    have hs4 : base ≤ w4.heap.size := Nat.le_trans hbase (D4.out.mono hbase).size
    have hsz : base ≤ (w4.alloc (.cells #[.string t.a, .string t.i, .int .i64 t.s, .int .i64 t.o, .int .i64 t.l, .int .i64 t.t, .int .i64 t.k, .int .i64 t.n, .bool false] 49)).heap.size := Nat.le_trans hs4 E5.out.size
    have HNV := Lib.hid (show ∀ (g9 o9 : Nat), (a : Option Addr) = some ⟨g9, o9, none⟩ → w4.heap.size ≠ g9 from fun g9 o9 e => by
      obtain ⟨a', c', e1, -, -, -, h5, -⟩ := (show OwnC base w4 (.slice (a) (n) (c)) (cs) from HO4.out).read
      simp only [Value.slice.injEq] at e1
      obtain ⟨e2, -, -⟩ := e1
      rw [← e2] at h5
      have := (h5 g9 o9 e).2.1
      omega)
    go_wp2_with fail
    refine (insertEK base (a) (n) (c) L (cs) t w4.heap.size _ HO5.out HL4.out hn4 hll4 HV5.out HNV.out hsz).mono ?_
    rintro e w6 ⟨v', rfl, ho, hb⟩
    have HO6 := Lib.hid ho
    have D6 := Lib.hid (show Below base w w6 from ((D4.out.mono hbase).trans (E5.out.mono hs4)).trans hb)
    clear ho hb hk1 hl1 hk2 hl2
    go_wp2
    go_ret
    exact ⟨v', rfl, by unfold putC; rw [HIN.out, hg, HLW.out]; exact HO6.out, D6.out⟩

set_option maxRecDepth 100000 in
set_option maxHeartbeats 4000000 in
theorem cachePutFG (base n c : Nat) (a : Option Addr) (cs : List Cd) (t : Cd) (w : World) (h : OwnC base w (.slice a n c) cs) (hl : cs.length = n) (hn : n ≤ 1000) (hs : Asc (cs.map zE)) (hbase : base ≤ w.heap.size) (hg : t.g = true) (hin : isIn (ck t) (cs.map zE) = true) :
    Calls Try.prog 45 #[.slice a n c, .agg #[.string t.a, .string t.i, .int .i64 t.s, .int .i64 t.o, .int .i64 t.l, .int .i64 t.t, .int .i64 t.k, .int .i64 t.n, .bool true]] w fun r w' => ∃ v', r = .returned v' ∧ OwnC base w' v' (putC cs t) ∧ Below base w w' := by
  have D0 := Lib.hid (show Below w.heap.size w ((w.alloc (.cells #[.slice a n c] 33)).alloc (.cells #[.string t.a, .string t.i, .int .i64 t.s, .int .i64 t.o, .int .i64 t.l, .int .i64 t.t, .int .i64 t.k, .int .i64 t.n, .bool true] 49)) from ((Below.refl _ _).alloc (Nat.le_refl _) _).alloc (by simp) _)
  have HX1 := Lib.hid (blk_alloc (blk_new w #[.slice a n c] 33) (.cells #[.string t.a, .string t.i, .int .i64 t.s, .int .i64 t.o, .int .i64 t.l, .int .i64 t.t, .int .i64 t.k, .int .i64 t.n, .bool true] 49))
  have HX2 := Lib.hid (show ((w.alloc (.cells #[.slice a n c] 33)).alloc (.cells #[.string t.a, .string t.i, .int .i64 t.s, .int .i64 t.o, .int .i64 t.l, .int .i64 t.t, .int .i64 t.k, .int .i64 t.n, .bool true] 49)).heap[w.heap.size + 1]? = some (.cells #[.string t.a, .string t.i, .int .i64 t.s, .int .i64 t.o, .int .i64 t.l, .int .i64 t.t, .int .i64 t.k, .int .i64 t.n, .bool true] 49 (0, 0)) from blk_new_at (by simp) _ _)
  have HBW := Lib.hid (show ∀ g o, a = some ⟨g, o, none⟩ → base ≤ g ∧ g < w.heap.size ∧ o = 0 from by
    obtain ⟨a', c', e1, -, -, -, h5, -⟩ := h.read
    simp only [Value.slice.injEq] at e1
    obtain ⟨rfl, -, rfl⟩ := e1
    exact fun g o e => ⟨(h5 g o e).1, (h5 g o e).2.1, (h5 g o e).2.2⟩)
  have HO := Lib.hid (OwnR.ext h D0.out)
  have HL := Lib.hid hl
  have hll : low (ck t) (cs.map zE) ≤ n := by have := low_le (ck t) (cs.map zE); rw [List.length_map] at this; omega
  have HI := Lib.hid (show ∀ (p : Nat) (x : Cd), cs[p]? = some x → decide (kc x.a x.i t.a t.i < 0) = decide (p < low (ck t) (cs.map zE)) from fun p x hx => low_iff (ck t) (cs.map zE) hs p (zE x) (by rw [List.getElem?_map, hx]; rfl))
  obtain ⟨L, hL⟩ : ∃ L, low (ck t) (cs.map zE) = L := ⟨_, rfl⟩
  have HLW := Lib.hid hL
  rw [hL] at hll HI
  have HIN := Lib.hid hin
  clear h hl hs hL hin
  go_enter Try.func45, Try.ntmps45
  go_upto_region 1 with (fail)
  obtain ⟨p1, hp1⟩ : ∃ p, w.heap.size = p := ⟨_, rfl⟩
  obtain ⟨p2, hp2⟩ : ∃ r, w.heap.size + 1 = r := ⟨_, rfl⟩
  have HPL := Lib.hid (show w.heap.size ≤ p1 ∧ w.heap.size ≤ p2 ∧ p2 ≠ p1 from ⟨by omega, by omega, by omega⟩)
  rw [hp1] at HX1
  rw [hp2] at HX2
  try rw [hp2]
  try rw [hp1]
  try rw [hp1] at hp2
  try rw [hp2]
  clear hp1 hp2
  generalize ((w.alloc (.cells #[.slice a n c] 33)).alloc (.cells #[.string t.a, .string t.i, .int .i64 t.s, .int .i64 t.o, .int .i64 t.l, .int .i64 t.t, .int .i64 t.k, .int .i64 t.n, .bool true] 49)) = w2 at *
  have hk1 := blk_cell HX1.out
  have hl1 := blk_lt HX1.out
  have hk2 := blk_cell HX2.out
  have hl2 := blk_lt HX2.out
  have HC := Lib.hid (show CAt w2 a cs from by
    obtain ⟨a', c', e1, -, -, h3, -, -⟩ := (show OwnC base w2 (.slice a n c) cs from HO.out).read
    simp only [Value.slice.injEq] at e1
    obtain ⟨rfl, -, rfl⟩ := e1
    exact h3)
  go_wp2_with fail
  refine (cacheSearchG true p1 p2 a n c L cs t _ HX1.out HX2.out HC.out HI.out hll HL.out hn).mono ?_
  rintro e w3 ⟨rfl, hb⟩
  have HY1 := Lib.hid (blk_ext hb HX1.out)
  have HY2 := Lib.hid (blk_ext hb HX2.out)
  have HO3 := Lib.hid (OwnR.ext HO.out hb)
  have HC3 := Lib.hid (HC.out.ext hb)
  have D3 := Lib.hid (ext_trans D0.out hb)
  clear hk1 hl1 hk2 hl2 hb HX1 HX2 HO D0 HC HI
  go_upto_region 2 with (fail)
  obtain ⟨x, hx, e1, e2⟩ : ∃ x, cs[L]? = some x ∧ x.a = t.a ∧ x.i = t.i := by
    obtain ⟨y, hy, h1, h2⟩ := isIn_at HIN.out
    rw [HLW.out, List.getElem?_map] at hy
    obtain ⟨x, hx, rfl⟩ := Option.map_eq_some_iff.1 hy
    exact ⟨x, hx, h1, h2⟩
  have hp : L < n := by have := (List.getElem?_eq_some_iff.1 hx).1; have := HL.out; omega
  obtain ⟨b, o, rfl⟩ : ∃ b o, a = some ⟨b, o, none⟩ := by
    rcases HC3.out with h | ⟨b, o, e, _⟩
    · rw [h] at hx; simp at hx
    · exact ⟨b, o, e⟩
  obtain ⟨x0, x1, -⟩ := HC3.out.at hx
  have hd1 : decide ((L : Int) < (n : Int)) = true := by simp; omega
  have hd2 : (L : Int) < (n : Int) := by omega
  rw [e1] at x0
  rw [e2] at x1
  clear hx HC3 e1 e2
  haveI hIq : Nonempty (Of w3) := of_some _
  have hF0 := of_cell x0
  have hF1 := of_cell x1
  have hG0 := blk_of HY1.out
  have hG1 := blk_of HY2.out
  first | (refine wp_region_stay w3 (by kernel_rfl) (by kernel_rfl) (by go_grown) ?_) | (refine wp_region_stay_seq w3 (by go_grown) ?_)
  repeat (go_big_quiet_step (fail))
  refine wpQuiet_nil ?_
  intro w4 hb4
  clear hIq hF0 hF1 hG0 hG1
  have HZ1 := Lib.hid (blk_ext hb4 HY1.out)
  have HZ2 := Lib.hid (blk_ext hb4 HY2.out)
  have HO4 := Lib.hid (OwnR.ext HO3.out hb4)
  have D4 := Lib.hid (ext_trans D3.out hb4)
  clear hb4 HY1 HY2 HO3 D3
  have hk1 := blk_cell HZ1.out
  have hl1 := blk_lt HZ1.out
  have hk2 := blk_cell HZ2.out
  have hl2 := blk_lt HZ2.out
  obtain ⟨hbb, hbw, rfl⟩ := HBW.out b o rfl
  have hb1 : p1 ≠ b := by have := HPL.out; omega
  have hb2 : p2 ≠ b := by have := HPL.out; omega
  go_wp2_with fail
  refine (deleteEK base b n c L (L + 1) cs _ HO4.out HL.out hn hp rfl (Nat.le_trans hbase D4.out.size)).mono ?_
  rintro e w5 ⟨v', rfl, ho, hr⟩
  obtain ⟨a6, c6, rfl, -, -, h6⟩ := OwnR.form ho
  have e6 : (delAtK cs L).length = n - 1 := by rw [delAt_lenK cs L (by rw [HL.out]; exact hp), HL.out]
  rw [e6] at ho ⊢
  have HQ1 := Lib.hid ((hr.block p1 hb1 (blk_lt HZ1.out)).trans HZ1.out)
  have HQ2 := Lib.hid ((hr.block p2 hb2 (blk_lt HZ2.out)).trans HZ2.out)
  have D5 := Lib.hid (show Below base w w5 from (D4.out.mono hbase).trans (hr.below hbb (Nat.le_trans hbase D4.out.size)))
  have HLE := Lib.hid e6
  have HO5' := Lib.hid ho
  have hsz5 := hr.size
  clear ho hr e6 h6 hk1 hl1 hk2 hl2 HZ1 HZ2 HO4
  have hk1 := blk_cell HQ1.out
  have hl1 := blk_lt HQ1.out
  have hf1 := blk_free HQ1.out
  go_upto_region 4 with (fail)
  have hkp : Kept p1 w5 (w5.setCell ⟨p1, 0, none⟩ (.slice a6 (n - 1) c6)) := (Kept.refl p1 w5).setCell _ _
  have HU1 := Lib.hid (show (w5.setCell ⟨p1, 0, none⟩ (.slice a6 (n - 1) c6)).heap[p1]? = some (.cells #[.slice a6 (n - 1) c6] 33 (0, 0)) from blk_set HQ1.out (by first | rfl | simp))
  have HU2 := Lib.hid ((hkp.block p2 HPL.out.2.2).trans HQ2.out)
  have HO4 := Lib.hid (show OwnC base (w5.setCell ⟨p1, 0, none⟩ (.slice a6 (n - 1) c6)) (.slice a6 (n - 1) c6) (delAtK cs L) from own_blocks HO5'.out (fun b cur hc => hkp.block b (fun e => by subst e; have h9 := HQ1.out.symm.trans hc; simp at h9)))
  have D6' := Lib.hid (show Below base w (w5.setCell ⟨p1, 0, none⟩ (.slice a6 (n - 1) c6)) from D5.out.setCell (show base ≤ p1 from Nat.le_trans hbase HPL.out.1) _)
  clear hkp hk1 hl1 hf1 HQ1 HQ2 HO5' D5
  generalize (w5.setCell ⟨p1, 0, none⟩ (.slice a6 (n - 1) c6)) = w4 at *
  have hk1 := blk_cell HU1.out
  have hl1 := blk_lt HU1.out
  have hk2 := blk_cell HU2.out
  have hl2 := blk_lt HU2.out
  go_wp2
  go_ret
  exact ⟨_, rfl, by unfold putC; rw [HIN.out, hg, HLW.out]; exact HO4.out, D6'.out⟩

set_option maxRecDepth 100000 in
set_option maxHeartbeats 4000000 in
theorem cachePutFP (base n c : Nat) (a : Option Addr) (cs : List Cd) (t : Cd) (w : World) (h : OwnC base w (.slice a n c) cs) (hl : cs.length = n) (hn : n ≤ 1000) (hs : Asc (cs.map zE)) (hbase : base ≤ w.heap.size) (hg : t.g = false) (hin : isIn (ck t) (cs.map zE) = true) :
    Calls Try.prog 45 #[.slice a n c, .agg #[.string t.a, .string t.i, .int .i64 t.s, .int .i64 t.o, .int .i64 t.l, .int .i64 t.t, .int .i64 t.k, .int .i64 t.n, .bool false]] w fun r w' => ∃ v', r = .returned v' ∧ OwnC base w' v' (putC cs t) ∧ Below base w w' := by
  have D0 := Lib.hid (show Below w.heap.size w ((w.alloc (.cells #[.slice a n c] 33)).alloc (.cells #[.string t.a, .string t.i, .int .i64 t.s, .int .i64 t.o, .int .i64 t.l, .int .i64 t.t, .int .i64 t.k, .int .i64 t.n, .bool false] 49)) from ((Below.refl _ _).alloc (Nat.le_refl _) _).alloc (by simp) _)
  have HX1 := Lib.hid (blk_alloc (blk_new w #[.slice a n c] 33) (.cells #[.string t.a, .string t.i, .int .i64 t.s, .int .i64 t.o, .int .i64 t.l, .int .i64 t.t, .int .i64 t.k, .int .i64 t.n, .bool false] 49))
  have HX2 := Lib.hid (show ((w.alloc (.cells #[.slice a n c] 33)).alloc (.cells #[.string t.a, .string t.i, .int .i64 t.s, .int .i64 t.o, .int .i64 t.l, .int .i64 t.t, .int .i64 t.k, .int .i64 t.n, .bool false] 49)).heap[w.heap.size + 1]? = some (.cells #[.string t.a, .string t.i, .int .i64 t.s, .int .i64 t.o, .int .i64 t.l, .int .i64 t.t, .int .i64 t.k, .int .i64 t.n, .bool false] 49 (0, 0)) from blk_new_at (by simp) _ _)
  have HBW := Lib.hid (show ∀ g o, a = some ⟨g, o, none⟩ → base ≤ g ∧ g < w.heap.size ∧ o = 0 from by
    obtain ⟨a', c', e1, -, -, -, h5, -⟩ := h.read
    simp only [Value.slice.injEq] at e1
    obtain ⟨rfl, -, rfl⟩ := e1
    exact fun g o e => ⟨(h5 g o e).1, (h5 g o e).2.1, (h5 g o e).2.2⟩)
  have HO := Lib.hid (OwnR.ext h D0.out)
  have HL := Lib.hid hl
  have hll : low (ck t) (cs.map zE) ≤ n := by have := low_le (ck t) (cs.map zE); rw [List.length_map] at this; omega
  have HI := Lib.hid (show ∀ (p : Nat) (x : Cd), cs[p]? = some x → decide (kc x.a x.i t.a t.i < 0) = decide (p < low (ck t) (cs.map zE)) from fun p x hx => low_iff (ck t) (cs.map zE) hs p (zE x) (by rw [List.getElem?_map, hx]; rfl))
  obtain ⟨L, hL⟩ : ∃ L, low (ck t) (cs.map zE) = L := ⟨_, rfl⟩
  have HLW := Lib.hid hL
  rw [hL] at hll HI
  have HIN := Lib.hid hin
  clear h hl hs hL hin
  go_enter Try.func45, Try.ntmps45
  go_upto_region 1 with (fail)
  obtain ⟨p1, hp1⟩ : ∃ p, w.heap.size = p := ⟨_, rfl⟩
  obtain ⟨p2, hp2⟩ : ∃ r, w.heap.size + 1 = r := ⟨_, rfl⟩
  have HPL := Lib.hid (show w.heap.size ≤ p1 ∧ w.heap.size ≤ p2 ∧ p2 ≠ p1 from ⟨by omega, by omega, by omega⟩)
  rw [hp1] at HX1
  rw [hp2] at HX2
  try rw [hp2]
  try rw [hp1]
  try rw [hp1] at hp2
  try rw [hp2]
  clear hp1 hp2
  generalize ((w.alloc (.cells #[.slice a n c] 33)).alloc (.cells #[.string t.a, .string t.i, .int .i64 t.s, .int .i64 t.o, .int .i64 t.l, .int .i64 t.t, .int .i64 t.k, .int .i64 t.n, .bool false] 49)) = w2 at *
  have hk1 := blk_cell HX1.out
  have hl1 := blk_lt HX1.out
  have hk2 := blk_cell HX2.out
  have hl2 := blk_lt HX2.out
  have HC := Lib.hid (show CAt w2 a cs from by
    obtain ⟨a', c', e1, -, -, h3, -, -⟩ := (show OwnC base w2 (.slice a n c) cs from HO.out).read
    simp only [Value.slice.injEq] at e1
    obtain ⟨rfl, -, rfl⟩ := e1
    exact h3)
  go_wp2_with fail
  refine (cacheSearchG false p1 p2 a n c L cs t _ HX1.out HX2.out HC.out HI.out hll HL.out hn).mono ?_
  rintro e w3 ⟨rfl, hb⟩
  have HY1 := Lib.hid (blk_ext hb HX1.out)
  have HY2 := Lib.hid (blk_ext hb HX2.out)
  have HO3 := Lib.hid (OwnR.ext HO.out hb)
  have HC3 := Lib.hid (HC.out.ext hb)
  have D3 := Lib.hid (ext_trans D0.out hb)
  clear hk1 hl1 hk2 hl2 hb HX1 HX2 HO D0 HC HI
  go_upto_region 2 with (fail)
  obtain ⟨x, hx, e1, e2⟩ : ∃ x, cs[L]? = some x ∧ x.a = t.a ∧ x.i = t.i := by
    obtain ⟨y, hy, h1, h2⟩ := isIn_at HIN.out
    rw [HLW.out, List.getElem?_map] at hy
    obtain ⟨x, hx, rfl⟩ := Option.map_eq_some_iff.1 hy
    exact ⟨x, hx, h1, h2⟩
  have hp : L < n := by have := (List.getElem?_eq_some_iff.1 hx).1; have := HL.out; omega
  obtain ⟨b, o, rfl⟩ : ∃ b o, a = some ⟨b, o, none⟩ := by
    rcases HC3.out with h | ⟨b, o, e, _⟩
    · rw [h] at hx; simp at hx
    · exact ⟨b, o, e⟩
  obtain ⟨x0, x1, -⟩ := HC3.out.at hx
  have hd1 : decide ((L : Int) < (n : Int)) = true := by simp; omega
  have hd2 : (L : Int) < (n : Int) := by omega
  rw [e1] at x0
  rw [e2] at x1
  clear hx HC3 e1 e2
  haveI hIq : Nonempty (Of w3) := of_some _
  have hF0 := of_cell x0
  have hF1 := of_cell x1
  have hG0 := blk_of HY1.out
  have hG1 := blk_of HY2.out
  first | (refine wp_region_stay w3 (by kernel_rfl) (by kernel_rfl) (by go_grown) ?_) | (refine wp_region_stay_seq w3 (by go_grown) ?_)
  repeat (go_big_quiet_step (fail))
  refine wpQuiet_nil ?_
  intro w4 hb4
  clear hIq hF0 hF1 hG0 hG1
  have HZ1 := Lib.hid (blk_ext hb4 HY1.out)
  have HZ2 := Lib.hid (blk_ext hb4 HY2.out)
  have HO4 := Lib.hid (OwnR.ext HO3.out hb4)
  have D4 := Lib.hid (ext_trans D3.out hb4)
  clear hb4 HY1 HY2 HO3 D3
  have hk1 := blk_cell HZ1.out
  have hl1 := blk_lt HZ1.out
  have hk2 := blk_cell HZ2.out
  have hl2 := blk_lt HZ2.out
  obtain ⟨hbb, hbw, rfl⟩ := HBW.out b o rfl
  have hb1 : p1 ≠ b := by have := HPL.out; omega
  have hb2 : p2 ≠ b := by have := HPL.out; omega
  go_wp2_with fail
  refine (deleteEK base b n c L (L + 1) cs _ HO4.out HL.out hn hp rfl (Nat.le_trans hbase D4.out.size)).mono ?_
  rintro e w5 ⟨v', rfl, ho, hr⟩
  obtain ⟨a6, c6, rfl, -, -, h6⟩ := OwnR.form ho
  have e6 : (delAtK cs L).length = n - 1 := by rw [delAt_lenK cs L (by rw [HL.out]; exact hp), HL.out]
  rw [e6] at ho ⊢
  have HQ1 := Lib.hid ((hr.block p1 hb1 (blk_lt HZ1.out)).trans HZ1.out)
  have HQ2 := Lib.hid ((hr.block p2 hb2 (blk_lt HZ2.out)).trans HZ2.out)
  have D5 := Lib.hid (show Below base w w5 from (D4.out.mono hbase).trans (hr.below hbb (Nat.le_trans hbase D4.out.size)))
  have HLE := Lib.hid e6
  have HO5' := Lib.hid ho
  have hsz5 := hr.size
  clear ho hr e6 h6 hk1 hl1 hk2 hl2 HZ1 HZ2 HO4
  have hk1 := blk_cell HQ1.out
  have hl1 := blk_lt HQ1.out
  have hf1 := blk_free HQ1.out
  go_upto_region 4 with (fail)
  have hkp : Kept p1 w5 (w5.setCell ⟨p1, 0, none⟩ (.slice a6 (n - 1) c6)) := (Kept.refl p1 w5).setCell _ _
  have HU1 := Lib.hid (show (w5.setCell ⟨p1, 0, none⟩ (.slice a6 (n - 1) c6)).heap[p1]? = some (.cells #[.slice a6 (n - 1) c6] 33 (0, 0)) from blk_set HQ1.out (by first | rfl | simp))
  have HU2 := Lib.hid ((hkp.block p2 HPL.out.2.2).trans HQ2.out)
  have HO4 := Lib.hid (show OwnC base (w5.setCell ⟨p1, 0, none⟩ (.slice a6 (n - 1) c6)) (.slice a6 (n - 1) c6) (delAtK cs L) from own_blocks HO5'.out (fun b cur hc => hkp.block b (fun e => by subst e; have h9 := HQ1.out.symm.trans hc; simp at h9)))
  have D6' := Lib.hid (show Below base w (w5.setCell ⟨p1, 0, none⟩ (.slice a6 (n - 1) c6)) from D5.out.setCell (show base ≤ p1 from Nat.le_trans hbase HPL.out.1) _)
  clear hkp hk1 hl1 hf1 HQ1 HQ2 HO5' D5
  generalize (w5.setCell ⟨p1, 0, none⟩ (.slice a6 (n - 1) c6)) = w4 at *
  have hk1 := blk_cell HU1.out
  have hl1 := blk_lt HU1.out
  have hk2 := blk_cell HU2.out
  have hl2 := blk_lt HU2.out
  have E5 := Lib.hid (show Below w4.heap.size w4 (w4.alloc (.cells #[.string t.a, .string t.i, .int .i64 t.s, .int .i64 t.o, .int .i64 t.l, .int .i64 t.t, .int .i64 t.k, .int .i64 t.n, .bool false] 49)) from (Below.refl _ _).alloc (Nat.le_refl _) _)
  have HV5 := Lib.hid (show (w4.alloc (.cells #[.string t.a, .string t.i, .int .i64 t.s, .int .i64 t.o, .int .i64 t.l, .int .i64 t.t, .int .i64 t.k, .int .i64 t.n, .bool false] 49)).heap[w4.heap.size]? = some (.cells #[.string t.a, .string t.i, .int .i64 t.s, .int .i64 t.o, .int .i64 t.l, .int .i64 t.t, .int .i64 t.k, .int .i64 t.n, .bool t.g] 49 (0, 0)) from by rw [hg]; exact blk_new w4 _ _)
  have HO5 := Lib.hid (OwnR.ext HO4.out E5.out)
  have hs4 : base ≤ w4.heap.size := Nat.le_trans hbase (D6'.out).size
  have hsz : base ≤ (w4.alloc (.cells #[.string t.a, .string t.i, .int .i64 t.s, .int .i64 t.o, .int .i64 t.l, .int .i64 t.t, .int .i64 t.k, .int .i64 t.n, .bool false] 49)).heap.size := Nat.le_trans hs4 E5.out.size
  have HNV := Lib.hid (show ∀ (g9 o9 : Nat), (a6 : Option Addr) = some ⟨g9, o9, none⟩ → w4.heap.size ≠ g9 from fun g9 o9 e => by
    obtain ⟨a', c', e1, -, -, -, h5, -⟩ := (show OwnC base w4 (.slice (a6) (n - 1) (c6)) (delAtK cs L) from HO4.out).read
    simp only [Value.slice.injEq] at e1
    obtain ⟨e2, -, -⟩ := e1
    rw [← e2] at h5
    have := (h5 g9 o9 e).2.1
    omega)
  go_wp2_with fail
  refine (insertEK base (a6) (n - 1) (c6) L (delAtK cs L) t w4.heap.size _ HO5.out HLE.out (by omega) (by omega) HV5.out HNV.out hsz).mono ?_
  rintro e w6 ⟨v', rfl, ho, hb⟩
  have HO6 := Lib.hid ho
  have D6 := Lib.hid (show Below base w w6 from ((D6'.out).trans (E5.out.mono hs4)).trans hb)
  clear ho hb hk1 hl1 hk2 hl2
  go_wp2
  go_ret
  exact ⟨v', rfl, by unfold putC; rw [HIN.out, hg, HLW.out]; simp only [if_true, Bool.false_eq_true, if_false]; rw [← ins_del cs L t (by rw [HL.out]; exact hp)]; exact HO6.out, D6.out⟩

end Go.Proofs.Ytkhcgopehmndgaa
