/- Package cache: where a card lies, one that is put behind all. -/
import Derived.Test.YtkhcgopehmndgaaCacM
namespace Go.Proofs.Ytkhcgopehmndgaa
open Go.RowKit
set_option linter.unusedVariables false
set_option linter.unusedSimpArgs false

theorem cardLessC (a i b j : ByteArray) (w : World) :
    Calls Try.prog 58 #[.agg #[.string a, .string i], .agg #[.string b, .string j]] w fun e w' => e = .returned (.bool (decide (kc a i b j < 0))) ∧ Below w.heap.size w w' :=
  (cardLess a i b j w).mono fun e w' ⟨h1, h2⟩ => ⟨h1, h2.below⟩
set_option maxRecDepth 100000 in
set_option maxHeartbeats 1000000 in
theorem cacheClosure (p1 p2 : Nat) (a : Option Addr) (n c j : Nat) (cs : List Cd) (t x : Cd) (w : World) (h1 : w.heap[p1]? = some (.cells #[.slice a n c] 33 (0, 0))) (h2 : w.heap[p2]? = some (.cells #[.string t.a, .string t.i, .int .i64 t.s, .int .i64 t.o, .int .i64 t.l, .int .i64 t.t, .int .i64 t.k, .int .i64 t.n, .bool false] 49 (0, 0))) (h : CAt w a cs) (hx : cs[j]? = some x) (hl : cs.length = n) (hn : n ≤ 1000) :
    Calls Try.prog 71 #[.int .i64 j, .pointer (some ⟨p1, 0, none⟩), .pointer (some ⟨p2, 0, none⟩)] w fun r w' => r = .returned (.bool (!(decide (kc x.a x.i t.a t.i < 0)))) ∧ Below w.heap.size w w' := by
  have hj : j < n := by rw [← hl]; exact (List.getElem?_eq_some_iff.1 hx).1
  obtain ⟨b, o, rfl⟩ : ∃ b o, a = some ⟨b, o, none⟩ := by
    rcases h with h | ⟨b, o, e, _⟩
    · rw [h] at hx; simp at hx
    · exact ⟨b, o, e⟩
  obtain ⟨x0, x1, -⟩ := h.at hx
  have c1 := blk_cell h1 0
  have c2 := blk_cell h2 0
  have c3 := blk_cell h2 1
  simp only [List.getElem?_toArray, List.getElem?_cons_zero, List.getElem?_cons_succ] at c1 c2 c3
  have hj0 : (j : Int) < (n : Int) := by omega
  clear h h1 h2 hx hl
  go_enter Try.func71, Try.ntmps71
  go_wp2_with fail
  haveI hIq : Nonempty (Of w) := of_some _
  have hF0 := of_cell c1
  have hF1 := of_cell c2
  have hF2 := of_cell c3
  have hF3 := of_cell x0
  have hF4 := of_cell x1
  first | (refine wp_region_stay w (by kernel_rfl) (by kernel_rfl) (by go_grown) ?_) | (refine wp_region_stay_seq w (by go_grown) ?_)
  repeat (go_big_quiet_step ((go_at_call 58; with_reducible refine stay_call (cardLessC x.a x.i t.a t.i _))))
  refine wpQuiet_nil ?_
  intro w5 hb5
  clear hIq hF0 hF1 hF2 hF3 hF4

  have HB := Lib.hid hb5
  clear hb5
  go_wp2
  go_ret
  exact ⟨rfl, HB.out⟩

set_option maxRecDepth 100000 in
set_option maxHeartbeats 1000000 in
theorem cacheSearch (p1 p2 : Nat) (a : Option Addr) (n c L : Nat) (cs : List Cd) (t : Cd) (w : World) (h1 : w.heap[p1]? = some (.cells #[.slice a n c] 33 (0, 0))) (h2 : w.heap[p2]? = some (.cells #[.string t.a, .string t.i, .int .i64 t.s, .int .i64 t.o, .int .i64 t.l, .int .i64 t.t, .int .i64 t.k, .int .i64 t.n, .bool false] 49 (0, 0))) (h : CAt w a cs) (hI : ∀ (p : Nat) (x : Cd), cs[p]? = some x → decide (kc x.a x.i t.a t.i < 0) = decide (p < L)) (hll : L ≤ n) (hl : cs.length = n) (hn : n ≤ 1000) :
    Calls Try.prog 56 #[.int .i64 n, .func (.func 71) #[] #[.pointer (some ⟨p1, 0, none⟩), .pointer (some ⟨p2, 0, none⟩)]] w fun r w' => r = .returned (.int .i64 L) ∧ Below w.heap.size w w' := by
  have H1 := Lib.hid h1
  have H2 := Lib.hid h2
  have HE := Lib.hid h
  have HL := Lib.hid hl
  have HI := Lib.hid hI
  clear h1 h2 h hl hI
  go_enter Try.func56, Try.ntmps56
  go_wp2_with fail
  go_loopw [5, 6] (fun i j wr => ∃ I J : Nat, I ≤ L ∧ L ≤ J ∧ J ≤ n ∧ i = .int .i64 (I : Int) ∧ j = .int .i64 (J : Int) ∧ Below w.heap.size w wr) (fun i j _ => (intOf j).toNat - (intOf i).toNat)
  case atStart => exact ⟨0, n, by omega, hll, by omega, rfl, rfl, Below.refl _ _⟩
  case round =>
    obtain ⟨w2, rfl⟩ : ∃ y : World, y = wr := ⟨_, rfl⟩
    obtain ⟨I, J, hI, hJ, hJn, rfl, rfl, hb2⟩ := hrel
    have HB2 := Lib.hid hb2
    by_cases hlt : I < J
    · have hlt' : decide ((I : Int) < (J : Int)) = true := by simp; omega
      obtain ⟨M, hM⟩ : ∃ M, (I + J) / 2 = M := ⟨_, rfl⟩
      have hM1 : I ≤ M := by omega
      have hM2 : M < J := by omega
      obtain ⟨x, hx⟩ : ∃ x, cs[M]? = some x := ⟨_, List.getElem?_eq_getElem (by have := HL.out; omega)⟩
      have HX := Lib.hid hx
      have HQ := Lib.hid (HI.out M x hx)
      have HM := Lib.hid hM
      clear hx hb2 hM
      go_wp2_with fail
      rw [show ((I : Int) + (J : Int)) / 2 = (M : Int) from by have := HM.out; omega]
      refine (cacheClosure p1 p2 a n c M cs t x _ (blk_ext HB2.out H1.out) (blk_ext HB2.out H2.out) (HE.out.ext HB2.out) HX.out HL.out hn).mono ?_
      rintro e w3 ⟨rfl, hb3⟩
      rw [HQ.out]
      have HB3 := Lib.hid (ext_trans HB2.out hb3)
      clear hb3
      by_cases hml : M < L
      · rw [decide_eq_true hml]
        go_wp2
        go_roundw
        case rel => exact ⟨M + 1, J, by omega, hJ, hJn, by go_num, rfl, HB3.out⟩
        case measure => simp [intOf]; omega
      · rw [decide_eq_false hml]
        go_wp2
        go_roundw
        case rel => exact ⟨I, M, hI, by omega, by omega, rfl, by go_num, HB3.out⟩
        case measure => simp [intOf]; omega
    · obtain rfl : I = L := by omega
      have hlt' : decide ((I : Int) < (J : Int)) = false := by simp; omega
      clear hb2
      go_wp2
      go_ret
      exact ⟨rfl, HB2.out⟩

set_option maxRecDepth 100000 in
set_option maxHeartbeats 1000000 in
theorem cinsEnd1 (base g n c : Nat) (ls : List Cd) (e : Cd) (vb : Nat) (w : World) (h : OwnC base w (.slice (some ⟨g, 0, none⟩) n c) ls) (hl : ls.length = n) (hn : n ≤ 1000) (hv : w.heap[vb]? = some (.cells #[.string e.a, .string e.i, .int .i64 e.s, .int .i64 e.o, .int .i64 e.l, .int .i64 e.t, .int .i64 e.k, .int .i64 e.n, .bool e.g] 49 (0, 0))) (hbase : base ≤ w.heap.size) (hc : n < c) :
    Calls Try.prog 73 #[.slice (some ⟨g, 0, none⟩) n c, .int .i64 n, .slice (some ⟨vb, 0, none⟩) 1 1] w fun r w' => ∃ v', r = .returned v' ∧ OwnC base w' v' (ls ++ [e]) ∧ w.grownBy w' (some g) := by
  obtain ⟨i0, hi0, hz0, hz1, hz2⟩ := info_parts' info_card
  have hvc : ∀ j u, (cc e)[j]? = some u → w.cell? ((⟨vb, 0, none⟩ : Addr).add j) = some u := fun j u hj => by
    rw [add_off, Nat.zero_add, blk_cell hv]
    simpa [cc] using hj
  have HV := Lib.hid hvc
  have HO := Lib.hid h
  have HL := Lib.hid hl
  clear hvc hv h hl
  have hcn : ¬ c = n := by omega
  go_enter Try.func73, Try.ntmps73
  go_wp2_with (first | (at_builtin; refine wpList_append_own _ rfl _ _ 33 rfl base 49 i0 Cd.zero.v 9 88 Try.underlying33 hi0 hz0 hz1 hz2 rfl (by decide) (.slice (some ⟨g, 0, none⟩) n c) n (flat cc ls) rfl (by have := HO.out; unfold OwnC OwnR at this; rwa [HL.out] at this) ⟨vb, 0, none⟩ 1 1 (cc e) rfl rfl HV.out (cc_one e) (by unfold maxLen; omega) (by omega) hbase ?_) | go_in)
  intro v' w1 ho hg _
  have HR := Lib.hid (show OwnC base w1 v' (ls ++ [e]) from by
    unfold OwnC OwnR
    rw [flat_snoc, List.length_append, HL.out]
    exact ho)
  have HG := Lib.hid hg
  clear ho hg
  go_wp2
  go_ret
  exact ⟨_, rfl, HR.out, HG.out⟩

set_option maxRecDepth 100000 in
set_option maxHeartbeats 1000000 in
theorem cinsEnd0 (base g n : Nat) (ls : List Cd) (e : Cd) (vb : Nat) (w : World) (h : OwnC base w (.slice (some ⟨g, 0, none⟩) n n) ls) (hl : ls.length = n) (hn : n ≤ 1000) (hv : w.heap[vb]? = some (.cells #[.string e.a, .string e.i, .int .i64 e.s, .int .i64 e.o, .int .i64 e.l, .int .i64 e.t, .int .i64 e.k, .int .i64 e.n, .bool e.g] 49 (0, 0))) (hbase : base ≤ w.heap.size) :
    Calls Try.prog 73 #[.slice (some ⟨g, 0, none⟩) n n, .int .i64 n, .slice (some ⟨vb, 0, none⟩) 1 1] w fun r w' => ∃ v', r = .returned v' ∧ OwnC base w' v' (ls ++ [e]) ∧ w.grownBy w' (some g) := by
  obtain ⟨i0, hi0, hz0, hz1, hz2⟩ := info_parts' info_card
  have hvc : ∀ j u, (cc e)[j]? = some u → w.cell? ((⟨vb, 0, none⟩ : Addr).add j) = some u := fun j u hj => by
    rw [add_off, Nat.zero_add, blk_cell hv]
    simpa [cc] using hj
  have HV := Lib.hid hvc
  have HO := Lib.hid h
  have HL := Lib.hid hl
  clear hvc hv h hl
  skip
  go_enter Try.func73, Try.ntmps73
  go_wp2_with (first | (at_builtin; refine wpList_append_own _ rfl _ _ 33 rfl base 49 i0 Cd.zero.v 9 88 Try.underlying33 hi0 hz0 hz1 hz2 rfl (by decide) (.slice (some ⟨g, 0, none⟩) n n) n (flat cc ls) rfl (by have := HO.out; unfold OwnC OwnR at this; rwa [HL.out] at this) ⟨vb, 0, none⟩ 1 1 (cc e) rfl rfl HV.out (cc_one e) (by unfold maxLen; omega) (by omega) hbase ?_) | go_in)
  intro v' w1 ho hg _
  have HR := Lib.hid (show OwnC base w1 v' (ls ++ [e]) from by
    unfold OwnC OwnR
    rw [flat_snoc, List.length_append, HL.out]
    exact ho)
  have HG := Lib.hid hg
  clear ho hg
  go_wp2
  go_ret
  exact ⟨_, rfl, HR.out, HG.out⟩

set_option maxRecDepth 100000 in
set_option maxHeartbeats 1000000 in
theorem cinsEndN (base : Nat) (e : Cd) (vb : Nat) (w : World) (hv : w.heap[vb]? = some (.cells #[.string e.a, .string e.i, .int .i64 e.s, .int .i64 e.o, .int .i64 e.l, .int .i64 e.t, .int .i64 e.k, .int .i64 e.n, .bool e.g] 49 (0, 0))) (hbase : base ≤ w.heap.size) :
    Calls Try.prog 73 #[.slice none 0 0, .int .i64 0, .slice (some ⟨vb, 0, none⟩) 1 1] w fun r w' => ∃ v', r = .returned v' ∧ OwnC base w' v' ([] ++ [e]) ∧ w.grownBy w' none := by
  obtain ⟨i0, hi0, hz0, hz1, hz2⟩ := info_parts' info_card
  have hvc : ∀ j u, (cc e)[j]? = some u → w.cell? ((⟨vb, 0, none⟩ : Addr).add j) = some u := fun j u hj => by
    rw [add_off, Nat.zero_add, blk_cell hv]
    simpa [cc] using hj
  have HV := Lib.hid hvc
  have HO := Lib.hid (show OwnC base w (.slice none 0 0) [] from OwnR.nil _ _)
  have HL := Lib.hid (show ([] : List Cd).length = 0 from rfl)
  clear hvc hv
  skip
  go_enter Try.func73, Try.ntmps73
  go_wp2_with (first | (at_builtin; refine wpList_append_own _ rfl _ _ 33 rfl base 49 i0 Cd.zero.v 9 88 Try.underlying33 hi0 hz0 hz1 hz2 rfl (by decide) (.slice none 0 0) 0 (flat cc []) rfl (by have := HO.out; unfold OwnC OwnR at this; rwa [HL.out] at this) ⟨vb, 0, none⟩ 1 1 (cc e) rfl rfl HV.out (cc_one e) (by unfold maxLen; omega) (by omega) hbase ?_) | go_in)
  intro v' w1 ho hg _
  have HR := Lib.hid (show OwnC base w1 v' ([] ++ [e]) from by
    unfold OwnC OwnR
    rw [flat_snoc, List.length_append, HL.out]
    exact ho)
  have HG := Lib.hid hg
  clear ho hg
  go_wp2
  go_ret
  exact ⟨_, rfl, HR.out, HG.out⟩

theorem cinsEnd (base n : Nat) (v : Value) (ls : List Cd) (e : Cd) (vb : Nat) (w : World) (h : OwnC base w v ls) (hl : ls.length = n) (hn : n ≤ 1000) (hv : w.heap[vb]? = some (.cells #[.string e.a, .string e.i, .int .i64 e.s, .int .i64 e.o, .int .i64 e.l, .int .i64 e.t, .int .i64 e.k, .int .i64 e.n, .bool e.g] 49 (0, 0))) (hbase : base ≤ w.heap.size) :
    Calls Try.prog 73 #[v, .int .i64 n, .slice (some ⟨vb, 0, none⟩) 1 1] w fun r w' => ∃ v', r = .returned v' ∧ OwnC base w' v' (ls ++ [e]) ∧ w.grownBy w' v.ownBlock := by
  subst hl
  obtain ⟨a, c, rfl, hc, hm, h3⟩ := OwnR.form h
  rcases h3 with ⟨rfl, rfl, rfl⟩ | ⟨g, rfl, hg, hg2⟩
  · exact cinsEndN base e vb w hv hbase
  · rcases Nat.lt_or_ge ls.length c with h4 | h4
    · exact cinsEnd1 base g _ c ls e vb w h rfl hn hv hbase h4
    · obtain rfl : ls.length = c := by omega
      exact cinsEnd0 base g _ ls e vb w h rfl hn hv hbase
set_option maxRecDepth 100000 in
set_option maxHeartbeats 2000000 in
theorem cachePutEnd (base n c : Nat) (a : Option Addr) (cs : List Cd) (t : Cd) (w : World) (h : OwnC base w (.slice a n c) cs) (hl : cs.length = n) (hn : n ≤ 1000) (hg : t.g = false) (hlt : ∀ x ∈ cs, kc x.a x.i t.a t.i < 0) (hbase : base ≤ w.heap.size) :
    Calls Try.prog 45 #[.slice a n c, .agg #[.string t.a, .string t.i, .int .i64 t.s, .int .i64 t.o, .int .i64 t.l, .int .i64 t.t, .int .i64 t.k, .int .i64 t.n, .bool false]] w fun r w' => ∃ v', r = .returned v' ∧ OwnC base w' v' (cs ++ [t]) ∧ Below base w w' := by
  have D0 := Lib.hid (show Below w.heap.size w ((w.alloc (.cells #[.slice a n c] 33)).alloc (.cells #[.string t.a, .string t.i, .int .i64 t.s, .int .i64 t.o, .int .i64 t.l, .int .i64 t.t, .int .i64 t.k, .int .i64 t.n, .bool false] 49)) from ((Below.refl _ _).alloc (Nat.le_refl _) _).alloc (by simp) _)
  have HX1 := Lib.hid (blk_alloc (blk_new w #[.slice a n c] 33) (.cells #[.string t.a, .string t.i, .int .i64 t.s, .int .i64 t.o, .int .i64 t.l, .int .i64 t.t, .int .i64 t.k, .int .i64 t.n, .bool false] 49))
  have HX2 := Lib.hid (show ((w.alloc (.cells #[.slice a n c] 33)).alloc (.cells #[.string t.a, .string t.i, .int .i64 t.s, .int .i64 t.o, .int .i64 t.l, .int .i64 t.t, .int .i64 t.k, .int .i64 t.n, .bool false] 49)).heap[w.heap.size + 1]? = some (.cells #[.string t.a, .string t.i, .int .i64 t.s, .int .i64 t.o, .int .i64 t.l, .int .i64 t.t, .int .i64 t.k, .int .i64 t.n, .bool false] 49 (0, 0)) from blk_new_at (by simp) _ _)
  have HO := Lib.hid (OwnR.ext h D0.out)
  have HL := Lib.hid hl
  have HI := Lib.hid (show ∀ (p : Nat) (x : Cd), cs[p]? = some x → decide (kc x.a x.i t.a t.i < 0) = decide (p < n) from fun p x hx => by
    rw [decide_eq_true (hlt x (List.mem_of_getElem? hx)), decide_eq_true (by rw [← hl]; exact (List.getElem?_eq_some_iff.1 hx).1)])
  clear h hl hlt
  go_enter Try.func45, Try.ntmps45
  go_upto_region 1 with (fail)
  obtain ⟨p1, hp1⟩ : ∃ p, w.heap.size = p := ⟨_, rfl⟩
  obtain ⟨p2, hp2⟩ : ∃ r, w.heap.size + 1 = r := ⟨_, rfl⟩
  rw [hp1] at HX1
  rw [hp2] at HX2
  try rw [hp2]
  try rw [hp1]
  try rw [hp1] at hp2
  try rw [hp2]
  clear hp1 hp2
  generalize ((w.alloc (.cells #[.slice a n c] 33)).alloc (.cells #[.string t.a, .string t.i, .int .i64 t.s, .int .i64 t.o, .int .i64 t.l, .int .i64 t.t, .int .i64 t.k, .int .i64 t.n, .bool false] 49)) = w2 at *
  have hk1 := blk_cell HX1.out
  have hl1 := blk_lt HX1.out
  have hk2 := blk_cell HX2.out
  have hl2 := blk_lt HX2.out
  have HC := Lib.hid (show CAt w2 a cs from by
    obtain ⟨a', c', e1, -, -, h3, -, -⟩ := (show OwnC base w2 (.slice a n c) cs from HO.out).read
    simp only [Value.slice.injEq] at e1
    obtain ⟨rfl, -, rfl⟩ := e1
    exact h3)
  go_wp2_with fail
  refine (cacheSearch p1 p2 a n c n cs t _ HX1.out HX2.out HC.out HI.out (Nat.le_refl _) HL.out hn).mono ?_
  rintro e w3 ⟨rfl, hb⟩
  have HY1 := Lib.hid (blk_ext hb HX1.out)
  have HY2 := Lib.hid (blk_ext hb HX2.out)
  have HO3 := Lib.hid (OwnR.ext HO.out hb)
  have D3 := Lib.hid (ext_trans D0.out hb)
  clear hk1 hl1 hk2 hl2 hb HX1 HX2 HO D0 HC
  have hnn : decide ((n : Int) < (n : Int)) = false := by simp
  go_upto_region 2 with (fail)
  haveI hIq : Nonempty (Of w3) := of_some _
  have hG0 := blk_of HY1.out
  have hG1 := blk_of HY2.out
  first | (refine wp_region_stay w3 (by kernel_rfl) (by kernel_rfl) (by go_grown) ?_) | (refine wp_region_stay_seq w3 (by go_grown) ?_)
  repeat (go_big_quiet_step (fail))
  refine wpQuiet_nil ?_
  intro w4 hb4
  clear hIq hG0 hG1

  have HZ1 := Lib.hid (blk_ext hb4 HY1.out)
  have HZ2 := Lib.hid (blk_ext hb4 HY2.out)
  have HO4 := Lib.hid (OwnR.ext HO3.out hb4)
  have D4 := Lib.hid (ext_trans D3.out hb4)
  clear hb4 HY1 HY2 HO3 D3
  have hk1 := blk_cell HZ1.out
  have hl1 := blk_lt HZ1.out
  have hk2 := blk_cell HZ2.out
  have hl2 := blk_lt HZ2.out
  have E5 := Lib.hid (show Below w4.heap.size w4 (w4.alloc (.cells #[.string t.a, .string t.i, .int .i64 t.s, .int .i64 t.o, .int .i64 t.l, .int .i64 t.t, .int .i64 t.k, .int .i64 t.n, .bool false] 49)) from (Below.refl _ _).alloc (Nat.le_refl _) _)
  have HV5 := Lib.hid (show (w4.alloc (.cells #[.string t.a, .string t.i, .int .i64 t.s, .int .i64 t.o, .int .i64 t.l, .int .i64 t.t, .int .i64 t.k, .int .i64 t.n, .bool false] 49)).heap[w4.heap.size]? = some (.cells #[.string t.a, .string t.i, .int .i64 t.s, .int .i64 t.o, .int .i64 t.l, .int .i64 t.t, .int .i64 t.k, .int .i64 t.n, .bool t.g] 49 (0, 0)) from by rw [hg]; exact blk_new w4 _ _)
  have HO5 := Lib.hid (OwnR.ext HO4.out E5.out)
  have hsz : base ≤ (w4.alloc (.cells #[.string t.a, .string t.i, .int .i64 t.s, .int .i64 t.o, .int .i64 t.l, .int .i64 t.t, .int .i64 t.k, .int .i64 t.n, .bool false] 49)).heap.size := Nat.le_trans hbase (Nat.le_trans D4.out.size E5.out.size)
  go_wp2_with fail
  refine (cinsEnd base n (.slice a n c) cs t w4.heap.size _ HO5.out HL.out hn HV5.out hsz).mono ?_
  rintro e w6 ⟨v', rfl, ho, hg6⟩
  have HO6 := Lib.hid ho
  have D6 := Lib.hid (show Below base w w6 from ((D4.out.mono hbase).trans (E5.out.mono (Nat.le_trans hbase D4.out.size))).grown hg6 hsz (fun q hq => own_ge HO5.out hq))
  clear ho hg6 hk1 hl1 hk2 hl2
  go_wp2
  go_ret
  exact ⟨v', rfl, HO6.out, D6.out⟩

end Go.Proofs.Ytkhcgopehmndgaa
