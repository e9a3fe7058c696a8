/- slices.Insert and slices.Delete of one card. -/
import Derived.Test.YtkhcgopehmndgaaCacL
import Derived.Test.YtkhcgopehmndgaaBh
import Derived.Shelf.Spec.SlicesInsert
import Derived.Deep.RegionLaw
namespace Go.Proofs.Ytkhcgopehmndgaa
open Go.RowKit
set_option linter.unusedVariables false
set_option linter.unusedSimpArgs false

def insAtK (ls : List Cd) (i : Nat) (e : Cd) : List Cd := ls.take i ++ [e] ++ ls.drop i
theorem insAt_lenK (ls : List Cd) (i : Nat) (e : Cd) : (insAtK ls i e).length = ls.length + 1 := by simp [insAtK]; omega
theorem insAt_flatK (ls : List Cd) (i : Nat) (e : Cd) : flat cc (insAtK ls i e) = flat cc (ls.take i) ++ cc e ++ flat cc (ls.drop i) := by
  unfold insAtK
  rw [flat_app, flat_snoc]
theorem insAt_endK (ls : List Cd) (e : Cd) : insAtK ls ls.length e = ls ++ [e] := by simp [insAtK]
theorem size_cdK : (Try.prog.info? 49).map (·.size) = some 9 := by kernel_rfl
theorem shape_ofK {w : World} {b : Nat} {cur : Array Value} {T : TypeId} (h : w.heap[b]? = some (.cells cur T (0, 0))) : w.shape? b = some (T, cur.size) := by simp [World.shape?, h]
set_option maxRecDepth 100000 in
set_option maxHeartbeats 1000000 in
theorem insertEnd1K (base g n c : Nat) (ls : List Cd) (e : Cd) (vb : Nat) (w : World) (h : OwnC base w (.slice (some ⟨g, 0, none⟩) n c) ls) (hl : ls.length = n) (hn : n ≤ 1000) (hv : w.heap[vb]? = some (.cells #[.string e.a, .string e.i, .int .i64 e.s, .int .i64 e.o, .int .i64 e.l, .int .i64 e.t, .int .i64 e.k, .int .i64 e.n, .bool e.g] 49 (0, 0))) (hbase : base ≤ w.heap.size) (hc : n < c) :
    Calls Try.prog 73 #[.slice (some ⟨g, 0, none⟩) n c, .int .i64 n, .slice (some ⟨vb, 0, none⟩) 1 1] w fun r w' => ∃ v', r = .returned v' ∧ OwnC base w' v' (insAtK ls n e) ∧ w.grownBy w' (some g) := by
  obtain ⟨i0, hi0, hz0, hz1, hz2⟩ := info_parts' info_card
  have hvc : ∀ j u, (cc e)[j]? = some u → w.cell? ((⟨vb, 0, none⟩ : Addr).add j) = some u := fun j u hj => by
    rw [add_off, Nat.zero_add]
    have := blk_cell hv
    rw [this]
    simpa [cc] using hj
  have HV := Lib.hid hvc
  have HO := Lib.hid h
  have HL := Lib.hid hl
  clear hvc hv h hl
  have hcn : ¬ c = n := by omega
  go_enter Try.func73, Try.ntmps73
  go_wp2_with (first | (at_builtin; refine wpList_append_own _ rfl _ _ 33 rfl base 49 i0 Cd.zero.v 9 88 Try.underlying33 hi0 hz0 hz1 hz2 rfl (by decide) (.slice (some ⟨g, 0, none⟩) n c) n (flat cc ls) rfl (by have := HO.out; unfold OwnC OwnR at this; rwa [HL.out] at this) ⟨vb, 0, none⟩ 1 1 (cc e) rfl rfl HV.out (cc_one e) (by unfold maxLen; omega) (by omega) hbase ?_) | go_in)
  intro v' w1 ho hg _
  have HR := Lib.hid (show OwnC base w1 v' (insAtK ls n e) from by
    have hh := HL.out
    unfold OwnC OwnR
    rw [insAt_lenK, ← hh, insAt_endK, flat_snoc, hh]
    exact ho)
  have HG := Lib.hid hg
  clear ho hg
  go_wp2
  go_ret
  exact ⟨_, rfl, HR.out, HG.out⟩
set_option maxRecDepth 100000 in
set_option maxHeartbeats 1000000 in
theorem insertEnd0K (base g n : Nat) (ls : List Cd) (e : Cd) (vb : Nat) (w : World) (h : OwnC base w (.slice (some ⟨g, 0, none⟩) n n) ls) (hl : ls.length = n) (hn : n ≤ 1000) (hv : w.heap[vb]? = some (.cells #[.string e.a, .string e.i, .int .i64 e.s, .int .i64 e.o, .int .i64 e.l, .int .i64 e.t, .int .i64 e.k, .int .i64 e.n, .bool e.g] 49 (0, 0))) (hbase : base ≤ w.heap.size) :
    Calls Try.prog 73 #[.slice (some ⟨g, 0, none⟩) n n, .int .i64 n, .slice (some ⟨vb, 0, none⟩) 1 1] w fun r w' => ∃ v', r = .returned v' ∧ OwnC base w' v' (insAtK ls n e) ∧ w.grownBy w' (some g) := by
  obtain ⟨i0, hi0, hz0, hz1, hz2⟩ := info_parts' info_card
  have hvc : ∀ j u, (cc e)[j]? = some u → w.cell? ((⟨vb, 0, none⟩ : Addr).add j) = some u := fun j u hj => by
    rw [add_off, Nat.zero_add]
    have := blk_cell hv
    rw [this]
    simpa [cc] using hj
  have HV := Lib.hid hvc
  have HO := Lib.hid h
  have HL := Lib.hid hl
  clear hvc hv h hl
  skip
  go_enter Try.func73, Try.ntmps73
  go_wp2_with (first | (at_builtin; refine wpList_append_own _ rfl _ _ 33 rfl base 49 i0 Cd.zero.v 9 88 Try.underlying33 hi0 hz0 hz1 hz2 rfl (by decide) (.slice (some ⟨g, 0, none⟩) n n) n (flat cc ls) rfl (by have := HO.out; unfold OwnC OwnR at this; rwa [HL.out] at this) ⟨vb, 0, none⟩ 1 1 (cc e) rfl rfl HV.out (cc_one e) (by unfold maxLen; omega) (by omega) hbase ?_) | go_in)
  intro v' w1 ho hg _
  have HR := Lib.hid (show OwnC base w1 v' (insAtK ls n e) from by
    have hh := HL.out
    unfold OwnC OwnR
    rw [insAt_lenK, ← hh, insAt_endK, flat_snoc, hh]
    exact ho)
  have HG := Lib.hid hg
  clear ho hg
  go_wp2
  go_ret
  exact ⟨_, rfl, HR.out, HG.out⟩
set_option maxRecDepth 100000 in
set_option maxHeartbeats 2000000 in
theorem insertShiftK (base g n c i : Nat) (ls : List Cd) (e : Cd) (vb : Nat) (w : World) (h : OwnC base w (.slice (some ⟨g, 0, none⟩) n c) ls) (hl : ls.length = n) (hn : n ≤ 1000) (hv : w.heap[vb]? = some (.cells #[.string e.a, .string e.i, .int .i64 e.s, .int .i64 e.o, .int .i64 e.l, .int .i64 e.t, .int .i64 e.k, .int .i64 e.n, .bool e.g] 49 (0, 0))) (hi : i < n) (hc : n + 1 ≤ c) (hvb : vb ≠ g) (hbase : base ≤ w.heap.size) :
    Calls Try.prog 73 #[.slice (some ⟨g, 0, none⟩) n c, .int .i64 i, .slice (some ⟨vb, 0, none⟩) 1 1] w fun r w' => ∃ v', r = .returned v' ∧ OwnC base w' v' (insAtK ls i e) ∧ w.grownBy w' (some g) := by
  obtain ⟨i0, hi0, hz0, hz1, hz2⟩ := info_parts' info_card
  have hvc : ∀ j u, (cc e)[j]? = some u → w.cell? ((⟨vb, 0, none⟩ : Addr).add j) = some u := fun j u hj => by
    rw [add_off, Nat.zero_add]
    have := blk_cell hv
    rw [this]
    simpa [cc] using hj
  rcases h.2 with ⟨e0, _⟩ | ⟨g', cap, cur, e0, hg0, hcur, hnc, hcm, hcs, htk⟩
  · cases e0
  simp only [Value.slice.injEq, Option.some.injEq, Addr.mk.injEq] at e0
  obtain ⟨⟨rfl, -⟩, -, rfl⟩ := e0
  have hov : ∀ lb cb, (callFunc 88 #[.slice (some ⟨vb, 0, none⟩) 1 1, .slice (some ⟨g, (i + 1) * 9, none⟩) lb cb]).run Try.prog w = .ok (.value (.bool false)) w := fun lb cb => by
    rw [run_callFunc_extern Try.func88 (by kernel_rfl) (by kernel_rfl) (by kernel_rfl) (e := Extern.SlicesOverlaps.overlaps #[33, 33] #[4]) (by kernel_rfl),
      Lib.run_overlaps_apart w 33 4 49 Try.underlying33 9 (fun w => Try.sizeOf49 w) ⟨vb, 0, none⟩ ⟨g, (i + 1) * 9, none⟩ 1 1 lb cb hvb 49 49 _ _ (shape_ofK hv) (shape_ofK hcur) (by simp only [ne_eq]; omega) (blk_free hv _) (blk_free hv _)]
    rfl
  have hcm' : c ≤ 9223372036854775807 := by simp only [maxLen] at hcm; omega
  obtain ⟨A, hA⟩ : ∃ A, flat cc (ls.take i) = A := ⟨_, rfl⟩
  obtain ⟨B, hB⟩ : ∃ B, flat cc (ls.drop i) = B := ⟨_, rfl⟩
  have lA : A.length = i * 9 := by rw [← hA, flat_len cc_len, List.length_take, hl]; congr 1; omega
  have lB : B.length = (n - i) * 9 := by rw [← hB, flat_len cc_len, List.length_drop, hl]
  have hAB : flat cc ls = A ++ B := by rw [← hA, ← hB, ← flat_app, List.take_append_drop]
  have hcl : cur.toList.length = c * 9 := by rw [Array.length_toList]; exact hcs
  obtain ⟨M, D, hMD, lM⟩ : ∃ M D, cur.toList = A ++ M ++ D ∧ M.length = B.length + 9 := by
    refine ⟨(cur.toList.drop (i * 9)).take ((n - i) * 9 + 9), (cur.toList.drop (i * 9)).drop ((n - i) * 9 + 9), ?_, ?_⟩
    · rw [List.append_assoc, List.take_append_drop]
      have : A = cur.toList.take (i * 9) := by
        have h1 : (A ++ B).take A.length = A := List.take_left
        rw [← hAB, ← htk, lA, List.take_take] at h1
        rw [← h1]
        congr 1
        rw [hl]
        have : i * 9 ≤ n * 9 := by omega
        omega
      rw [this, List.take_append_drop]
    · rw [List.length_take, List.length_drop, hcl, lB]
      omega
  have hBc : ∀ j u, B[j]? = some u → w.cell? ((⟨g, i * 9, none⟩ : Addr).add j) = some u := fun j u hj => by
    rw [add_off]
    refine own_rd cc_len h ?_
    rw [hAB, ← lA, List.getElem?_append_right (by omega)]
    rw [show A.length + j - A.length = j by omega]
    exact hj
  have hB1 : ∀ u ∈ B, u.oneCell' = true := by rw [← hB]; exact flat_one cc_one _
  have hmin1 : Nat.min (n + 1 - i) (n - i) = n - i := by simp only [Nat.min_def]; split <;> omega
  obtain ⟨L1, hL1⟩ : ∃ L1, (lay cur.toList ((i + 1) * 9) B) = L1 := ⟨_, rfl⟩
  have hcp1 : ∀ ty dc sc, (Builtin.copy_ #[33, 33] ty #[.slice (some ⟨g, (i + 1) * 9, none⟩) (n - i) dc, .slice (some ⟨g, i * 9, none⟩) (n + 1 - i) sc]).run Try.prog w.drew = .ok (goInt (Nat.min (n + 1 - i) (n - i))) (w.drew.setRow g L1.toArray) := fun ty dc sc => by
    rw [← hL1]
    exact run_copyK w.drew 33 33 ty 49 g ((i + 1) * 9) (n - i) dc ⟨g, i * 9, none⟩ (n + 1 - i) sc cur 49 B 9 Try.underlying33 size_cdK hcur (by rw [lB, hmin1]) hBc (by rw [lB, hcs]; omega) hB1
  rw [hmin1] at hcp1
  have lL1 : L1.length = c * 9 := by rw [← hL1, lay_len _ _ _ (by rw [lB, hcl]; omega)]; exact hcl
  obtain ⟨W1, hW1⟩ : ∃ W1, w.drew.setRow g L1.toArray = W1 := ⟨_, rfl⟩
  have hX1 : W1.heap[g]? = some (.cells L1.toArray 49 (0, 0)) := by rw [← hW1]; exact setRow_heap w.drew g cur L1.toArray 49 (0, 0) hcur
  have hV1 : W1.heap[vb]? = some (.cells #[.string e.a, .string e.i, .int .i64 e.s, .int .i64 e.o, .int .i64 e.l, .int .i64 e.t, .int .i64 e.k, .int .i64 e.n, .bool e.g] 49 (0, 0)) := by rw [← hW1]; exact (setRow_other w.drew g vb _ hvb).trans hv
  rw [hW1] at hcp1
  obtain ⟨L2, hL2⟩ : ∃ L2, (lay L1 (i * 9) (cc e)) = L2 := ⟨_, rfl⟩
  have hcp2 : ∀ ty dc, (Builtin.copy_ #[33, 33] ty #[.slice (some ⟨g, i * 9, none⟩) (n + 1 - i) dc, .slice (some ⟨vb, 0, none⟩) 1 1]).run Try.prog W1 = .ok (goInt (Nat.min 1 (n + 1 - i))) (W1.setRow g L2.toArray) := fun ty dc => by
    have := run_copyK W1 33 33 ty 49 g (i * 9) (n + 1 - i) dc ⟨vb, 0, none⟩ 1 1 L1.toArray 49 (cc e) 9 Try.underlying33 size_cdK hX1 (by rw [show Nat.min 1 (n + 1 - i) = 1 by simp only [Nat.min_def]; split <;> omega]; rfl) (fun j u hj => by rw [add_off, Nat.zero_add, blk_cell hV1]; simpa [cc] using hj) (by rw [cc_len, List.size_toArray, lL1]; omega) (cc_one e)
    rw [← hL2]
    exact this
  rw [show Nat.min 1 (n + 1 - i) = 1 by simp only [Nat.min_def]; split <;> omega] at hcp2
  have hR : L2 = A ++ cc e ++ B ++ D := by
    rw [← hL2, ← hL1, hMD, ← lA, show (i + 1) * 9 = A.length + 9 by omega]
    exact lay_shift A B (cc e) D M 9 (cc_len e) lM
  have HRES := Lib.hid (show OwnC base (W1.setRow g L2.toArray) (.slice (some ⟨g, 0, none⟩) (n + 1) c) (insAtK ls i e) from by
    refine ⟨by rw [flat_len cc_len, insAt_lenK], .inr ⟨g, c, L2.toArray, by rw [insAt_lenK, hl], hg0, setRow_heap W1 g L1.toArray L2.toArray 49 (0, 0) hX1, by rw [insAt_lenK, hl]; exact hc, hcm, ?_, ?_⟩⟩
    · rw [List.size_toArray, ← hL2, lay_len _ _ _ (by rw [cc_len, lL1]; omega)]; exact lL1
    · rw [insAt_flatK, insAt_lenK, hl, hA, hB, hR]
      show (A ++ cc e ++ B ++ D).take ((n + 1) * 9) = _
      have : (A ++ cc e ++ B).length = (n + 1) * 9 := by simp only [List.length_append, lA, lB, cc_len]; omega
      rw [← this, List.take_left])
  have HGR := Lib.hid (show w.grownBy (W1.setRow g L2.toArray) (some g) from ⟨by rw [← hW1]; rfl, by rw [← hW1]; rfl, by rw [← hW1]; rfl, by rw [← hW1]; simp [World.setRow], fun k hk hne => by
    have hkg : k ≠ g := fun e => hne (by rw [e])
    rw [setRow_other W1 g k _ hkg, ← hW1, setRow_other w.drew g k _ hkg]
    rfl⟩)
  have hw1 : IntKind.i64.wrap ((n : Int) + 1) = (n : Int) + 1 := by rw [IntKind.wrap_i64]; omega
  have hz2 : ¬ ((i : Int) = (n : Int)) := by omega
  have hz3 : ¬ ((c : Int) < (n : Int) + 1) := by omega
  have mixed : Try.prog.follows .mixedOrders = true := by kernel_rfl
  have hw2 : IntKind.i64.wrap ((i : Int) + 1) = (i : Int) + 1 := by rw [IntKind.wrap_i64]; omega
  have hb1 : (0 : Int) ≤ (i : Int) + 1 := by omega
  have htn : ((i : Int) + 1).toNat = i + 1 := by omega
  have hb3 : (i : Int) ≤ (n : Int) := by omega
  have hb5 : (i : Int) + 1 ≤ (n : Int) + 1 := by omega
  have hb6 : (i : Int) ≤ (n : Int) + 1 := by omega
  have hin : i ≤ n := by omega
  have hb2 : ¬ (c = i + 1) := by omega
  have hb4 : ¬ (c = i) := by omega
  clear hvc h hv hcur htk hAB hMD hBc hB1 hR hL1 hL2 hW1 hX1 hV1 hA hB
  go_enter Try.func73, Try.ntmps73
  go_wp2_with (simp only [hov])
  go_region_law_o (refine step_copy_runI rfl _ _ 33 33 rfl _ _ (by simp [Act.eval, Act.put]) (by simp [Act.eval, Act.put]) (hcp1 _ _ _) ?_)
  clear hcp1 hov
  go_wp2_with (at_builtin; refine wpList_copy_runI _ rfl _ _ 33 33 rfl _ _ rfl rfl (hcp2 _ _) ?_)
  go_ret
  exact ⟨_, rfl, HRES.out, HGR.out⟩
set_option maxRecDepth 100000 in
set_option maxHeartbeats 2000000 in
theorem insertGrowK (base g n i : Nat) (ls : List Cd) (e : Cd) (vb : Nat) (w : World) (h : OwnC base w (.slice (some ⟨g, 0, none⟩) n n) ls) (hl : ls.length = n) (hn : n ≤ 1000) (hv : w.heap[vb]? = some (.cells #[.string e.a, .string e.i, .int .i64 e.s, .int .i64 e.o, .int .i64 e.l, .int .i64 e.t, .int .i64 e.k, .int .i64 e.n, .bool e.g] 49 (0, 0))) (hi : i < n) (hvb : vb ≠ g) (hbase : base ≤ w.heap.size) :
    Calls Try.prog 73 #[.slice (some ⟨g, 0, none⟩) n n, .int .i64 i, .slice (some ⟨vb, 0, none⟩) 1 1] w fun r w' => ∃ v', r = .returned v' ∧ OwnC base w' v' (insAtK ls i e) ∧ w.grownBy w' none := by
  obtain ⟨i0, hi0, hz0, hz1, hz2⟩ := info_parts' info_card
  have hvc : ∀ j u, (cc e)[j]? = some u → w.cell? ((⟨vb, 0, none⟩ : Addr).add j) = some u := fun j u hj => by
    rw [add_off, Nat.zero_add]
    have := blk_cell hv
    rw [this]
    simpa [cc] using hj
  rcases h.2 with ⟨e0, _⟩ | ⟨g', cap, cur, e0, hg0, hcur, hnc, hcm, hcs, htk⟩
  · cases e0
  simp only [Value.slice.injEq, Option.some.injEq, Addr.mk.injEq] at e0
  obtain ⟨⟨rfl, -⟩, -, rfl⟩ := e0
  obtain ⟨A, hA⟩ : ∃ A, flat cc (ls.take i) = A := ⟨_, rfl⟩
  obtain ⟨B, hB⟩ : ∃ B, flat cc (ls.drop i) = B := ⟨_, rfl⟩
  have lA : A.length = i * 9 := by rw [← hA, flat_len cc_len, List.length_take, hl]; congr 1; omega
  have lB : B.length = (n - i) * 9 := by rw [← hB, flat_len cc_len, List.length_drop, hl]
  have hAB : flat cc ls = A ++ B := by rw [← hA, ← hB, ← flat_app, List.take_append_drop]
  have hAc : ∀ j u, A[j]? = some u → w.cell? ((⟨g, 0, none⟩ : Addr).add j) = some u := fun j u hj => by
    rw [add_off, Nat.zero_add]
    refine own_rd cc_len h ?_
    rw [hAB, List.getElem?_append_left (List.getElem?_eq_some_iff.1 hj).1]
    exact hj
  have hBc : ∀ j u, B[j]? = some u → w.cell? ⟨g, i * 9 + j, none⟩ = some u := fun j u hj => by
    refine own_rd cc_len h ?_
    rw [hAB, ← lA, List.getElem?_append_right (by omega)]
    rw [show A.length + j - A.length = j by omega]
    exact hj
  have hB1 : ∀ u ∈ B, u.oneCell' = true := by rw [← hB]; exact flat_one cc_one _
  have hgl := blk_lt hcur
  have hvl := blk_lt hv
  obtain ⟨G, hG⟩ : ∃ G, w.heap.size = G := ⟨_, rfl⟩
  obtain ⟨q, hq⟩ : ∃ q, grownCap w (n + 1) n 49 = q := ⟨_, rfl⟩
  have hq1 : n + 1 ≤ q := by rw [← hq]; exact grownCap_ge _ _ _ _
  have hq2 : q ≤ maxLen := by rw [← hq]; exact grownCap_le_maxLen _ _ _ _ (by unfold maxLen; omega)
  obtain ⟨Z, hZ⟩ : ∃ Z : List Value, (Builtin.zeroCells Cd.zero.v.cells (n + 1 - i)).toList = Z := ⟨_, rfl⟩
  obtain ⟨D, hD⟩ : ∃ D : List Value, (Builtin.zeroCells Cd.zero.v.cells (q - (n + 1))).toList = D := ⟨_, rfl⟩
  have hzc : Cd.zero.v.cells.size = 9 := rfl
  have lZ : Z.length = (n + 1 - i) * 9 := by rw [← hZ, Array.length_toList, size_zeroCells, hzc]
  have lD : D.length = (q - (n + 1)) * 9 := by rw [← hD, Array.length_toList, size_zeroCells, hzc]
  obtain ⟨W1, hW1⟩ : ∃ W1, w.drew.alloc (.cells (A ++ Z ++ D).toArray 49) = W1 := ⟨_, rfl⟩
  have happ : ∀ ty, (Builtin.append_ #[33, 3] ty #[.slice (some ⟨g, 0, none⟩) i n, .int .i64 ((n : Int) + 1 - (i : Int))]).run Try.prog w = .ok (.slice (some ⟨G, 0, none⟩) (n + 1) q) W1 := fun ty => by
    have := run_append_zeros_grow (P := Try.prog) w 33 3 ty 49 i0 Cd.zero.v .i64 Try.underlying33 Try.underlying3 hi0 hz0 ⟨g, 0, none⟩ i n A (by rw [hz1, lA]) hAc (n + 1 - i) (by omega) (by rw [hz1]; omega) (by omega) (by omega) (by rw [hz2]; omega) (growslice_fits (by omega) (by rw [hz2]; omega))
    rw [show i + (n + 1 - i) = n + 1 by omega, hq, hG] at this
    rw [show ((n : Int) + 1 - (i : Int)) = ((n + 1 - i : Nat) : Int) by omega, this, ← hW1, ← hZ, ← hD]
    congr 3
    apply Array.ext'
    simp
  have hX1 : W1.heap[G]? = some (.cells (A ++ Z ++ D).toArray 49 (0, 0)) := by rw [← hW1]; exact blk_new_at hG _ _
  have hO1 : ∀ k, k < G → W1.heap[k]? = w.heap[k]? := fun k hk => by rw [← hW1]; exact Below.heap_alloc w.drew _ k (by rw [← hG] at hk; exact hk)
  have hV1 : W1.heap[vb]? = some (.cells #[.string e.a, .string e.i, .int .i64 e.s, .int .i64 e.o, .int .i64 e.l, .int .i64 e.t, .int .i64 e.k, .int .i64 e.n, .bool e.g] 49 (0, 0)) := (hO1 vb (by omega)).trans hv
  have lR : (A ++ Z ++ D).length = q * 9 := by simp only [List.length_append, lA, lZ, lD]; omega
  obtain ⟨L1, hL1⟩ : ∃ L1, lay (A ++ Z ++ D) (i * 9) (cc e) = L1 := ⟨_, rfl⟩
  have lL1 : L1.length = q * 9 := by rw [← hL1, lay_len _ _ _ (by rw [cc_len, lR]; omega), lR]
  obtain ⟨W2, hW2⟩ : ∃ W2, W1.setRow G L1.toArray = W2 := ⟨_, rfl⟩
  have hm1 : Nat.min 1 (n + 1 - i) = 1 := by simp only [Nat.min_def]; split <;> omega
  have hcp1 : ∀ ty dc, (Builtin.copy_ #[33, 33] ty #[.slice (some ⟨G, i * 9, none⟩) (n + 1 - i) dc, .slice (some ⟨vb, 0, none⟩) 1 1]).run Try.prog W1 = .ok (goInt (Nat.min 1 (n + 1 - i))) W2 := fun ty dc => by
    have := run_copyK W1 33 33 ty 49 G (i * 9) (n + 1 - i) dc ⟨vb, 0, none⟩ 1 1 (A ++ Z ++ D).toArray 49 (cc e) 9 Try.underlying33 size_cdK hX1 (by rw [hm1]; rfl) (fun j u hj => by rw [add_off, Nat.zero_add, blk_cell hV1]; simpa [cc] using hj) (by rw [cc_len, List.size_toArray, lR]; omega) (cc_one e)
    rw [← hW2, ← hL1]
    exact this
  rw [hm1] at hcp1
  have hX2 : W2.heap[G]? = some (.cells L1.toArray 49 (0, 0)) := by rw [← hW2]; exact setRow_heap W1 G _ L1.toArray 49 (0, 0) hX1
  have hO2 : ∀ k, k < G → W2.heap[k]? = w.heap[k]? := fun k hk => by rw [← hW2]; exact (setRow_other W1 G k _ (by omega)).trans (hO1 k hk)
  have hmin1 : Nat.min (n - i) (n - i) = n - i := by simp
  obtain ⟨L2, hL2⟩ : ∃ L2, lay L1 ((i + 1) * 9) B = L2 := ⟨_, rfl⟩
  obtain ⟨W3, hW3⟩ : ∃ W3, W2.drew.setRow G L2.toArray = W3 := ⟨_, rfl⟩
  have hcp2 : ∀ ty dc sc, (Builtin.copy_ #[33, 33] ty #[.slice (some ⟨G, (i + 1) * 9, none⟩) (n - i) dc, .slice (some ⟨g, i * 9, none⟩) (n - i) sc]).run Try.prog W2.drew = .ok (goInt (Nat.min (n - i) (n - i))) W3 := fun ty dc sc => by
    rw [← hW3, ← hL2]
    exact run_copyK W2.drew 33 33 ty 49 G ((i + 1) * 9) (n - i) dc ⟨g, i * 9, none⟩ (n - i) sc L1.toArray 49 B 9 Try.underlying33 size_cdK hX2 (by rw [lB, hmin1]) (fun j u hj => by rw [add_off]; exact (World.cell?_of_block (w := w) (hO2 g (by omega))).trans (hBc j u hj)) (by rw [lB, List.size_toArray, lL1]; omega) hB1
  rw [hmin1] at hcp2
  have hR : L2 = A ++ cc e ++ B ++ D := by
    rw [← hL2, ← hL1, ← lA, show (i + 1) * 9 = A.length + 9 by omega]
    exact lay_new A Z B (cc e) D 9 (cc_len e) (by rw [lZ, lB]; omega)
  have HRES := Lib.hid (show OwnC base W3 (.slice (some ⟨G, 0, none⟩) (n + 1) q) (insAtK ls i e) from by
    refine ⟨by rw [flat_len cc_len, insAt_lenK], .inr ⟨G, q, L2.toArray, by rw [insAt_lenK, hl], by omega, by rw [← hW3]; exact setRow_heap W2.drew G L1.toArray L2.toArray 49 (0, 0) hX2, by rw [insAt_lenK, hl]; exact hq1, hq2, ?_, ?_⟩⟩
    · rw [List.size_toArray, ← hL2, lay_len _ _ _ (by rw [lB, lL1]; omega)]; exact lL1
    · rw [insAt_flatK, insAt_lenK, hl, hA, hB, hR]
      show (A ++ cc e ++ B ++ D).take ((n + 1) * 9) = _
      have : (A ++ cc e ++ B).length = (n + 1) * 9 := by simp only [List.length_append, lA, lB, cc_len]; omega
      rw [← this, List.take_left])
  have HGR := Lib.hid (show w.grownBy W3 none from ⟨by rw [← hW3, ← hW2, ← hW1]; rfl, by rw [← hW3, ← hW2, ← hW1]; rfl, by rw [← hW3, ← hW2, ← hW1]; rfl, by rw [← hW3, ← hW2, ← hW1]; simp [World.setRow], fun k hk _ => by
    rw [← hW3, setRow_other W2.drew G k _ (by omega)]
    exact hO2 k (by omega)⟩)
  have hw1 : IntKind.i64.wrap ((n : Int) + 1) = (n : Int) + 1 := by rw [IntKind.wrap_i64]; omega
  have hw3 : IntKind.i64.wrap ((n : Int) + 1 - (i : Int)) = (n : Int) + 1 - (i : Int) := by rw [IntKind.wrap_i64]; omega
  have hz2 : ¬ ((i : Int) = (n : Int)) := by omega
  have hz3 : (n : Int) < (n : Int) + 1 := by omega
  have mixed : Try.prog.follows .mixedOrders = true := by kernel_rfl
  have hw2 : IntKind.i64.wrap ((i : Int) + 1) = (i : Int) + 1 := by rw [IntKind.wrap_i64]; omega
  have hb1 : (0 : Int) ≤ (i : Int) + 1 := by omega
  have htn : ((i : Int) + 1).toNat = i + 1 := by omega
  have hb3 : (i : Int) ≤ (n : Int) := by omega
  have hb5 : (i : Int) + 1 ≤ (n : Int) + 1 := by omega
  have hb6 : (i : Int) ≤ (n : Int) + 1 := by omega
  have hin : i ≤ n := by omega
  have hb2 : ¬ (q = i + 1) := by omega
  have hb4 : ¬ (q = i) := by omega
  have hb7 : ¬ (n = i) := by omega
  unfold maxLen at hq2
  clear hvc h hv hcur htk hAB hAc hBc hB1 hR hL1 hL2 hW1 hW2 hW3 hX1 hX2 hV1 hO1 hO2 hA hB hZ hD hq hG
  go_enter Try.func73, Try.ntmps73
  go_wp2_with (at_builtin; refine Lib.wpList_append_run _ rfl _ _ 33 3 rfl _ _ rfl rfl _ _ (happ _) ?_)
  clear happ
  go_wp2_with (at_builtin; refine wpList_copy_runI _ rfl _ _ 33 33 rfl _ _ rfl rfl (hcp1 _ _) ?_)
  clear hcp1
  go_region_law_o (refine step_copy_runI rfl _ _ 33 33 rfl _ _ (by simp [Act.eval, Act.put]) (by simp [Act.eval, Act.put]) (hcp2 _ _ _) ?_)
  clear hcp2
  go_wp2
  go_ret
  exact ⟨_, rfl, HRES.out, HGR.out⟩
set_option maxRecDepth 100000 in
set_option maxHeartbeats 1000000 in
theorem insertNilK (base : Nat) (e : Cd) (vb : Nat) (w : World) (hv : w.heap[vb]? = some (.cells #[.string e.a, .string e.i, .int .i64 e.s, .int .i64 e.o, .int .i64 e.l, .int .i64 e.t, .int .i64 e.k, .int .i64 e.n, .bool e.g] 49 (0, 0))) (hbase : base ≤ w.heap.size) :
    Calls Try.prog 73 #[.slice none 0 0, .int .i64 0, .slice (some ⟨vb, 0, none⟩) 1 1] w fun r w' => ∃ v', r = .returned v' ∧ OwnC base w' v' [e] ∧ w.grownBy w' none := by
  obtain ⟨i0, hi0, hz0, hz1, hz2⟩ := info_parts' info_card
  have hvc : ∀ j u, (cc e)[j]? = some u → w.cell? ((⟨vb, 0, none⟩ : Addr).add j) = some u := fun j u hj => by
    rw [add_off, Nat.zero_add]
    have := blk_cell hv
    rw [this]
    simpa [cc] using hj
  have HV := Lib.hid hvc
  clear hvc hv
  go_enter Try.func73, Try.ntmps73
  go_wp2_with (first | (at_builtin; refine wpList_append_own _ rfl _ _ 33 rfl base 49 i0 Cd.zero.v 9 88 Try.underlying33 hi0 hz0 hz1 hz2 rfl (by decide) (.slice none 0 0) 0 (flat cc []) rfl (OwnR.nil _ _) ⟨vb, 0, none⟩ 1 1 (cc e) rfl rfl HV.out (cc_one e) (by unfold maxLen; omega) (by omega) hbase ?_) | go_in)
  intro v' w1 ho hg _
  have HR := Lib.hid (show OwnC base w1 v' [e] from by
    unfold OwnC OwnR
    simpa [flat] using ho)
  have HG := Lib.hid (show w.grownBy w1 none from hg)
  clear ho hg
  go_wp2
  go_ret
  exact ⟨_, rfl, HR.out, HG.out⟩
theorem insertEK (base : Nat) (a : Option Addr) (n c i : Nat) (ls : List Cd) (e : Cd) (vb : Nat) (w : World) (h : OwnC base w (.slice a n c) ls) (hl : ls.length = n) (hn : n ≤ 1000) (hi : i ≤ n) (hv : w.heap[vb]? = some (.cells #[.string e.a, .string e.i, .int .i64 e.s, .int .i64 e.o, .int .i64 e.l, .int .i64 e.t, .int .i64 e.k, .int .i64 e.n, .bool e.g] 49 (0, 0))) (hvb : ∀ g o, a = some ⟨g, o, none⟩ → vb ≠ g) (hbase : base ≤ w.heap.size) :
    Calls Try.prog 73 #[.slice a n c, .int .i64 i, .slice (some ⟨vb, 0, none⟩) 1 1] w fun r w' => ∃ v', r = .returned v' ∧ OwnC base w' v' (insAtK ls i e) ∧ Below base w w' := by
  have R0 := Below.refl base w
  rcases h.2 with ⟨e0, hl0⟩ | ⟨g, cap, cur, e0, hg0, hcur, hnc, hcm, hcs, htk⟩
  · cases e0
    have h0 : ls = [] := List.eq_nil_of_length_eq_zero (by simpa using hl)
    subst h0
    obtain rfl : i = 0 := by omega
    exact (insertNilK base e vb w hv hbase).mono (fun r w' ⟨v', e1, h1, h2⟩ => ⟨v', e1, h1, R0.grown h2 hbase (fun k hk => by cases hk)⟩)
  · simp only [Value.slice.injEq] at e0
    obtain ⟨rfl, -, rfl⟩ := e0
    have hg : ∀ w', w.grownBy w' (some g) → Below base w w' := fun w' h2 => R0.grown h2 hbase (fun k hk => by cases hk; exact hg0)
    rw [hl] at hnc
    by_cases hin : i = n
    · subst hin
      by_cases hc : i < c
      · exact (insertEnd1K base g i c ls e vb w h hl hn hv hbase hc).mono (fun r w' ⟨v', e1, h1, h2⟩ => ⟨v', e1, h1, hg w' h2⟩)
      · obtain rfl : c = i := by omega
        exact (insertEnd0K base g c ls e vb w h hl hn hv hbase).mono (fun r w' ⟨v', e1, h1, h2⟩ => ⟨v', e1, h1, hg w' h2⟩)
    · by_cases hc : n + 1 ≤ c
      · exact (insertShiftK base g n c i ls e vb w h hl hn hv (by omega) hc (hvb g 0 rfl) hbase).mono (fun r w' ⟨v', e1, h1, h2⟩ => ⟨v', e1, h1, hg w' h2⟩)
      · obtain rfl : c = n := by omega
        exact (insertGrowK base g c i ls e vb w h hl hn hv (by omega) (hvb g 0 rfl) hbase).mono (fun r w' ⟨v', e1, h1, h2⟩ => ⟨v', e1, h1, hg w' (h2.but _)⟩)
theorem run_clear1K (w : World) (ty : TypeId) (b o c : Nat) (hc : ∀ j, j < 9 → (w.cell? ⟨b, o + j, none⟩).isSome = true) (hf : ∀ j, j < 9 → w.frozen? ⟨b, o + j, none⟩ = false) :
    (Builtin.clear_ #[33] ty #[.slice (some ⟨b, o, none⟩) 1 c]).run Try.prog w = .ok (.tuple #[]) (w.setCells b o (cc Cd.zero)) := by
  obtain ⟨i0, hi, hz0, hz1, hz2⟩ := info_parts' info_card
  have hv : (zeroValue 49).run Try.prog w = .ok Cd.zero.v w := by simp [zeroValue, typeInfo, hi, hz0]
  have hst := run_storeCells_cells (P := Try.prog) b o (cc Cd.zero) 0 w (by rw [cc_len]; simpa using hc) (by rw [cc_len]; simpa using hf) (cc_one _)
  simp only [Nat.add_zero] at hst
  have hzc : (Builtin.zeroCells (Cd.zero.v).cells 1).toList = cc Cd.zero := by first | kernel_rfl | (simp [Builtin.zeroCells, cc, Value.cells]; done) | (simp [Builtin.zeroCells, Array.range, Array.ofFn, cc, Value.cells]; rfl)
  simp only [Cd.v, Cd.zero, Cd.zero] at hv hzc
  simp [Builtin.clear_, run_underlying Try.underlying33, hv, hzc, hst]
def delAtK (ls : List Cd) (i : Nat) : List Cd := ls.take i ++ ls.drop (i + 1)
theorem delAt_lenK (ls : List Cd) (i : Nat) (h : i < ls.length) : (delAtK ls i).length = ls.length - 1 := by simp [delAtK]; omega
set_option maxRecDepth 100000 in
set_option maxHeartbeats 2000000 in
theorem deleteEK (base g n c i j : Nat) (ls : List Cd) (w : World) (h : OwnC base w (.slice (some ⟨g, 0, none⟩) n c) ls) (hl : ls.length = n) (hn : n ≤ 1000) (hi : i < n) (hj : j = i + 1) (hbase : base ≤ w.heap.size) :
    Calls Try.prog 72 #[.slice (some ⟨g, 0, none⟩) n c, .int .i64 i, .int .i64 j] w fun r w' => ∃ v', r = .returned v' ∧ OwnC base w' v' (delAtK ls i) ∧ Rim g w w' := by
  obtain ⟨i0, hi0, hz0, hz1, hz2⟩ := info_parts' info_card
  obtain ⟨-, hnc, hcm, cur, hcur, hcs, hbg⟩ := OwnR.num h
  have hij : i < j := by omega
  have hjn : j ≤ n := by omega
  obtain ⟨B, hB⟩ : ∃ B, flat cc (ls.drop j) = B := ⟨_, rfl⟩
  have lB : B.length = (n - j) * 9 := by rw [← hB, flat_len cc_len, List.length_drop, hl]
  have hBc : ∀ t u, B[t]? = some u → w.cell? ⟨g, j * 9 + t, none⟩ = some u := fun t u ht => by
    refine own_rd cc_len h ?_
    rw [← hB, ← flat_drop cc_len, List.getElem?_drop] at ht
    exact ht
  obtain ⟨A, hA, hsrc⟩ : ∃ A : Addr, (if c = j then some (⟨g, 0, none⟩ : Addr) else some ⟨g, j * 9, none⟩) = some A ∧ Hid (∀ t u, B[t]? = some u → w.drew.cell? (A.add t) = some u) := by
    by_cases h' : c = j
    · refine ⟨⟨g, 0, none⟩, by simp [h'], fun t u hu => ?_⟩
      have h0 : B.length = 0 := by rw [lB]; omega
      rw [List.length_eq_zero_iff.1 h0] at hu
      simp at hu
    · refine ⟨⟨g, j * 9, none⟩, by simp [h'], fun t u hu => ?_⟩
      rw [add_off]
      exact hBc t u hu
  have s1 : Hid (B.length = (n - j) * 9) := lB
  have s2 : Hid (∀ u ∈ B, u.oneCell' = true) := by rw [← hB]; exact flat_one cc_one _
  have hcell : ∀ q, q < c * 9 → (w.cell? ⟨g, q, none⟩).isSome = true := fun q hq => by
    rw [blk_cell hcur, Array.getElem?_eq_getElem (by rw [hcs]; exact hq)]; rfl
  have s3 : Hid (∀ t, t < B.length → (w.drew.cell? ⟨g, 0 + i * 9 + t, none⟩).isSome = true ∧ w.drew.frozen? ⟨g, 0 + i * 9 + t, none⟩ = false) := fun t ht => ⟨hcell _ (by rw [lB] at ht; omega), blk_free hcur _⟩
  obtain ⟨W1, hW1⟩ : ∃ W1, W1 = w.drew.setCells g (0 + i * 9) B := ⟨_, rfl⟩
  have hO1 : OwnC base W1 (.slice (some ⟨g, 0, none⟩) n c) (ls.take i ++ ls.drop j ++ ls.drop (n - 1)) := by
    have h1 := own_sets (w := w.drew) B (o := 0 + i * 9) h
    have e0 : 0 + i * 9 + B.length = (n - 1) * 9 := by rw [lB]; omega
    rw [setL_eq _ _ _ (by rw [flat_len cc_len, hl, e0]; omega), e0, Nat.zero_add, flat_take cc_len, flat_drop cc_len, ← hB, ← flat_app, ← flat_app] at h1
    unfold OwnC OwnR
    have e1 : (ls.take i ++ ls.drop j ++ ls.drop (n - 1)).length = ls.length := by simp; omega
    rw [e1, hW1, Nat.zero_add, ← hB]
    exact h1
  obtain ⟨-, -, -, cur1, hcur1, hcs1, -⟩ := OwnR.num hO1
  have lL : (ls.take i ++ ls.drop j ++ ls.drop (n - 1)).length = n := by simp; omega
  have e2 : i + (n - j) = n - 1 := by omega
  have hcl : ∀ ty, (Builtin.clear_ #[33] ty #[.slice (some ⟨g, (i + (n - j)) * 9, none⟩) (n - (i + (n - j))) (c - (i + (n - j)))]).run Try.prog W1 = .ok (.tuple #[]) (W1.setCells g ((i + (n - j)) * 9) (cc Cd.zero)) := fun ty => by
    rw [show n - (i + (n - j)) = 1 by omega]
    exact run_clear1K W1 ty g _ _ (fun t ht => by rw [blk_cell hcur1, Array.getElem?_eq_getElem (by rw [hcs1]; omega)]; rfl) (fun t ht => blk_free hcur1 _)
  have HRES := Lib.hid (show OwnC base (W1.setCells g ((i + (n - j)) * 9) (cc Cd.zero)) (.slice (some ⟨g, 0, none⟩) (i + (n - j)) c) (delAtK ls i) from by
    rw [e2]
    have h2 := OwnR.put cc_len hO1 (i := n - 1) (by rw [lL]; omega) Cd.zero
    have h3 := OwnR.take cc_len h2 (i := n - 1) (by rw [List.length_set, lL]; omega)
    have e3 : ((ls.take i ++ ls.drop j ++ ls.drop (n - 1)).set (n - 1) Cd.zero).take (n - 1) = delAtK ls i := by
      have e4 : (ls.take i ++ ls.drop j).length = n - 1 := by simp; omega
      rw [List.take_set_of_le (Nat.le_refl _), ← e4, List.take_left]
      unfold delAtK
      rw [hj]
    rw [e3] at h3
    exact h3)
  have HB := Lib.hid (show Rim g w (W1.setCells g ((i + (n - j)) * 9) (cc Cd.zero)) from by
    have k1 : Kept g w W1 := by rw [hW1]; exact kept_sets (u := w) (w := w.drew) B ⟨rfl, rfl, rfl, rfl, fun _ _ => rfl⟩
    have k2 := kept_sets (cc Cd.zero) (o := (i + (n - j)) * 9) k1
    exact Rim.kept k2)
  have hW : Hid (W1 = w.drew.setCells g (0 + i * 9) B) := hW1
  have mixed : Try.prog.follows .mixedOrders = true := by kernel_rfl
  have hic : i ≤ c := by omega
  have hjc : j ≤ c := by omega
  have hni : ¬ n = i := by omega
  have hcm2 : c ≤ 9223372036854775807 := by simp only [maxLen] at hcm; omega
  clear hW1 hO1 hcur1 hcs1 hcell hcur hcs hBc hB lB lL h e2 hj
  go_enter Try.func72, Try.ntmps72
  go_wp2_with fail
  go_region_law_o (refine step_append_room rfl (.tmp 22) (.tmp 25) 33 rfl 49 i0 9 Try.underlying33 hi0 hz1 g 0 i c (by simp [Act.eval, Act.put]) A (n - j) (c - j) B (by simp [Act.eval, Act.put]) s1.out hsrc.out s2.out (by omega) s3.out ?_; rw [← hW.out])
  go_wp2
  go_ret
  exact ⟨_, rfl, HRES.out, HB.out⟩
end Go.Proofs.Ytkhcgopehmndgaa
