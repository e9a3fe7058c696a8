/- Several texts as one: ShfI, ShfC, ShfF. -/
import Derived.Test.YtloeabdohgdmkaaBeZ
import Derived.Shelf.Spec.SlicesInsert
/- Rows of entries; slices.Insert of one entry. -/
namespace Go.Proofs.Ytloeabdohgdmkaa
open Go.RowKit
set_option linter.unusedVariables false
set_option linter.unusedSimpArgs false

/-- entries -/
def ec (e : En) : List Value := [.string e.c.a, .string e.c.i, .int .i64 e.c.s, .int .i64 e.c.o, .int .i64 e.c.l, .int .i64 e.c.t, .int .i64 e.c.k, .int .i64 e.c.n, .bool e.c.g, .int .i64 e.seen]

theorem ec_len (e : En) : (ec e).length = 10 := rfl

theorem ec_one (e : En) : ∀ u ∈ ec e, u.oneCell' = true := by
  intro u hu
  simp only [ec, List.mem_cons, List.not_mem_nil, or_false] at hu
  rcases hu with rfl | rfl | rfl | rfl | rfl | rfl | rfl | rfl | rfl | rfl <;> rfl

abbrev OwnE (base : Nat) (w : World) (v : Value) (ls : List En) : Prop := OwnR ec 10 56 base w v ls

abbrev EAt (w : World) (a : Option Addr) (ls : List En) : Prop := SAt ec 10 56 w a ls

theorem EAt.at {w : World} {b o i : Nat} {ls : List En} {x : En} (h : EAt w (some ⟨b, o, none⟩) ls) (hi : ls[i]? = some x) :
    w.cell? ⟨b, o + i * 10, none⟩ = some (.string x.c.a) ∧ w.cell? ⟨b, o + i * 10 + 1, none⟩ = some (.string x.c.i) ∧ w.cell? ⟨b, o + i * 10 + 2, none⟩ = some (.int .i64 x.c.s) ∧ w.cell? ⟨b, o + i * 10 + 3, none⟩ = some (.int .i64 x.c.o) ∧ w.cell? ⟨b, o + i * 10 + 4, none⟩ = some (.int .i64 x.c.l) ∧ w.cell? ⟨b, o + i * 10 + 5, none⟩ = some (.int .i64 x.c.t) ∧ w.cell? ⟨b, o + i * 10 + 6, none⟩ = some (.int .i64 x.c.k) ∧ w.cell? ⟨b, o + i * 10 + 7, none⟩ = some (.int .i64 x.c.n) ∧ w.cell? ⟨b, o + i * 10 + 8, none⟩ = some (.bool x.c.g) ∧ w.cell? ⟨b, o + i * 10 + 9, none⟩ = some (.int .i64 x.seen) :=
  ⟨h.get ec_len hi 0 _ rfl, h.get ec_len hi 1 _ rfl, h.get ec_len hi 2 _ rfl, h.get ec_len hi 3 _ rfl, h.get ec_len hi 4 _ rfl, h.get ec_len hi 5 _ rfl, h.get ec_len hi 6 _ rfl, h.get ec_len hi 7 _ rfl, h.get ec_len hi 8 _ rfl, h.get ec_len hi 9 _ rfl⟩

theorem info_en : (Try.prog.info? 56).map (fun i => (i.zero, i.size, i.bytes)) = some (some En.zero.v, 10, 96) := by kernel_rfl


def insAt (ls : List En) (i : Nat) (e : En) : List En := ls.take i ++ [e] ++ ls.drop i
theorem insAt_len (ls : List En) (i : Nat) (e : En) : (insAt ls i e).length = ls.length + 1 := by simp [insAt]; omega
theorem insAt_flat (ls : List En) (i : Nat) (e : En) : flat ec (insAt ls i e) = flat ec (ls.take i) ++ ec e ++ flat ec (ls.drop i) := by
  unfold insAt
  rw [flat_app, flat_snoc]
theorem insAt_end (ls : List En) (e : En) : insAt ls ls.length e = ls ++ [e] := by simp [insAt]
theorem size_en : (Try.prog.info? 56).map (·.size) = some 10 := by kernel_rfl
theorem shape_of {w : World} {b : Nat} {cur : Array Value} {T : TypeId} (h : w.heap[b]? = some (.cells cur T (0, 0))) : w.shape? b = some (T, cur.size) := by simp [World.shape?, h]
set_option maxRecDepth 100000 in
set_option maxHeartbeats 1000000 in
theorem insertEnd1 (base g n c : Nat) (ls : List En) (e : En) (vb : Nat) (w : World) (h : OwnE base w (.slice (some ⟨g, 0, none⟩) n c) ls) (hl : ls.length = n) (hn : n ≤ 1000) (hv : w.heap[vb]? = some (.cells #[.string e.c.a, .string e.c.i, .int .i64 e.c.s, .int .i64 e.c.o, .int .i64 e.c.l, .int .i64 e.c.t, .int .i64 e.c.k, .int .i64 e.c.n, .bool e.c.g, .int .i64 e.seen] 56 (0, 0))) (hbase : base ≤ w.heap.size) (hc : n < c) :
    Calls Try.prog 59 #[.slice (some ⟨g, 0, none⟩) n c, .int .i64 n, .slice (some ⟨vb, 0, none⟩) 1 1] w fun r w' => ∃ v', r = .returned v' ∧ OwnE base w' v' (insAt ls n e) ∧ w.grownBy w' (some g) := by
  obtain ⟨i0, hi0, hz0, hz1, hz2⟩ := info_parts' info_en
  have hvc : ∀ j u, (ec e)[j]? = some u → w.cell? ((⟨vb, 0, none⟩ : Addr).add j) = some u := fun j u hj => by
    rw [add_off, Nat.zero_add]
    have := blk_cell hv
    rw [this]
    simpa [ec] using hj
  have HV := Lib.hid hvc
  have HO := Lib.hid h
  have HL := Lib.hid hl
  clear hvc hv h hl
  have hcn : ¬ c = n := by omega
  go_enter Try.func59, Try.ntmps59
  go_wp2_with (first | (at_builtin; refine wpList_append_own _ rfl _ _ 63 rfl base 56 i0 En.zero.v 10 96 Try.underlying63 hi0 hz0 hz1 hz2 rfl (by decide) (.slice (some ⟨g, 0, none⟩) n c) n (flat ec ls) rfl (by have := HO.out; unfold OwnE OwnR at this; rwa [HL.out] at this) ⟨vb, 0, none⟩ 1 1 (ec e) rfl rfl HV.out (ec_one e) (by unfold maxLen; omega) (by omega) hbase ?_) | go_in)
  intro v' w1 ho hg _
  have HR := Lib.hid (show OwnE base w1 v' (insAt ls n e) from by
    have hh := HL.out
    unfold OwnE OwnR
    rw [insAt_len, ← hh, insAt_end, flat_snoc, hh]
    exact ho)
  have HG := Lib.hid hg
  clear ho hg
  go_wp2
  go_ret
  exact ⟨_, rfl, HR.out, HG.out⟩

set_option maxRecDepth 100000 in
set_option maxHeartbeats 1000000 in
theorem insertEnd0 (base g n : Nat) (ls : List En) (e : En) (vb : Nat) (w : World) (h : OwnE base w (.slice (some ⟨g, 0, none⟩) n n) ls) (hl : ls.length = n) (hn : n ≤ 1000) (hv : w.heap[vb]? = some (.cells #[.string e.c.a, .string e.c.i, .int .i64 e.c.s, .int .i64 e.c.o, .int .i64 e.c.l, .int .i64 e.c.t, .int .i64 e.c.k, .int .i64 e.c.n, .bool e.c.g, .int .i64 e.seen] 56 (0, 0))) (hbase : base ≤ w.heap.size) :
    Calls Try.prog 59 #[.slice (some ⟨g, 0, none⟩) n n, .int .i64 n, .slice (some ⟨vb, 0, none⟩) 1 1] w fun r w' => ∃ v', r = .returned v' ∧ OwnE base w' v' (insAt ls n e) ∧ w.grownBy w' (some g) := by
  obtain ⟨i0, hi0, hz0, hz1, hz2⟩ := info_parts' info_en
  have hvc : ∀ j u, (ec e)[j]? = some u → w.cell? ((⟨vb, 0, none⟩ : Addr).add j) = some u := fun j u hj => by
    rw [add_off, Nat.zero_add]
    have := blk_cell hv
    rw [this]
    simpa [ec] using hj
  have HV := Lib.hid hvc
  have HO := Lib.hid h
  have HL := Lib.hid hl
  clear hvc hv h hl
  skip
  go_enter Try.func59, Try.ntmps59
  go_wp2_with (first | (at_builtin; refine wpList_append_own _ rfl _ _ 63 rfl base 56 i0 En.zero.v 10 96 Try.underlying63 hi0 hz0 hz1 hz2 rfl (by decide) (.slice (some ⟨g, 0, none⟩) n n) n (flat ec ls) rfl (by have := HO.out; unfold OwnE OwnR at this; rwa [HL.out] at this) ⟨vb, 0, none⟩ 1 1 (ec e) rfl rfl HV.out (ec_one e) (by unfold maxLen; omega) (by omega) hbase ?_) | go_in)
  intro v' w1 ho hg _
  have HR := Lib.hid (show OwnE base w1 v' (insAt ls n e) from by
    have hh := HL.out
    unfold OwnE OwnR
    rw [insAt_len, ← hh, insAt_end, flat_snoc, hh]
    exact ho)
  have HG := Lib.hid hg
  clear ho hg
  go_wp2
  go_ret
  exact ⟨_, rfl, HR.out, HG.out⟩

set_option maxRecDepth 100000 in
set_option maxHeartbeats 2000000 in
theorem insertShift (base g n c i : Nat) (ls : List En) (e : En) (vb : Nat) (w : World) (h : OwnE base w (.slice (some ⟨g, 0, none⟩) n c) ls) (hl : ls.length = n) (hn : n ≤ 1000) (hv : w.heap[vb]? = some (.cells #[.string e.c.a, .string e.c.i, .int .i64 e.c.s, .int .i64 e.c.o, .int .i64 e.c.l, .int .i64 e.c.t, .int .i64 e.c.k, .int .i64 e.c.n, .bool e.c.g, .int .i64 e.seen] 56 (0, 0))) (hi : i < n) (hc : n + 1 ≤ c) (hvb : vb ≠ g) (hbase : base ≤ w.heap.size) :
    Calls Try.prog 59 #[.slice (some ⟨g, 0, none⟩) n c, .int .i64 i, .slice (some ⟨vb, 0, none⟩) 1 1] w fun r w' => ∃ v', r = .returned v' ∧ OwnE base w' v' (insAt ls i e) ∧ w.grownBy w' (some g) := by
  obtain ⟨i0, hi0, hz0, hz1, hz2⟩ := info_parts' info_en
  have hvc : ∀ j u, (ec e)[j]? = some u → w.cell? ((⟨vb, 0, none⟩ : Addr).add j) = some u := fun j u hj => by
    rw [add_off, Nat.zero_add]
    have := blk_cell hv
    rw [this]
    simpa [ec] using hj
  rcases h.2 with ⟨e0, _⟩ | ⟨g', cap, cur, e0, hg0, hcur, hnc, hcm, hcs, htk⟩
  · cases e0
  simp only [Value.slice.injEq, Option.some.injEq, Addr.mk.injEq] at e0
  obtain ⟨⟨rfl, -⟩, -, rfl⟩ := e0
  have hov : ∀ lb cb, (callFunc 79 #[.slice (some ⟨vb, 0, none⟩) 1 1, .slice (some ⟨g, (i + 1) * 10, none⟩) lb cb]).run Try.prog w = .ok (.value (.bool false)) w := fun lb cb => by
    rw [run_callFunc_extern Try.func79 (by kernel_rfl) (by kernel_rfl) (by kernel_rfl) (e := Extern.SlicesOverlaps.overlaps #[63, 63] #[4]) (by kernel_rfl),
      Lib.run_overlaps_apart w 63 4 56 Try.underlying63 10 (fun w => Try.sizeOf56 w) ⟨vb, 0, none⟩ ⟨g, (i + 1) * 10, none⟩ 1 1 lb cb hvb 56 56 _ _ (shape_of hv) (shape_of hcur) (by simp only [ne_eq]; omega) (blk_free hv _) (blk_free hv _)]
    rfl
  have hcm' : c ≤ 9223372036854775807 := by simp only [maxLen] at hcm; omega
  obtain ⟨A, hA⟩ : ∃ A, flat ec (ls.take i) = A := ⟨_, rfl⟩
  obtain ⟨B, hB⟩ : ∃ B, flat ec (ls.drop i) = B := ⟨_, rfl⟩
  have lA : A.length = i * 10 := by rw [← hA, flat_len ec_len, List.length_take, hl]; congr 1; omega
  have lB : B.length = (n - i) * 10 := by rw [← hB, flat_len ec_len, List.length_drop, hl]
  have hAB : flat ec ls = A ++ B := by rw [← hA, ← hB, ← flat_app, List.take_append_drop]
  have hcl : cur.toList.length = c * 10 := by rw [Array.length_toList]; exact hcs
  obtain ⟨M, D, hMD, lM⟩ : ∃ M D, cur.toList = A ++ M ++ D ∧ M.length = B.length + 10 := by
    refine ⟨(cur.toList.drop (i * 10)).take ((n - i) * 10 + 10), (cur.toList.drop (i * 10)).drop ((n - i) * 10 + 10), ?_, ?_⟩
    · rw [List.append_assoc, List.take_append_drop]
      have : A = cur.toList.take (i * 10) := by
        have h1 : (A ++ B).take A.length = A := List.take_left
        rw [← hAB, ← htk, lA, List.take_take] at h1
        rw [← h1]
        congr 1
        rw [hl]
        have : i * 10 ≤ n * 10 := by omega
        omega
      rw [this, List.take_append_drop]
    · rw [List.length_take, List.length_drop, hcl, lB]
      omega
  have hBc : ∀ j u, B[j]? = some u → w.cell? ((⟨g, i * 10, none⟩ : Addr).add j) = some u := fun j u hj => by
    rw [add_off]
    refine own_rd ec_len h ?_
    rw [hAB, ← lA, List.getElem?_append_right (by omega)]
    rw [show A.length + j - A.length = j by omega]
    exact hj
  have hB1 : ∀ u ∈ B, u.oneCell' = true := by rw [← hB]; exact flat_one ec_one _
  have hmin1 : Nat.min (n + 1 - i) (n - i) = n - i := by simp only [Nat.min_def]; split <;> omega
  obtain ⟨L1, hL1⟩ : ∃ L1, (lay cur.toList ((i + 1) * 10) B) = L1 := ⟨_, rfl⟩
  have hcp1 : ∀ ty dc sc, (Builtin.copy_ #[63, 63] ty #[.slice (some ⟨g, (i + 1) * 10, none⟩) (n - i) dc, .slice (some ⟨g, i * 10, none⟩) (n + 1 - i) sc]).run Try.prog w.drew = .ok (goInt (Nat.min (n + 1 - i) (n - i))) (w.drew.setRow g L1.toArray) := fun ty dc sc => by
    rw [← hL1]
    exact run_copyK w.drew 63 63 ty 56 g ((i + 1) * 10) (n - i) dc ⟨g, i * 10, none⟩ (n + 1 - i) sc cur 56 B 10 Try.underlying63 size_en hcur (by rw [lB, hmin1]) hBc (by rw [lB, hcs]; omega) hB1
  rw [hmin1] at hcp1
  have lL1 : L1.length = c * 10 := by rw [← hL1, lay_len _ _ _ (by rw [lB, hcl]; omega)]; exact hcl
  obtain ⟨W1, hW1⟩ : ∃ W1, w.drew.setRow g L1.toArray = W1 := ⟨_, rfl⟩
  have hX1 : W1.heap[g]? = some (.cells L1.toArray 56 (0, 0)) := by rw [← hW1]; exact setRow_heap w.drew g cur L1.toArray 56 (0, 0) hcur
  have hV1 : W1.heap[vb]? = some (.cells #[.string e.c.a, .string e.c.i, .int .i64 e.c.s, .int .i64 e.c.o, .int .i64 e.c.l, .int .i64 e.c.t, .int .i64 e.c.k, .int .i64 e.c.n, .bool e.c.g, .int .i64 e.seen] 56 (0, 0)) := by rw [← hW1]; exact (setRow_other w.drew g vb _ hvb).trans hv
  rw [hW1] at hcp1
  obtain ⟨L2, hL2⟩ : ∃ L2, (lay L1 (i * 10) (ec e)) = L2 := ⟨_, rfl⟩
  have hcp2 : ∀ ty dc, (Builtin.copy_ #[63, 63] ty #[.slice (some ⟨g, i * 10, none⟩) (n + 1 - i) dc, .slice (some ⟨vb, 0, none⟩) 1 1]).run Try.prog W1 = .ok (goInt (Nat.min 1 (n + 1 - i))) (W1.setRow g L2.toArray) := fun ty dc => by
    have := run_copyK W1 63 63 ty 56 g (i * 10) (n + 1 - i) dc ⟨vb, 0, none⟩ 1 1 L1.toArray 56 (ec e) 10 Try.underlying63 size_en hX1 (by rw [show Nat.min 1 (n + 1 - i) = 1 by simp only [Nat.min_def]; split <;> omega]; rfl) (fun j u hj => by rw [add_off, Nat.zero_add, blk_cell hV1]; simpa [ec] using hj) (by rw [ec_len, List.size_toArray, lL1]; omega) (ec_one e)
    rw [← hL2]
    exact this
  rw [show Nat.min 1 (n + 1 - i) = 1 by simp only [Nat.min_def]; split <;> omega] at hcp2
  have hR : L2 = A ++ ec e ++ B ++ D := by
    rw [← hL2, ← hL1, hMD, ← lA, show (i + 1) * 10 = A.length + 10 by omega]
    exact lay_shift A B (ec e) D M 10 (ec_len e) lM
  have HRES := Lib.hid (show OwnE base (W1.setRow g L2.toArray) (.slice (some ⟨g, 0, none⟩) (n + 1) c) (insAt ls i e) from by
    refine ⟨by rw [flat_len ec_len, insAt_len], .inr ⟨g, c, L2.toArray, by rw [insAt_len, hl], hg0, setRow_heap W1 g L1.toArray L2.toArray 56 (0, 0) hX1, by rw [insAt_len, hl]; exact hc, hcm, ?_, ?_⟩⟩
    · rw [List.size_toArray, ← hL2, lay_len _ _ _ (by rw [ec_len, lL1]; omega)]; exact lL1
    · rw [insAt_flat, insAt_len, hl, hA, hB, hR]
      show (A ++ ec e ++ B ++ D).take ((n + 1) * 10) = _
      have : (A ++ ec e ++ B).length = (n + 1) * 10 := by simp only [List.length_append, lA, lB, ec_len]; omega
      rw [← this, List.take_left])
  have HGR := Lib.hid (show w.grownBy (W1.setRow g L2.toArray) (some g) from ⟨by rw [← hW1]; rfl, by rw [← hW1]; rfl, by rw [← hW1]; rfl, by rw [← hW1]; simp [World.setRow], fun k hk hne => by
    have hkg : k ≠ g := fun e => hne (by rw [e])
    rw [setRow_other W1 g k _ hkg, ← hW1, setRow_other w.drew g k _ hkg]
    rfl⟩)
  have hw1 : IntKind.i64.wrap ((n : Int) + 1) = (n : Int) + 1 := by rw [IntKind.wrap_i64]; omega
  have hz2 : ¬ ((i : Int) = (n : Int)) := by omega
  have hz3 : ¬ ((c : Int) < (n : Int) + 1) := by omega
  have mixed : Try.prog.follows .mixedOrders = true := by kernel_rfl
  have hw2 : IntKind.i64.wrap ((i : Int) + 1) = (i : Int) + 1 := by rw [IntKind.wrap_i64]; omega
  have hb1 : (0 : Int) ≤ (i : Int) + 1 := by omega
  have htn : ((i : Int) + 1).toNat = i + 1 := by omega
  have hb3 : (i : Int) ≤ (n : Int) := by omega
  have hb5 : (i : Int) + 1 ≤ (n : Int) + 1 := by omega
  have hb6 : (i : Int) ≤ (n : Int) + 1 := by omega
  have hin : i ≤ n := by omega
  have hb2 : ¬ (c = i + 1) := by omega
  have hb4 : ¬ (c = i) := by omega
  clear hvc h hv hcur htk hAB hMD hBc hB1 hR hL1 hL2 hW1 hX1 hV1 hA hB
  go_enter Try.func59, Try.ntmps59
  go_wp2_with (simp only [hov])
  go_region_law_o (refine step_copy_runI rfl _ _ 63 63 rfl _ _ (by simp [Act.eval, Act.put]) (by simp [Act.eval, Act.put]) (hcp1 _ _ _) ?_)
  clear hcp1 hov
  go_wp2_with (at_builtin; refine wpList_copy_runI _ rfl _ _ 63 63 rfl _ _ rfl rfl (hcp2 _ _) ?_)
  go_ret
  exact ⟨_, rfl, HRES.out, HGR.out⟩

set_option maxRecDepth 100000 in
set_option maxHeartbeats 2000000 in
theorem insertGrow (base g n i : Nat) (ls : List En) (e : En) (vb : Nat) (w : World) (h : OwnE base w (.slice (some ⟨g, 0, none⟩) n n) ls) (hl : ls.length = n) (hn : n ≤ 1000) (hv : w.heap[vb]? = some (.cells #[.string e.c.a, .string e.c.i, .int .i64 e.c.s, .int .i64 e.c.o, .int .i64 e.c.l, .int .i64 e.c.t, .int .i64 e.c.k, .int .i64 e.c.n, .bool e.c.g, .int .i64 e.seen] 56 (0, 0))) (hi : i < n) (hvb : vb ≠ g) (hbase : base ≤ w.heap.size) :
    Calls Try.prog 59 #[.slice (some ⟨g, 0, none⟩) n n, .int .i64 i, .slice (some ⟨vb, 0, none⟩) 1 1] w fun r w' => ∃ v', r = .returned v' ∧ OwnE base w' v' (insAt ls i e) ∧ w.grownBy w' none := by
  obtain ⟨i0, hi0, hz0, hz1, hz2⟩ := info_parts' info_en
  have hvc : ∀ j u, (ec e)[j]? = some u → w.cell? ((⟨vb, 0, none⟩ : Addr).add j) = some u := fun j u hj => by
    rw [add_off, Nat.zero_add]
    have := blk_cell hv
    rw [this]
    simpa [ec] using hj
  rcases h.2 with ⟨e0, _⟩ | ⟨g', cap, cur, e0, hg0, hcur, hnc, hcm, hcs, htk⟩
  · cases e0
  simp only [Value.slice.injEq, Option.some.injEq, Addr.mk.injEq] at e0
  obtain ⟨⟨rfl, -⟩, -, rfl⟩ := e0
  obtain ⟨A, hA⟩ : ∃ A, flat ec (ls.take i) = A := ⟨_, rfl⟩
  obtain ⟨B, hB⟩ : ∃ B, flat ec (ls.drop i) = B := ⟨_, rfl⟩
  have lA : A.length = i * 10 := by rw [← hA, flat_len ec_len, List.length_take, hl]; congr 1; omega
  have lB : B.length = (n - i) * 10 := by rw [← hB, flat_len ec_len, List.length_drop, hl]
  have hAB : flat ec ls = A ++ B := by rw [← hA, ← hB, ← flat_app, List.take_append_drop]
  have hAc : ∀ j u, A[j]? = some u → w.cell? ((⟨g, 0, none⟩ : Addr).add j) = some u := fun j u hj => by
    rw [add_off, Nat.zero_add]
    refine own_rd ec_len h ?_
    rw [hAB, List.getElem?_append_left (List.getElem?_eq_some_iff.1 hj).1]
    exact hj
  have hBc : ∀ j u, B[j]? = some u → w.cell? ⟨g, i * 10 + j, none⟩ = some u := fun j u hj => by
    refine own_rd ec_len h ?_
    rw [hAB, ← lA, List.getElem?_append_right (by omega)]
    rw [show A.length + j - A.length = j by omega]
    exact hj
  have hB1 : ∀ u ∈ B, u.oneCell' = true := by rw [← hB]; exact flat_one ec_one _
  have hgl := blk_lt hcur
  have hvl := blk_lt hv
  obtain ⟨G, hG⟩ : ∃ G, w.heap.size = G := ⟨_, rfl⟩
  obtain ⟨q, hq⟩ : ∃ q, grownCap w (n + 1) n 56 = q := ⟨_, rfl⟩
  have hq1 : n + 1 ≤ q := by rw [← hq]; exact grownCap_ge _ _ _ _
  have hq2 : q ≤ maxLen := by rw [← hq]; exact grownCap_le_maxLen _ _ _ _ (by unfold maxLen; omega)
  obtain ⟨Z, hZ⟩ : ∃ Z : List Value, (Builtin.zeroCells En.zero.v.cells (n + 1 - i)).toList = Z := ⟨_, rfl⟩
  obtain ⟨D, hD⟩ : ∃ D : List Value, (Builtin.zeroCells En.zero.v.cells (q - (n + 1))).toList = D := ⟨_, rfl⟩
  have hzc : En.zero.v.cells.size = 10 := rfl
  have lZ : Z.length = (n + 1 - i) * 10 := by rw [← hZ, Array.length_toList, size_zeroCells, hzc]
  have lD : D.length = (q - (n + 1)) * 10 := by rw [← hD, Array.length_toList, size_zeroCells, hzc]
  obtain ⟨W1, hW1⟩ : ∃ W1, w.drew.alloc (.cells (A ++ Z ++ D).toArray 56) = W1 := ⟨_, rfl⟩
  have happ : ∀ ty, (Builtin.append_ #[63, 3] ty #[.slice (some ⟨g, 0, none⟩) i n, .int .i64 ((n : Int) + 1 - (i : Int))]).run Try.prog w = .ok (.slice (some ⟨G, 0, none⟩) (n + 1) q) W1 := fun ty => by
    have := run_append_zeros_grow (P := Try.prog) w 63 3 ty 56 i0 En.zero.v .i64 Try.underlying63 Try.underlying3 hi0 hz0 ⟨g, 0, none⟩ i n A (by rw [hz1, lA]) hAc (n + 1 - i) (by omega) (by rw [hz1]; omega) (by omega) (by omega) (by rw [hz2]; omega) (growslice_fits (by omega) (by rw [hz2]; omega))
    rw [show i + (n + 1 - i) = n + 1 by omega, hq, hG] at this
    rw [show ((n : Int) + 1 - (i : Int)) = ((n + 1 - i : Nat) : Int) by omega, this, ← hW1, ← hZ, ← hD]
    congr 3
    apply Array.ext'
    simp
  have hX1 : W1.heap[G]? = some (.cells (A ++ Z ++ D).toArray 56 (0, 0)) := by rw [← hW1]; exact blk_new_at hG _ _
  have hO1 : ∀ k, k < G → W1.heap[k]? = w.heap[k]? := fun k hk => by rw [← hW1]; exact Below.heap_alloc w.drew _ k (by rw [← hG] at hk; exact hk)
  have hV1 : W1.heap[vb]? = some (.cells #[.string e.c.a, .string e.c.i, .int .i64 e.c.s, .int .i64 e.c.o, .int .i64 e.c.l, .int .i64 e.c.t, .int .i64 e.c.k, .int .i64 e.c.n, .bool e.c.g, .int .i64 e.seen] 56 (0, 0)) := (hO1 vb (by omega)).trans hv
  have lR : (A ++ Z ++ D).length = q * 10 := by simp only [List.length_append, lA, lZ, lD]; omega
  obtain ⟨L1, hL1⟩ : ∃ L1, lay (A ++ Z ++ D) (i * 10) (ec e) = L1 := ⟨_, rfl⟩
  have lL1 : L1.length = q * 10 := by rw [← hL1, lay_len _ _ _ (by rw [ec_len, lR]; omega), lR]
  obtain ⟨W2, hW2⟩ : ∃ W2, W1.setRow G L1.toArray = W2 := ⟨_, rfl⟩
  have hm1 : Nat.min 1 (n + 1 - i) = 1 := by simp only [Nat.min_def]; split <;> omega
  have hcp1 : ∀ ty dc, (Builtin.copy_ #[63, 63] ty #[.slice (some ⟨G, i * 10, none⟩) (n + 1 - i) dc, .slice (some ⟨vb, 0, none⟩) 1 1]).run Try.prog W1 = .ok (goInt (Nat.min 1 (n + 1 - i))) W2 := fun ty dc => by
    have := run_copyK W1 63 63 ty 56 G (i * 10) (n + 1 - i) dc ⟨vb, 0, none⟩ 1 1 (A ++ Z ++ D).toArray 56 (ec e) 10 Try.underlying63 size_en hX1 (by rw [hm1]; rfl) (fun j u hj => by rw [add_off, Nat.zero_add, blk_cell hV1]; simpa [ec] using hj) (by rw [ec_len, List.size_toArray, lR]; omega) (ec_one e)
    rw [← hW2, ← hL1]
    exact this
  rw [hm1] at hcp1
  have hX2 : W2.heap[G]? = some (.cells L1.toArray 56 (0, 0)) := by rw [← hW2]; exact setRow_heap W1 G _ L1.toArray 56 (0, 0) hX1
  have hO2 : ∀ k, k < G → W2.heap[k]? = w.heap[k]? := fun k hk => by rw [← hW2]; exact (setRow_other W1 G k _ (by omega)).trans (hO1 k hk)
  have hmin1 : Nat.min (n - i) (n - i) = n - i := by simp
  obtain ⟨L2, hL2⟩ : ∃ L2, lay L1 ((i + 1) * 10) B = L2 := ⟨_, rfl⟩
  obtain ⟨W3, hW3⟩ : ∃ W3, W2.drew.setRow G L2.toArray = W3 := ⟨_, rfl⟩
  have hcp2 : ∀ ty dc sc, (Builtin.copy_ #[63, 63] ty #[.slice (some ⟨G, (i + 1) * 10, none⟩) (n - i) dc, .slice (some ⟨g, i * 10, none⟩) (n - i) sc]).run Try.prog W2.drew = .ok (goInt (Nat.min (n - i) (n - i))) W3 := fun ty dc sc => by
    rw [← hW3, ← hL2]
    exact run_copyK W2.drew 63 63 ty 56 G ((i + 1) * 10) (n - i) dc ⟨g, i * 10, none⟩ (n - i) sc L1.toArray 56 B 10 Try.underlying63 size_en hX2 (by rw [lB, hmin1]) (fun j u hj => by rw [add_off]; exact (World.cell?_of_block (w := w) (hO2 g (by omega))).trans (hBc j u hj)) (by rw [lB, List.size_toArray, lL1]; omega) hB1
  rw [hmin1] at hcp2
  have hR : L2 = A ++ ec e ++ B ++ D := by
    rw [← hL2, ← hL1, ← lA, show (i + 1) * 10 = A.length + 10 by omega]
    exact lay_new A Z B (ec e) D 10 (ec_len e) (by rw [lZ, lB]; omega)
  have HRES := Lib.hid (show OwnE base W3 (.slice (some ⟨G, 0, none⟩) (n + 1) q) (insAt ls i e) from by
    refine ⟨by rw [flat_len ec_len, insAt_len], .inr ⟨G, q, L2.toArray, by rw [insAt_len, hl], by omega, by rw [← hW3]; exact setRow_heap W2.drew G L1.toArray L2.toArray 56 (0, 0) hX2, by rw [insAt_len, hl]; exact hq1, hq2, ?_, ?_⟩⟩
    · rw [List.size_toArray, ← hL2, lay_len _ _ _ (by rw [lB, lL1]; omega)]; exact lL1
    · rw [insAt_flat, insAt_len, hl, hA, hB, hR]
      show (A ++ ec e ++ B ++ D).take ((n + 1) * 10) = _
      have : (A ++ ec e ++ B).length = (n + 1) * 10 := by simp only [List.length_append, lA, lB, ec_len]; omega
      rw [← this, List.take_left])
  have HGR := Lib.hid (show w.grownBy W3 none from ⟨by rw [← hW3, ← hW2, ← hW1]; rfl, by rw [← hW3, ← hW2, ← hW1]; rfl, by rw [← hW3, ← hW2, ← hW1]; rfl, by rw [← hW3, ← hW2, ← hW1]; simp [World.setRow], fun k hk _ => by
    rw [← hW3, setRow_other W2.drew G k _ (by omega)]
    exact hO2 k (by omega)⟩)
  have hw1 : IntKind.i64.wrap ((n : Int) + 1) = (n : Int) + 1 := by rw [IntKind.wrap_i64]; omega
  have hw3 : IntKind.i64.wrap ((n : Int) + 1 - (i : Int)) = (n : Int) + 1 - (i : Int) := by rw [IntKind.wrap_i64]; omega
  have hz2 : ¬ ((i : Int) = (n : Int)) := by omega
  have hz3 : (n : Int) < (n : Int) + 1 := by omega
  have mixed : Try.prog.follows .mixedOrders = true := by kernel_rfl
  have hw2 : IntKind.i64.wrap ((i : Int) + 1) = (i : Int) + 1 := by rw [IntKind.wrap_i64]; omega
  have hb1 : (0 : Int) ≤ (i : Int) + 1 := by omega
  have htn : ((i : Int) + 1).toNat = i + 1 := by omega
  have hb3 : (i : Int) ≤ (n : Int) := by omega
  have hb5 : (i : Int) + 1 ≤ (n : Int) + 1 := by omega
  have hb6 : (i : Int) ≤ (n : Int) + 1 := by omega
  have hin : i ≤ n := by omega
  have hb2 : ¬ (q = i + 1) := by omega
  have hb4 : ¬ (q = i) := by omega
  have hb7 : ¬ (n = i) := by omega
  unfold maxLen at hq2
  clear hvc h hv hcur htk hAB hAc hBc hB1 hR hL1 hL2 hW1 hW2 hW3 hX1 hX2 hV1 hO1 hO2 hA hB hZ hD hq hG
  go_enter Try.func59, Try.ntmps59
  go_wp2_with (at_builtin; refine Lib.wpList_append_run _ rfl _ _ 63 3 rfl _ _ rfl rfl _ _ (happ _) ?_)
  clear happ
  go_wp2_with (at_builtin; refine wpList_copy_runI _ rfl _ _ 63 63 rfl _ _ rfl rfl (hcp1 _ _) ?_)
  clear hcp1
  go_region_law_o (refine step_copy_runI rfl _ _ 63 63 rfl _ _ (by simp [Act.eval, Act.put]) (by simp [Act.eval, Act.put]) (hcp2 _ _ _) ?_)
  clear hcp2
  go_wp2
  go_ret
  exact ⟨_, rfl, HRES.out, HGR.out⟩

end Go.Proofs.Ytloeabdohgdmkaa

/- Entries: slices.Insert whole; slices.Clone. -/
namespace Go.Proofs.Ytloeabdohgdmkaa
open Go.RowKit
set_option linter.unusedVariables false
set_option linter.unusedSimpArgs false

set_option maxRecDepth 100000 in
set_option maxHeartbeats 1000000 in
theorem insertNil (base : Nat) (e : En) (vb : Nat) (w : World) (hv : w.heap[vb]? = some (.cells #[.string e.c.a, .string e.c.i, .int .i64 e.c.s, .int .i64 e.c.o, .int .i64 e.c.l, .int .i64 e.c.t, .int .i64 e.c.k, .int .i64 e.c.n, .bool e.c.g, .int .i64 e.seen] 56 (0, 0))) (hbase : base ≤ w.heap.size) :
    Calls Try.prog 59 #[.slice none 0 0, .int .i64 0, .slice (some ⟨vb, 0, none⟩) 1 1] w fun r w' => ∃ v', r = .returned v' ∧ OwnE base w' v' [e] ∧ w.grownBy w' none := by
  obtain ⟨i0, hi0, hz0, hz1, hz2⟩ := info_parts' info_en
  have hvc : ∀ j u, (ec e)[j]? = some u → w.cell? ((⟨vb, 0, none⟩ : Addr).add j) = some u := fun j u hj => by
    rw [add_off, Nat.zero_add]
    have := blk_cell hv
    rw [this]
    simpa [ec] using hj
  have HV := Lib.hid hvc
  clear hvc hv
  go_enter Try.func59, Try.ntmps59
  go_wp2_with (first | (at_builtin; refine wpList_append_own _ rfl _ _ 63 rfl base 56 i0 En.zero.v 10 96 Try.underlying63 hi0 hz0 hz1 hz2 rfl (by decide) (.slice none 0 0) 0 (flat ec []) rfl (OwnR.nil _ _) ⟨vb, 0, none⟩ 1 1 (ec e) rfl rfl HV.out (ec_one e) (by unfold maxLen; omega) (by omega) hbase ?_) | go_in)
  intro v' w1 ho hg _
  have HR := Lib.hid (show OwnE base w1 v' [e] from by
    unfold OwnE OwnR
    simpa [flat] using ho)
  have HG := Lib.hid (show w.grownBy w1 none from hg)
  clear ho hg
  go_wp2
  go_ret
  exact ⟨_, rfl, HR.out, HG.out⟩

theorem insertE (base : Nat) (a : Option Addr) (n c i : Nat) (ls : List En) (e : En) (vb : Nat) (w : World) (h : OwnE base w (.slice a n c) ls) (hl : ls.length = n) (hn : n ≤ 1000) (hi : i ≤ n) (hv : w.heap[vb]? = some (.cells #[.string e.c.a, .string e.c.i, .int .i64 e.c.s, .int .i64 e.c.o, .int .i64 e.c.l, .int .i64 e.c.t, .int .i64 e.c.k, .int .i64 e.c.n, .bool e.c.g, .int .i64 e.seen] 56 (0, 0))) (hvb : ∀ g o, a = some ⟨g, o, none⟩ → vb ≠ g) (hbase : base ≤ w.heap.size) :
    Calls Try.prog 59 #[.slice a n c, .int .i64 i, .slice (some ⟨vb, 0, none⟩) 1 1] w fun r w' => ∃ v', r = .returned v' ∧ OwnE base w' v' (insAt ls i e) ∧ Below base w w' := by
  have R0 := Below.refl base w
  rcases h.2 with ⟨e0, hl0⟩ | ⟨g, cap, cur, e0, hg0, hcur, hnc, hcm, hcs, htk⟩
  · cases e0
    have h0 : ls = [] := List.eq_nil_of_length_eq_zero (by simpa using hl)
    subst h0
    obtain rfl : i = 0 := by omega
    exact (insertNil base e vb w hv hbase).mono (fun r w' ⟨v', e1, h1, h2⟩ => ⟨v', e1, h1, R0.grown h2 hbase (fun k hk => by cases hk)⟩)
  · simp only [Value.slice.injEq] at e0
    obtain ⟨rfl, -, rfl⟩ := e0
    have hg : ∀ w', w.grownBy w' (some g) → Below base w w' := fun w' h2 => R0.grown h2 hbase (fun k hk => by cases hk; exact hg0)
    rw [hl] at hnc
    by_cases hin : i = n
    · subst hin
      by_cases hc : i < c
      · exact (insertEnd1 base g i c ls e vb w h hl hn hv hbase hc).mono (fun r w' ⟨v', e1, h1, h2⟩ => ⟨v', e1, h1, hg w' h2⟩)
      · obtain rfl : c = i := by omega
        exact (insertEnd0 base g c ls e vb w h hl hn hv hbase).mono (fun r w' ⟨v', e1, h1, h2⟩ => ⟨v', e1, h1, hg w' h2⟩)
    · by_cases hc : n + 1 ≤ c
      · exact (insertShift base g n c i ls e vb w h hl hn hv (by omega) hc (hvb g 0 rfl) hbase).mono (fun r w' ⟨v', e1, h1, h2⟩ => ⟨v', e1, h1, hg w' h2⟩)
      · obtain rfl : c = n := by omega
        exact (insertGrow base g c i ls e vb w h hl hn hv (by omega) (hvb g 0 rfl) hbase).mono (fun r w' ⟨v', e1, h1, h2⟩ => ⟨v', e1, h1, hg w' (h2.but _)⟩)
set_option maxRecDepth 100000 in
set_option maxHeartbeats 1000000 in
theorem cloneE (a : Option Addr) (n c : Nat) (ls : List En) (w : World) (h : EAt w a ls) (hl : ls.length = n) (hn : n ≤ 1000) (hf : (a = none ∧ c = 0) ∨ ∃ b o, a = some ⟨b, o, none⟩) :
    Calls Try.prog 47 #[.slice a n c] w fun e w' => ∃ v', e = .returned v' ∧ OwnE w.heap.size w' v' ls ∧ Below w.heap.size w w' := by
  obtain ⟨i0, hi, hz0, hz1, hz2⟩ := info_parts' info_en
  rcases hf with ⟨rfl, rfl⟩ | ⟨b, o, rfl⟩
  · have h0 : ls = [] := by
      rcases h with h | ⟨b, o, e, _⟩
      · exact h
      · cases e
    subst h0
    have hn0 : n = 0 := by simpa using hl.symm
    subst hn0
    have hq := (fun w : World => Lib.run_eql_slice_nil (P := Try.prog) w 63 56 none 0 0 0 0 Try.underlying63)
    clear h hl
    go_enter Try.func47, Try.ntmps47
    go_wp2
    go_ret
    exact ⟨_, rfl, OwnR.nil _ _, Below.refl _ _⟩
  · have HN := Lib.hid hl
    have hq := (fun w : World => Lib.run_eql_slice_nil (P := Try.prog) w 63 56 (some ⟨b, o, none⟩) n c 0 0 Try.underlying63)
    have O0 := (OwnR.made (enc := ec) (k := 10) (T := 56) w.heap.size w (Nat.le_refl _))
    have B0 : Below w.heap.size w (w.alloc (.cells #[] 56)) := (Below.refl _ _).alloc (Nat.le_refl _) _
    have hcells := Lib.hid (show ∀ j u, (flat ec ls)[j]? = some u → (w.alloc (.cells #[] 56)).cell? ((⟨b, o, none⟩ : Addr).add j) = some u from fun j u hj => by
      rw [add_off]
      rcases h with h | ⟨b', o', e, _, h⟩
      · rw [h] at hj; simp [flat] at hj
      · simp at e
        obtain ⟨rfl, rfl⟩ := e
        exact ext_cell B0 (h j u hj))
    clear h hl
    go_enter Try.func47, Try.ntmps47
    go_wp2_with (at_builtin; refine wpList_append_own _ rfl _ _ 63 rfl (w.heap.size) 56 i0 En.zero.v 10 96 Try.underlying63 hi hz0 hz1 hz2 rfl (by decide) (.slice (some ⟨w.heap.size, 0, none⟩) 0 0) 0 (flat ec []) rfl O0 ⟨b, o, none⟩ n c (flat ec ls) rfl ?c0 ?c1 ?c2 ?c3 ?c4 ?c5 ?_)
    case c0 => rw [flat_len ec_len, HN.out]
    case c1 => exact hcells.out
    case c2 => exact flat_one ec_one ls
    case c3 => unfold maxLen; omega
    case c4 => omega
    case c5 => exact B0.size
    intro v' w1 ho hg _
    have B1 := B0.grown hg B0.size (fun q hq => own_ge O0 hq)
    have ho' := Lib.hid (show OwnE w.heap.size w1 v' ls by unfold OwnE OwnR; rw [HN.out]; simpa [flat_nil] using ho)
    clear ho hg O0 B0 hq
    go_wp2
    go_ret
    exact ⟨_, rfl, ho'.out, B1⟩
end Go.Proofs.Ytloeabdohgdmkaa

/- Package shelf: where an entry is. -/
namespace Go.Proofs.Ytloeabdohgdmkaa
open Go.RowKit
set_option linter.unusedVariables false
set_option linter.unusedSimpArgs false

/-- is x ahead of the key k? -/
def elk (k : Ky) (x : En) : Bool := decide (kc x.c.a x.c.i k.1 k.2 < 0)
/-- entries by key, none twice -/
def Asc (es : List En) : Prop := es.Pairwise (fun x y => kc x.c.a x.c.i y.c.a y.c.i < 0)
/-- how many are ahead of k -/
def low (k : Ky) : List En → Nat
  | [] => 0
  | x :: xs => if elk k x then low k xs + 1 else 0
theorem low_le (k : Ky) (es : List En) : low k es ≤ es.length := by
  induction es with
  | nil => simp [low]
  | cons x xs ih => unfold low; split <;> simp <;> omega
theorem low_iff (k : Ky) : ∀ (es : List En), Asc es → ∀ (p : Nat) (x : En), es[p]? = some x → elk k x = decide (p < low k es) := by
  intro es
  induction es with
  | nil => intro _ p x h; simp at h
  | cons y ys ih =>
    intro hs p x h
    obtain ⟨h1, h2⟩ := List.pairwise_cons.1 hs
    unfold low
    cases p with
    | zero =>
      obtain rfl : y = x := by simpa using h
      cases hy : elk k y <;> simp
    | succ p =>
      have hx : ys[p]? = some x := by simpa using h
      cases hy : elk k y
      · simp only [Bool.false_eq_true, if_false, Nat.not_lt_zero, decide_false]
        have h3 := h1 x (List.mem_of_getElem? hx)
        unfold elk at hy ⊢
        have h4 : 0 ≤ kc y.c.a y.c.i k.1 k.2 := by have := of_decide_eq_false hy; omega
        refine decide_eq_false fun h5 => ?_
        have h6 := kc_le (a := y.c.a) (i := y.c.i) (b := x.c.a) (j := x.c.i) (c := k.1) (k := k.2) (by omega) (by omega)
        have h7 := kc_neg k.1 k.2 x.c.a x.c.i
        have h8 := kc_neg k.1 k.2 y.c.a y.c.i
        have h9 := kc_le (a := k.1) (i := k.2) (b := y.c.a) (j := y.c.i) (c := x.c.a) (k := x.c.i) (by omega) (by omega)
        omega
      · rw [ih h2 p x hx]
        simp
/-- is k's entry there? -/
def isIn (k : Ky) (es : List En) : Bool := match es[low k es]? with
  | some x => decide (x.c.a = k.1) && decide (x.c.i = k.2)
  | none => false
theorem cardLessB (a i b j : ByteArray) (w : World) :
    Calls Try.prog 69 #[.agg #[.string a, .string i], .agg #[.string b, .string j]] w fun e w' => e = .returned (.bool (decide (kc a i b j < 0))) ∧ Below w.heap.size w w' :=
  (cardLess a i b j w).mono fun e w' ⟨h1, h2⟩ => ⟨h1, h2.below⟩
def BoxK (w : World) (p : Nat) (k : Ky) : Prop := w.heap[p]? = some (.cells #[.string k.1, .string k.2] 30 (0, 0))
def BoxS (w : World) (sb : Nat) (most : Int) (a : Option Addr) (n c : Nat) : Prop := w.heap[sb]? = some (.cells #[.int .i64 most, .slice a n c] 83 (0, 0))

end Go.Proofs.Ytloeabdohgdmkaa
