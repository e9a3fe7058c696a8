/- Package net's walks: copies. -/
import Derived.Test.YtkkmnodhmmdllaaNetW
import Derived.Deep.DeepAppendRoom
namespace Go.Proofs.Ytkkmnodhmmdllaa
open Go.RowKit
set_option linter.unusedVariables false

theorem info_u8 : (Try.prog.info? 5).map (fun i => (i.zero, i.size, i.bytes)) = some (some (.int .u8 0), 1, 1) := by kernel_rfl
theorem own_rd {base : Nat} {w : World} {g n c : Nat} {ls : List Lt} (h : OwnL base w (.slice (some ⟨g, 0, none⟩) n c) ls) {q : Nat} {u : Value} (hq : (lf ls)[q]? = some u) : w.cell? ⟨g, q, none⟩ = some u := by
  rcases h.2 with ⟨e, _⟩ | ⟨g', cap, cur, e, hg, hh, hnc, hcm, hcs, ht⟩
  · cases e
  · simp only [Value.slice.injEq, Option.some.injEq, Addr.mk.injEq] at e
    obtain ⟨⟨rfl, -⟩, rfl, rfl⟩ := e
    rw [← ht] at hq
    have hq1 : q < ls.length * 3 := by
      rcases Nat.lt_or_ge q (ls.length * 3) with h | h
      · exact h
      · rw [List.getElem?_eq_none (by simp; omega)] at hq; cases hq
    rw [List.getElem?_take_of_lt hq1] at hq
    simp only [World.cell?, hh]
    simpa using hq
/-- a slice of bytes in a block of its own -/
def OwnB (base : Nat) (w : World) (x : Lt) (xs : List Int) : Prop := w.ownsRow base 5 1 (.slice x.a x.n x.c) xs.length (bc xs)
theorem own_u8 {base n : Nat} {w : World} {v : Value} {xs : List Int} (h : w.ownsRow base 5 1 v n (bc xs)) : ∃ a c, v = .slice a n c ∧ n = xs.length ∧ n ≤ c ∧ c ≤ maxLen ∧ BAt w a xs := by
  obtain ⟨a, c, h1, h2, h3, h4, h5, _⟩ := own_read h
  exact ⟨a, c, h1, h2, h3, h4, h5⟩
set_option maxRecDepth 100000 in
set_option maxHeartbeats 1000000 in
theorem bytesClone (a : Option Addr) (n c : Nat) (xs : List Int) (w : World) (h : BAt w a xs) (hl : xs.length = n) (hn : n ≤ 140737488355328) :
    Calls Try.prog 35 #[.slice a n c] w fun e w' => ∃ v, e = .returned v ∧ w'.ownsRow w.heap.size 5 1 v n (bc xs) ∧ Below w.heap.size w w' := by
  obtain ⟨i0, hi, hz0, hz1, hz2⟩ := info_parts info_u8
  have HL := Lib.hid hl
  rcases a with _ | ad
  · have h0 : n = 0 := by
      rcases h with h | ⟨b, o, e, _⟩
      · rw [h] at hl; simpa using hl.symm
      · cases e
    have hx : xs = [] := List.eq_nil_of_length_eq_zero (by omega)
    subst hx
    subst h0
    have hq := (fun w : World => Lib.run_eql_slice_nil (P := Try.prog) w 23 5 none 0 c 0 0 Try.underlying23)
    clear h hl HL
    go_enter Try.func35, Try.ntmps35
    go_wp2
    go_ret
    exact ⟨_, rfl, World.ownsRow_nil _ _ _ _, Below.refl _ _⟩
  · have hq := (fun w : World => Lib.run_eql_slice_nil (P := Try.prog) w 23 5 (some ad) n c 0 0 Try.underlying23)
    have O0 : (w.alloc (.cells #[] 5)).ownsRow w.heap.size 5 1 (.slice (some ⟨w.heap.size, 0, none⟩) 0 0) 0 (bc []) := World.ownsRow_made w #[] 0 (Nat.le_refl _) (by unfold maxLen; omega) rfl
    have B0 : Below w.heap.size w (w.alloc (.cells #[] 5)) := (Below.refl _ _).alloc (Nat.le_refl _) _
    have A0 := h.ext B0
    clear h hl
    go_enter Try.func35, Try.ntmps35
    go_wp2_with (at_builtin; refine wpList_append_bytes _ rfl _ _ 23 rfl (w.heap.size) 5 i0 Try.underlying23 hi hz0 hz1 hz2 (.slice (some ⟨w.heap.size, 0, none⟩) 0 0) (0) ([]) rfl (O0) (some ad) (n) (c) (xs) rfl (A0) (HL.out) ?c3 ?c4 ?c5 ?_)
    case c3 => unfold maxLen; omega
    case c4 => omega
    case c5 => exact B0.size
    intro v' w1 ho hg
    have B1 := B0.grown hg B0.size (fun q hq => own_ge O0 hq)
    have ho' := Lib.hid (show w1.ownsRow w.heap.size 5 1 v' n (bc xs) by simpa using ho)
    clear ho hg O0 B0 A0 hq
    go_wp2
    go_ret
    exact ⟨_, rfl, ho'.out, B1⟩

set_option maxRecDepth 100000 in
set_option maxHeartbeats 1000000 in
theorem copied (x : Lt) (xs : List Int) (w : World) (h : BAt w x.a xs) (hl : xs.length = x.n) (hn : x.n ≤ 140737488355328) :
    Calls Try.prog 26 #[.agg #[.int .i64 x.f, .int .i64 x.t, .slice x.a x.n x.c]] w fun e w' => ∃ y : Lt, e = .returned (.agg #[.int .i64 y.f, .int .i64 y.t, .slice y.a y.n y.c]) ∧ y.f = x.f ∧ y.t = x.t ∧ OwnB w.heap.size w' y xs ∧ Below w.heap.size w w' := by
  obtain ⟨f, t, a, n, c⟩ := x
  simp only at h hl hn ⊢
  have HA := Lib.hid h
  have HL := Lib.hid hl
  clear h hl
  go_enter Try.func26, Try.ntmps26
  go_wp2_with fail
  have B0 : Below w.heap.size w ((w.alloc (.cells #[.int .i64 f, .int .i64 t, .slice a n c] 34)).alloc (.cells #[.int .i64 0, .int .i64 0, .slice none 0 0] 34)) := ((Below.refl _ _).alloc (Nat.le_refl _) _).alloc (by simp) _
  refine (bytesClone a n c xs _ (HA.out.ext B0) HL.out hn).mono ?_
  rintro e w1 ⟨v, rfl, ho, hb⟩
  obtain ⟨a1, c1, rfl, -, hc1, hm1, hA1⟩ := own_u8 ho
  have B1 := ext_trans B0 hb
  have H1 := blk_ext hb (blk_alloc (blk_new w #[.int .i64 f, .int .i64 t, .slice a n c] 34) (.cells #[.int .i64 0, .int .i64 0, .slice none 0 0] 34))
  have H2 := blk_ext hb (blk_new_at (b := w.heap.size + 1) (by simp) #[.int .i64 0, .int .i64 0, .slice none 0 0] 34)
  have HO := Lib.hid (show w1.ownsRow w.heap.size 5 1 (.slice a1 n c1) n (bc xs) from ownsRow_base ho (by simp; omega))
  obtain ⟨s, hs⟩ : ∃ s, w.heap.size = s := ⟨_, rfl⟩
  have HS := Lib.hid hs
  rw [hs] at H1 H2 ⊢
  have k1 := blk_cell H1
  have k2 := blk_cell H2
  have f1 := blk_free H1
  have f2 := blk_free H2
  have l1 := blk_lt H1
  have l2 := blk_lt H2
  have HH1 := Lib.hid H1
  have HH2 := Lib.hid H2
  clear hs ho hb B0 H1 H2 hA1
  go_wp2
  have hkA : Kept s w1 (w1.setCell ⟨s, 2, none⟩ (.slice a1 n c1)) := (Kept.refl _ _).setCell _ _
  have hkB : Kept (s + 1) (w1.setCell ⟨s, 2, none⟩ (.slice a1 n c1)) ((((w1.setCell ⟨s, 2, none⟩ (.slice a1 n c1)).setCell ⟨s + 1, 0, none⟩ (.int .i64 f)).setCell ⟨s + 1, 1, none⟩ (.int .i64 t)).setCell ⟨s + 1, 2, none⟩ (.slice a1 n c1)) := (((Kept.refl _ _).setCell _ _).setCell _ _).setCell _ _
  have n1 := own_ne HO.out HH1.out (by decide)
  have n2 := own_ne HO.out HH2.out (by decide)
  have hO := Lib.hid (ownsRow_keep (ownsRow_keep HO.out hkA n1) hkB n2)
  have hB := Lib.hid ((B1.trans (hkA.below (by have := HS.out; omega))).trans (hkB.below (by have := HS.out; omega)))
  have HF : ((((w1.setCell ⟨s, 2, none⟩ (.slice a1 n c1)).setCell ⟨s + 1, 0, none⟩ (.int .i64 f)).setCell ⟨s + 1, 1, none⟩ (.int .i64 t)).setCell ⟨s + 1, 2, none⟩ (.slice a1 n c1)).heap[s + 1]? = some (.cells #[.int .i64 f, .int .i64 t, .slice a1 n c1] 34 (0, 0)) := by
    have h2 := (hkA.block (s + 1) (by omega)).trans HH2.out
    exact blk_set (blk_set (blk_set h2 rfl) rfl) (by simp)
  clear hkA hkB n1 n2 k1 k2 f1 f2 HH1 HH2
  generalize ((((w1.setCell ⟨s, 2, none⟩ (.slice a1 n c1)).setCell ⟨s + 1, 0, none⟩ (.int .i64 f)).setCell ⟨s + 1, 1, none⟩ (.int .i64 t)).setCell ⟨s + 1, 2, none⟩ (.slice a1 n c1)) = wz at *
  have kz := blk_cell HF
  exact bodyPost_ret (v := .agg #[.int .i64 f, .int .i64 t, .slice a1 n c1]) (by simp [results, Try.results26, go_sem, kz]) rfl ⟨⟨f, t, a1, n, c1⟩, rfl, rfl, rfl, by unfold OwnB; rw [HL.out]; exact hO.out, hB.out⟩

set_option maxRecDepth 100000 in
set_option maxHeartbeats 1000000 in
theorem cloneL (v : Value) (ls : List Lt) (w : World) (h : OwnL 0 w v ls) (hn : ls.length ≤ 1000) :
    Calls Try.prog 34 #[v] w fun e w' => ∃ v', e = .returned v' ∧ OwnL w.heap.size w' v' ls ∧ Below w.heap.size w w' := by
  obtain ⟨i0, hi, hz0, hz1, hz2⟩ := info_parts info_letter
  obtain ⟨a, c, rfl, hc, hm, hf⟩ := h.form
  rcases hf with ⟨rfl, rfl, rfl⟩ | ⟨g, rfl, -, hgl⟩
  · have hq := (fun w : World => Lib.run_eql_slice_nil (P := Try.prog) w 57 34 none 0 0 0 0 Try.underlying57)
    clear h
    go_enter Try.func34, Try.ntmps34
    go_wp2
    go_ret
    exact ⟨_, rfl, OwnL.nil _ _, Below.refl _ _⟩
  · obtain ⟨n, hn'⟩ : ∃ n, ls.length = n := ⟨_, rfl⟩
    have HO := Lib.hid h
    have HN := Lib.hid hn'
    rw [hn'] at hn hc ⊢
    have hq := (fun w : World => Lib.run_eql_slice_nil (P := Try.prog) w 57 34 (some ⟨g, 0, none⟩) n c 0 0 Try.underlying57)
    have O0 : (w.alloc (.cells #[] 34)).ownsRow w.heap.size 34 3 (.slice (some ⟨w.heap.size, 0, none⟩) 0 0) 0 (lf []) := World.ownsRow_made w #[] 0 (Nat.le_refl _) (by unfold maxLen; omega) rfl
    have B0 : Below w.heap.size w (w.alloc (.cells #[] 34)) := (Below.refl _ _).alloc (Nat.le_refl _) _
    have hcells := Lib.hid (show ∀ j u, (lf ls)[j]? = some u → (w.alloc (.cells #[] 34)).cell? ((⟨g, 0, none⟩ : Addr).add j) = some u from fun j u hj => by
      have h1 := own_rd HO.out hj
      have h2 := ext_cell B0 h1
      have e0 : (⟨g, 0, none⟩ : Addr).add j = ⟨g, j, none⟩ := by
        by_cases h0 : j = 0
        · subst h0; simp [Addr.add]
        · simp [Addr.add, h0]
      rw [e0]; exact h2)
    clear h hn'
    go_enter Try.func34, Try.ntmps34
    go_wp2_with (at_builtin; refine wpList_append_own _ rfl _ _ 57 rfl (w.heap.size) 34 i0 (.agg #[.int .i64 0, .int .i64 0, .slice none 0 0]) 3 40 Try.underlying57 hi hz0 hz1 hz2 rfl (by decide) (.slice (some ⟨w.heap.size, 0, none⟩) 0 0) 0 (lf []) rfl O0 ⟨g, 0, none⟩ n c (lf ls) rfl ?c0 ?c1 ?c2 ?c3 ?c4 ?c5 ?_)
    case c0 => rw [lf_len, HN.out]
    case c1 => exact hcells.out
    case c2 => exact lf_one ls
    case c3 => unfold maxLen; omega
    case c4 => omega
    case c5 => exact B0.size
    intro v' w1 ho hg _
    have B1 := B0.grown hg B0.size (fun q hq => own_ge O0 hq)
    have ho' := Lib.hid (show OwnL w.heap.size w1 v' ls by unfold OwnL; rw [HN.out]; simpa [lf_nil] using ho)
    clear ho hg O0 B0 hq
    go_wp2
    go_ret
    exact ⟨_, rfl, ho'.out, B1⟩

end Go.Proofs.Ytkkmnodhmmdllaa
