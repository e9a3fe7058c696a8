/- The document's queue: cards are added. -/
import Derived.Test.YtmpkkkcoiljhpaaQueueTk
namespace Go.Proofs.Ytmpkkkcoiljhpaa
open Go.RowKit
set_option linter.unusedVariables false

set_option maxRecDepth 100000 in
set_option maxHeartbeats 2000000 in
theorem rqAdd (rb lb np n c : Nat) (a : Option Addr) (ls : List Cd) (rs : List (Int × List Cd)) (lost : Nat) (w : World) (h : RQ w rb lb np rs lost) (ha : CAt w a ls) (hl : ls.length = n) (hc : n ≤ c) (hm : c ≤ maxLen) (hlo : lost + 6 * n ≤ 1000000) :
    Calls Try.prog 20 #[.pointer (some ⟨rb, 0, none⟩), .slice a n c] w fun e w' => e = .returned (.tuple #[]) ∧ RQ w' rb lb np (addM np ls (rs, lost)).1 ((addM np ls (rs, lost)).2 : Nat) ∧ Rim2 rb lb w w' := by
  obtain ⟨i0, hi, hz0, hz1, hz2⟩ := info_parts' info_card
  have HQ := Lib.hid h
  have HA := Lib.hid ha
  have HN := Lib.hid hl
  have hnp : np ≤ 6 := h.1
  unfold maxLen at hm
  clear h ha hl
  go_enter Try.func20, Try.ntmps20
  go_wp2_with fail
  go_loopw [12] (fun j wr => ∃ J : Nat, J ≤ n ∧ j = .int .i64 (J : Int) ∧ RQ wr rb lb np (addM np (ls.take J) (rs, lost)).1 ((addM np (ls.take J) (rs, lost)).2 : Nat) ∧ CAt wr a ls ∧ Rim2 rb lb w wr) (fun j _ => n - (intOf j).toNat)
  case atStart => exact ⟨0, by omega, rfl, HQ.out, HA.out, Rim2.of (Below.refl _ _)⟩
  case round =>
    obtain ⟨w2, rfl⟩ : ∃ y : World, y = wr := ⟨_, rfl⟩
    obtain ⟨J, hJ, rfl, hq2, ha2, hr2⟩ := hrel
    by_cases hlt : J < n
    · obtain ⟨x, hx⟩ : ∃ x, ls[J]? = some x := ⟨_, List.getElem?_eq_getElem (by have := HN.out; omega)⟩
      obtain ⟨R, hR⟩ : ∃ R, (addM np (ls.take J) (rs, lost)).1 = R := ⟨_, rfl⟩
      obtain ⟨L, hL⟩ : ∃ L, (addM np (ls.take J) (rs, lost)).2 = L := ⟨_, rfl⟩
      have HLB := Lib.hid (show L + 6 ≤ 1000000 from by
        have h1 := addM_le np (ls.take J) (rs, lost) hnp
        rw [hL, List.length_take] at h1
        simp only at h1
        omega)
      have HST := Lib.hid (show addM np (ls.take (J + 1)) (rs, lost) = (layU x np R, L + ovU x np R) from by
        rw [List.take_add_one, hx]
        show addM np (ls.take J ++ [x]) (rs, lost) = _
        rw [addM_snoc, hR, hL])
      rw [hR, hL] at hq2
      have hR6 := hq2.2.1
      have HR6 := Lib.hid hR6
      obtain ⟨b, o, rfl⟩ : ∃ b o, a = some ⟨b, o, none⟩ := by
        rcases HA.out with h | ⟨b, o, e, _⟩
        · rw [h] at hx; simp at hx
        · exact ⟨b, o, e⟩
      obtain ⟨x0, x1, x2, x3, x4, x5, x6, x7, x8⟩ := ha2.at hx
      have D0 : Below w2.heap.size w2 (w2.alloc (.cells #[.string x.a, .string x.i, .int .i64 x.s, .int .i64 x.o, .int .i64 x.l, .int .i64 x.t, .int .i64 x.k, .int .i64 x.n, .bool x.g] 39)) := (Below.refl _ _).alloc (Nat.le_refl _) _
      have HX := Lib.hid (blk_new w2 #[.string x.a, .string x.i, .int .i64 x.s, .int .i64 x.o, .int .i64 x.l, .int .i64 x.t, .int .i64 x.k, .int .i64 x.n, .bool x.g] 39)
      have HQ3 := Lib.hid (hq2.ext D0)
      have HA3 := Lib.hid (ha2.ext D0)
      have HR3 := Lib.hid (hr2.trans (Rim2.of D0))
      clear hq2 ha2 hr2 hx hR hL D0 hR6
      go_upto_region 3 with (fail)
      obtain ⟨r, hr⟩ : ∃ r, w2.heap.size = r := ⟨_, rfl⟩
      rw [hr] at HX ⊢
      clear hr
      generalize (w2.alloc (.cells #[.string x.a, .string x.i, .int .i64 x.s, .int .i64 x.o, .int .i64 x.l, .int .i64 x.t, .int .i64 x.k, .int .i64 x.n, .bool x.g] 39)) = w3 at *
      clear x0 x1 x2 x3 x4 x5 x6 x7 x8
      obtain ⟨-, -, -, pv, X, h4, -⟩ := HQ3.out
      have hc0 : w3.cell? ⟨rb, 1, none⟩ = some (.slice (some ⟨lb, 0, none⟩) np np) := by rw [blk_cell h4]; rfl
      have hlb := blk_lt h4
      clear h4
      go_wp2_with fail
      clear hc0 hlb
      go_loopw [21] (fun i wr => ∃ I : Nat, I ≤ np ∧ i = .int .i64 (I : Int) ∧ RQ wr rb lb np (layU x I R) ((L : Int) + (ovU x I R : Nat)) ∧ wr.heap[r]? = some (.cells #[.string x.a, .string x.i, .int .i64 x.s, .int .i64 x.o, .int .i64 x.l, .int .i64 x.t, .int .i64 x.k, .int .i64 x.n, .bool x.g] 39 (0, 0)) ∧ CAt wr (some ⟨b, o, none⟩) ls ∧ Rim2 rb lb w wr) (fun i _ => np - (intOf i).toNat)
      case atStart => exact ⟨0, by omega, rfl, by simpa [layU, ovU] using HQ3.out, HX.out, HA3.out, HR3.out⟩
      case round =>
        obtain ⟨w4, rfl⟩ : ∃ y : World, y = wr := ⟨_, rfl⟩
        obtain ⟨I, hI, rfl, hq4, hx4, ha4, hr4⟩ := hrel
        have HQ4 := Lib.hid hq4
        have HX4 := Lib.hid hx4
        have HA4 := Lib.hid ha4
        have HR4 := Lib.hid hr4
        clear hq4 hx4 ha4 hr4
        by_cases hlt2 : I < np
        · obtain ⟨⟨p, cs⟩, hpc⟩ : ∃ y, R[I]? = some y := ⟨_, List.getElem?_eq_getElem (by have := HR6.out; omega)⟩
          have HRI := Lib.hid (layU_at x I R (p, cs) hpc)
          have hI6 : (I : Int) < 6 := by omega
          have hl16 := HQ4.out.le HRI.out.1
          clear hpc
          obtain ⟨-, -, -, pv4, X4, h4, h5, h6, h7⟩ := HQ4.out
          obtain ⟨v, hXi, ra, rc, rfl, hrc, hrm, hrat, hrf⟩ := h7 I p cs hlt2 HRI.out.1
          have hc1 : w4.cell? ⟨rb, 1, none⟩ = some (.slice (some ⟨lb, 0, none⟩) np np) := by rw [blk_cell h4]; rfl
          have hcl : w4.cell? ⟨lb, I, none⟩ = some (.slice ra cs.length rc) := by rw [blk_cell h6]; exact hXi
          have hlr := blk_lt h4
          have hll := blk_lt h6
          obtain ⟨m, hm'⟩ : ∃ m, cs.length = m := ⟨_, rfl⟩
          have HM := Lib.hid hm'
          rw [hm'] at hcl hl16 hrc
          have HAR := Lib.hid hrat
          unfold maxLen at hrm
          clear h4 h5 h6 h7 hXi hrat hm'
          go_wp2_with fail
          clear hc1 hcl
          go_loopw [7, 32] (fun g k wr => ∃ K : Nat, K ≤ m ∧ k = .int .i64 (K : Int) ∧ OwnC w4.heap.size wr g (delC x (cs.take K)) ∧ Below w4.heap.size w4 wr) (fun g k _ => m - (intOf k).toNat)
          case atStart => exact ⟨0, by omega, rfl, OwnR.nil _ _, Below.refl _ _⟩
          case round =>
            obtain ⟨w5, rfl⟩ : ∃ y : World, y = wr := ⟨_, rfl⟩
            obtain ⟨K, hK, rfl, ho5, hb5⟩ := hrel
            obtain ⟨ga, gc, rfl, hgc, hgm, -, -, -⟩ := ho5.read
            obtain ⟨gn, hgn⟩ : ∃ gn, (delC x (cs.take K)).length = gn := ⟨_, rfl⟩
            have HGN := Lib.hid hgn
            rw [hgn] at hgc ⊢
            have hgn16 : gn ≤ 16 := by have := delC_len x (cs.take K); rw [hgn, List.length_take] at this; omega
            have HO5 := Lib.hid ho5
            have HB5 := Lib.hid hb5
            unfold maxLen at hgm
            clear ho5 hb5 hgn
            by_cases hlt3 : K < m
            · obtain ⟨y, hy⟩ : ∃ y, cs[K]? = some y := ⟨_, List.getElem?_eq_getElem (by have := HM.out; omega)⟩
              have HY := Lib.hid hy
              obtain ⟨yb, yo, rfl⟩ : ∃ b o, ra = some ⟨b, o, none⟩ := by
                rcases HAR.out with h | ⟨b, o, e, _⟩
                · rw [h] at hy; simp at hy
                · exact ⟨b, o, e⟩
              obtain ⟨y0, y1, y2, y3, y4, y5, y6, y7, y8⟩ := (HAR.out.ext HB5.out).at hy
              clear hy
              by_cases h1 : y.a = x.a
              · by_cases h2 : y.i = x.i
                · have HK := Lib.hid (kq_yes h1 h2)
                  rw [h1] at y0
                  rw [h2] at y1
                  clear h1 h2
                  have HX6 := Lib.hid (blk_new w5 #[.string x.a, .string x.i, .int .i64 y.s, .int .i64 y.o, .int .i64 y.l, .int .i64 y.t, .int .i64 y.k, .int .i64 y.n, .bool y.g] 39)
                  have E5 : Below w5.heap.size w5 (w5.alloc (.cells #[.string x.a, .string x.i, .int .i64 y.s, .int .i64 y.o, .int .i64 y.l, .int .i64 y.t, .int .i64 y.k, .int .i64 y.n, .bool y.g] 39)) := (Below.refl _ _).alloc (Nat.le_refl _) _
                  have HO6 := Lib.hid (HO5.out.ext E5)
                  have HB6 := Lib.hid (ext_trans HB5.out E5)
                  have HX5' := Lib.hid (blk_ext (ext_trans HB5.out E5) HX4.out)
                  go_upto_region 10 with (fail)
                  obtain ⟨s, hs⟩ : ∃ s, w5.heap.size = s := ⟨_, rfl⟩
                  rw [hs] at HX6 ⊢
                  clear hs y0 y1 y2 y3 y4 y5 y6 y7 y8
                  generalize (w5.alloc (.cells #[.string x.a, .string x.i, .int .i64 y.s, .int .i64 y.o, .int .i64 y.l, .int .i64 y.t, .int .i64 y.k, .int .i64 y.n, .bool y.g] 39)) = w6 at *
                  have hs6 := blk_lt HX6.out
                  have hr6 := blk_lt HX5'.out
                  have Z6 := HB6.out.size
                  have hk0 : w6.cell? ⟨s, 0, none⟩ = some (.string x.a) := by rw [blk_cell HX6.out]; rfl
                  have hk1 : w6.cell? ⟨s, 1, none⟩ = some (.string x.i) := by rw [blk_cell HX6.out]; rfl
                  have hk2 : w6.cell? ⟨r, 0, none⟩ = some (.string x.a) := by rw [blk_cell HX5'.out]; rfl
                  have hk3 : w6.cell? ⟨r, 1, none⟩ = some (.string x.i) := by rw [blk_cell HX5'.out]; rfl
                  have HDEL := Lib.hid (show delC x (cs.take (K + 1)) = delC x (cs.take K) from by rw [delC_at x cs K y HY.out, HK.out]; simp)
                  go_wp2
                  go_roundw
                  case rel => exact ⟨K + 1, by omega, by go_num, by rw [HDEL.out]; have := HO6.out; rw [HGN.out] at this; exact this, HB6.out⟩
                  case measure => simp [intOf]; omega
                · have HK := Lib.hid (kq_no (.inr h2))
                  have h3 : ¬ y.i.toList = x.i.toList := fun e => h2 (str_inj e)
                  rw [h1] at y0
                  have H1 := Lib.hid h1
                  clear h1 h2
                  have HX6 := Lib.hid (blk_new w5 #[.string x.a, .string y.i, .int .i64 y.s, .int .i64 y.o, .int .i64 y.l, .int .i64 y.t, .int .i64 y.k, .int .i64 y.n, .bool y.g] 39)
                  have E5 : Below w5.heap.size w5 (w5.alloc (.cells #[.string x.a, .string y.i, .int .i64 y.s, .int .i64 y.o, .int .i64 y.l, .int .i64 y.t, .int .i64 y.k, .int .i64 y.n, .bool y.g] 39)) := (Below.refl _ _).alloc (Nat.le_refl _) _
                  have HO6 := Lib.hid (HO5.out.ext E5)
                  have HB6 := Lib.hid (ext_trans HB5.out E5)
                  have HX5' := Lib.hid (blk_ext (ext_trans HB5.out E5) HX4.out)
                  go_upto_region 10 with (fail)
                  obtain ⟨s, hs⟩ : ∃ s, w5.heap.size = s := ⟨_, rfl⟩
                  rw [hs] at HX6 ⊢
                  clear hs y0 y1 y2 y3 y4 y5 y6 y7 y8
                  generalize (w5.alloc (.cells #[.string x.a, .string y.i, .int .i64 y.s, .int .i64 y.o, .int .i64 y.l, .int .i64 y.t, .int .i64 y.k, .int .i64 y.n, .bool y.g] 39)) = w6 at *
                  have hs6 := blk_lt HX6.out
                  have hr6 := blk_lt HX5'.out
                  have Z6 := HB6.out.size
                  have hk0 : w6.cell? ⟨s, 0, none⟩ = some (.string x.a) := by rw [blk_cell HX6.out]; rfl
                  have hk1 : w6.cell? ⟨s, 1, none⟩ = some (.string y.i) := by rw [blk_cell HX6.out]; rfl
                  have hk2 : w6.cell? ⟨r, 0, none⟩ = some (.string x.a) := by rw [blk_cell HX5'.out]; rfl
                  have hk3 : w6.cell? ⟨r, 1, none⟩ = some (.string x.i) := by rw [blk_cell HX5'.out]; rfl
                  have HDEL := Lib.hid (show delC x (cs.take (K + 1)) = delC x (cs.take K) ++ [y] from by rw [delC_at x cs K y HY.out, HK.out]; simp)
                  have hy2 : w6.cell? ⟨s, 2, none⟩ = some (.int .i64 y.s) := by rw [blk_cell HX6.out]; rfl
                  have hy3 : w6.cell? ⟨s, 3, none⟩ = some (.int .i64 y.o) := by rw [blk_cell HX6.out]; rfl
                  have hy4 : w6.cell? ⟨s, 4, none⟩ = some (.int .i64 y.l) := by rw [blk_cell HX6.out]; rfl
                  have hy5 : w6.cell? ⟨s, 5, none⟩ = some (.int .i64 y.t) := by rw [blk_cell HX6.out]; rfl
                  have hy6 : w6.cell? ⟨s, 6, none⟩ = some (.int .i64 y.k) := by rw [blk_cell HX6.out]; rfl
                  have hy7 : w6.cell? ⟨s, 7, none⟩ = some (.int .i64 y.n) := by rw [blk_cell HX6.out]; rfl
                  have hy8 : w6.cell? ⟨s, 8, none⟩ = some (.bool y.g) := by rw [blk_cell HX6.out]; rfl
                  have HO6' := Lib.hid (show w6.ownsRow w4.heap.size 39 9 (.slice ga gn gc) gn (flat cc (delC x (cs.take K))) from by have := HO6.out; unfold OwnC OwnR at this; rw [HGN.out] at this; exact this)
                  go_wp2_with (at_builtin; refine wpList_append_own _ rfl _ _ 25 rfl (w4.heap.size) 39 i0 Cd.zero.v 9 88 Try.underlying25 hi hz0 hz1 hz2 rfl (by decide) _ gn (flat cc (delC x (cs.take K))) rfl (HO6'.out.alloc (.cells #[.string x.a, .string y.i, .int .i64 y.s, .int .i64 y.o, .int .i64 y.l, .int .i64 y.t, .int .i64 y.k, .int .i64 y.n, .bool y.g] 39)) ⟨w6.heap.size, 0, none⟩ 1 1 (cc y) rfl rfl ?c1 ?c2 ?c3 ?c4 ?c5 ?_)
                  case c1 =>
                    intro j u hj
                    rw [add_off, Nat.zero_add, blk_cell (blk_new w6 #[.string x.a, .string y.i, .int .i64 y.s, .int .i64 y.o, .int .i64 y.l, .int .i64 y.t, .int .i64 y.k, .int .i64 y.n, .bool y.g] 39)]
                    simpa [cc, H1.out] using hj
                  case c2 => exact cc_one y
                  case c3 => unfold maxLen; omega
                  case c4 => omega
                  case c5 => simp; omega
                  intro v7 w7 ho7 hg7 _
                  have HB7 := Lib.hid ((HB6.out.alloc Z6 (.cells #[.string x.a, .string y.i, .int .i64 y.s, .int .i64 y.o, .int .i64 y.l, .int .i64 y.t, .int .i64 y.k, .int .i64 y.n, .bool y.g] 39)).grown hg7 (by simp; omega) (fun q hq => own_ge HO6'.out hq))
                  have HO7 := Lib.hid (show OwnC w4.heap.size w7 v7 (delC x (cs.take K) ++ [y]) by unfold OwnC OwnR; rw [flat_snoc, List.length_append, HGN.out]; exact ho7)
                  clear ho7 hg7 HO6 HO6' hk0 hk1 hk2 hk3 hy2 hy3 hy4 hy5 hy6 hy7 hy8 hs6 hr6 HX6 HX5'
                  go_wp2
                  go_roundw
                  case rel => exact ⟨K + 1, by omega, by go_num, by rw [HDEL.out]; exact HO7.out, HB7.out⟩
                  case measure => simp [intOf]; omega
              · have HK := Lib.hid (kq_no (.inl h1))
                have h3 : ¬ y.a.toList = x.a.toList := fun e => h1 (str_inj e)
                clear h1
                have HX6 := Lib.hid (blk_new w5 #[.string y.a, .string y.i, .int .i64 y.s, .int .i64 y.o, .int .i64 y.l, .int .i64 y.t, .int .i64 y.k, .int .i64 y.n, .bool y.g] 39)
                have E5 : Below w5.heap.size w5 (w5.alloc (.cells #[.string y.a, .string y.i, .int .i64 y.s, .int .i64 y.o, .int .i64 y.l, .int .i64 y.t, .int .i64 y.k, .int .i64 y.n, .bool y.g] 39)) := (Below.refl _ _).alloc (Nat.le_refl _) _
                have HO6 := Lib.hid (HO5.out.ext E5)
                have HB6 := Lib.hid (ext_trans HB5.out E5)
                have HX5' := Lib.hid (blk_ext (ext_trans HB5.out E5) HX4.out)
                go_upto_region 10 with (fail)
                obtain ⟨s, hs⟩ : ∃ s, w5.heap.size = s := ⟨_, rfl⟩
                rw [hs] at HX6 ⊢
                clear hs y0 y1 y2 y3 y4 y5 y6 y7 y8
                generalize (w5.alloc (.cells #[.string y.a, .string y.i, .int .i64 y.s, .int .i64 y.o, .int .i64 y.l, .int .i64 y.t, .int .i64 y.k, .int .i64 y.n, .bool y.g] 39)) = w6 at *
                have hs6 := blk_lt HX6.out
                have hr6 := blk_lt HX5'.out
                have Z6 := HB6.out.size
                have hk0 : w6.cell? ⟨s, 0, none⟩ = some (.string y.a) := by rw [blk_cell HX6.out]; rfl
                have hk1 : w6.cell? ⟨s, 1, none⟩ = some (.string y.i) := by rw [blk_cell HX6.out]; rfl
                have hk2 : w6.cell? ⟨r, 0, none⟩ = some (.string x.a) := by rw [blk_cell HX5'.out]; rfl
                have hk3 : w6.cell? ⟨r, 1, none⟩ = some (.string x.i) := by rw [blk_cell HX5'.out]; rfl
                have HDEL := Lib.hid (show delC x (cs.take (K + 1)) = delC x (cs.take K) ++ [y] from by rw [delC_at x cs K y HY.out, HK.out]; simp)
                have hy2 : w6.cell? ⟨s, 2, none⟩ = some (.int .i64 y.s) := by rw [blk_cell HX6.out]; rfl
                have hy3 : w6.cell? ⟨s, 3, none⟩ = some (.int .i64 y.o) := by rw [blk_cell HX6.out]; rfl
                have hy4 : w6.cell? ⟨s, 4, none⟩ = some (.int .i64 y.l) := by rw [blk_cell HX6.out]; rfl
                have hy5 : w6.cell? ⟨s, 5, none⟩ = some (.int .i64 y.t) := by rw [blk_cell HX6.out]; rfl
                have hy6 : w6.cell? ⟨s, 6, none⟩ = some (.int .i64 y.k) := by rw [blk_cell HX6.out]; rfl
                have hy7 : w6.cell? ⟨s, 7, none⟩ = some (.int .i64 y.n) := by rw [blk_cell HX6.out]; rfl
                have hy8 : w6.cell? ⟨s, 8, none⟩ = some (.bool y.g) := by rw [blk_cell HX6.out]; rfl
                have HO6' := Lib.hid (show w6.ownsRow w4.heap.size 39 9 (.slice ga gn gc) gn (flat cc (delC x (cs.take K))) from by have := HO6.out; unfold OwnC OwnR at this; rw [HGN.out] at this; exact this)
                go_wp2_with (at_builtin; refine wpList_append_own _ rfl _ _ 25 rfl (w4.heap.size) 39 i0 Cd.zero.v 9 88 Try.underlying25 hi hz0 hz1 hz2 rfl (by decide) _ gn (flat cc (delC x (cs.take K))) rfl (HO6'.out.alloc (.cells #[.string y.a, .string y.i, .int .i64 y.s, .int .i64 y.o, .int .i64 y.l, .int .i64 y.t, .int .i64 y.k, .int .i64 y.n, .bool y.g] 39)) ⟨w6.heap.size, 0, none⟩ 1 1 (cc y) rfl rfl ?c1 ?c2 ?c3 ?c4 ?c5 ?_)
                case c1 =>
                  intro j u hj
                  rw [add_off, Nat.zero_add, blk_cell (blk_new w6 #[.string y.a, .string y.i, .int .i64 y.s, .int .i64 y.o, .int .i64 y.l, .int .i64 y.t, .int .i64 y.k, .int .i64 y.n, .bool y.g] 39)]
                  simpa [cc] using hj
                case c2 => exact cc_one y
                case c3 => unfold maxLen; omega
                case c4 => omega
                case c5 => simp; omega
                intro v7 w7 ho7 hg7 _
                have HB7 := Lib.hid ((HB6.out.alloc Z6 (.cells #[.string y.a, .string y.i, .int .i64 y.s, .int .i64 y.o, .int .i64 y.l, .int .i64 y.t, .int .i64 y.k, .int .i64 y.n, .bool y.g] 39)).grown hg7 (by simp; omega) (fun q hq => own_ge HO6'.out hq))
                have HO7 := Lib.hid (show OwnC w4.heap.size w7 v7 (delC x (cs.take K) ++ [y]) by unfold OwnC OwnR; rw [flat_snoc, List.length_append, HGN.out]; exact ho7)
                clear ho7 hg7 HO6 HO6' hk0 hk1 hk2 hk3 hy2 hy3 hy4 hy5 hy6 hy7 hy8 hs6 hr6 HX6 HX5'
                go_wp2
                go_roundw
                case rel => exact ⟨K + 1, by omega, by go_num, by rw [HDEL.out]; exact HO7.out, HB7.out⟩
                case measure => simp [intOf]; omega
            · obtain rfl : K = m := by omega
              have HF := Lib.hid (show cs.take K = cs from List.take_of_length_le (by have := HM.out; omega))
              have HO5' := Lib.hid (show w5.ownsRow w4.heap.size 39 9 (.slice ga gn gc) gn (flat cc (delC x cs)) from by have := HO5.out; unfold OwnC OwnR at this; rw [HGN.out, HF.out] at this; exact this)
              have HGF := Lib.hid (show (delC x cs).length = gn from by rw [← HF.out]; exact HGN.out)
              have HX5 := Lib.hid (blk_ext HB5.out HX4.out)
              have hk5 := blk_cell HX5.out
              have hl5 := blk_lt HX5.out
              have Z5 := HB5.out.size
              go_wp2_with (at_builtin; refine wpList_append_own _ rfl _ _ 25 rfl (w4.heap.size) 39 i0 Cd.zero.v 9 88 Try.underlying25 hi hz0 hz1 hz2 rfl (by decide) _ gn (flat cc (delC x cs)) rfl (HO5'.out.alloc (.cells #[.string x.a, .string x.i, .int .i64 x.s, .int .i64 x.o, .int .i64 x.l, .int .i64 x.t, .int .i64 x.k, .int .i64 x.n, .bool x.g] 39)) ⟨w5.heap.size, 0, none⟩ 1 1 (cc x) rfl rfl ?c1 ?c2 ?c3 ?c4 ?c5 ?_)
              case c1 =>
                intro j u hj
                rw [add_off, Nat.zero_add, blk_cell (blk_new w5 #[.string x.a, .string x.i, .int .i64 x.s, .int .i64 x.o, .int .i64 x.l, .int .i64 x.t, .int .i64 x.k, .int .i64 x.n, .bool x.g] 39)]
                simpa [cc] using hj
              case c2 => exact cc_one x
              case c3 => unfold maxLen; omega
              case c4 => omega
              case c5 => simp; omega
              intro v8 w8 ho8 hg8 _
              have HB8 := Lib.hid ((HB5.out.alloc Z5 (.cells #[.string x.a, .string x.i, .int .i64 x.s, .int .i64 x.o, .int .i64 x.l, .int .i64 x.t, .int .i64 x.k, .int .i64 x.n, .bool x.g] 39)).grown hg8 (by simp; omega) (fun q hq => own_ge HO5'.out hq))
              have HO8 := Lib.hid (show OwnC w4.heap.size w8 v8 (delC x cs ++ [x]) by unfold OwnC OwnR; rw [flat_snoc, List.length_append, HGF.out]; exact ho8)
              obtain ⟨a8, c8, hv8, hnc8, hcm8, hat8, -, hfm8⟩ := HO8.out.read
              rw [List.length_append, HGF.out] at hv8 hnc8
              simp only [List.length_cons, List.length_nil, Nat.zero_add] at hv8 hnc8
              subst hv8
              have HCM8 := Lib.hid hcm8
              have HA8' := Lib.hid hat8
              have HQ8 := Lib.hid (HQ4.out.ext HB8.out)
              have HX8 := Lib.hid (blk_ext HB8.out HX4.out)
              have HA8 := Lib.hid (HA4.out.ext HB8.out)
              have HR8 := Lib.hid (HR4.out.trans (Rim2.of HB8.out))
              unfold maxLen at hcm8
              clear ho8 hg8 hk5 hl5 HX5 HO5 HO5' HB5 hat8
              obtain ⟨T, hT⟩ : ∃ T : Int, (L : Int) + (ovU x I R : Nat) = T := ⟨_, rfl⟩
              have hT0 : 0 ≤ T := by omega
              have hT1 : T ≤ 1000000 := by have := ovU_le x I R; have := HLB.out; omega
              have HT := Lib.hid hT
              rw [hT] at HQ8
              clear hT
              by_cases h16 : gn < 16
              · have hd : decide (16 < (gn : Int) + 1) = false := by simp; omega
                have HLC := Lib.hid (show layC x cs = delC x cs ++ [x] from by unfold layC; rw [if_pos (by rw [HGF.out]; exact h16)])
                have HOV := Lib.hid (show (L : Int) + (ovU x (I + 1) R : Nat) = T from by rw [HRI.out.2.2, show ovC x cs = 0 from by unfold ovC; rw [if_pos (by rw [HGF.out]; exact h16)]]; have := HT.out; omega)
                have HS9 := Lib.hid HO8.out.sl
                rw [show Value.slice a8 (gn + 1) c8 = Value.slice a8 (gn + 1) c8 from rfl] at HS9
                have HQ9 := HQ8
                have HX9 := HX8
                have HA9 := HA8
                have HR9 := HR8
                obtain ⟨-, -, -, pv9, X9, h4, h5, h6, h7⟩ := HQ9.out
                obtain ⟨v9, hXi, -⟩ := h7 I p cs hlt2 HRI.out.1
                have hc9 : w8.cell? ⟨rb, 1, none⟩ = some (.slice (some ⟨lb, 0, none⟩) np np) := by rw [blk_cell h4]; rfl
                have hcl9 : w8.cell? ⟨lb, I, none⟩ = some v9 := by rw [blk_cell h6]; exact hXi
                have hl9 := blk_lt h4
                have hll9 := blk_lt h6
                have hf9 := blk_free h6
                have hk := (Kept.refl lb w8).setCell I (.slice a8 (gn + 1) c8)
                have HQ10 := Lib.hid (HQ9.out.setv HRI.out.1 hlt2 HS9.out (by have := layC_len x cs (by have := HM.out; omega); rw [HLC.out] at this; exact this))
                have HX10 := Lib.hid (HQ9.out.blk (Rim2.snd hk) (by decide) (by decide) HX9.out)
                have HA10 := Lib.hid (HQ9.out.cat (Rim2.snd hk) HA9.out)
                have HR10 := Lib.hid (HR9.out.trans (Rim2.snd hk))
                have HEQ := Lib.hid (show (layU x I R).set I (p, delC x cs ++ [x]) = layU x (I + 1) R from by rw [← HRI.out.2.1]; show _ = (layU x I R).set I (p, layC x cs); rw [HLC.out])
                clear h4 h5 h6 h7 hXi hk
                go_wp2
                go_roundw
                case rel => exact ⟨I + 1, by omega, by go_num, by rw [← HEQ.out, HOV.out]; exact HQ10.out, HX10.out, HA10.out, HR10.out⟩
                case measure => simp [intOf]; omega
              · have hd : decide (16 < (gn : Int) + 1) = true := by simp; omega
                obtain ⟨g8, rfl⟩ : ∃ g, a8 = some ⟨g, 0, none⟩ := by
                  rcases hfm8 with ⟨_, _, e⟩ | ⟨g, e⟩
                  · simp at e
                  · exact ⟨g, e⟩
                have hne8 : ¬ c8 = 1 := by omega
                obtain ⟨-, -, -, pv8, X8, h4, -⟩ := HQ8.out
                have hc8 : w8.cell? ⟨rb, 2, none⟩ = some (.int .i64 T) := by rw [blk_cell h4]; rfl
                have hl8 := blk_lt h4
                have hf8 := blk_free h4
                have hk8 := (Kept.refl rb w8).setCell 2 (.int .i64 (T + 1))
                have HLC := Lib.hid (show layC x cs = (delC x cs ++ [x]).drop 1 from by unfold layC; rw [if_neg (by rw [HGF.out]; exact h16)])
                have HOV := Lib.hid (show (L : Int) + (ovU x (I + 1) R : Nat) = T + 1 from by rw [HRI.out.2.2, show ovC x cs = 1 from by unfold ovC; rw [if_neg (by rw [HGF.out]; exact h16)]]; have := HT.out; omega)
                have HQ9 := Lib.hid (HQ8.out.setl (T + 1))
                have HX9 := Lib.hid (HQ8.out.blk (Rim2.fst hk8) (by decide) (by decide) HX8.out)
                have HA9 := Lib.hid (HQ8.out.cat (Rim2.fst hk8) HA8.out)
                have HR9 := Lib.hid (HR8.out.trans (Rim2.fst hk8))
                have HS9 := Lib.hid (HQ8.out.slc (Rim2.fst hk8) (show SlC w8 (.slice (some ⟨g8, 9, none⟩) gn (c8 - 1)) ((delC x cs ++ [x]).drop 1) from ⟨_, c8 - 1, by rw [List.length_drop, List.length_append, HGF.out]; rfl, by rw [List.length_drop, List.length_append, HGF.out]; simp; omega, by have := HCM8.out; omega, by have := HA8'.out.drop 1; rwa [Nat.zero_add, Nat.one_mul] at this, .inr ⟨g8, 9, rfl⟩⟩))
                clear h4 hk8
                go_upto_region 17 with (fail)
                clear hc8 hl8 hf8 HO8 HA8' HQ8 HX8 HA8 HR8 HB8
                generalize (w8.setCell ⟨rb, 2, none⟩ (.int .i64 (T + 1))) = w9 at *
                obtain ⟨-, -, -, pv9, X9, h4, h5, h6, h7⟩ := HQ9.out
                obtain ⟨v9, hXi, -⟩ := h7 I p cs hlt2 HRI.out.1
                have hc9 : w9.cell? ⟨rb, 1, none⟩ = some (.slice (some ⟨lb, 0, none⟩) np np) := by rw [blk_cell h4]; rfl
                have hcl9 : w9.cell? ⟨lb, I, none⟩ = some v9 := by rw [blk_cell h6]; exact hXi
                have hl9 := blk_lt h4
                have hll9 := blk_lt h6
                have hf9 := blk_free h6
                have hk := (Kept.refl lb w9).setCell I (.slice (some ⟨g8, 9, none⟩) gn (c8 - 1))
                have HQ10 := Lib.hid (HQ9.out.setv HRI.out.1 hlt2 HS9.out (by have := layC_len x cs (by have := HM.out; omega); rw [HLC.out] at this; exact this))
                have HX10 := Lib.hid (HQ9.out.blk (Rim2.snd hk) (by decide) (by decide) HX9.out)
                have HA10 := Lib.hid (HQ9.out.cat (Rim2.snd hk) HA9.out)
                have HR10 := Lib.hid (HR9.out.trans (Rim2.snd hk))
                have HEQ := Lib.hid (show (layU x I R).set I (p, (delC x cs ++ [x]).drop 1) = layU x (I + 1) R from by rw [← HRI.out.2.1]; show _ = (layU x I R).set I (p, layC x cs); rw [HLC.out])
                clear h4 h5 h6 h7 hXi hk
                go_wp2
                go_roundw
                case rel => exact ⟨I + 1, by omega, by go_num, by rw [← HEQ.out, HOV.out]; exact HQ10.out, HX10.out, HA10.out, HR10.out⟩
                case measure => simp [intOf]; omega
        · obtain rfl : I = np := by omega
          go_wp2
          go_roundw
          case rel => exact ⟨J + 1, by omega, by go_num, by rw [HST.out]; exact HQ4.out, HA4.out, HR4.out⟩
          case measure => simp [intOf]; omega
    · obtain rfl : J = n := by omega
      have HF := Lib.hid (show ls.take J = ls from List.take_of_length_le (by have := HN.out; omega))
      go_wp2
      go_end0
      exact ⟨rfl, by rw [HF.out] at hq2; exact hq2, hr2⟩

end Go.Proofs.Ytmpkkkcoiljhpaa
