/- Layer 17's play: both queues go alike. -/
import Derived.Test.YtmpkkkcoiljhpaaQueuePM
import Derived.Test.YtmpkkkcoiljhpaaChain
namespace Go.Proofs.Ytmpkkkcoiljhpaa
open Go.RowKit
set_option linter.unusedVariables false

set_option maxRecDepth 100000 in
set_option maxHeartbeats 4000000 in
theorem law17play (pl pc : Nat) (pa : Option Addr) (ps : List Int) (ra : Option Addr) (rlen rcap : Nat) (rz : List Int) (cn cc' : Nat) (ca : Option Addr) (raws : List Cd) (w : World) (hp : NAt w pa ps) (hl : ps.length = pl) (hlc : pl ≤ pc) (hlm : pc ≤ maxLen) (hr : IsRow .i64 w ra rlen rcap rz) (hcs : RAt w ca raws) (hcl : raws.length = cn) (hcc : cn ≤ cc') (hcm : cc' ≤ maxLen) :
    Calls Try.prog 8 #[.slice pa pl pc, .slice ra rlen rcap, .slice ca cn cc'] w fun e w' => e = .returned (.bool true) ∧ Below w.heap.size w w' := by
  obtain ⟨i0, hi, hz0, hz1, hz2⟩ := info_parts' info_card
  have HNA := Lib.hid hp
  have HNL := Lib.hid hl
  have HLM := Lib.hid hlm
  have HR := Lib.hid hr
  have HCA := Lib.hid hcs
  have HCL := Lib.hid hcl
  have HCM := Lib.hid hcm
  have hrl := hr.1
  have hrc := hr.2.1
  unfold maxLen at hlm hcm hrc
  clear hp hl hr hcs hcl
  go_enter Try.func8, Try.ntmps8
  go_wp2_with fail
  refine (queueNew pl pc pa ps _ HNA.out HNL.out hlc HLM.out).mono ?_
  rintro e w1 ⟨rfl, hq, -, hb1⟩
  obtain ⟨qb, hqb⟩ : ∃ qb, w.heap.size = qb := ⟨_, rfl⟩
  have HQB := Lib.hid (show w.heap.size ≤ qb by omega)
  rw [hqb] at hq ⊢
  have HQ1 := Lib.hid hq
  have HB1 := Lib.hid hb1
  have HZ := Lib.hid hqb
  clear hq hb1 hqb
  go_wp2_with fail
  refine (rqNew pl pc pa ps _ (HNA.out.ext HB1.out) HNL.out hlc HLM.out).mono ?_
  rintro e w2 ⟨rfl, ⟨lb, hlb, hr2⟩, hb2⟩
  obtain ⟨rb, hrb⟩ : ∃ rb, w1.heap.size = rb := ⟨_, rfl⟩
  have hz1' := HB1.out.size
  have HRB := Lib.hid (show w.heap.size ≤ rb by omega)
  have HLB := Lib.hid (show w.heap.size ≤ lb by omega)
  rw [hrb] at hr2 ⊢
  have hnd := newM_nodup ps
  obtain ⟨ks, hks⟩ : ∃ ks, (newM ps).2.map (·.1) = ks := ⟨_, rfl⟩
  obtain ⟨np, hnp⟩ : ∃ np, (newM ps).1 = np := ⟨_, rfl⟩
  obtain ⟨R0, hR0⟩ : ∃ R0, (newM ps).2 = R0 := ⟨_, rfl⟩
  have HND := Lib.hid (show (ks.take np).Nodup from by
    have := hnd
    unfold pk at this
    rw [List.map_take, hks, hnp] at this
    exact this)
  have D3 : Below w2.heap.size w2 (w2.alloc (.cells #[.slice ra rlen rcap, .int .i64 0] 29)) := (Below.refl _ _).alloc (Nat.le_refl _) _
  obtain ⟨tb, htb⟩ : ∃ tb, w2.heap.size = tb := ⟨_, rfl⟩
  have HTB := Lib.hid (show w.heap.size ≤ tb by have := hb2.size; omega)
  have HP3 := Lib.hid (show Pl w ra rlen rcap qb rb lb tb np ks R0 (0 : Nat) R0 (0 : Nat) (w2.alloc (.cells #[.slice ra rlen rcap, .int .i64 0] 29)) from
    ⟨by rw [← hnp, ← hR0]; exact (HQ1.out.ext hb2).ext D3, by rw [← hnp, ← hR0]; exact hr2.ext D3, by rw [← htb]; exact tapeK_new w2, ext_trans (ext_trans HB1.out hb2) D3, by rw [← hR0]; exact hks⟩)
  have hnp6 : np ≤ 6 := HP3.out.q.1
  clear hlb hr2 hb2 hrb hz1' hnd hks hnp hR0 D3 HQ1 HB1 HZ
  go_wp2_with fail
  generalize (w2.alloc (.cells #[.slice ra rlen rcap, .int .i64 0] 29)) = w3 at *
  clear htb
  go_loopw [10] (fun i wr => ∃ (I : Nat) (rs : List (Int × List Cd)) (M0 : Nat), I ≤ 40 ∧ i = .int .i64 (I : Int) ∧ M0 ≤ 42 * I ∧ Pl w ra rlen rcap qb rb lb tb np ks rs (M0 : Nat) rs (M0 : Nat) wr) (fun i _ => 40 - (intOf i).toNat)
  case atStart => exact ⟨0, R0, 0, by omega, rfl, by omega, HP3.out⟩
  case round =>
    obtain ⟨w4, rfl⟩ : ∃ y : World, y = wr := ⟨_, rfl⟩
    obtain ⟨I, rs, M0, hI, rfl, hM0, hp4⟩ := hrel
    have HP4 := Lib.hid hp4
    clear hp4 HP3
    by_cases hltI : I < 40
    · go_wp2_with fail
      refine (tapeNextK _ _ _ rz _ 10 _ HP4.out.t (rowOk_of HR.out HP4.out.b HTB.out) (by omega) (by omega)).mono ?_
      rintro e w5 ⟨k, rfl, hk0, hk1, hT5, hb5⟩
      have HP5 := Lib.hid (HP4.out.tape hT5 hb5 HTB.out)
      clear hT5 hb5 HP4
      by_cases hk6 : k < 6
      · go_wp2_with fail
        refine (tapeCards _ _ _ rz _ 6 _ HP5.out.t (rowOk_of HR.out HP5.out.b HTB.out) (by omega)).mono ?_
        rintro e wC ⟨vC, cs, rfl, hoC, hlC, -, hTC, hbC⟩
        obtain ⟨va, vc, rfl, hnc, hmc, hatC, -, hfC⟩ := hoC.read
        obtain ⟨n, hn⟩ : ∃ n, cs.length = n := ⟨_, rfl⟩
        have HPC := Lib.hid (HP5.out.tape hTC hbC HTB.out)
        have HOC := Lib.hid hoC
        have HNC := Lib.hid hn
        have HMC := Lib.hid hmc
        have HAC := Lib.hid hatC
        have HBC := Lib.hid hbC
        have Z5 := hbC.size
        rw [hn] at hnc hlC ⊢
        unfold maxLen at hmc
        clear hTC hbC hoC hn hatC
        by_cases hlc' : I < cn
        · obtain ⟨x, hx⟩ : ∃ x, raws[I]? = some x := ⟨_, List.getElem?_eq_getElem (by have := HCL.out; omega)⟩
          obtain ⟨xb, xo, rfl⟩ : ∃ b o, ca = some ⟨b, o, none⟩ := by
            rcases HCA.out with h | ⟨b, o, e, _⟩
            · rw [h] at hx; simp at hx
            · exact ⟨b, o, e⟩
          obtain ⟨x0, x1, x2, x3, x4, x5, x6, x7, x8⟩ := (HCA.out.ext HPC.out.b).at hx
          have HO' := Lib.hid (show wC.ownsRow w5.heap.size 39 9 (.slice va n vc) n (flat cc cs) from by have := HOC.out; unfold OwnC OwnR at this; rw [HNC.out] at this; exact this)
          clear hfC hx
          go_wp2_with (at_builtin; refine wpList_append_own _ rfl _ _ 25 rfl (w5.heap.size) 39 i0 Cd.zero.v 9 88 Try.underlying25 hi hz0 hz1 hz2 rfl (by decide) _ n (flat cc cs) rfl (HO'.out.alloc (.cells #[.string x.a, .string x.i, .int .i64 x.s, .int .i64 x.o, .int .i64 x.l, .int .i64 x.t, .int .i64 x.k, .int .i64 x.n, .bool x.g] 39)) ⟨wC.heap.size, 0, none⟩ 1 1 (cc x) rfl rfl ?c1 ?c2 ?c3 ?c4 ?c5 ?_)
          case c1 =>
            intro j u hj
            rw [add_off, Nat.zero_add, blk_cell (blk_new wC #[.string x.a, .string x.i, .int .i64 x.s, .int .i64 x.o, .int .i64 x.l, .int .i64 x.t, .int .i64 x.k, .int .i64 x.n, .bool x.g] 39)]
            simpa [cc] using hj
          case c2 => exact cc_one x
          case c3 => unfold maxLen; omega
          case c4 => omega
          case c5 => simp; omega
          intro v8 w8 ho8 hg8 _
          have HP8 := Lib.hid (show Pl w ra rlen rcap qb rb lb tb np ks rs (M0 : Nat) rs (M0 : Nat) w8 from by
            obtain ⟨q, h1, h2⟩ := HPC.out.t
            refine HP5.out.tape ⟨q, (hg8.block tb (by have := blk_lt h1; simp; omega) (own_ne (HO'.out.alloc (.cells #[.string x.a, .string x.i, .int .i64 x.s, .int .i64 x.o, .int .i64 x.l, .int .i64 x.t, .int .i64 x.k, .int .i64 x.n, .bool x.g] 39)) (blk_alloc h1 _) (by decide))).trans (blk_alloc h1 _), h2⟩ (Bar.grown (HBC.out.trans (Bar.of ((Below.refl wC.heap.size wC).alloc (Nat.le_refl _) (.cells #[.string x.a, .string x.i, .int .i64 x.s, .int .i64 x.o, .int .i64 x.l, .int .i64 x.t, .int .i64 x.k, .int .i64 x.n, .bool x.g] 39)))) hg8 (fun q hq => own_ge HO'.out hq)) HTB.out)
          have HO8 := Lib.hid (show OwnC w5.heap.size w8 v8 (cs ++ [x]) by unfold OwnC OwnR; rw [flat_snoc, List.length_append, HNC.out]; exact ho8)
          obtain ⟨cs5, hcs5⟩ : ∃ cs5, cs ++ [x] = cs5 := ⟨_, rfl⟩
          obtain ⟨n5, hn5⟩ : ∃ n5, n + 1 = n5 := ⟨_, rfl⟩
          have HL5 := Lib.hid (show cs5.length = n5 from by rw [← hcs5, List.length_append, HNC.out, ← hn5]; rfl)
          rw [hcs5] at HO8
          obtain ⟨va5, vc5, rfl, hnc5, hmc5, hat5, -, -⟩ := HO8.out.read
          rw [HL5.out] at hnc5 ⊢
          have HC5 := Lib.hid hat5
          have HM5 := Lib.hid hmc5
          have hn57 : n5 ≤ 7 := by omega
          clear ho8 hg8 x0 x1 x2 x3 x4 x5 x6 x7 x8 HO' hcs5 hn5 hat5 hnc HPC HP5
          have HP5 := HP8
          clear HP8 HBC HOC HAC HO8
          go_wp2_with fail
          refine (queueAdd qb np n5 vc5 va5 cs5 rs M0 _ HP5.out.q HC5.out HL5.out hnc5 HM5.out (by omega)).mono ?_
          rintro e w6 ⟨rfl, hq6, hr6⟩
          have HP6 := Lib.hid (HP5.out.qs hq6 hr6 HQB.out (addM_map _ _ _))
          have HC6 := Lib.hid (HP5.out.q.cat hr6 HC5.out)
          clear hq6 hr6 HP5 HC5
          go_wp2_with fail
          refine (rqAdd rb lb np n5 vc5 va5 cs5 rs M0 _ HP6.out.r HC6.out HL5.out hnc5 HM5.out (by omega)).mono ?_
          rintro e w7 ⟨rfl, hr7, hm7⟩
          have HP7 := Lib.hid (HP6.out.rq hr7 hm7 HRB.out HLB.out)
          have hML := addM_le np cs5 (rs, M0) hnp6
          obtain ⟨R, hR⟩ : ∃ R, (addM np cs5 (rs, M0)).1 = R := ⟨_, rfl⟩
          obtain ⟨M, hM⟩ : ∃ M, (addM np cs5 (rs, M0)).2 = M := ⟨_, rfl⟩
          rw [hM, HL5.out] at hML
          rw [hR, hM] at HP7
          have HP := HP7
          have hM42 : M ≤ 42 * (I + 1) := by simp only at hML; omega
          clear hr7 hm7 HP6 HC6 hR hM hML HP7
          have hI40 : ¬ 40 < I := by omega
          go_wp2_with fail
          go_loopw [13] (fun p wr => ∃ P : Int, -1 ≤ P ∧ P ≤ 8 ∧ p = .int .i64 P ∧ Pl w ra rlen rcap qb rb lb tb np ks R (M : Nat) R (M : Nat) wr) (fun p _ => (8 - intOf p).toNat)
          case atStart => exact ⟨-1, by omega, by omega, rfl, HP.out⟩
          case round =>
            obtain ⟨wA, rfl⟩ : ∃ y : World, y = wr := ⟨_, rfl⟩
            obtain ⟨P, hP0, hP8, rfl, hpl⟩ := hrel
            have HPA := Lib.hid hpl
            clear hpl
            by_cases hltP : P < 8
            · obtain ⟨-, -, -, pv, X, h4, h5, h6, h7⟩ := HPA.out.r
              obtain ⟨pa2, pc2, rfl, hpl2, hpc2, hpm2, hpat2⟩ := own_ints h5
              have HX4 := Lib.hid h4
              have HX6 := Lib.hid h6
              have H7 := Lib.hid h7
              have HPT := Lib.hid hpat2
              have hc0 := blk_cell h4
              have hl0 := blk_lt h4
              have hl6 := blk_lt h6
              unfold maxLen at hpm2
              clear h4 h5 h6 h7 hpat2 hpl2
              go_wp2_with fail
              go_loopw [14, 72] (fun n j wr => ∃ J : Nat, J ≤ np ∧ j = .int .i64 (J : Int) ∧ n = .int .i64 ((cntL P 0 (R.take J) : Nat) : Int) ∧ wr = wA) (fun n j _ => np - (intOf j).toNat)
              case atStart => exact ⟨0, by omega, rfl, rfl, rfl⟩
              case round =>
                obtain ⟨J, hJ, rfl, rfl, rfl⟩ := hrel
                obtain ⟨C, hC⟩ : ∃ C, cntL P 0 (R.take J) = C := ⟨_, rfl⟩
                have HC := Lib.hid hC
                rw [hC]
                clear hC
                by_cases hltJ : J < np
                · obtain ⟨⟨pJ, csJ⟩, hpJ⟩ : ∃ y, R[J]? = some y := ⟨_, List.getElem?_eq_getElem (by have := HPA.out.r.2.1; omega)⟩
                  have HCN := Lib.hid (show cntL P 0 (R.take (J + 1)) = if pJ = P then csJ.length else C from by
                    rw [List.take_add_one, hpJ]
                    show cntL P 0 (R.take J ++ [(pJ, csJ)]) = _
                    rw [cntL_snoc, HC.out])
                  obtain ⟨vJ, hXJ, aJ, cJ, rfl, hcJ, hmJ, -, -⟩ := H7.out J pJ csJ hltJ hpJ
                  obtain ⟨b2, o2, rfl, hcx⟩ : ∃ b o, pa2 = some ⟨b, o, none⟩ ∧ wr.cell? ⟨b, o + J, none⟩ = some (.int .i64 pJ) := by
                    rcases HPT.out with h | ⟨b, o, e, h⟩
                    · have := pk_at hpJ hltJ; rw [h] at this; simp at this
                    · exact ⟨b, o, e, h J pJ (pk_at hpJ hltJ)⟩
                  obtain ⟨mJ, hmJ'⟩ : ∃ m, csJ.length = m := ⟨_, rfl⟩
                  rw [hmJ'] at HCN
                  have hcl : wr.cell? ⟨lb, J, none⟩ = some (.slice aJ mJ cJ) := by rw [blk_cell HX6.out, ← hmJ']; exact hXJ
                  rw [hmJ'] at hcJ
                  unfold maxLen at hmJ
                  clear hXJ hpJ hmJ'
                  by_cases hq : pJ = P
                  · have hd : (pJ == P) = true := by simp [hq]
                    have HN1 := Lib.hid (show cntL P 0 (R.take (J + 1)) = mJ from by rw [HCN.out, if_pos hq])
                    clear hq
                    go_wp2
                    go_roundw
                    case rel => exact ⟨J + 1, by omega, by go_num, by rw [HN1.out], by trivial⟩
                    case measure => simp [intOf]; omega
                  · have hd : (pJ == P) = false := by simp [hq]
                    have HN1 := Lib.hid (show cntL P 0 (R.take (J + 1)) = C from by rw [HCN.out, if_neg hq])
                    clear hq
                    go_wp2
                    go_roundw
                    case rel => exact ⟨J + 1, by omega, by go_num, by rw [HN1.out], by trivial⟩
                    case measure => simp [intOf]; omega
                · obtain rfl : J = np := by omega
                  clear hc0 hl0 hl6
                  have HND2 := Lib.hid (show ((R.take J).map (·.1)).Nodup from by rw [List.map_take, HPA.out.k]; exact HND.out)
                  rcases cntL_spec P (R.take J) 0 HND2.out with ⟨h1, h2⟩ | ⟨i, cs, h1, h2, h3⟩
                  · rw [HC.out] at h2
                    subst h2
                    go_wp2_with fail
                    refine (qsLen_no qb J R _ P _ HPA.out.q h1).mono ?_
                    rintro e wB ⟨rfl, -, hb⟩
                    have HPB := Lib.hid (HPA.out.ext hb)
                    clear hb h1
                    go_wp2
                    go_roundw
                    case rel => exact ⟨P + 1, by omega, by omega, by go_num, HPB.out⟩
                    case measure => simp [intOf]; omega
                  · rw [HC.out] at h3
                    subst h3
                    have hiJ : i < J := by
                      rcases Nat.lt_or_ge i J with h' | h'
                      · exact h'
                      · rw [List.getElem?_eq_none (by rw [List.length_take]; omega)] at h2; cases h2
                    rw [List.getElem?_take_of_lt hiJ] at h2
                    rw [Nat.zero_add] at h1
                    go_wp2_with fail
                    refine (qsLen qb J R _ P _ HPA.out.q i P cs h1 h2).mono ?_
                    rintro e wB ⟨rfl, -, hb⟩
                    have HPB := Lib.hid (HPA.out.ext hb)
                    clear hb h1 h2
                    go_wp2
                    go_roundw
                    case rel => exact ⟨P + 1, by omega, by omega, by go_num, HPB.out⟩
                    case measure => simp [intOf]; omega
            · have hdP : decide (P < 8) = false := by simp; omega
              clear HP
              go_wp2_with fail
              obtain ⟨-, -, -, pv, X, h4, -⟩ := HPA.out.r
              have hc0 : wA.cell? ⟨rb, 2, none⟩ = some (.int .i64 (M : Nat)) := by rw [blk_cell h4]; rfl
              have hl0 := blk_lt h4
              clear h4
              haveI hIq : Nonempty (Of wA) := of_some _
              have hFq := of_cell hc0
              first | (refine wp_region_stay wA (by kernel_rfl) (by kernel_rfl) (by go_grown) ?_) | (refine wp_region_stay_seq wA (by go_grown) ?_)
              repeat (go_big_quiet_step ((go_at_call 16; refine stay_same (qsLost qb np R (M : Nat) _ (HPA.out.q.ext (In.h _))))))
              refine wpQuiet_nil ?_
              intro wB hb
              clear hIq hFq hc0 hl0
              have HPB := Lib.hid (HPA.out.ext hb)
              clear hb
              go_wp2
              go_roundw
              case rel => exact ⟨I + 1, R, M, by omega, by go_num, by omega, HPB.out⟩
              case measure => simp [intOf]; omega
        · have HP5 := HPC
          clear HPC HBC HOC hfC
          go_wp2_with fail
          refine (queueAdd qb np n vc va cs rs M0 _ HP5.out.q HAC.out HNC.out hnc HMC.out (by omega)).mono ?_
          rintro e w6 ⟨rfl, hq6, hr6⟩
          have HP6 := Lib.hid (HP5.out.qs hq6 hr6 HQB.out (addM_map _ _ _))
          have HC6 := Lib.hid (HP5.out.q.cat hr6 HAC.out)
          clear hq6 hr6 HP5 HAC
          go_wp2_with fail
          refine (rqAdd rb lb np n vc va cs rs M0 _ HP6.out.r HC6.out HNC.out hnc HMC.out (by omega)).mono ?_
          rintro e w7 ⟨rfl, hr7, hm7⟩
          have HP7 := Lib.hid (HP6.out.rq hr7 hm7 HRB.out HLB.out)
          have hML := addM_le np cs (rs, M0) hnp6
          obtain ⟨R, hR⟩ : ∃ R, (addM np cs (rs, M0)).1 = R := ⟨_, rfl⟩
          obtain ⟨M, hM⟩ : ∃ M, (addM np cs (rs, M0)).2 = M := ⟨_, rfl⟩
          rw [hM, HNC.out] at hML
          rw [hR, hM] at HP7
          have HP := HP7
          have hM42 : M ≤ 42 * (I + 1) := by simp only at hML; omega
          clear hr7 hm7 HP6 HC6 hR hM hML HP7
          have hI40 : ¬ 40 < I := by omega
          go_wp2_with fail
          go_loopw [13] (fun p wr => ∃ P : Int, -1 ≤ P ∧ P ≤ 8 ∧ p = .int .i64 P ∧ Pl w ra rlen rcap qb rb lb tb np ks R (M : Nat) R (M : Nat) wr) (fun p _ => (8 - intOf p).toNat)
          case atStart => exact ⟨-1, by omega, by omega, rfl, HP.out⟩
          case round =>
            obtain ⟨wA, rfl⟩ : ∃ y : World, y = wr := ⟨_, rfl⟩
            obtain ⟨P, hP0, hP8, rfl, hpl⟩ := hrel
            have HPA := Lib.hid hpl
            clear hpl
            by_cases hltP : P < 8
            · obtain ⟨-, -, -, pv, X, h4, h5, h6, h7⟩ := HPA.out.r
              obtain ⟨pa2, pc2, rfl, hpl2, hpc2, hpm2, hpat2⟩ := own_ints h5
              have HX4 := Lib.hid h4
              have HX6 := Lib.hid h6
              have H7 := Lib.hid h7
              have HPT := Lib.hid hpat2
              have hc0 := blk_cell h4
              have hl0 := blk_lt h4
              have hl6 := blk_lt h6
              unfold maxLen at hpm2
              clear h4 h5 h6 h7 hpat2 hpl2
              go_wp2_with fail
              go_loopw [14, 72] (fun n j wr => ∃ J : Nat, J ≤ np ∧ j = .int .i64 (J : Int) ∧ n = .int .i64 ((cntL P 0 (R.take J) : Nat) : Int) ∧ wr = wA) (fun n j _ => np - (intOf j).toNat)
              case atStart => exact ⟨0, by omega, rfl, rfl, rfl⟩
              case round =>
                obtain ⟨J, hJ, rfl, rfl, rfl⟩ := hrel
                obtain ⟨C, hC⟩ : ∃ C, cntL P 0 (R.take J) = C := ⟨_, rfl⟩
                have HC := Lib.hid hC
                rw [hC]
                clear hC
                by_cases hltJ : J < np
                · obtain ⟨⟨pJ, csJ⟩, hpJ⟩ : ∃ y, R[J]? = some y := ⟨_, List.getElem?_eq_getElem (by have := HPA.out.r.2.1; omega)⟩
                  have HCN := Lib.hid (show cntL P 0 (R.take (J + 1)) = if pJ = P then csJ.length else C from by
                    rw [List.take_add_one, hpJ]
                    show cntL P 0 (R.take J ++ [(pJ, csJ)]) = _
                    rw [cntL_snoc, HC.out])
                  obtain ⟨vJ, hXJ, aJ, cJ, rfl, hcJ, hmJ, -, -⟩ := H7.out J pJ csJ hltJ hpJ
                  obtain ⟨b2, o2, rfl, hcx⟩ : ∃ b o, pa2 = some ⟨b, o, none⟩ ∧ wr.cell? ⟨b, o + J, none⟩ = some (.int .i64 pJ) := by
                    rcases HPT.out with h | ⟨b, o, e, h⟩
                    · have := pk_at hpJ hltJ; rw [h] at this; simp at this
                    · exact ⟨b, o, e, h J pJ (pk_at hpJ hltJ)⟩
                  obtain ⟨mJ, hmJ'⟩ : ∃ m, csJ.length = m := ⟨_, rfl⟩
                  rw [hmJ'] at HCN
                  have hcl : wr.cell? ⟨lb, J, none⟩ = some (.slice aJ mJ cJ) := by rw [blk_cell HX6.out, ← hmJ']; exact hXJ
                  rw [hmJ'] at hcJ
                  unfold maxLen at hmJ
                  clear hXJ hpJ hmJ'
                  by_cases hq : pJ = P
                  · have hd : (pJ == P) = true := by simp [hq]
                    have HN1 := Lib.hid (show cntL P 0 (R.take (J + 1)) = mJ from by rw [HCN.out, if_pos hq])
                    clear hq
                    go_wp2
                    go_roundw
                    case rel => exact ⟨J + 1, by omega, by go_num, by rw [HN1.out], by trivial⟩
                    case measure => simp [intOf]; omega
                  · have hd : (pJ == P) = false := by simp [hq]
                    have HN1 := Lib.hid (show cntL P 0 (R.take (J + 1)) = C from by rw [HCN.out, if_neg hq])
                    clear hq
                    go_wp2
                    go_roundw
                    case rel => exact ⟨J + 1, by omega, by go_num, by rw [HN1.out], by trivial⟩
                    case measure => simp [intOf]; omega
                · obtain rfl : J = np := by omega
                  clear hc0 hl0 hl6
                  have HND2 := Lib.hid (show ((R.take J).map (·.1)).Nodup from by rw [List.map_take, HPA.out.k]; exact HND.out)
                  rcases cntL_spec P (R.take J) 0 HND2.out with ⟨h1, h2⟩ | ⟨i, cs, h1, h2, h3⟩
                  · rw [HC.out] at h2
                    subst h2
                    go_wp2_with fail
                    refine (qsLen_no qb J R _ P _ HPA.out.q h1).mono ?_
                    rintro e wB ⟨rfl, -, hb⟩
                    have HPB := Lib.hid (HPA.out.ext hb)
                    clear hb h1
                    go_wp2
                    go_roundw
                    case rel => exact ⟨P + 1, by omega, by omega, by go_num, HPB.out⟩
                    case measure => simp [intOf]; omega
                  · rw [HC.out] at h3
                    subst h3
                    have hiJ : i < J := by
                      rcases Nat.lt_or_ge i J with h' | h'
                      · exact h'
                      · rw [List.getElem?_eq_none (by rw [List.length_take]; omega)] at h2; cases h2
                    rw [List.getElem?_take_of_lt hiJ] at h2
                    rw [Nat.zero_add] at h1
                    go_wp2_with fail
                    refine (qsLen qb J R _ P _ HPA.out.q i P cs h1 h2).mono ?_
                    rintro e wB ⟨rfl, -, hb⟩
                    have HPB := Lib.hid (HPA.out.ext hb)
                    clear hb h1 h2
                    go_wp2
                    go_roundw
                    case rel => exact ⟨P + 1, by omega, by omega, by go_num, HPB.out⟩
                    case measure => simp [intOf]; omega
            · have hdP : decide (P < 8) = false := by simp; omega
              clear HP
              go_wp2_with fail
              obtain ⟨-, -, -, pv, X, h4, -⟩ := HPA.out.r
              have hc0 : wA.cell? ⟨rb, 2, none⟩ = some (.int .i64 (M : Nat)) := by rw [blk_cell h4]; rfl
              have hl0 := blk_lt h4
              clear h4
              haveI hIq : Nonempty (Of wA) := of_some _
              have hFq := of_cell hc0
              first | (refine wp_region_stay wA (by kernel_rfl) (by kernel_rfl) (by go_grown) ?_) | (refine wp_region_stay_seq wA (by go_grown) ?_)
              repeat (go_big_quiet_step ((go_at_call 16; refine stay_same (qsLost qb np R (M : Nat) _ (HPA.out.q.ext (In.h _))))))
              refine wpQuiet_nil ?_
              intro wB hb
              clear hIq hFq hc0 hl0
              have HPB := Lib.hid (HPA.out.ext hb)
              clear hb
              go_wp2
              go_roundw
              case rel => exact ⟨I + 1, R, M, by omega, by go_num, by omega, HPB.out⟩
              case measure => simp [intOf]; omega
      · have HND2 := Lib.hid (show ((rs.take np).map (·.1)).Nodup from by rw [List.map_take, HP5.out.k]; exact HND.out)
        obtain ⟨kk, hkk⟩ : ∃ kk, k - 6 = kk := ⟨_, rfl⟩
        rcases cntL_spec kk (rs.take np) 0 HND2.out with ⟨h1, -⟩ | ⟨i, cs, h1, h2, -⟩
        · have HIX := Lib.hid h1
          clear h1
          go_wp2_with fail
          refine (qsTake_no qb np rs M0 kk _ HP5.out.q HIX.out).mono ?_
          rintro e w6 ⟨rfl, -, hb6⟩
          have HP6 := Lib.hid (HP5.out.ext hb6)
          clear hb6 HP5
          go_wp2_with fail
          refine (rqTake_no rb lb np rs M0 kk _ HP6.out.r HIX.out).mono ?_
          rintro e w7 ⟨rfl, -, hb7⟩
          have HP7 := Lib.hid (HP6.out.ext hb7)
          clear hb7 HP6
          go_wp2_with fail
          refine (same5 none none 0 0 0 [] _ (.inl rfl) (.inl rfl) rfl (by omega) (by omega) (by unfold maxLen; omega) (by unfold maxLen; omega)).mono ?_
          rintro e w8 ⟨rfl, hb8⟩
          obtain ⟨R, hR⟩ : ∃ R, rs = R := ⟨_, rfl⟩
          obtain ⟨M, hM⟩ : ∃ M, M0 = M := ⟨_, rfl⟩
          have HP := Lib.hid (HP7.out.ext hb8)
          have hM42 : M ≤ 42 * (I + 1) := by omega
          rw [hR, hM] at HP
          clear hb8 HP7 hR hM
          have hI40 : ¬ 40 < I := by omega
          go_wp2_with fail
          go_loopw [13] (fun p wr => ∃ P : Int, -1 ≤ P ∧ P ≤ 8 ∧ p = .int .i64 P ∧ Pl w ra rlen rcap qb rb lb tb np ks R (M : Nat) R (M : Nat) wr) (fun p _ => (8 - intOf p).toNat)
          case atStart => exact ⟨-1, by omega, by omega, rfl, HP.out⟩
          case round =>
            obtain ⟨wA, rfl⟩ : ∃ y : World, y = wr := ⟨_, rfl⟩
            obtain ⟨P, hP0, hP8, rfl, hpl⟩ := hrel
            have HPA := Lib.hid hpl
            clear hpl
            by_cases hltP : P < 8
            · obtain ⟨-, -, -, pv, X, h4, h5, h6, h7⟩ := HPA.out.r
              obtain ⟨pa2, pc2, rfl, hpl2, hpc2, hpm2, hpat2⟩ := own_ints h5
              have HX4 := Lib.hid h4
              have HX6 := Lib.hid h6
              have H7 := Lib.hid h7
              have HPT := Lib.hid hpat2
              have hc0 := blk_cell h4
              have hl0 := blk_lt h4
              have hl6 := blk_lt h6
              unfold maxLen at hpm2
              clear h4 h5 h6 h7 hpat2 hpl2
              go_wp2_with fail
              go_loopw [14, 72] (fun n j wr => ∃ J : Nat, J ≤ np ∧ j = .int .i64 (J : Int) ∧ n = .int .i64 ((cntL P 0 (R.take J) : Nat) : Int) ∧ wr = wA) (fun n j _ => np - (intOf j).toNat)
              case atStart => exact ⟨0, by omega, rfl, rfl, rfl⟩
              case round =>
                obtain ⟨J, hJ, rfl, rfl, rfl⟩ := hrel
                obtain ⟨C, hC⟩ : ∃ C, cntL P 0 (R.take J) = C := ⟨_, rfl⟩
                have HC := Lib.hid hC
                rw [hC]
                clear hC
                by_cases hltJ : J < np
                · obtain ⟨⟨pJ, csJ⟩, hpJ⟩ : ∃ y, R[J]? = some y := ⟨_, List.getElem?_eq_getElem (by have := HPA.out.r.2.1; omega)⟩
                  have HCN := Lib.hid (show cntL P 0 (R.take (J + 1)) = if pJ = P then csJ.length else C from by
                    rw [List.take_add_one, hpJ]
                    show cntL P 0 (R.take J ++ [(pJ, csJ)]) = _
                    rw [cntL_snoc, HC.out])
                  obtain ⟨vJ, hXJ, aJ, cJ, rfl, hcJ, hmJ, -, -⟩ := H7.out J pJ csJ hltJ hpJ
                  obtain ⟨b2, o2, rfl, hcx⟩ : ∃ b o, pa2 = some ⟨b, o, none⟩ ∧ wr.cell? ⟨b, o + J, none⟩ = some (.int .i64 pJ) := by
                    rcases HPT.out with h | ⟨b, o, e, h⟩
                    · have := pk_at hpJ hltJ; rw [h] at this; simp at this
                    · exact ⟨b, o, e, h J pJ (pk_at hpJ hltJ)⟩
                  obtain ⟨mJ, hmJ'⟩ : ∃ m, csJ.length = m := ⟨_, rfl⟩
                  rw [hmJ'] at HCN
                  have hcl : wr.cell? ⟨lb, J, none⟩ = some (.slice aJ mJ cJ) := by rw [blk_cell HX6.out, ← hmJ']; exact hXJ
                  rw [hmJ'] at hcJ
                  unfold maxLen at hmJ
                  clear hXJ hpJ hmJ'
                  by_cases hq : pJ = P
                  · have hd : (pJ == P) = true := by simp [hq]
                    have HN1 := Lib.hid (show cntL P 0 (R.take (J + 1)) = mJ from by rw [HCN.out, if_pos hq])
                    clear hq
                    go_wp2
                    go_roundw
                    case rel => exact ⟨J + 1, by omega, by go_num, by rw [HN1.out], by trivial⟩
                    case measure => simp [intOf]; omega
                  · have hd : (pJ == P) = false := by simp [hq]
                    have HN1 := Lib.hid (show cntL P 0 (R.take (J + 1)) = C from by rw [HCN.out, if_neg hq])
                    clear hq
                    go_wp2
                    go_roundw
                    case rel => exact ⟨J + 1, by omega, by go_num, by rw [HN1.out], by trivial⟩
                    case measure => simp [intOf]; omega
                · obtain rfl : J = np := by omega
                  clear hc0 hl0 hl6
                  have HND2 := Lib.hid (show ((R.take J).map (·.1)).Nodup from by rw [List.map_take, HPA.out.k]; exact HND.out)
                  rcases cntL_spec P (R.take J) 0 HND2.out with ⟨h1, h2⟩ | ⟨i, cs, h1, h2, h3⟩
                  · rw [HC.out] at h2
                    subst h2
                    go_wp2_with fail
                    refine (qsLen_no qb J R _ P _ HPA.out.q h1).mono ?_
                    rintro e wB ⟨rfl, -, hb⟩
                    have HPB := Lib.hid (HPA.out.ext hb)
                    clear hb h1
                    go_wp2
                    go_roundw
                    case rel => exact ⟨P + 1, by omega, by omega, by go_num, HPB.out⟩
                    case measure => simp [intOf]; omega
                  · rw [HC.out] at h3
                    subst h3
                    have hiJ : i < J := by
                      rcases Nat.lt_or_ge i J with h' | h'
                      · exact h'
                      · rw [List.getElem?_eq_none (by rw [List.length_take]; omega)] at h2; cases h2
                    rw [List.getElem?_take_of_lt hiJ] at h2
                    rw [Nat.zero_add] at h1
                    go_wp2_with fail
                    refine (qsLen qb J R _ P _ HPA.out.q i P cs h1 h2).mono ?_
                    rintro e wB ⟨rfl, -, hb⟩
                    have HPB := Lib.hid (HPA.out.ext hb)
                    clear hb h1 h2
                    go_wp2
                    go_roundw
                    case rel => exact ⟨P + 1, by omega, by omega, by go_num, HPB.out⟩
                    case measure => simp [intOf]; omega
            · have hdP : decide (P < 8) = false := by simp; omega
              clear HP
              go_wp2_with fail
              obtain ⟨-, -, -, pv, X, h4, -⟩ := HPA.out.r
              have hc0 : wA.cell? ⟨rb, 2, none⟩ = some (.int .i64 (M : Nat)) := by rw [blk_cell h4]; rfl
              have hl0 := blk_lt h4
              clear h4
              haveI hIq : Nonempty (Of wA) := of_some _
              have hFq := of_cell hc0
              first | (refine wp_region_stay wA (by kernel_rfl) (by kernel_rfl) (by go_grown) ?_) | (refine wp_region_stay_seq wA (by go_grown) ?_)
              repeat (go_big_quiet_step ((go_at_call 16; refine stay_same (qsLost qb np R (M : Nat) _ (HPA.out.q.ext (In.h _))))))
              refine wpQuiet_nil ?_
              intro wB hb
              clear hIq hFq hc0 hl0
              have HPB := Lib.hid (HPA.out.ext hb)
              clear hb
              go_wp2
              go_roundw
              case rel => exact ⟨I + 1, R, M, by omega, by go_num, by omega, HPB.out⟩
              case measure => simp [intOf]; omega
        · have hinp : i < np := by
            rcases Nat.lt_or_ge i np with h' | h'
            · exact h'
            · rw [List.getElem?_eq_none (by rw [List.length_take]; omega)] at h2; cases h2
          rw [List.getElem?_take_of_lt hinp] at h2
          rw [Nat.zero_add] at h1
          have HIX := Lib.hid h1
          have HIR := Lib.hid h2
          clear h1 h2
          go_wp2_with fail
          refine (qsTake qb np rs M0 kk _ HP5.out.q i kk cs HIX.out HIR.out).mono ?_
          rintro e w6 ⟨t, rfl, ho6, hq6, hr6⟩
          obtain ⟨ta, tc, rfl, htc, htm, hta, -, -⟩ := ho6.read
          obtain ⟨n4, hn4⟩ : ∃ n4, (cs.take 4).length = n4 := ⟨_, rfl⟩
          rw [hn4] at htc ⊢
          have HN4 := Lib.hid hn4
          have HP6 := Lib.hid (HP5.out.qs hq6 hr6 HQB.out (set_map _ _ _ _ _ HIR.out))
          have HTA := Lib.hid hta
          have HTM := Lib.hid htm
          clear ho6 hq6 hr6 hta HP5 hn4 htm
          go_wp2_with fail
          refine (rqTake rb lb np i rs M0 kk kk cs _ HP6.out.r HIX.out HIR.out hinp).mono ?_
          rintro e w7 ⟨t2, rfl, ho7, hr7, hm7⟩
          obtain ⟨ta2, tc2, rfl, htc2, htm2, hta2, -, -⟩ := ho7.read
          rw [HN4.out] at htc2 ⊢
          have HP7 := Lib.hid (HP6.out.rq hr7 hm7 HRB.out HLB.out)
          have HTA7 := Lib.hid (HP6.out.r.cat hm7 HTA.out)
          have HTA2 := Lib.hid hta2
          have HTM2 := Lib.hid htm2
          clear ho7 hr7 hm7 hta2 htm2 HP6 HTA
          go_wp2_with fail
          refine (same5 ta ta2 n4 tc tc2 (cs.take 4) _ HTA7.out HTA2.out HN4.out htc htc2 HTM.out HTM2.out).mono ?_
          rintro e w8 ⟨rfl, hb8⟩
          obtain ⟨R, hR⟩ : ∃ R, rs.set i (kk, cs.drop 4) = R := ⟨_, rfl⟩
          obtain ⟨M, hM⟩ : ∃ M, M0 = M := ⟨_, rfl⟩
          have HP := Lib.hid (HP7.out.ext hb8)
          have hM42 : M ≤ 42 * (I + 1) := by omega
          rw [hR, hM] at HP
          clear hb8 HP7 hR hM HTA7 HTA2
          have hI40 : ¬ 40 < I := by omega
          go_wp2_with fail
          go_loopw [13] (fun p wr => ∃ P : Int, -1 ≤ P ∧ P ≤ 8 ∧ p = .int .i64 P ∧ Pl w ra rlen rcap qb rb lb tb np ks R (M : Nat) R (M : Nat) wr) (fun p _ => (8 - intOf p).toNat)
          case atStart => exact ⟨-1, by omega, by omega, rfl, HP.out⟩
          case round =>
            obtain ⟨wA, rfl⟩ : ∃ y : World, y = wr := ⟨_, rfl⟩
            obtain ⟨P, hP0, hP8, rfl, hpl⟩ := hrel
            have HPA := Lib.hid hpl
            clear hpl
            by_cases hltP : P < 8
            · obtain ⟨-, -, -, pv, X, h4, h5, h6, h7⟩ := HPA.out.r
              obtain ⟨pa2, pc2, rfl, hpl2, hpc2, hpm2, hpat2⟩ := own_ints h5
              have HX4 := Lib.hid h4
              have HX6 := Lib.hid h6
              have H7 := Lib.hid h7
              have HPT := Lib.hid hpat2
              have hc0 := blk_cell h4
              have hl0 := blk_lt h4
              have hl6 := blk_lt h6
              unfold maxLen at hpm2
              clear h4 h5 h6 h7 hpat2 hpl2
              go_wp2_with fail
              go_loopw [14, 72] (fun n j wr => ∃ J : Nat, J ≤ np ∧ j = .int .i64 (J : Int) ∧ n = .int .i64 ((cntL P 0 (R.take J) : Nat) : Int) ∧ wr = wA) (fun n j _ => np - (intOf j).toNat)
              case atStart => exact ⟨0, by omega, rfl, rfl, rfl⟩
              case round =>
                obtain ⟨J, hJ, rfl, rfl, rfl⟩ := hrel
                obtain ⟨C, hC⟩ : ∃ C, cntL P 0 (R.take J) = C := ⟨_, rfl⟩
                have HC := Lib.hid hC
                rw [hC]
                clear hC
                by_cases hltJ : J < np
                · obtain ⟨⟨pJ, csJ⟩, hpJ⟩ : ∃ y, R[J]? = some y := ⟨_, List.getElem?_eq_getElem (by have := HPA.out.r.2.1; omega)⟩
                  have HCN := Lib.hid (show cntL P 0 (R.take (J + 1)) = if pJ = P then csJ.length else C from by
                    rw [List.take_add_one, hpJ]
                    show cntL P 0 (R.take J ++ [(pJ, csJ)]) = _
                    rw [cntL_snoc, HC.out])
                  obtain ⟨vJ, hXJ, aJ, cJ, rfl, hcJ, hmJ, -, -⟩ := H7.out J pJ csJ hltJ hpJ
                  obtain ⟨b2, o2, rfl, hcx⟩ : ∃ b o, pa2 = some ⟨b, o, none⟩ ∧ wr.cell? ⟨b, o + J, none⟩ = some (.int .i64 pJ) := by
                    rcases HPT.out with h | ⟨b, o, e, h⟩
                    · have := pk_at hpJ hltJ; rw [h] at this; simp at this
                    · exact ⟨b, o, e, h J pJ (pk_at hpJ hltJ)⟩
                  obtain ⟨mJ, hmJ'⟩ : ∃ m, csJ.length = m := ⟨_, rfl⟩
                  rw [hmJ'] at HCN
                  have hcl : wr.cell? ⟨lb, J, none⟩ = some (.slice aJ mJ cJ) := by rw [blk_cell HX6.out, ← hmJ']; exact hXJ
                  rw [hmJ'] at hcJ
                  unfold maxLen at hmJ
                  clear hXJ hpJ hmJ'
                  by_cases hq : pJ = P
                  · have hd : (pJ == P) = true := by simp [hq]
                    have HN1 := Lib.hid (show cntL P 0 (R.take (J + 1)) = mJ from by rw [HCN.out, if_pos hq])
                    clear hq
                    go_wp2
                    go_roundw
                    case rel => exact ⟨J + 1, by omega, by go_num, by rw [HN1.out], by trivial⟩
                    case measure => simp [intOf]; omega
                  · have hd : (pJ == P) = false := by simp [hq]
                    have HN1 := Lib.hid (show cntL P 0 (R.take (J + 1)) = C from by rw [HCN.out, if_neg hq])
                    clear hq
                    go_wp2
                    go_roundw
                    case rel => exact ⟨J + 1, by omega, by go_num, by rw [HN1.out], by trivial⟩
                    case measure => simp [intOf]; omega
                · obtain rfl : J = np := by omega
                  clear hc0 hl0 hl6
                  have HND2 := Lib.hid (show ((R.take J).map (·.1)).Nodup from by rw [List.map_take, HPA.out.k]; exact HND.out)
                  rcases cntL_spec P (R.take J) 0 HND2.out with ⟨h1, h2⟩ | ⟨i, cs, h1, h2, h3⟩
                  · rw [HC.out] at h2
                    subst h2
                    go_wp2_with fail
                    refine (qsLen_no qb J R _ P _ HPA.out.q h1).mono ?_
                    rintro e wB ⟨rfl, -, hb⟩
                    have HPB := Lib.hid (HPA.out.ext hb)
                    clear hb h1
                    go_wp2
                    go_roundw
                    case rel => exact ⟨P + 1, by omega, by omega, by go_num, HPB.out⟩
                    case measure => simp [intOf]; omega
                  · rw [HC.out] at h3
                    subst h3
                    have hiJ : i < J := by
                      rcases Nat.lt_or_ge i J with h' | h'
                      · exact h'
                      · rw [List.getElem?_eq_none (by rw [List.length_take]; omega)] at h2; cases h2
                    rw [List.getElem?_take_of_lt hiJ] at h2
                    rw [Nat.zero_add] at h1
                    go_wp2_with fail
                    refine (qsLen qb J R _ P _ HPA.out.q i P cs h1 h2).mono ?_
                    rintro e wB ⟨rfl, -, hb⟩
                    have HPB := Lib.hid (HPA.out.ext hb)
                    clear hb h1 h2
                    go_wp2
                    go_roundw
                    case rel => exact ⟨P + 1, by omega, by omega, by go_num, HPB.out⟩
                    case measure => simp [intOf]; omega
            · have hdP : decide (P < 8) = false := by simp; omega
              clear HP
              go_wp2_with fail
              obtain ⟨-, -, -, pv, X, h4, -⟩ := HPA.out.r
              have hc0 : wA.cell? ⟨rb, 2, none⟩ = some (.int .i64 (M : Nat)) := by rw [blk_cell h4]; rfl
              have hl0 := blk_lt h4
              clear h4
              haveI hIq : Nonempty (Of wA) := of_some _
              have hFq := of_cell hc0
              first | (refine wp_region_stay wA (by kernel_rfl) (by kernel_rfl) (by go_grown) ?_) | (refine wp_region_stay_seq wA (by go_grown) ?_)
              repeat (go_big_quiet_step ((go_at_call 16; refine stay_same (qsLost qb np R (M : Nat) _ (HPA.out.q.ext (In.h _))))))
              refine wpQuiet_nil ?_
              intro wB hb
              clear hIq hFq hc0 hl0
              have HPB := Lib.hid (HPA.out.ext hb)
              clear hb
              go_wp2
              go_roundw
              case rel => exact ⟨I + 1, R, M, by omega, by go_num, by omega, HPB.out⟩
              case measure => simp [intOf]; omega
    · have hd40 : decide ((I : Int) < 40) = false := by simp; omega
      go_wp2
      go_ret
      exact ⟨rfl, HP4.out.b⟩

end Go.Proofs.Ytmpkkkcoiljhpaa
