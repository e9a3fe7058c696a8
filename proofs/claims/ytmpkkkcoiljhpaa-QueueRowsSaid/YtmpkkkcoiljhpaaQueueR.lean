/- 'QueueRows': the walk. -/
import Derived.Test.YtmpkkkcoiljhpaaQueueO
namespace Go.Proofs.Ytmpkkkcoiljhpaa
open Go.RowKit
set_option linter.unusedVariables false

theorem addM_two (p p' : Int) (rest : List (Int × List Cd)) : ∀ (n : Nat) (xs : List Cd), xs.length = n → n ≤ 16 → addM 2 xs ((p, []) :: (p', []) :: rest, 0) = ((p, gC xs) :: (p', gC xs) :: rest, 0) := by
  intro n
  induction n with
  | zero => intro xs h _; rw [List.eq_nil_of_length_eq_zero h]; rfl
  | succ n ih =>
    intro xs h hn
    rcases List.eq_nil_or_concat xs with rfl | ⟨l, b, rfl⟩
    · simp at h
    · simp only [List.concat_eq_append] at h ⊢
      rw [addM_snoc, ih l (by simp at h; omega) (by omega), gC_snoc]
      have h1 := gC_len l
      have h2 := delC_len b (gC l)
      have h3 : (delC b (gC l)).length < 16 := by simp at h; omega
      simp [layU, ovU, layR, layC, ovC, h3]
theorem newM12 : newM [1, 2] = (2, (1, []) :: (2, []) :: List.replicate 4 ((0 : Int), ([] : List Cd))) := by first | rfl | kernel_rfl
theorem newM2 : newM [2] = (1, (2, []) :: List.replicate 5 ((0 : Int), ([] : List Cd))) := by first | rfl | kernel_rfl
theorem QS.other {w w' : World} {qb wb np mp : Nat} {rs qs : List (Int × List Cd)} {lost lost' : Int} (h : QS w wb mp qs lost') (hq : QS w qb np rs lost) (hr : Rim qb w w') (hn : wb ≠ qb) : QS w' wb mp qs lost' := by
  obtain ⟨h1, h2, h3, sl, h4, h5, h6⟩ := h
  refine ⟨h1, h2, h3, sl, (hr.block wb hn h4.lt).trans h4, h5, fun i p cs hi => ?_⟩
  obtain ⟨v, h7, h8⟩ := h6 i p cs hi
  exact ⟨v, h7, hq.slc hr h8⟩

set_option maxRecDepth 100000 in
set_option maxHeartbeats 4000000 in
theorem queueRows_walk (ra : Option Addr) (rlen rcap : Nat) (rz : List Int) (takes : Int) (w : World) (hr : IsRow .i64 w ra rlen rcap rz) (htb : (Lit.int .i64 takes).wf = true) :
    Calls Try.prog 6 #[.slice ra rlen rcap, .int .i64 takes] w fun e w' => e = .returned (.bool true) ∧ Below w.heap.size w w' := by
  have hbt := bounds_i64 htb
  have ht0 := win_lo takes 0 5 (by omega)
  have ht1 := win_hi takes 0 5 (by omega)
  have D0 : Below w.heap.size w (w.alloc (.cells #[.slice ra rlen rcap, .int .i64 0] 29)) := (Below.refl _ _).alloc (Nat.le_refl _) _
  have HT0 := Lib.hid (tapeK_new (a := ra) (len := rlen) (cap := rcap) w)
  have HR0 := Lib.hid (rowOk_new hr (.cells #[.slice ra rlen rcap, .int .i64 0] 29))
  have HD0 := Lib.hid D0
  clear hr D0 htb
  go_enter Try.func6, Try.ntmps6
  go_upto_region 2 with (fail)
  generalize (w.alloc (.cells #[.slice ra rlen rcap, .int .i64 0] 29)) = w0 at *
  have DA : Below w0.heap.size w0 (w0.alloc (.cells #[.int .i64 1, .int .i64 2] 3)) := (Below.refl _ _).alloc (Nat.le_refl _) _
  have HNA := Lib.hid (show NAt (w0.alloc (.cells #[.int .i64 1, .int .i64 2] 3)) (some ⟨w0.heap.size, 0, none⟩) [1, 2] from .inr ⟨_, _, rfl, fun i n hi => by
    have hb := blk_new w0 #[.int .i64 1, .int .i64 2] 3
    rw [blk_cell hb]
    match i, hi with
    | 0, hi => simp at hi; subst hi; rfl
    | 1, hi => simp at hi; subst hi; rfl
    | (k + 2), hi => simp at hi⟩)
  go_wp2_with fail
  have HT1 := Lib.hid (HT0.out.ext DA)
  have HR1 := Lib.hid (HR0.out.bar (Bar.of DA))
  have HD1 := Lib.hid (ext_trans HD0.out DA)
  clear DA HT0 HR0 HD0
  generalize (w0.alloc (.cells #[.int .i64 1, .int .i64 2] 3)) = w1 at *
  refine (queueNew 2 2 _ [1, 2] _ HNA.out rfl (by omega) (by unfold maxLen; omega)).mono ?_
  rintro e w2 ⟨rfl, hq, -, hb⟩
  obtain ⟨qb, hqb⟩ : ∃ qb, w1.heap.size = qb := ⟨_, rfl⟩
  rw [hqb] at hq ⊢
  have hqw : w.heap.size ≤ qb := by have := HD1.out.size; omega
  rw [newM12] at hq
  have HQ2 := Lib.hid hq
  have HT2 := Lib.hid (HT1.out.ext hb)
  have HR2 := Lib.hid (HR1.out.bar (Bar.of hb))
  have HD2 := Lib.hid (ext_trans HD1.out hb)
  clear hq hb hqb HNA HT1 HR1 HD1
  have DB : Below w2.heap.size w2 (w2.alloc (.cells #[.int .i64 2] 3)) := (Below.refl _ _).alloc (Nat.le_refl _) _
  have HNB := Lib.hid (show NAt (w2.alloc (.cells #[.int .i64 2] 3)) (some ⟨w2.heap.size, 0, none⟩) [2] from .inr ⟨_, _, rfl, fun i n hi => by
    have hb := blk_new w2 #[.int .i64 2] 3
    rw [blk_cell hb]
    match i, hi with
    | 0, hi => simp at hi; subst hi; rfl
    | (k + 1), hi => simp at hi⟩)
  have HQ3 := Lib.hid (HQ2.out.ext DB)
  have HT3 := Lib.hid (HT2.out.ext DB)
  have HR3 := Lib.hid (HR2.out.bar (Bar.of DB))
  have HD3 := Lib.hid (ext_trans HD2.out DB)
  clear DB HT2 HR2 HD2 HQ2
  go_wp2_with fail
  generalize (w2.alloc (.cells #[.int .i64 2] 3)) = w3 at *
  refine (queueNew 1 1 _ [2] _ HNB.out rfl (by omega) (by unfold maxLen; omega)).mono ?_
  rintro e w4 ⟨rfl, hq, -, hb⟩
  obtain ⟨wb, hwb⟩ : ∃ wb, w3.heap.size = wb := ⟨_, rfl⟩
  rw [hwb] at hq ⊢
  have hww : w.heap.size ≤ wb := by have := HD3.out.size; omega
  have hne : wb ≠ qb := by have := HQ3.out.lt; omega
  rw [newM2] at hq
  have HW4 := Lib.hid hq
  have HQ4 := Lib.hid (HQ3.out.ext hb)
  have HT4 := Lib.hid (HT3.out.ext hb)
  have HR4 := Lib.hid (HR3.out.bar (Bar.of hb))
  have HD4 := Lib.hid (ext_trans HD3.out hb)
  clear hq hb hwb HNB HT3 HR3 HD3 HQ3
  go_wp2_with fail
  refine (tapeCards ra rlen rcap rz w.heap.size 12 _ HT4.out HR4.out (by omega)).mono ?_
  rintro e w5 ⟨lv, cs, rfl, ho, hl, hok, -, hb⟩
  obtain ⟨la, lc, rfl, hlc, hlm, hat, -, -⟩ := ho.read
  have HA5 := Lib.hid hat
  have HLM := Lib.hid hlm
  have HD5 := Lib.hid (HD4.out.trans (hb.below (Nat.le_refl _) HD4.out.size))
  have keep5 : ∀ {qb np rs}, QS w4 qb np rs 0 → QS w5 qb np rs 0 := by
    intro qb np rs h
    obtain ⟨h1, h2, h3, sl, h4, h5, h6⟩ := h
    refine ⟨h1, h2, h3, sl, (hb.block qb (HT4.out.ne (by decide) h4.blk) h4.lt).trans h4, h5, fun i p cs hi => ?_⟩
    obtain ⟨v, h7, a, c, g1, g2, g3, g4, g5⟩ := h6 i p cs hi
    exact ⟨v, h7, a, c, g1, g2, g3, g4.keep (fun b cur hc _ => hb.block b (HT4.out.ne (by decide) hc) (blk_lt hc)), g5⟩
  have HQ5 := Lib.hid (keep5 HQ4.out)
  have HW5 := Lib.hid (keep5 HW4.out)
  obtain ⟨n, hn⟩ : ∃ n, cs.length = n := ⟨_, rfl⟩
  have HN := Lib.hid hn
  rw [hn] at hlc hl ⊢
  clear ho hok hb hat HT4 HR4 HD4 hn hlm HQ4 HW4 keep5
  obtain ⟨G, hG⟩ : ∃ G, gC cs = G := ⟨_, rfl⟩
  have hGL : G.length ≤ 12 := by have := gC_len cs; rw [hG, HN.out] at this; omega
  go_wp2_with fail
  refine (queueAdd qb 2 n lc la cs _ 0 _ HQ5.out HA5.out HN.out hlc HLM.out (by omega)).mono ?_
  rintro e w6 ⟨rfl, hq6, hr6⟩
  rw [addM_two 1 2 _ n cs HN.out (by omega), hG] at hq6
  have HQ6 := Lib.hid hq6
  have HA6 := Lib.hid (HQ5.out.cat hr6 HA5.out)
  have HW6 := Lib.hid (HW5.out.other HQ5.out hr6 hne)
  have HD6 := Lib.hid (HD5.out.trans (hr6.below hqw HD5.out.size))
  clear hq6 hr6 HQ5 HA5 HW5 HD5
  go_wp2_with fail
  refine (queueAdd wb 1 n lc la cs _ 0 _ HW6.out HA6.out HN.out hlc HLM.out (by omega)).mono ?_
  rintro e w7 ⟨rfl, hq7, hr7⟩
  rw [addM_one 2 _ n cs HN.out (by omega), hG] at hq7
  have HW7 := Lib.hid hq7
  have HQ7 := Lib.hid (HQ6.out.other HW6.out hr7 (Ne.symm hne))
  have HD7 := Lib.hid (HD6.out.trans (hr7.below hww HD6.out.size))
  clear hq7 hr7 HQ6 HA6 HW6 HD6 hG
  go_wp2_with fail
  go_loopw [9] (fun i wr => ∃ (I : Nat) (ds : List Cd), i = .int .i64 (I : Int) ∧ (I : Int) ≤ win takes 0 5 ∧ QS wr qb 2 ((1, ds) :: (2, G) :: List.replicate 4 ((0 : Int), ([] : List Cd))) 0 ∧ QS wr wb 1 ((2, G) :: List.replicate 5 ((0 : Int), ([] : List Cd))) 0 ∧ Below w.heap.size w wr) (fun i _ => 5 - (intOf i).toNat)
  case atStart => exact ⟨0, G, rfl, by omega, HQ7.out, HW7.out, HD7.out⟩
  case round =>
    obtain ⟨w8, rfl⟩ : ∃ y : World, y = wr := ⟨_, rfl⟩
    obtain ⟨I, ds, rfl, hI, hq8, hw8, hd8⟩ := hrel
    have HQ8 := Lib.hid hq8
    have HW8 := Lib.hid hw8
    have HD8 := Lib.hid hd8
    clear hq8 hw8 hd8
    go_wp2_with fail
    refine (within_any takes 0 5 _ (by omega) (by omega) (by omega) (by omega) (by omega)).mono ?_
    rintro e w8' ⟨rfl, rfl⟩
    obtain ⟨T, hT⟩ : ∃ T : Nat, win takes 0 5 = (T : Int) := ⟨(win takes 0 5).toNat, by omega⟩
    have HT := Lib.hid hT
    rw [hT] at hI ht1 ⊢
    clear ht0 hT
    by_cases hlt : I < T
    · go_wp2_with fail
      refine (qsTake qb 2 ((1, ds) :: (2, G) :: List.replicate 4 ((0 : Int), ([] : List Cd))) 0 1 _ HQ8.out 0 1 ds rfl rfl).mono ?_
      rintro e w9 ⟨t, rfl, -, hq9, hr9⟩
      have HQ9 := Lib.hid (show QS w9 qb 2 ((1, (ds.drop 4)) :: (2, G) :: List.replicate 4 ((0 : Int), ([] : List Cd))) 0 from hq9)
      have HW9 := Lib.hid (HW8.out.other HQ8.out hr9 hne)
      have HD9 := Lib.hid (HD8.out.trans (hr9.below hqw HD8.out.size))
      clear hq9 hr9
      go_wp2
      go_roundw
      case rel => exact ⟨I + 1, ds.drop 4, by go_num, by rw [HT.out]; omega, HQ9.out, HW9.out, HD9.out⟩
      case measure => simp [intOf]; omega
    · go_wp2_with fail
      go_loopw [10] (fun i wr => ∃ (J : Nat), J ≤ 5 ∧ i = .int .i64 (J : Int) ∧ QS wr qb 2 ((1, ds) :: (2, G.drop (4 * J)) :: List.replicate 4 ((0 : Int), ([] : List Cd))) 0 ∧ QS wr wb 1 ((2, G.drop (4 * J)) :: List.replicate 5 ((0 : Int), ([] : List Cd))) 0 ∧ Below w.heap.size w wr) (fun i _ => 5 - (intOf i).toNat)
      case atStart => exact ⟨0, by omega, rfl, HQ8.out, HW8.out, HD8.out⟩
      case round =>
        obtain ⟨w9, rfl⟩ : ∃ y : World, y = wr := ⟨_, rfl⟩
        obtain ⟨J, hJ, rfl, hq9, hw9, hd9⟩ := hrel
        obtain ⟨E, hE⟩ : ∃ E, G.drop (4 * J) = E := ⟨_, rfl⟩
        have HE := Lib.hid hE
        have HEL := Lib.hid (show E.length + 4 * J ≤ 12 ∨ E = [] from by
          rcases Nat.lt_or_ge (4 * J) G.length with h | h
          · left; rw [← hE, List.length_drop]; omega
          · right; rw [← hE]; exact List.drop_of_length_le h)
        have HE4 := Lib.hid (show G.drop (4 * (J + 1)) = E.drop 4 from by rw [← hE, List.drop_drop]; congr 1)
        rw [hE] at hq9 hw9
        have HQ9 := Lib.hid hq9
        have HW9 := Lib.hid hw9
        have HD9 := Lib.hid hd9
        clear hq9 hw9 hd9 hE
        by_cases hlt2 : J < 5
        · obtain ⟨M, hM⟩ : ∃ M, E.length = M := ⟨_, rfl⟩
          have HM := Lib.hid hM
          clear hM
          go_wp2_with fail
          refine (qsLen qb 2 _ 0 2 _ HQ9.out 1 2 E rfl rfl).mono ?_
          rintro e w10 ⟨rfl, hq, hb⟩
          rw [HM.out]
          have HQ10 := Lib.hid hq
          have HW10 := Lib.hid (HW9.out.ext hb)
          have HD10 := Lib.hid (ext_trans HD9.out hb)
          clear hq hb
          go_wp2_with fail
          refine (qsLen wb 1 _ 0 2 _ HW10.out 0 2 E rfl rfl).mono ?_
          rintro e w11 ⟨rfl, hq, hb⟩
          rw [HM.out]
          have HW11 := Lib.hid hq
          have HQ11 := Lib.hid (HQ10.out.ext hb)
          have HD11 := Lib.hid (ext_trans HD10.out hb)
          clear hq hb
          go_wp2_with fail
          refine (qsTake qb 2 _ 0 2 _ HQ11.out 1 2 E rfl rfl).mono ?_
          rintro e w12 ⟨t1, rfl, ho1, hq, hr⟩
          obtain ⟨a1, c1, rfl, hc1, hm1, hat1, -, -⟩ := ho1.read
          obtain ⟨N, hN⟩ : ∃ N, (E.take 4).length = N := ⟨_, rfl⟩
          have HNN := Lib.hid hN
          rw [hN] at hc1 ⊢
          have HQ12 := Lib.hid (show QS w12 qb 2 ((1, ds) :: (2, E.drop 4) :: List.replicate 4 ((0 : Int), ([] : List Cd))) 0 from hq)
          have HW12 := Lib.hid (HW11.out.other HQ11.out hr hne)
          have HD12 := Lib.hid (HD11.out.trans (hr.below hqw HD11.out.size))
          have HC12 := Lib.hid hat1
          clear ho1 hq hr hat1 hN
          go_wp2_with fail
          refine (qsTake wb 1 _ 0 2 _ HW12.out 0 2 E rfl rfl).mono ?_
          rintro e w13 ⟨t2, rfl, ho2, hq, hr⟩
          obtain ⟨a2, c2, rfl, hc2, hm2, hat2, -, -⟩ := ho2.read
          rw [HNN.out] at hc2 ⊢
          have HW13 := Lib.hid (show QS w13 wb 1 ((2, E.drop 4) :: List.replicate 5 ((0 : Int), ([] : List Cd))) 0 from hq)
          have HQ13 := Lib.hid (HQ12.out.other HW12.out hr (Ne.symm hne))
          have HD13 := Lib.hid (HD12.out.trans (hr.below hww HD12.out.size))
          have HC13 := Lib.hid (HW12.out.cat hr HC12.out)
          have HC13' := Lib.hid hat2
          clear ho2 hq hr hat2
          go_wp2_with fail
          refine (same5 a1 a2 N c1 c2 (E.take 4) _ HC13.out HC13'.out HNN.out hc1 hc2 hm1 hm2).mono ?_
          rintro e w14 ⟨rfl, hb⟩
          have HQ14 := Lib.hid (HQ13.out.ext hb)
          have HW14 := Lib.hid (HW13.out.ext hb)
          have HD14 := Lib.hid (ext_trans HD13.out hb)
          clear hb
          go_wp2
          go_roundw
          case rel => exact ⟨J + 1, by omega, by go_num, by rw [HE4.out]; exact HQ14.out, by rw [HE4.out]; exact HW14.out, HD14.out⟩
          case measure => simp [intOf]; omega
        · have hd5 : decide ((J : Int) < 5) = false := by simp; omega
          have HEN := Lib.hid (show (E.length : Int) = 0 from by
            rcases HEL.out with h | h
            · omega
            · rw [h]; rfl)
          go_wp2_with fail
          refine (qsLen qb 2 _ 0 2 _ HQ9.out 1 2 E rfl rfl).mono ?_
          rintro e w10 ⟨rfl, hq, hb⟩
          rw [HEN.out]
          have HD10 := Lib.hid (ext_trans HD9.out hb)
          clear hq hb
          go_wp2_with fail
          refine (law17known _).mono ?_
          rintro e w11 ⟨rfl, hb9⟩
          have HD11 := Lib.hid (ext_trans HD10.out hb9)
          clear hb9
          go_wp2
          go_ret
          exact ⟨rfl, HD11.out⟩

end Go.Proofs.Ytmpkkkcoiljhpaa
