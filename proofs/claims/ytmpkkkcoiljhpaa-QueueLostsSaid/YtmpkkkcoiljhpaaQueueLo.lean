/- 'QueueLosts': the walk. -/
import Derived.Test.YtmpkkkcoiljhpaaQueueK
import Derived.Test.YtmpkkkcoiljhpaaWithin
namespace Go.Proofs.Ytmpkkkcoiljhpaa
open Go.RowKit
set_option linter.unusedVariables false

theorem n5 : (newM [5]).1 = 1 := by decide +kernel
theorem l_lost : ∀ K : Fin 61, (addM 1 (ids 65 K.val) ((newM [5]).2, 0)).2 = K.val - 16 := by decide +kernel
theorem l_row : ∀ K : Fin 61, (((addM 1 (ids 65 K.val) ((newM [5]).2, 0)).1)[0]?).map (fun r => (r.1, r.2.length)) = some ((5 : Int), min K.val 16) := by decide +kernel
theorem ixQ_zero (rs : List (Int × List Cd)) (p : Int) (cs : List Cd) (h : rs[0]? = some (p, cs)) : ixQ p 0 (rs.take 1) = 0 := by
  cases rs with
  | nil => cases h
  | cons x xs => simp at h; subst h; simp [ixQ]

set_option maxRecDepth 100000 in
set_option maxHeartbeats 2000000 in
theorem queueLosts_walk (n takes : Int) (w : World) (hta : (Lit.int .i64 n).wf = true) (htb : (Lit.int .i64 takes).wf = true) :
    Calls Try.prog 7 #[.int .i64 n, .int .i64 takes] w fun e w' => e = .returned (.bool true) ∧ Below w.heap.size w w' := by
  have ha := bounds_i64 hta
  have hb := bounds_i64 htb
  have hn0 := win_lo n 0 60 (by omega)
  have hn1 := win_hi n 0 60 (by omega)
  have ht0 := win_lo takes 0 6 (by omega)
  have ht1 := win_hi takes 0 6 (by omega)
  clear hta htb
  go_enter Try.func7, Try.ntmps7
  have D0 : Below w.heap.size w (w.alloc (.cells #[.int .i64 5] 3)) := (Below.refl _ _).alloc (Nat.le_refl _) _
  have HNA := Lib.hid (show NAt (w.alloc (.cells #[.int .i64 5] 3)) (some ⟨w.heap.size, 0, none⟩) [5] from .inr ⟨_, _, rfl, fun i n hi => by
    have hb := blk_new w #[.int .i64 5] 3
    rw [blk_cell hb]
    match i, hi with
    | 0, hi => simp at hi; subst hi; rfl
    | (k + 1), hi => simp at hi⟩)
  go_wp2_with fail
  generalize (w.alloc (.cells #[.int .i64 5] 3)) = w0 at *
  refine (queueNew 1 1 _ [5] _ HNA.out rfl (by omega) (by unfold maxLen; omega)).mono ?_
  rintro e w1 ⟨rfl, hq, hem, hb1⟩
  obtain ⟨qb, hqb⟩ : ∃ qb, w0.heap.size = qb := ⟨_, rfl⟩
  rw [hqb] at hq ⊢
  have hqw : w.heap.size ≤ qb := by have := D0.size; omega
  rw [n5] at hq
  have HQ1 := Lib.hid hq
  have B1 := Lib.hid (ext_trans D0 hb1)
  clear hq hem hb1 D0 HNA hqb
  go_wp2_with fail
  refine (within_any n 0 60 _ (by omega) (by omega) (by omega) (by omega) (by omega)).mono ?_
  rintro e w1' ⟨rfl, rfl⟩
  obtain ⟨K, hK⟩ : ∃ K : Nat, win n 0 60 = (K : Int) := ⟨(win n 0 60).toNat, by omega⟩
  rw [hK] at hn1 ⊢
  have hK60 : K ≤ 60 := by omega
  clear hn0 hn1 hK
  go_wp2_with fail
  go_loopw [7] (fun j wr => ∃ J : Nat, J ≤ K ∧ j = .int .i64 (J : Int) ∧ QS wr qb 1 (addM 1 (ids 65 J) ((newM [5]).2, 0)).1 ((addM 1 (ids 65 J) ((newM [5]).2, 0)).2 : Nat) ∧ Below w.heap.size w wr) (fun j _ => K - (intOf j).toNat)
  case atStart => exact ⟨0, by omega, rfl, HQ1.out, B1.out⟩
  case round =>
    obtain ⟨w2, rfl⟩ : ∃ y : World, y = wr := ⟨_, rfl⟩
    obtain ⟨J, hJ, rfl, hq2, hb2⟩ := hrel
    by_cases hlt : J < K
    · have hwr : IntKind.i32.wrap (65 + (J : Int)) = 65 + (J : Int) := by
        have hm : (65 + (J : Int)) % 4294967296 = 65 + (J : Int) := by omega
        unfold IntKind.wrap
        simp [IntKind.bits, IntKind.signed, hm]
        omega
      have HS := Lib.hid (show addM 1 (ids 65 (J + 1)) ((newM [5]).2, 0) = addM 1 [idc (Utf8.encode (65 + (J : Int)))] (addM 1 (ids 65 J) ((newM [5]).2, 0)) from by rw [ids_snoc, addM_app])
      have HL := Lib.hid (show (addM 1 (ids 65 J) ((newM [5]).2, 0)).2 ≤ 1000 from by
        have := addM_le 1 (ids 65 J) ((newM [5]).2, 0) (by omega)
        rw [ids_len] at this
        simp only at this
        omega)
      have D0 : Below w2.heap.size w2 (w2.alloc (.cells #[.string ⟨#[97]⟩, .string (Utf8.encode (65 + (J : Int))), .int .i64 0, .int .i64 0, .int .i64 0, .int .i64 0, .int .i64 0, .int .i64 0, .bool false] 39)) := (Below.refl _ _).alloc (Nat.le_refl _) _
      have HC := Lib.hid (cat_id w2 (Utf8.encode (65 + (J : Int))))
      have HQ3 := Lib.hid (hq2.ext D0)
      have HB3 := Lib.hid (ext_trans hb2 D0)
      have Z3 := (ext_trans hb2 D0).size
      clear hq2 hb2 D0
      go_wp2_with fail
      refine (queueAdd qb 1 1 1 _ [idc (Utf8.encode (65 + (J : Int)))] _ _ _ HQ3.out HC.out rfl (by omega) (by unfold maxLen; omega) (by have := HL.out; omega)).mono ?_
      rintro e w3 ⟨rfl, hq4, hr4⟩
      have HQ4 := Lib.hid hq4
      have HB4 := Lib.hid (HB3.out.trans (hr4.below hqw Z3))
      clear hq4 hr4 Z3
      go_wp2
      go_roundw
      case rel => exact ⟨J + 1, by omega, by go_num, by rw [HS.out]; exact HQ4.out, HB4.out⟩
      case measure => simp [intOf]; omega
    · obtain rfl : J = K := by omega
      have h1 := l_lost ⟨J, by omega⟩
      have h2 := l_row ⟨J, by omega⟩
      simp only at h1 h2
      obtain ⟨R, hR⟩ : ∃ R, (addM 1 (ids 65 J) ((newM [5]).2, 0)).1 = R := ⟨_, rfl⟩
      obtain ⟨LO, hLO⟩ : ∃ LO, (addM 1 (ids 65 J) ((newM [5]).2, 0)).2 = LO := ⟨_, rfl⟩
      rw [hR] at h2 hq2
      rw [hLO] at h1 hq2
      obtain ⟨cs, h0, h16⟩ : ∃ cs, R[0]? = some (5, cs) ∧ cs.length = min J 16 := by
        cases e : R[0]? with
        | none => rw [e] at h2; cases h2
        | some r =>
          rw [e] at h2
          simp only [Option.map_some, Option.some.injEq, Prod.mk.injEq] at h2
          exact ⟨r.2, by rw [← h2.1], h2.2⟩
      have HQ2 := Lib.hid hq2
      have HB2 := Lib.hid hb2
      have HR0 := Lib.hid h0
      have H16 := Lib.hid h16
      have HI := Lib.hid (ixQ_zero R 5 cs h0)
      have HRS := Lib.hid (show R.set 0 (5, cs) = R from by
        apply List.ext_getElem?
        intro i
        rw [List.getElem?_set]
        split
        · rename_i e
          subst e
          rw [h0]
          have hlt : 0 < R.length := by
            rcases Nat.lt_or_ge 0 R.length with h' | h'
            · exact h'
            · rw [List.getElem?_eq_none h'] at h0; cases h0
          rw [if_pos hlt]
        · rfl)
      have HSE := Lib.hid (fun ds : List Cd => (show (R.set 0 (5, ds))[0]? = some (5, ds) by rw [List.getElem?_set_self (by rcases Nat.lt_or_ge 0 R.length with h' | h'; exact h'; rw [List.getElem?_eq_none h'] at h0; cases h0)]))
      have HIX := Lib.hid (fun ds : List Cd => (show ixQ 5 0 ((R.set 0 (5, ds)).take 1) = 0 by rw [ixQ_set 5 _ 0 1 0 5 cs _ h0]; exact HI.out))
      have HLO := Lib.hid h1
      clear h1 h2 hR hLO h0 h16 hq2 hb2 HQ1 B1
      go_wp2_with fail
      go_loopw [8, 9] (fun g i wr => ∃ (G I : Nat), i = .int .i64 (I : Int) ∧ g = .int .i64 (G : Int) ∧ (I : Int) ≤ win takes 0 6 ∧ G + (cs.drop (4 * I)).length = cs.length ∧ QS wr qb 1 (R.set 0 (5, cs.drop (4 * I))) (LO : Nat) ∧ Below w.heap.size w wr) (fun g i _ => 6 - (intOf i).toNat)
      case atStart => exact ⟨0, 0, rfl, rfl, by omega, by simp, by rw [Nat.mul_zero, List.drop_zero, HRS.out]; exact HQ2.out, HB2.out⟩
      case round =>
        obtain ⟨w5, rfl⟩ : ∃ y : World, y = wr := ⟨_, rfl⟩
        obtain ⟨G, I, rfl, rfl, hI, hG, hq5, hb5⟩ := hrel
        obtain ⟨ds, hds⟩ : ∃ ds, cs.drop (4 * I) = ds := ⟨_, rfl⟩
        have HDS := Lib.hid hds
        rw [hds] at hG hq5
        have HQ5 := Lib.hid hq5
        have HB5 := Lib.hid hb5
        have HG := Lib.hid hG
        have hG16 : G ≤ 16 := by have := H16.out; omega
        clear hq5 hb5 hG hds
        go_wp2_with fail
        refine (within_any takes 0 6 _ (by omega) (by omega) (by omega) (by omega) (by omega)).mono ?_
        rintro e w5' ⟨rfl, rfl⟩
        obtain ⟨T, hT⟩ : ∃ T : Nat, win takes 0 6 = (T : Int) := ⟨(win takes 0 6).toNat, by omega⟩
        have HT := Lib.hid hT
        rw [hT] at hI ht1 ⊢
        clear ht0 hT
        by_cases hlt2 : I < T
        · obtain ⟨M, hM⟩ : ∃ M, (ds.take 4).length = M := ⟨_, rfl⟩
          have HM := Lib.hid hM
          have hM4 : M ≤ 4 := by rw [← hM, List.length_take]; omega
          have HML := Lib.hid (show M + (ds.drop 4).length = ds.length from by rw [← hM, List.length_take, List.length_drop]; omega)
          clear hM
          go_wp2_with fail
          refine (qsTake qb 1 _ (LO : Nat) 5 _ HQ5.out 0 5 ds (HIX.out ds) (HSE.out ds)).mono ?_
          rintro e w6 ⟨t, rfl, ho, hq6, hr6⟩
          obtain ⟨a, c, rfl, -, -, -, -, -⟩ := ho.read
          rw [HM.out]
          have HQ6 := Lib.hid (show QS w6 qb 1 (R.set 0 (5, cs.drop (4 * (I + 1)))) (LO : Nat) from by
            rw [List.set_set, ← HDS.out, List.drop_drop] at hq6
            exact hq6)
          have HB6 := Lib.hid (HB5.out.trans (hr6.below hqw (by have := HB5.out.size; omega)))
          have HG6 := Lib.hid (show (G + M) + (cs.drop (4 * (I + 1))).length = cs.length from by
            have h1 := HG.out
            have h2 := HML.out
            have h4 : cs.drop (4 * (I + 1)) = ds.drop 4 := by rw [← HDS.out, List.drop_drop]; congr 1
            rw [h4]
            omega)
          clear ho hq6 hr6
          go_wp2
          go_roundw
          case rel => exact ⟨G + M, I + 1, by go_num, by go_num, by rw [HT.out]; omega, HG6.out, HQ6.out, HB6.out⟩
          case measure => simp [intOf]; omega
        · obtain ⟨M, hM⟩ : ∃ M, ds.length = M := ⟨_, rfl⟩
          have hM' : M ≤ 16 := by have h1 := HG.out; have h2 := H16.out; omega
          have HM := Lib.hid hM
          have hLO' : LO ≤ 44 := by have := HLO.out; omega
          have hsum : ((LO : Int) + (G : Int) + (M : Int) == (J : Int)) = true := by
            have h1 := HG.out
            have h2 := H16.out
            have h3 := HLO.out
            rw [hM] at h1
            simp
            omega
          have hmax : max ((J : Int) - 16) 0 = (LO : Int) := by have h3 := HLO.out; omega
          clear hM
          go_wp2_with fail
          refine (qsLost qb 1 _ (LO : Nat) _ HQ5.out).mono ?_
          rintro e w6 ⟨rfl, rfl⟩
          go_wp2_with fail
          refine (qsLen qb 1 _ (LO : Nat) 5 _ HQ5.out 0 5 ds (HIX.out ds) (HSE.out ds)).mono ?_
          rintro e w6 ⟨rfl, hq6, hb6⟩
          rw [HM.out]
          have HQ6 := Lib.hid hq6
          have HB6 := Lib.hid (ext_trans HB5.out hb6)
          clear hq6 hb6
          go_wp2_with fail
          refine (qsLost qb 1 _ (LO : Nat) _ HQ6.out).mono ?_
          rintro e w7 ⟨rfl, rfl⟩
          go_wp2_with fail
          refine (law17known _).mono ?_
          rintro e w8 ⟨rfl, hb8⟩
          have HB8 := Lib.hid (ext_trans HB6.out hb8)
          clear hb8
          go_wp2
          go_ret
          exact ⟨rfl, HB8.out⟩

end Go.Proofs.Ytmpkkkcoiljhpaa
