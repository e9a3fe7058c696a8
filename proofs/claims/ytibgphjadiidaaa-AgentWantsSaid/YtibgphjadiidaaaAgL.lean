/- AgentBeats: a client that is answered at once asks to be there again no later than a beat and a little behind the last time. -/
import Derived.Test.YtibgphjadiidaaaAgK
import Derived.Test.YtibgphjadiidaaaBd
namespace Go.Proofs.Ytibgphjadiidaaa
open Go.RowKit
set_option linter.unusedVariables false
set_option linter.unusedSimpArgs false

def BI (N : Int) (s : Ag) (I last : Int) : Prop := s.i = 0 ∧ s.now = I - 1 ∧ s.wt = false ∧ 0 ≤ s.tag ∧ s.tag ≤ I - 1 ∧ 0 ≤ s.asked ∧ s.asked ≤ I - 1 ∧ 0 ≤ s.fl ∧ s.fl ≤ I - 1 ∧ 0 ≤ s.bl ∧ s.bl ≤ I - 1 ∧ ((I = 1 ∧ s.ws = [⟨1, N, 1⟩] ∧ last = 0) ∨ (2 ≤ I ∧ s.ws = [] ∧ s.wi = true ∧ s.kn = true ∧ s.br = true ∧ s.bl = last ∧ I - 1 - last ≤ 10 ∧ 0 ≤ last))
theorem BI.bd {N I last : Int} {s : Ag} (h : BI N s I last) (h1 : 1 ≤ I) : Bd 1 (I - 1) s := by
  obtain ⟨h1, h2, h3, h4, h5, h6, h7, h8, h9, h10, h11, -⟩ := h
  unfold Bd
  omega
theorem run_one {k : ByteArray × ByteArray} {zs : List Int} {s u : Ag} {L : List Sn} (h : stpM k zs s = (u, L)) : runM k zs 1 s = (u, L) := by
  rw [run_succ]
  simp only [runM, h, List.nil_append]
theorem exp_no {n : Nat} {s : Ag} (h : s.wt = false) : expM n { s with now := s.now + 1 } = { s with now := s.now + 1 } := by
  unfold expM
  rw [if_neg (by rintro ⟨h1, _⟩; rw [h] at h1; cases h1)]
theorem beat {N I last : Int} {s : Ag} (h : BI N s I last) (h1 : 1 ≤ I) :
    (∃ s', runM KAB [0] 1 s = (s', []) ∧ BI N s' (I + 1) last ∧ s'.kn = true ∧ s'.wt = false ∧ I - last ≤ 10 ∧ s'.tag = s.tag) ∨
    (∃ s' op st N', (op = 1 ∨ op = 2) ∧ runM KAB [0] 1 s = (s', [⟨0, ⟨op, st, N', 0, ⟨#[97]⟩, ⟨#[98]⟩⟩, s.tag + 1⟩]) ∧ s'.wt = true ∧ s'.op = op ∧ s'.tag = s.tag + 1 ∧ s'.i = 0 ∧ BI N (ansM op 0 { s' with wt := false }) (I + 1) I ∧ (ansM op 0 { s' with wt := false }).kn = true ∧ (ansM op 0 { s' with wt := false }).wt = false ∧ (ansM op 0 { s' with wt := false }).tag = s.tag + 1) ∨
    (∃ s' q', runM KAB [0] 1 s = (s', [⟨0, ⟨5, 0, 0, q', ⟨#[]⟩, ⟨#[]⟩⟩, s.tag + 1⟩]) ∧ s'.wt = true ∧ s'.op = 5 ∧ s'.tag = s.tag + 1 ∧ s'.i = 0 ∧ BI N (ansM 5 0 { s' with wt := false }) (I + 1) last ∧ (ansM 5 0 { s' with wt := false }).kn = true ∧ (ansM 5 0 { s' with wt := false }).wt = false ∧ (ansM 5 0 { s' with wt := false }).tag = s.tag + 1 ∧ I - last ≤ 10) := by
  obtain ⟨i, now, ws, q, tag, op, asked, wt, wi, tm, st, kn, br, bl, fr, fl⟩ := s
  obtain ⟨e1, e2, e3, e4, e5, e6, e7, e8, e9, e10, e11, e12⟩ := h
  dsimp only at *
  subst e1 e3
  have hx := exp_no (n := [(0 : Int)].length) (s := (⟨0, now, ws, q, tag, op, asked, false, wi, tm, st, kn, br, bl, fr, fl⟩ : Ag)) rfl
  rcases e12 with ⟨rfl, rfl, rfl⟩ | ⟨f1, rfl, rfl, rfl, rfl, f6, f7, f8⟩
  · right; left
    refine ⟨_, 1, 1, N, .inl rfl, run_one (stp_yes hx rfl rfl), rfl, rfl, rfl, rfl, ?_, rfl, rfl, rfl⟩
    unfold ansM BI askM
    rw [if_pos rfl]
    dsimp only
    refine ⟨rfl, by omega, rfl, by omega, by omega, by omega, by omega, by omega, by omega, by omega, by omega, .inr ⟨by omega, rfl, rfl, rfl, rfl, by omega, by omega, by omega⟩⟩
  · subst f6
    by_cases hd : 10 ≤ I - bl
    · right; left
      have hn : nextM KAB (⟨0, (now + 1), [], q, tag, op, asked, false, true, tm, st, true, true, bl, fr, fl⟩ : Ag) = ((⟨0, (now + 1), [], q, tag, op, asked, false, true, tm, st, true, true, (now + 1), fr, fl⟩ : Ag), ⟨2, 0, 0, 0, ⟨#[97]⟩, ⟨#[98]⟩⟩, true) := by
        unfold nextM
        dsimp only
        rw [if_pos ⟨rfl, by unfold du; simp; omega⟩, if_pos rfl]
        rfl
      refine ⟨_, 2, 0, 0, .inr rfl, run_one (stp_yes hx rfl hn), rfl, rfl, rfl, rfl, ?_, rfl, rfl, rfl⟩
      unfold ansM BI askM
      rw [if_neg (by decide), if_neg (by decide), if_neg (by decide)]
      dsimp only
      refine ⟨rfl, by omega, rfl, by omega, by omega, by omega, by omega, by omega, by omega, by omega, by omega, .inr ⟨by omega, rfl, rfl, rfl, rfl, by omega, by omega, by omega⟩⟩
    · rcases hf : du fr fl (now + 1) 25 with _ | _
      · left
        have hn : nextM KAB (⟨0, (now + 1), [], q, tag, op, asked, false, true, tm, st, true, true, bl, fr, fl⟩ : Ag) = ((⟨0, (now + 1), [], q, tag, op, asked, false, true, tm, st, true, true, bl, fr, fl⟩ : Ag), ⟨0, 0, 0, 0, ⟨#[]⟩, ⟨#[]⟩⟩, false) := by
          unfold nextM
          dsimp only
          rw [if_neg (by rintro ⟨_, h⟩; unfold du at h; simp at h; omega), if_neg (by rw [hf]; decide)]
        refine ⟨_, run_one (stp_no hx rfl hn), ?_, rfl, rfl, by omega, rfl⟩
        unfold BI
        dsimp only
        refine ⟨rfl, by omega, rfl, by omega, by omega, by omega, by omega, by omega, by omega, by omega, by omega, .inr ⟨by omega, rfl, rfl, rfl, rfl, rfl, by omega, by omega⟩⟩
      · right; right
        have hn : nextM KAB (⟨0, (now + 1), [], q, tag, op, asked, false, true, tm, st, true, true, bl, fr, fl⟩ : Ag) = ((⟨0, (now + 1), [], q, tag, op, asked, false, true, tm, st, true, true, bl, true, (now + 1)⟩ : Ag), ⟨5, 0, 0, q, ⟨#[]⟩, ⟨#[]⟩⟩, true) := by
          unfold nextM
          dsimp only
          rw [if_neg (by rintro ⟨_, h⟩; unfold du at h; simp at h; omega), if_pos hf]
        refine ⟨_, q, run_one (stp_yes hx rfl hn), rfl, rfl, rfl, rfl, ?_, rfl, rfl, rfl, by omega⟩
        unfold ansM BI askM
        rw [if_neg (by decide), if_neg (by decide), if_pos rfl]
        dsimp only
        refine ⟨rfl, by omega, rfl, by omega, by omega, by omega, by omega, by omega, by omega, by omega, by omega, .inr ⟨by omega, rfl, rfl, rfl, rfl, rfl, by omega, by omega⟩⟩
set_option maxRecDepth 100000 in
set_option maxHeartbeats 2000000 in
theorem agentBeats_walk (n ticks : Int) (w : World) (hnw : (Lit.int .i64 n).wf = true) (htw : (Lit.int .i64 ticks).wf = true) :
    Calls Try.prog 3 #[.int .i64 n, .int .i64 ticks] w fun r w' => r = .returned (.bool true) ∧ Below w.heap.size w w' := by
  obtain ⟨b, hbn⟩ : ∃ b, bits BinOp.and IntKind.i64 n 255 = b := ⟨_, rfl⟩
  have hb0 : 0 ≤ b ∧ b ≤ 255 := by rw [← hbn, and_255]; omega
  have HBN := Lib.hid hbn
  clear hbn
  have hwt0 := bounds_i64 htw
  obtain ⟨T, hT⟩ : ∃ T, win ticks 0 200 = T := ⟨_, rfl⟩
  have hT0 : 0 ≤ T := by rw [← hT]; exact win_lo _ _ _ (by omega)
  have hT1 : T ≤ 200 := by rw [← hT]; exact win_hi _ _ _ (by omega)
  have HWN := Lib.hid (fun w => within_any ticks 0 200 w (by omega) (by omega) (by omega) (by omega) (by omega))
  rw [hT] at HWN
  clear hT hwt0 htw hnw
  have D0 := Lib.hid (show Below w.heap.size w (w.alloc (.cells #[.string ⟨#[97]⟩, .string ⟨#[98]⟩] 23)) from (Below.refl _ _).alloc (Nat.le_refl _) _)
  have HK0 := Lib.hid (blk_new w #[.string ⟨#[97]⟩, .string ⟨#[98]⟩] 23)
  go_enter Try.func3, Try.ntmps3
  go_upto_region 2 with (fail)
  obtain ⟨p, hp⟩ : ∃ p, w.heap.size = p := ⟨_, rfl⟩
  rw [hp] at HK0
  try rw [hp]
  clear hp
  generalize (w.alloc (.cells #[.string ⟨#[97]⟩, .string ⟨#[98]⟩] 23)) = w1 at *
  have hk := blk_cell HK0.out
  have hl := blk_lt HK0.out
  go_wp2_with fail
  have E1 := Lib.hid (show Below w1.heap.size w1 (w1.alloc (.cells #[.int .i64 0] 3)) from (Below.refl _ _).alloc (Nat.le_refl _) _)
  refine (agNew (⟨#[97]⟩, ⟨#[98]⟩) [0] (some ⟨w1.heap.size, 0, none⟩) 1 1 _ nm_a nm_b (sat_new w1 [0] #[.int .i64 0] rfl) rfl (by omega) (by omega)).mono ?_
  rintro e w2 ⟨ab, rfl, hab, hq, hb⟩
  have HQ2 := Lib.hid (show AgP w2 ab KAB [0] (⟨0, 0, [], -1, 0, 0, 0, false, false, 0, 0, false, false, 0, false, 0⟩ : Ag) from hq)
  have HD2 := Lib.hid (ext_trans (ext_trans D0.out E1.out) hb)
  have HAB := Lib.hid (show w.heap.size ≤ ab from Nat.le_trans D0.out.size (Nat.le_trans E1.out.size hab))
  clear hk hl hq hb hab D0 E1 HK0
  go_wp2_with fail
  refine (agCache ab w2).mono ?_
  rintro e wx ⟨rfl, rfl⟩
  go_wp2_with fail
  rw [HBN.out]
  try rw [show wrap64 (1 + b) = 1 + b from by unfold wrap64; omega]
  refine (agWant ab KAB [0] _ 1 (1 + b) w2 HQ2.out (.inl rfl) (by omega) (by omega) (by decide)).mono ?_
  rintro e w3 ⟨rfl, hq, hr⟩
  have HQ3 := Lib.hid (show AgP w3 ab KAB [0] (⟨0, 0, [⟨1, 1 + b, 1⟩], -1, 0, 0, 0, false, false, 0, 0, false, false, 0, false, 0⟩ : Ag) from hq)
  have HD3 := Lib.hid (HD2.out.trans (hr.below HAB.out HD2.out.size))
  clear hq hr HQ2 HD2
  go_wp2_with fail
  go_loopw [7, 8, 9] (fun la tg ii wr => ∃ (I : Int) (s : Ag) (last : Int), 1 ≤ I ∧ I ≤ T + 1 ∧ ii = .int .i64 I ∧ la = .int .i64 last ∧ tg = .int .i64 s.tag ∧ AgP wr ab KAB [0] s ∧ BI (1 + b) s I last ∧ Below w.heap.size w wr) (fun la tg ii _ => (T + 1 - intOf ii).toNat)
  case atStart => exact ⟨1, _, 0, by omega, by omega, rfl, rfl, rfl, HQ3.out, by unfold BI; dsimp only; refine ⟨rfl, by omega, rfl, by omega, by omega, by omega, by omega, by omega, by omega, by omega, by omega, .inl ⟨rfl, rfl, rfl⟩⟩, HD3.out⟩
  case round =>
    obtain ⟨wr, rfl⟩ : ∃ y : World, y = wr := ⟨_, rfl⟩
    obtain ⟨I, s, last, hI1, hI2, rfl, rfl, rfl, hq, hbi, hd⟩ := hrel
    have HQ := Lib.hid hq
    have HBI0 := Lib.hid hbi
    have HD := Lib.hid hd
    have hla : 0 ≤ last ∧ last ≤ I := by
      obtain ⟨-, -, -, -, -, -, -, -, -, e10, e11, ⟨rfl, -, rfl⟩ | ⟨-, -, -, -, -, e, -, -⟩⟩ := hbi
      · omega
      · omega
    have hta : 0 ≤ s.tag ∧ s.tag ≤ 1000 := by obtain ⟨-, -, -, e4, e5, -⟩ := hbi; omega
    obtain ⟨tag, htg0⟩ : ∃ tag, s.tag = tag := ⟨_, rfl⟩
    rw [htg0] at hta ⊢
    have HT0 := Lib.hid htg0
    clear hq hbi hd htg0 HQ3 HD3
    go_wp2_with fail
    refine (HWN.out wr).mono ?_
    rintro e wx ⟨rfl, rfl⟩
    by_cases hlt : I ≤ T
    · have hltd : decide (I ≤ T) = true := decide_eq_true hlt
      go_wp2_with fail
      refine (agTick ab KAB [0] s wr HQ.out 1 (I - 1) 1 rfl (by omega) (by decide) (HBI0.out.bd hI1) (by omega) (by omega)).mono ?_
      rintro e w4 ⟨v4, rfl, ho, hq, hr⟩
      have HD4 := Lib.hid (HD.out.trans (hr.below HAB.out HD.out.size))
      have hbeat := beat HBI0.out hI1
      rw [HT0.out] at hbeat
      clear hr HQ HD HBI0 HT0
      rcases hbeat with ⟨s', hrun, hbi, hkn, hwt, hia, htga⟩ | ⟨s', op, st, N', hops, hrun, hwt, hop, htg, h0, hbi, hkn, hwt2, htg2⟩ | ⟨s', q', hrun, hwt, hop, htg, h0, hbi, hkn, hwt2, htg2, hia⟩
      · rw [hrun] at ho hq
        obtain ⟨a4, c4, rfl, -, -, -⟩ := OwnR.form ho
        have HQ4 := Lib.hid hq
        have HBI := Lib.hid hbi
        have HKN := Lib.hid hkn
        have HWT := Lib.hid hwt
        have hix : decide (11 < I - last) = false := decide_eq_false (by omega)
        have hiw : wrap64 (I - last) = I - last := by unfold wrap64; omega
        have HTG := Lib.hid (show (Value.int .i64 tag) = .int .i64 s'.tag from by
          rw [htga])
        clear hq ho hrun hbi hkn hwt
        go_wp2_with fail
        refine wp_loop_rounds 1 ?_
        rw [rounds_succ]
        go_wp2_with fail
        refine (agWaits ab KAB [0] _ w4 HQ4.out).mono ?_
        rw [HWT.out]
        rintro e wx ⟨rfl, rfl⟩
        go_wp2_with fail
        refine (agKnown ab KAB [0] _ w4 HQ4.out).mono ?_
        rw [HKN.out]
        rintro e wx ⟨rfl, rfl⟩
        go_wp2
        go_roundw
        case rel => exact ⟨I + 1, s', last, by omega, by omega, by go_num, rfl, HTG.out, HQ4.out, HBI.out, HD4.out⟩
        case measure => simp [intOf]; omega
      · have HBI := Lib.hid hbi
        have HKN := Lib.hid hkn
        have HWT := Lib.hid hwt2
        have HTG := Lib.hid (congrArg (Value.int .i64) htg2.symm)
        have hii : decide (11 < I - I) = false := decide_eq_false (by omega)
        clear hbi hkn hwt2 htg2
        rw [hrun] at ho hq
        obtain ⟨a4, c4, rfl, -, -, -⟩ := OwnR.form ho
        obtain ⟨g, rfl, -, hgl, hg⟩ := row_one ho
        have HQ4 := Lib.hid hq
        have r0 := hg 0 _ rfl
        have r1 := hg 1 _ rfl
        have r2 := hg 2 _ rfl
        have r3 := hg 3 _ rfl
        have r4 := hg 4 _ rfl
        have r5 := hg 5 _ rfl
        have r6 := hg 6 _ rfl
        have r7 := hg 7 _ rfl
        have r8 := hg 8 _ rfl
        have r9 := hg 9 _ rfl
        have r10 := hg 10 _ rfl
        have r11 := hg 11 _ rfl
        have r12 := hg 12 _ rfl
        have r13 := hg 13 _ rfl
        clear hg hq ho hrun
        go_wp2_with fail
        refine wp_loop_rounds 2 ?_
        rw [rounds_succ]
        have E5 := Lib.hid (show Below w4.heap.size w4 (w4.alloc (.cells #[.int .i64 0, .int .i64 1, .int .i64 op, .int .i64 st, .int .i64 0, .int .i64 (tag + 1), .int .i64 N', .int .i64 0, .string ⟨#[97]⟩, .string ⟨#[98]⟩, .bool false, .int .u32 0, .slice none 0 0, .slice none 0 0] 39)) from (Below.refl _ _).alloc (Nat.le_refl _) _)
        have HK5 := Lib.hid (blk_new w4 #[.int .i64 0, .int .i64 1, .int .i64 op, .int .i64 st, .int .i64 0, .int .i64 (tag + 1), .int .i64 N', .int .i64 0, .string ⟨#[97]⟩, .string ⟨#[98]⟩, .bool false, .int .u32 0, .slice none 0 0, .slice none 0 0] 39)
        go_upto_region 12 with (fail)
        obtain ⟨p5, hp5⟩ : ∃ p, w4.heap.size = p := ⟨_, rfl⟩
        rw [hp5] at HK5
        try rw [hp5]
        have HQ5 := Lib.hid (HQ4.out.ext E5.out)
        have HD5 := Lib.hid (ext_trans HD4.out E5.out)
        clear hp5 hgl r0 r1 r2 r3 r4 r5 r6 r7 r8 r9 r10 r11 r12 r13 HQ4 E5 HD4
        generalize (w4.alloc (.cells #[.int .i64 0, .int .i64 1, .int .i64 op, .int .i64 st, .int .i64 0, .int .i64 (tag + 1), .int .i64 N', .int .i64 0, .string ⟨#[97]⟩, .string ⟨#[98]⟩, .bool false, .int .u32 0, .slice none 0 0, .slice none 0 0] 39)) = w5 at *
        have hk := blk_cell HK5.out
        have hl := blk_lt HK5.out
        have E6 := Lib.hid (show Below w5.heap.size w5 (w5.alloc (.cells #[.int .i64 2, .int .i64 op, .int .i64 0, .int .i64 0, .int .i64 (tag + 1), .int .i64 0, .int .i64 0, .string ⟨#[97]⟩, .string ⟨#[98]⟩, .bool false, .int .u32 0, .slice none 0 0, .slice none 0 0] 37)) from (Below.refl _ _).alloc (Nat.le_refl _) _)
        have HK6 := Lib.hid (blk_new w5 #[.int .i64 2, .int .i64 op, .int .i64 0, .int .i64 0, .int .i64 (tag + 1), .int .i64 0, .int .i64 0, .string ⟨#[97]⟩, .string ⟨#[98]⟩, .bool false, .int .u32 0, .slice none 0 0, .slice none 0 0] 37)
        have hop5 : (op == 5) = false := by simpa using (show ¬ op = 5 by omega)
        go_upto_region 16 with (fail)
        obtain ⟨p6, hp6⟩ : ∃ p, w5.heap.size = p := ⟨_, rfl⟩
        rw [hp6] at HK6
        try rw [hp6]
        have HR6 := Lib.hid (blk_ext E6.out HK5.out)
        have HQ6 := Lib.hid (HQ5.out.ext E6.out)
        have HD6 := Lib.hid (ext_trans HD5.out E6.out)
        have HP6 := Lib.hid (show w.heap.size ≤ p6 from by rw [← hp6]; exact HD5.out.size)
        have hp66 : p5 ≠ p6 := by have := blk_lt HK5.out; omega
        clear hp6 hk hl HQ5 E6 HD5 HK5
        generalize (w5.alloc (.cells #[.int .i64 2, .int .i64 op, .int .i64 0, .int .i64 0, .int .i64 (tag + 1), .int .i64 0, .int .i64 0, .string ⟨#[97]⟩, .string ⟨#[98]⟩, .bool false, .int .u32 0, .slice none 0 0, .slice none 0 0] 37)) = w6 at *
        have hk5 := blk_cell HR6.out
        have hl5 := blk_lt HR6.out
        have hk := blk_cell HK6.out
        have hl := blk_lt HK6.out
        have hf := blk_free HK6.out
        have HQ7 := HQ6
        have HD7 := HD6
        clear HQ6 HD6
        obtain ⟨w7, hw7⟩ : ∃ y : World, y = w6 := ⟨_, rfl⟩
        rw [← hw7] at HQ7 HD7 hk hl hf hk5 hl5 HK6 HR6 ⊢
        clear hw7
        go_wp2_with fail
        refine (agReceive ab KAB [0] s' op (tag + 1) 0 ⟨#[97]⟩ ⟨#[98]⟩ false 0 0 w7 HQ7.out (by rw [h0]; rfl) (OkA.reg (by omega)) hop.symm htg.symm hwt).mono ?_
        rintro e w8 ⟨rfl, hq, hr⟩
        have HQ8 := Lib.hid hq
        have HD8 := Lib.hid (HD7.out.trans (hr.below HAB.out HD7.out.size))
        clear hq hr hk hl
        try clear hf hk5 hl5
        go_wp2_with fail
        rw [rounds_succ]
        go_wp2_with fail
        refine (agWaits ab KAB [0] _ w8 HQ8.out).mono ?_
        rw [HWT.out]
        rintro e wx ⟨rfl, rfl⟩
        go_wp2_with fail
        refine (agKnown ab KAB [0] _ w8 HQ8.out).mono ?_
        rw [HKN.out]
        rintro e wx ⟨rfl, rfl⟩
        go_wp2
        go_roundw
        case rel => exact ⟨I + 1, _, _, by omega, by omega, by go_num, rfl, HTG.out, HQ8.out, HBI.out, HD8.out⟩
        case measure => simp [intOf]; omega
      · have HBI := Lib.hid hbi
        have HKN := Lib.hid hkn
        have HWT := Lib.hid hwt2
        have HTG := Lib.hid (congrArg (Value.int .i64) htg2.symm)
        have hix : decide (11 < I - last) = false := decide_eq_false (by omega)
        clear hbi hkn hwt2 htg2
        rw [hrun] at ho hq
        obtain ⟨a4, c4, rfl, -, -, -⟩ := OwnR.form ho
        obtain ⟨g, rfl, -, hgl, hg⟩ := row_one ho
        have HQ4 := Lib.hid hq
        have r0 := hg 0 _ rfl
        have r1 := hg 1 _ rfl
        have r2 := hg 2 _ rfl
        have r3 := hg 3 _ rfl
        have r4 := hg 4 _ rfl
        have r5 := hg 5 _ rfl
        have r6 := hg 6 _ rfl
        have r7 := hg 7 _ rfl
        have r8 := hg 8 _ rfl
        have r9 := hg 9 _ rfl
        have r10 := hg 10 _ rfl
        have r11 := hg 11 _ rfl
        have r12 := hg 12 _ rfl
        have r13 := hg 13 _ rfl
        clear hg hq ho hrun
        go_wp2_with fail
        refine wp_loop_rounds 2 ?_
        rw [rounds_succ]
        have E5 := Lib.hid (show Below w4.heap.size w4 (w4.alloc (.cells #[.int .i64 0, .int .i64 1, .int .i64 5, .int .i64 0, .int .i64 0, .int .i64 (tag + 1), .int .i64 0, .int .i64 q', .string ⟨#[]⟩, .string ⟨#[]⟩, .bool false, .int .u32 0, .slice none 0 0, .slice none 0 0] 39)) from (Below.refl _ _).alloc (Nat.le_refl _) _)
        have HK5 := Lib.hid (blk_new w4 #[.int .i64 0, .int .i64 1, .int .i64 5, .int .i64 0, .int .i64 0, .int .i64 (tag + 1), .int .i64 0, .int .i64 q', .string ⟨#[]⟩, .string ⟨#[]⟩, .bool false, .int .u32 0, .slice none 0 0, .slice none 0 0] 39)
        go_upto_region 12 with (fail)
        obtain ⟨p5, hp5⟩ : ∃ p, w4.heap.size = p := ⟨_, rfl⟩
        rw [hp5] at HK5
        try rw [hp5]
        have HQ5 := Lib.hid (HQ4.out.ext E5.out)
        have HD5 := Lib.hid (ext_trans HD4.out E5.out)
        clear hp5 hgl r0 r1 r2 r3 r4 r5 r6 r7 r8 r9 r10 r11 r12 r13 HQ4 E5 HD4
        generalize (w4.alloc (.cells #[.int .i64 0, .int .i64 1, .int .i64 5, .int .i64 0, .int .i64 0, .int .i64 (tag + 1), .int .i64 0, .int .i64 q', .string ⟨#[]⟩, .string ⟨#[]⟩, .bool false, .int .u32 0, .slice none 0 0, .slice none 0 0] 39)) = w5 at *
        have hk := blk_cell HK5.out
        have hl := blk_lt HK5.out
        have E6 := Lib.hid (show Below w5.heap.size w5 (w5.alloc (.cells #[.int .i64 2, .int .i64 5, .int .i64 0, .int .i64 0, .int .i64 (tag + 1), .int .i64 0, .int .i64 0, .string ⟨#[]⟩, .string ⟨#[]⟩, .bool false, .int .u32 0, .slice none 0 0, .slice none 0 0] 37)) from (Below.refl _ _).alloc (Nat.le_refl _) _)
        have HK6 := Lib.hid (blk_new w5 #[.int .i64 2, .int .i64 5, .int .i64 0, .int .i64 0, .int .i64 (tag + 1), .int .i64 0, .int .i64 0, .string ⟨#[]⟩, .string ⟨#[]⟩, .bool false, .int .u32 0, .slice none 0 0, .slice none 0 0] 37)
        go_upto_region 16 with (fail)
        obtain ⟨p6, hp6⟩ : ∃ p, w5.heap.size = p := ⟨_, rfl⟩
        rw [hp6] at HK6
        try rw [hp6]
        have HR6 := Lib.hid (blk_ext E6.out HK5.out)
        have HQ6 := Lib.hid (HQ5.out.ext E6.out)
        have HD6 := Lib.hid (ext_trans HD5.out E6.out)
        have HP6 := Lib.hid (show w.heap.size ≤ p6 from by rw [← hp6]; exact HD5.out.size)
        have hp66 : p5 ≠ p6 := by have := blk_lt HK5.out; omega
        clear hp6 hk hl HQ5 E6 HD5 HK5
        generalize (w5.alloc (.cells #[.int .i64 2, .int .i64 5, .int .i64 0, .int .i64 0, .int .i64 (tag + 1), .int .i64 0, .int .i64 0, .string ⟨#[]⟩, .string ⟨#[]⟩, .bool false, .int .u32 0, .slice none 0 0, .slice none 0 0] 37)) = w6 at *
        have hk5 := blk_cell HR6.out
        have hl5 := blk_lt HR6.out
        have hk := blk_cell HK6.out
        have hl := blk_lt HK6.out
        have hf := blk_free HK6.out
        go_upto_region 19 with (fail)
        have HK7 := Lib.hid (show ((w6.setCell ⟨p6, 9, none⟩ (.bool true)).setCell ⟨p6, 10, none⟩ (.int .u32 17)).heap[p6]? = some (.cells #[.int .i64 2, .int .i64 5, .int .i64 0, .int .i64 0, .int .i64 (tag + 1), .int .i64 0, .int .i64 0, .string ⟨#[]⟩, .string ⟨#[]⟩, .bool true, .int .u32 17, .slice none 0 0, .slice none 0 0] 37 (0, 0)) from blk_set (n := 10) (blk_set (n := 9) (vs' := #[.int .i64 2, .int .i64 5, .int .i64 0, .int .i64 0, .int .i64 (tag + 1), .int .i64 0, .int .i64 0, .string ⟨#[]⟩, .string ⟨#[]⟩, .bool true, .int .u32 0, .slice none 0 0, .slice none 0 0]) HK6.out (by first | rfl | simp)) (by first | rfl | simp))
        have hr : Rim p6 w6 ((w6.setCell ⟨p6, 9, none⟩ (.bool true)).setCell ⟨p6, 10, none⟩ (.int .u32 17)) := rim_set (rim_set (Rim.of (Below.refl _ _)))
        have HQ7 := Lib.hid (HQ6.out.rimO hr HK6.out (by decide) (by decide) (by decide))
        have HD7 := Lib.hid (HD6.out.trans (hr.below HP6.out HD6.out.size))
        clear hr hk hl hf hk5 hl5 HK6 HQ6 HD6 HR6
        generalize ((w6.setCell ⟨p6, 9, none⟩ (.bool true)).setCell ⟨p6, 10, none⟩ (.int .u32 17)) = w7 at *
        have hk := blk_cell HK7.out
        have hl := blk_lt HK7.out
        go_wp2_with fail
        refine (agReceive ab KAB [0] s' 5 (tag + 1) 0 ⟨#[]⟩ ⟨#[]⟩ true 17 0 w7 HQ7.out (by rw [h0]; rfl) OkA.fed hop.symm htg.symm hwt).mono ?_
        rintro e w8 ⟨rfl, hq, hr⟩
        have HQ8 := Lib.hid hq
        have HD8 := Lib.hid (HD7.out.trans (hr.below HAB.out HD7.out.size))
        clear hq hr hk hl
        try clear hf hk5 hl5
        go_wp2_with fail
        rw [rounds_succ]
        go_wp2_with fail
        refine (agWaits ab KAB [0] _ w8 HQ8.out).mono ?_
        rw [HWT.out]
        rintro e wx ⟨rfl, rfl⟩
        go_wp2_with fail
        refine (agKnown ab KAB [0] _ w8 HQ8.out).mono ?_
        rw [HKN.out]
        rintro e wx ⟨rfl, rfl⟩
        go_wp2
        go_roundw
        case rel => exact ⟨I + 1, _, _, by omega, by omega, by go_num, rfl, HTG.out, HQ8.out, HBI.out, HD8.out⟩
        case measure => simp [intOf]; omega
    · have hltd : decide (I ≤ T) = false := decide_eq_false hlt
      go_wp2_with fail
      refine (law22known wr).mono ?_
      rintro e w4 ⟨rfl, hb⟩
      have HD4 := Lib.hid (ext_trans HD.out hb)
      clear hb
      go_wp2
      go_ret
      exact ⟨rfl, HD4.out⟩

end Go.Proofs.Ytibgphjadiidaaa
