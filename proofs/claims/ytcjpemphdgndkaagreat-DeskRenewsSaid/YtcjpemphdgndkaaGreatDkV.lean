/- DeskRenews: who renews within the lease is put out by no sweep, and is found by the next renewal. -/
import Derived.Test.YtcjpemphdgndkaaGreatDkU
import Derived.Test.YtcjpemphdgndkaaGreatBa
namespace Go.Proofs.YtcjpemphdgndkaaGreat
open Go.RowKit
set_option linter.unusedVariables false
set_option linter.unusedSimpArgs false

theorem late_in (N T U : Int) (h0 : 0 ≤ T) (h1 : T ≤ U) (h2 : U ≤ T + N) (h3 : 0 ≤ N ∧ N ≤ 100000) (h4 : U ≤ 100000) : late (⟨⟨⟨#[97]⟩, ⟨#[98]⟩, 1, 0, N, 0, 0, 1, false⟩, T⟩ : En) U = 0 ∧ (⟨⟨⟨#[97]⟩, ⟨#[98]⟩, 1, 0, N, 0, 0, 1, false⟩, T⟩ : En).c.g = false := by
  refine ⟨?_, rfl⟩
  simp only [late, Bool.false_eq_true, if_false]
  have hh : ∀ n : Int, 0 ≤ n → n ≤ 1000000 → hd n = n := fun n a b => by unfold hd; rw [if_neg (by omega), if_neg (by omega)]
  rw [hh U (by omega) (by omega), hh T (by omega) (by omega), hh N (by omega) (by omega)]
  split <;> omega
theorem ren_in (N T U : Int) (h1 : T ≤ U) : renE (⟨⟨⟨#[97]⟩, ⟨#[98]⟩, 1, 0, N, 0, 0, 1, false⟩, T⟩ : En) U = (⟨⟨⟨#[97]⟩, ⟨#[98]⟩, 1, 0, N, 0, 0, 1, false⟩, U⟩ : En) := by
  have e : mx T U = U := by simp [mx]; omega
  simp [renE, e]
theorem gT_in (g l tt T : Int) (h0 : 0 ≤ g) (h1 : g ≤ T) (h2 : 0 ≤ tt) (h3 : tt ≤ 1048576) : 0 ≤ (gT g l tt T).1 ∧ (gT g l tt T).1 ≤ T ∧ 0 ≤ (gT g l tt T).2.2 ∧ (gT g l tt T).2.2 ≤ 1048576 := by
  unfold gT
  split
  · exact ⟨h0, h1, h2, h3⟩
  · refine ⟨?_, ?_, ?_, ?_⟩ <;> simp only [] <;> omega
set_option maxRecDepth 100000 in
set_option maxHeartbeats 8000000 in
theorem deskRenews_walk (lz : Int) (ga : Option Addr) (glen gcap : Nat) (gz : List Int) (lt : Int) (w : World) (hlz : (Lit.int .i64 lz).wf = true) (hr : IsRow .i64 w ga glen gcap gz) (hr8 : glen * 8 ≤ 140737488351232) (hlt9 : (Lit.int .i64 lt).wf = true) :
    Calls Tryz.prog 5 #[.int .i64 lz, .slice ga glen gcap, .int .i64 lt] w fun r w' => r = .returned (.bool true) ∧ Below w.heap.size w w' := by
  obtain ⟨n0, hn0⟩ : ∃ n0, bits BinOp.and IntKind.i64 lz 63 = n0 := ⟨_, rfl⟩
  have hN1 := and_63 lz
  rw [hn0] at hN1
  obtain ⟨N, hN⟩ : ∃ N, 1 + n0 = N := ⟨_, rfl⟩
  have hNb : 1 ≤ N ∧ N ≤ 64 := by omega
  have HN0 := Lib.hid hn0
  have HN := Lib.hid hN
  clear hN1
  obtain ⟨hlc, hcm, -, -, hcell⟩ := hr
  unfold maxLen at hcm
  have HCELL := Lib.hid hcell
  clear hcell hn0 hN
  go_enter Tryz.func5, Tryz.ntmps5
  go_wp2_with fail
  refine (deskNew 0 0 w (by omega) (by omega) (by omega) (by omega)).mono ?_
  rintro r w1 ⟨db, rfl, hdb, hp, hb⟩

  have HP1 := Lib.hid (hp)
  have HD1 := Lib.hid (hb)
  clear hp hb
  have hE : Below w1.heap.size w1 (w1.alloc (.cells #[.string ⟨#[97]⟩, .string ⟨#[98]⟩] 28)) := (Below.refl _ _).alloc (Nat.le_refl _) _
  have hX := Lib.hid (blk_new w1 #[.string ⟨#[97]⟩, .string ⟨#[98]⟩] 28)
  have HE := Lib.hid hE
  clear hE
  go_upto_region 5 with (fail)
  obtain ⟨kb, hp⟩ : ∃ p, w1.heap.size = p := ⟨_, rfl⟩
  rw [hp] at hX
  try rw [hp]
  have hkd : kb ≠ db := by have := HD1.out.size; have := HP1.out.lt; omega
  clear hp
  have hE := HE.out
  clear HE
  have HP2 := Lib.hid (HP1.out.ext hE)
  have HD2 := Lib.hid (ext_trans HD1.out hE)
  clear HP1 HD1 hE
  have HK2 := Lib.hid (hX.out)
  clear hX
  generalize (w1.alloc (.cells #[.string ⟨#[97]⟩, .string ⟨#[98]⟩] 28)) = w2 at *
  go_upto_region 6 with (fail)
  try rw [HN0.out]
  try rw [HN.out]
  have hwN : wrap64 N = N := by unfold wrap64; omega
  try rw [hwN]
  clear hwN
  have hkc := blk_cell HK2.out
  have hkl := blk_lt HK2.out
  go_wp2_with fail
  refine (handleRegister db 0 0 0 0 [] 0 0 0 [] 1 0 N 0 ((⟨#[97]⟩, ⟨#[98]⟩) : Ky) 0 w2 HP2.out asc_nil (by simp) (by simp) (hN_nil _ _ _ _ (by omega) (by omega)) (0, 0, 1) rfl (.inr (by simp)) (by omega) (by omega) (.inl rfl) nm_a nm_b (by omega) (by omega) (by omega) (by omega) (by omega)).mono ?_
  rintro r w3 ⟨a, c, rfl, ⟨rfl, b1, rfl, hx, hd⟩, hr⟩
  have hd : DkP w3 db 0 0 0 1 [(⟨⟨⟨#[97]⟩, ⟨#[98]⟩, 1, 0, N, 0, 0, 1, false⟩, 0⟩ : En)] 0 0 0 [((⟨#[97]⟩, ⟨#[98]⟩) : Ky)] := by rw [put_nil] at hd; exact hd
  have HP3 := Lib.hid (hd)
  have HD3 := Lib.hid (HD2.out.trans (hr.below (by omega) HD2.out.size))
  have HK3 := Lib.hid ((hr.block kb (by omega) (blk_lt HK2.out)).trans HK2.out)
  clear HP2 HD2 HK2 hkc hkl hd hx
  clear hr
  go_upto_region 8 with (fail)
  go_wp2_with fail
  go_loopw [10, 11] (fun nw i wr => ∃ (I : Nat) (T g l tt : Int), i = .int .i64 (I : Int) ∧ nw = .int .i64 T ∧ (I ≤ 40 ∧ 0 ≤ T ∧ T ≤ 64 * I) ∧ (0 ≤ g ∧ g ≤ T) ∧ (0 ≤ tt ∧ tt ≤ 1048576) ∧ DkP wr db 0 0 0 1 [(⟨⟨⟨#[97]⟩, ⟨#[98]⟩, 1, 0, N, 0, 0, 1, false⟩, T⟩ : En)] g l tt [((⟨#[97]⟩, ⟨#[98]⟩) : Ky)] ∧ wr.heap[kb]? = some (.cells #[.string ⟨#[97]⟩, .string ⟨#[98]⟩] 28 (0, 0)) ∧ Below w.heap.size w wr) (fun _ i _ => 40 - (intOf i).toNat)
  case atStart => exact ⟨0, 0, 0, 0, 0, rfl, rfl, ⟨by omega, by omega, by omega⟩, ⟨by omega, by omega⟩, ⟨by omega, by omega⟩, HP3.out, HK3.out, HD3.out⟩
  case round =>
    obtain ⟨v, rfl⟩ : ∃ y : World, y = wr := ⟨_, rfl⟩
    obtain ⟨I, T, g, l, tt, rfl, rfl, hI, hg, ht, hp, hk, hb⟩ := hrel
    have HP0 := Lib.hid hp
    have HK0 := Lib.hid hk
    have HD0 := Lib.hid hb
    clear hp hk hb
    by_cases hlt : I < glen
    · by_cases h40 : I < 40
      · have h40d : decide ((I : Int) < 40) = true := by simp; omega
        obtain ⟨b, o, rfl, hcc⟩ := HCELL.out.resolve_left (by omega)
        have hnum := ext_cell HD0.out (hcc I hlt)
        clear hcc
        generalize gz.getD I 0 = x at hnum
        have hx1 := and_63 x
        obtain ⟨q, hq⟩ : ∃ q, bits BinOp.and IntKind.i64 x 63 = q := ⟨_, rfl⟩
        rw [hq] at hx1
        have hq0 : 0 ≤ q ∧ q < 64 := by omega
        have HQ := Lib.hid hq
        clear hx1 hq
        go_upto_region 12 with (fail)
        try rw [HQ.out]
        have hwN : wrap64 (N + 1) = N + 1 := by unfold wrap64; omega
        try rw [hwN]
        clear hwN
        first | rw [Int.tmod_eq_emod_of_nonneg hq0.1] | skip
        obtain ⟨G, hG⟩ : ∃ G, q % (N + 1) = G := ⟨_, rfl⟩
        have hG0 : 0 ≤ G ∧ G ≤ N := by rw [← hG]; have h1 := Int.emod_nonneg q (show N + 1 ≠ 0 by omega); have h2 := Int.emod_lt_of_pos q (show 0 < N + 1 by omega); omega
        rw [hG]
        clear hG hnum
        go_upto_region 13 with (fail)
        have hwU : wrap64 (T + G) = T + G := by unfold wrap64; omega
        try rw [hwU]
        clear hwU
        obtain ⟨U, hU⟩ : ∃ U, T + G = U := ⟨_, rfl⟩
        try rw [hU]
        have hU0 : 0 ≤ U ∧ U ≤ 64 * (I + 1) ∧ T ≤ U ∧ U ≤ T + N := by omega
        clear hU
        go_wp2_with fail
        refine (deskGuard db 0 0 0 1 [(⟨⟨⟨#[97]⟩, ⟨#[98]⟩, 1, 0, N, 0, 0, 1, false⟩, T⟩ : En)] g l tt [((⟨#[97]⟩, ⟨#[98]⟩) : Ky)] v HP0.out).mono ?_
        rintro r v1 ⟨rfl, hb⟩
        have HP1 := Lib.hid (HP0.out.ext hb)
        have HK1 := Lib.hid (blk_ext hb HK0.out)
        have HD1 := Lib.hid (ext_trans HD0.out hb)
        clear HP0 HK0 HD0 hb
        go_wp2_with fail
        refine (deskGuard db 0 0 0 1 [(⟨⟨⟨#[97]⟩, ⟨#[98]⟩, 1, 0, N, 0, 0, 1, false⟩, T⟩ : En)] g l tt [((⟨#[97]⟩, ⟨#[98]⟩) : Ky)] v1 HP1.out).mono ?_
        rintro r v2 ⟨rfl, hb⟩
        have HP2 := Lib.hid (HP1.out.ext hb)
        have HK2 := Lib.hid (blk_ext hb HK1.out)
        have HD2 := Lib.hid (ext_trans HD1.out hb)
        clear HP1 HK1 HD1 hb
        go_wp2_with fail
        refine (deskTick db 0 0 0 1 [(⟨⟨⟨#[97]⟩, ⟨#[98]⟩, 1, 0, N, 0, 0, 1, false⟩, T⟩ : En)] g l tt [((⟨#[97]⟩, ⟨#[98]⟩) : Ky)] U v2 HP2.out (WalkArith.wf_i64 (by omega)) (WalkArith.wf_i64 (by omega))).mono ?_
        rintro r v3 ⟨rfl, hd, hr⟩
        have HP3 := Lib.hid (hd)
        have HK3 := Lib.hid ((hr.block kb (by omega) (blk_lt HK2.out)).trans HK2.out)
        have HD3 := Lib.hid (HD2.out.trans (hr.below (by omega) HD2.out.size))
        clear HP2 HK2 HD2 hd
        clear hr
        have hgt := gT_in g l tt U hg.1 (by omega) ht.1 ht.2
        obtain ⟨g2, hg2⟩ : ∃ x, (gT g l tt U).1 = x := ⟨_, rfl⟩
        obtain ⟨l2, hl2⟩ : ∃ x, (gT g l tt U).2.1 = x := ⟨_, rfl⟩
        obtain ⟨t2, ht2⟩ : ∃ x, (gT g l tt U).2.2 = x := ⟨_, rfl⟩
        rw [hg2, ht2] at hgt
        have HPX := Lib.hid (show DkP v3 db 0 0 0 1 [(⟨⟨⟨#[97]⟩, ⟨#[98]⟩, 1, 0, N, 0, 0, 1, false⟩, T⟩ : En)] g2 l2 t2 [((⟨#[97]⟩, ⟨#[98]⟩) : Ky)] from by have := HP3.out; rw [hg2, hl2, ht2] at this; exact this)
        clear hg2 hl2 ht2 HP3
        have HP3 := HPX
        clear HPX
        go_wp2_with fail
        refine (deskSweepNone db 0 0 0 1 [(⟨⟨⟨#[97]⟩, ⟨#[98]⟩, 1, 0, N, 0, 0, 1, false⟩, T⟩ : En)] g2 l2 t2 [((⟨#[97]⟩, ⟨#[98]⟩) : Ky)] U lt v3 HP3.out (by simp) (by omega) (by omega) (fun e he => by obtain rfl := List.mem_singleton.1 he; exact late_in N T U (by omega) (by omega) (by omega) (by omega) (by omega))).mono ?_
        rintro r v4 ⟨rfl, hb⟩
        have HP4 := Lib.hid (HP3.out.ext hb)
        have HK4 := Lib.hid (blk_ext hb HK3.out)
        have HD4 := Lib.hid (ext_trans HD3.out hb)
        clear HP3 HK3 HD3 hb
        have hkc := blk_cell HK4.out
        have hkl := blk_lt HK4.out
        go_wp2_with fail
        refine (handleRenew db 0 0 0 1 [(⟨⟨⟨#[97]⟩, ⟨#[98]⟩, 1, 0, N, 0, 0, 1, false⟩, T⟩ : En)] g2 l2 t2 [((⟨#[97]⟩, ⟨#[98]⟩) : Ky)] 0 0 0 0 ((⟨#[97]⟩, ⟨#[98]⟩) : Ky) U v4 HP4.out (asc_one _) (by simp) (by omega) (by omega) nm_a nm_b (by omega) (by omega) (by omega) (by omega) (by omega)).mono ?_
        rintro r v5 ⟨a3, c3, rfl, ⟨rfl, hq⟩, hr⟩
        obtain ⟨rfl, hd⟩ : c3 = 0 ∧ DkP v5 db 0 0 0 1 [(⟨⟨⟨#[97]⟩, ⟨#[98]⟩, 1, 0, N, 0, 0, 1, false⟩, U⟩ : En)] g2 l2 (if t2 + 1 ≤ 1048576 then t2 + 1 else 1048576) [((⟨#[97]⟩, ⟨#[98]⟩) : Ky)] := by
          rcases hq with ⟨-, -, h1, h2⟩ | ⟨h1, -⟩
          · rw [ge_one _ ((⟨#[97]⟩, ⟨#[98]⟩) : Ky) rfl, ren_in N T U (by omega), put_one (⟨⟨⟨#[97]⟩, ⟨#[98]⟩, 1, 0, N, 0, 0, 1, false⟩, T⟩ : En) (⟨⟨⟨#[97]⟩, ⟨#[98]⟩, 1, 0, N, 0, 0, 1, false⟩, U⟩ : En) rfl] at h2
            exact ⟨h1, h2⟩
          · rw [isIn_one _ ((⟨#[97]⟩, ⟨#[98]⟩) : Ky) rfl, ge_one _ ((⟨#[97]⟩, ⟨#[98]⟩) : Ky) rfl] at h1
            rcases h1 with h1 | h1 <;> cases h1
        clear hq
        have HP5 := Lib.hid (hd)
        have HK5 := Lib.hid ((hr.block kb (by omega) (blk_lt HK4.out)).trans HK4.out)
        have HD5 := Lib.hid (HD4.out.trans (hr.below (by omega) HD4.out.size))
        clear HP4 HK4 HD4 hkc hkl hd
        clear hr
        obtain ⟨t3, ht3⟩ : ∃ x, (if t2 + 1 ≤ 1048576 then t2 + 1 else 1048576) = x := ⟨_, rfl⟩
        have ht30 : 0 ≤ t3 ∧ t3 ≤ 1048576 := by rw [← ht3]; split <;> omega
        have HPX := Lib.hid (show DkP v5 db 0 0 0 1 [(⟨⟨⟨#[97]⟩, ⟨#[98]⟩, 1, 0, N, 0, 0, 1, false⟩, U⟩ : En)] g2 l2 t3 [((⟨#[97]⟩, ⟨#[98]⟩) : Ky)] from by have := HP5.out; rw [ht3] at this; exact this)
        clear ht3 HP5
        have HP5 := HPX
        clear HPX
        have hE : Below v5.heap.size v5 (v5.alloc (.cells #[.int .i64 2, .int .i64 2, .int .i64 0, .int .i64 0, .int .i64 0, .int .i64 0, .int .i64 0, .string ⟨#[97]⟩, .string ⟨#[98]⟩, .bool false, .int .u32 0, .slice none 0 0, .slice none 0 0] 33)) := (Below.refl _ _).alloc (Nat.le_refl _) _
        have hX := Lib.hid (blk_new v5 #[.int .i64 2, .int .i64 2, .int .i64 0, .int .i64 0, .int .i64 0, .int .i64 0, .int .i64 0, .string ⟨#[97]⟩, .string ⟨#[98]⟩, .bool false, .int .u32 0, .slice none 0 0, .slice none 0 0] 33)
        have HE := Lib.hid hE
        clear hE
        go_upto_region 19 with (fail)
        obtain ⟨m1, hp⟩ : ∃ p, v5.heap.size = p := ⟨_, rfl⟩
        rw [hp] at hX
        try rw [hp]
        clear hp
        have hE := HE.out
        clear HE
        have HP6 := Lib.hid (HP5.out.ext hE)
        have HK6 := Lib.hid (blk_ext hE HK5.out)
        have HD6 := Lib.hid (ext_trans HD5.out hE)
        clear HP5 HK5 HD5 hE
        have HM16 := Lib.hid (hX.out)
        clear hX
        generalize (v5.alloc (.cells #[.int .i64 2, .int .i64 2, .int .i64 0, .int .i64 0, .int .i64 0, .int .i64 0, .int .i64 0, .string ⟨#[97]⟩, .string ⟨#[98]⟩, .bool false, .int .u32 0, .slice none 0 0, .slice none 0 0] 33)) = v6 at *
        have hkc := blk_cell HM16.out
        have hkl := blk_lt HM16.out
        go_wp2
        go_roundw
        case rel => exact ⟨I + 1, U, g2, l2, t3, by go_num, by go_num, ⟨by omega, by omega, by omega⟩, ⟨by omega, by omega⟩, ht30, HP6.out, HK6.out, HD6.out⟩
        case measure => simp [intOf]; omega
      · have h40d : decide ((I : Int) < 40) = false := by simp; omega
        go_wp2_with fail
        refine (law16known v).mono ?_
        rintro r v1 ⟨rfl, hb⟩
        go_wp2
        go_ret
        exact ⟨rfl, ext_trans HD0.out hb⟩
    · have hld : decide ((I : Int) < (glen : Int)) = false := by simp; omega
      go_wp2_with fail
      refine (law16known v).mono ?_
      rintro r v1 ⟨rfl, hb⟩
      go_wp2
      go_ret
      exact ⟨rfl, ext_trans HD0.out hb⟩


end Go.Proofs.YtcjpemphdgndkaaGreat
