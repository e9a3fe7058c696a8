/- Layer 2's laws, walked: known, PackTells. -/
import Derived.Test.YtcafmjcjhncpjaaPackL
import Derived.Test.YtcafmjcjhncpjaaInts
namespace Go.Proofs.Ytcafmjcjhncpjaa
open Go.RowKit
set_option linter.unusedVariables false

theorem info_int : (Try.prog.info? 3).map (fun i => (i.zero, i.size, i.bytes)) = some (some (.int .i64 0), 1, 8) := by kernel_rfl
theorem bat_lit (w : World) (xs : List Int) : BAt (w.alloc (.cells (bc xs).toArray 5)) (some ⟨w.heap.size, 0, none⟩) xs := by
  refine .inr ⟨_, _, rfl, fun i n hi => ?_⟩
  rw [blk_cell (blk_new w (bc xs).toArray 5)]
  simp [bc, hi]
theorem e1 : tInt ([1, 2, 3], false) = (0, ([1, 2, 3], true)) := by decide +kernel
theorem e2 : tByte ([1, 2, 3], true) = (0, ([1, 2, 3], true)) := by decide +kernel
theorem e3 : strOfNums ([] ++ txt ⟨#[97, 98]⟩) = ⟨#[2, 97, 98]⟩ := by decide +kernel

set_option maxRecDepth 100000 in
set_option maxHeartbeats 2000000 in
theorem law2known (w : World) : Calls Try.prog 13 #[] w fun e w' => e = .returned (.bool true) ∧ Below w.heap.size w w' := by
  have A0 : BAt (w.alloc (.cells #[.int .u8 1, .int .u8 2, .int .u8 3] 5)) (some ⟨w.heap.size, 0, none⟩) [1, 2, 3] := bat_lit w [1, 2, 3]
  have D0 : Below w.heap.size w (w.alloc (.cells #[.int .u8 1, .int .u8 2, .int .u8 3] 5)) := (Below.refl _ _).alloc (Nat.le_refl _) _
  go_enter Try.func13, Try.ntmps13
  go_wp2_with fail
  refine (packNew (some ⟨w.heap.size, 0, none⟩) 3 3 [1, 2, 3] _ A0 rfl (by omega) (by intro n hn; simp at hn; omega)).mono ?_
  rintro e w1 ⟨rb, rfl, hrb, hP, hb⟩
  have D1 := ext_trans D0 hb
  have P1 := Lib.hid hP
  have hrb1 : w.heap.size ≤ rb := by have := D0.size; omega
  clear hP hb A0 D0 hrb
  go_wp2_with fail
  refine (packRInt rb _ _ P1.out).mono ?_
  rintro e w2 ⟨rfl, hP, hK⟩
  rw [e1] at hP
  simp only [e1]
  have D2 := D1.trans (hK.below hrb1)
  have P2 := Lib.hid hP
  clear hP hK P1 D1
  go_wp2_with fail
  refine (packText none 0 0 ⟨#[97, 98]⟩ [] _ (.inl rfl) rfl (by omega) (by decide)).mono ?_
  rintro e w3 ⟨v3, rfl, ho, hb⟩
  have D3 := ext_trans D2 hb
  have P3 := Lib.hid (P2.out.ext hb)
  obtain ⟨a3, c3, rfl, -, -, -, hr, -, -⟩ := own_read ho
  have hcv := run_text (P := Try.prog) w3 23 5 Try.underlying23 Try.underlying5 9 Try.underlying9 a3 _ c3 _ rfl hr
  rw [e3] at hcv
  obtain ⟨n3, hn3⟩ : ∃ n, ([] ++ txt ⟨#[97, 98]⟩ : List Int).length = n := ⟨_, rfl⟩
  rw [hn3] at hcv ⊢
  clear ho hr hb hn3 P2 D2
  go_wp2_with fail
  refine (packRBad rb _ _ P3.out).mono ?_
  rintro e w4 ⟨rfl, rfl⟩
  go_wp2_with fail
  refine (packRDone rb _ _ P3.out).mono ?_
  rintro e w4 ⟨rfl, rfl⟩
  rw [show dn' ([1, 2, 3], true) = false from rfl]
  go_wp2_with fail
  refine (packRByte rb _ _ P3.out).mono ?_
  rintro e w4 ⟨rfl, hP, hK⟩
  rw [e2]
  have D4 := D3.trans (hK.below hrb1)
  clear hP hK hcv D3 P3
  go_wp2_with fail
  refine (packNew none 0 0 [] _ (.inl rfl) rfl (by omega) Wb.nil).mono ?_
  rintro e w5 ⟨rb5, rfl, hrb5, hP, hb⟩
  have D5 := ext_trans D4 hb
  have P5 := Lib.hid hP
  clear hP hb
  go_wp2_with fail
  refine (packRDone rb5 _ _ P5.out).mono ?_
  rintro e w6 ⟨rfl, rfl⟩
  rw [show dn' ([], false) = true from rfl]
  go_wp2
  go_ret
  exact ⟨rfl, D5⟩

set_option maxRecDepth 100000 in
set_option maxHeartbeats 2000000 in
theorem packTells_walk (a : Option Addr) (n cap : Nat) (xs : List Int) (z k : Int) (s : ByteArray) (ka : Option Addr) (kl kc : Nat) (kz : List Int) (w : World) (h : IsRow .u8 w a n cap xs) (hr : n * 1 ≤ 140737488351232) (hz : (Lit.int .i64 z).wf = true) (hkk : (Lit.int .i64 k).wf = true) (hsz : s.size ≤ maxLen) (hk : IsRow .i64 w ka kl kc kz) (hkr : kl * 8 ≤ 140737488351232) :
    Calls Try.prog 4 #[.slice a n cap, .int .i64 z, .int .i64 k, .string s, .slice ka kl kc] w fun e w' => e = .returned (.bool true) ∧ Below w.heap.size w w' := by
  obtain ⟨hA, hl, hnc, hcm, hw⟩ := bat_row h
  have HK := Lib.hid hk
  have HA := Lib.hid hA
  have HL := Lib.hid hl
  have HW := Lib.hid hw
  clear h hA hl hw hk
  obtain ⟨i0, hi, hz0, hz1, hz2⟩ := info_parts info_u8
  obtain ⟨j0, hj, hjz, hj1, hj2⟩ := info_parts info_int
  have hm : s.size ≤ 2 ^ 63 - 1 := hsz
  by_cases hg : 300 < s.size
  · obtain ⟨q, hq, hqz⟩ : ∃ q, s.extract 0 300 = q ∧ q.size ≤ maxLen := ⟨_, rfl, by simp; unfold maxLen at *; omega⟩
    have HQ := Lib.hid hqz
    clear hqz
    go_enter Try.func4, Try.ntmps4
    go_wp2_with fail
    refine (law2puts a n cap z k q xs _ HA.out HL.out (by omega) HQ.out).mono ?_
    rintro e w1 ⟨rfl, B1⟩
    go_wp2_with fail
    refine (law2play a n cap xs ka kl kc kz _ (HA.out.ext B1) HL.out (by omega) HW.out (HK.out.ext B1)).mono ?_
    rintro e w2 ⟨rfl, hb⟩
    have B2 := ext_trans B1 hb
    clear hb
    go_wp2_with fail
    refine (refInt none 0 0 z [] _ (.inl rfl) rfl (by omega)).mono ?_
    rintro e w3 ⟨v3, rfl, ho, hb⟩
    have B3 := ext_trans B2 hb
    obtain ⟨a3, c3, rfl, -, -, -, hr3, -, -⟩ := own_read ho
    obtain ⟨y3, hy3⟩ : ∃ y, y = [] ++ be z := ⟨_, rfl⟩
    have W3 : Wb y3 := by rw [hy3]; exact Wb.nil.app (be_wb z)
    have L3 : y3.length = 8 := by rw [hy3]; rfl
    rw [← hy3] at hr3 ⊢
    rw [L3]
    have R3 := Lib.hid hr3
    have HL3 := Lib.hid L3
    clear ho hb hr3 hy3 L3
    go_wp2_with fail
    refine (refText a3 8 c3 q y3 _ R3.out HL3.out (by omega) HQ.out).mono ?_
    rintro e w4 ⟨v4, rfl, ho, hb⟩
    have B4 := ext_trans B3 hb
    obtain ⟨y4, hy4⟩ : ∃ y, y = y3 ++ txt q := ⟨_, rfl⟩
    have W4 : Wb y4 := by rw [hy4]; exact W3.app (txt_wb q)
    have L4 : y4.length ≤ 264 := by rw [hy4, List.length_append, txt_len, cut255_len]; have := HL3.out; omega
    rw [← hy4] at ho
    have O4 := Lib.hid ho
    have Z4 := hb.size
    have A4 := HA.out.ext B4
    clear ho hb hy4
    go_wp2_with (at_builtin; refine wpList_append_bytes_w _ (by rfl) _ _ 23 rfl (w3.heap.size) 5 i0 Try.underlying23 hi hz0 hz1 hz2 _ (y4.length) (y4) rfl (O4.out) (a) (n) (cap) (xs) rfl (A4) (HL.out) ?c3 ?c4 ?c5 ?_)
    case c3 => unfold maxLen; omega
    case c4 => omega
    case c5 => exact Z4
    intro v5 w5 ho hgrow
    have B5 := B4.grown hgrow B4.size (fun q hq => by have := own_ge O4.out hq; have := B3.size; omega)
    obtain ⟨a5, c5, rfl, -, -, -, hr5, -, -⟩ := own_read ho
    have R5 := Lib.hid hr5
    have L5 : (y4 ++ xs).length = y4.length + n := by rw [List.length_append, HL.out]
    have HL5 := Lib.hid L5
    have HW5 := Lib.hid (W4.app HW.out)
    have O6 : (w5.alloc (.cells #[.int .i64 0, .int .i64 2] 3)).ownsRow w5.heap.size 3 1 (.slice (some ⟨w5.heap.size, 0, none⟩) 2 2) 2 [.int .i64 0, .int .i64 2] :=
      World.ownsRow_lit w5 #[.int .i64 0, .int .i64 2] 2 (Nat.le_refl _) (by unfold maxLen; omega) rfl
    have B6 : Below w5.heap.size w5 (w5.alloc (.cells #[.int .i64 0, .int .i64 2] 3)) := (Below.refl _ _).alloc (Nat.le_refl _) _
    have K6 := (HK.out.ext B5).ext B6
    clear ho hgrow hr5 O4 A4 L5
    go_wp2_with (at_builtin; refine wpList_append_ints_w _ (by rfl) .i64 _ _ 26 rfl (w5.heap.size) 3 j0 8 Try.underlying26 hj hjz hj1 hj2 _ 2 _ rfl O6 ka kl kc kz rfl K6 ?c3 ?c4 ?c5 ?_)
    case c3 => unfold maxLen; omega
    case c4 => omega
    case c5 => exact B6.size
    intro v7 w7 ho hgrow
    have B7 := B6.grown hgrow B6.size (fun q hq => own_ge O6 hq)
    have D7 := ext_trans B5 B7
    obtain ⟨a7, c7, rfl, hr7⟩ := isRow_of_owns (k := .i64) (xs := [0, 2] ++ kz) (by simpa using ho) (by simp [HK.out.2.2.1]; omega) (by intro x hx; rcases List.mem_append.1 hx with h | h; (· simp at h; rcases h with rfl | rfl <;> decide); (· exact HK.out.2.2.2.1 x h))
    have R7 := Lib.hid hr7
    clear ho hgrow hr7 O6 K6 B6
    go_wp2_with fail
    refine (law2play a5 _ c5 (y4 ++ xs) a7 _ c7 _ _ (R5.out.ext B7) HL5.out (by omega) HW5.out R7.out).mono ?_
    rintro e w8 ⟨rfl, hb⟩
    have D8 := ext_trans D7 hb
    clear hb
    go_wp2_with fail
    refine (law2known _).mono ?_
    rintro e w9 ⟨rfl, hb⟩
    have D9 := ext_trans D8 hb
    go_wp2
    go_ret
    exact ⟨rfl, D9⟩
  · have HQ := Lib.hid hsz
    clear hsz
    go_enter Try.func4, Try.ntmps4
    go_wp2_with fail
    refine (law2puts a n cap z k s xs _ HA.out HL.out (by omega) HQ.out).mono ?_
    rintro e w1 ⟨rfl, B1⟩
    go_wp2_with fail
    refine (law2play a n cap xs ka kl kc kz _ (HA.out.ext B1) HL.out (by omega) HW.out (HK.out.ext B1)).mono ?_
    rintro e w2 ⟨rfl, hb⟩
    have B2 := ext_trans B1 hb
    clear hb
    go_wp2_with fail
    refine (refInt none 0 0 z [] _ (.inl rfl) rfl (by omega)).mono ?_
    rintro e w3 ⟨v3, rfl, ho, hb⟩
    have B3 := ext_trans B2 hb
    obtain ⟨a3, c3, rfl, -, -, -, hr3, -, -⟩ := own_read ho
    obtain ⟨y3, hy3⟩ : ∃ y, y = [] ++ be z := ⟨_, rfl⟩
    have W3 : Wb y3 := by rw [hy3]; exact Wb.nil.app (be_wb z)
    have L3 : y3.length = 8 := by rw [hy3]; rfl
    rw [← hy3] at hr3 ⊢
    rw [L3]
    have R3 := Lib.hid hr3
    have HL3 := Lib.hid L3
    clear ho hb hr3 hy3 L3
    go_wp2_with fail
    refine (refText a3 8 c3 s y3 _ R3.out HL3.out (by omega) HQ.out).mono ?_
    rintro e w4 ⟨v4, rfl, ho, hb⟩
    have B4 := ext_trans B3 hb
    obtain ⟨y4, hy4⟩ : ∃ y, y = y3 ++ txt s := ⟨_, rfl⟩
    have W4 : Wb y4 := by rw [hy4]; exact W3.app (txt_wb s)
    have L4 : y4.length ≤ 264 := by rw [hy4, List.length_append, txt_len, cut255_len]; have := HL3.out; omega
    rw [← hy4] at ho
    have O4 := Lib.hid ho
    have Z4 := hb.size
    have A4 := HA.out.ext B4
    clear ho hb hy4
    go_wp2_with (at_builtin; refine wpList_append_bytes_w _ (by rfl) _ _ 23 rfl (w3.heap.size) 5 i0 Try.underlying23 hi hz0 hz1 hz2 _ (y4.length) (y4) rfl (O4.out) (a) (n) (cap) (xs) rfl (A4) (HL.out) ?c3 ?c4 ?c5 ?_)
    case c3 => unfold maxLen; omega
    case c4 => omega
    case c5 => exact Z4
    intro v5 w5 ho hgrow
    have B5 := B4.grown hgrow B4.size (fun q hq => by have := own_ge O4.out hq; have := B3.size; omega)
    obtain ⟨a5, c5, rfl, -, -, -, hr5, -, -⟩ := own_read ho
    have R5 := Lib.hid hr5
    have L5 : (y4 ++ xs).length = y4.length + n := by rw [List.length_append, HL.out]
    have HL5 := Lib.hid L5
    have HW5 := Lib.hid (W4.app HW.out)
    have O6 : (w5.alloc (.cells #[.int .i64 0, .int .i64 2] 3)).ownsRow w5.heap.size 3 1 (.slice (some ⟨w5.heap.size, 0, none⟩) 2 2) 2 [.int .i64 0, .int .i64 2] :=
      World.ownsRow_lit w5 #[.int .i64 0, .int .i64 2] 2 (Nat.le_refl _) (by unfold maxLen; omega) rfl
    have B6 : Below w5.heap.size w5 (w5.alloc (.cells #[.int .i64 0, .int .i64 2] 3)) := (Below.refl _ _).alloc (Nat.le_refl _) _
    have K6 := (HK.out.ext B5).ext B6
    clear ho hgrow hr5 O4 A4 L5
    go_wp2_with (at_builtin; refine wpList_append_ints_w _ (by rfl) .i64 _ _ 26 rfl (w5.heap.size) 3 j0 8 Try.underlying26 hj hjz hj1 hj2 _ 2 _ rfl O6 ka kl kc kz rfl K6 ?c3 ?c4 ?c5 ?_)
    case c3 => unfold maxLen; omega
    case c4 => omega
    case c5 => exact B6.size
    intro v7 w7 ho hgrow
    have B7 := B6.grown hgrow B6.size (fun q hq => own_ge O6 hq)
    have D7 := ext_trans B5 B7
    obtain ⟨a7, c7, rfl, hr7⟩ := isRow_of_owns (k := .i64) (xs := [0, 2] ++ kz) (by simpa using ho) (by simp [HK.out.2.2.1]; omega) (by intro x hx; rcases List.mem_append.1 hx with h | h; (· simp at h; rcases h with rfl | rfl <;> decide); (· exact HK.out.2.2.2.1 x h))
    have R7 := Lib.hid hr7
    clear ho hgrow hr7 O6 K6 B6
    go_wp2_with fail
    refine (law2play a5 _ c5 (y4 ++ xs) a7 _ c7 _ _ (R5.out.ext B7) HL5.out (by omega) HW5.out R7.out).mono ?_
    rintro e w8 ⟨rfl, hb⟩
    have D8 := ext_trans D7 hb
    clear hb
    go_wp2_with fail
    refine (law2known _).mono ?_
    rintro e w9 ⟨rfl, hb⟩
    have D9 := ext_trans D8 hb
    go_wp2
    go_ret
    exact ⟨rfl, D9⟩

end Go.Proofs.Ytcafmjcjhncpjaa
