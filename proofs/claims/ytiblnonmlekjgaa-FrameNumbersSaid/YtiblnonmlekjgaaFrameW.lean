/- Package frame's walks. -/
import Derived.Test.YtiblnonmlekjgaaFrameX
import Derived.Test.YtiblnonmlekjgaaWithin
namespace Go.Proofs.Ytiblnonmlekjgaa
open Go.RowKit
set_option linter.unusedVariables false

theorem info_u8 : (Try.prog.info? 5).map (fun i => (i.zero, i.size, i.bytes)) = some (some (.int .u8 0), 1, 1) := by kernel_rfl
def Row (xs : List Int) (w : World) (e : Ending) (w' : World) : Prop := ∃ v, e = .returned v ∧ w'.ownsRow w.heap.size 5 1 v xs.length (bc xs) ∧ Below w.heap.size w w'
theorem take_snoc' (ys : List Int) (k : Nat) (x : Int) (h : ys[k]? = some x) : ys.take (k + 1) = ys.take k ++ [x] := by
  obtain ⟨hk, rfl⟩ := List.getElem?_eq_some_iff.1 h
  rw [List.take_succ_eq_append_getElem hk]
theorem bat_lit (w : World) (xs : List Int) : BAt (w.alloc (.cells (bc xs).toArray 5)) (some ⟨w.heap.size, 0, none⟩) xs := by
  refine .inr ⟨_, _, rfl, fun i n hi => ?_⟩
  rw [blk_cell (blk_new w (bc xs).toArray 5)]
  simp [bc, hi]

set_option maxRecDepth 100000 in
set_option maxHeartbeats 1000000 in
theorem frameSum (a : Option Addr) (n cap : Nat) (xs : List Int) (w : World) (h : BAt w a xs) (hl : xs.length = n) (hw : Wb xs) (hs : n ≤ 140737488355328) :
    Calls Try.prog 13 #[.slice a n cap] w fun e w' => e = .returned (.int .u32 (sm xs)) ∧ w = w' := by
  have HA := Lib.hid h
  have HL := Lib.hid hl
  have HW := Lib.hid hw
  clear h hl hw
  go_enter Try.func13, Try.ntmps13
  go_wp2_with fail
  go_loopw [3, 8] (fun v i wr => ∃ k : Nat, k ≤ n ∧ i = .int .i64 (k : Int) ∧ v = .int .u32 (sm (xs.take k)) ∧ wr = w) (fun _ i _ => n - (intOf i).toNat)
  case atStart => exact ⟨0, by omega, rfl, rfl, rfl⟩
  case round =>
    obtain ⟨k, hk, rfl, rfl, rfl⟩ := hrel
    have hsm := sm_in (xs.take k)
    by_cases hlt : k < n
    · obtain ⟨x, hx⟩ : ∃ x, xs[k]? = some x := ⟨_, List.getElem?_eq_getElem (by have := HL.out; omega)⟩
      rcases HA.out with h0 | ⟨b, o, rfl, hcell⟩
      · have := HL.out; rw [h0] at this; simp at this; omega
      · have hcx := hcell k x hx
        obtain ⟨hx0, hx1⟩ := HW.out x (List.mem_of_getElem? hx)
        have hsn := Lib.hid (by rw [take_snoc' xs k x hx, sm_snoc] : sm (xs.take (k + 1)) = (sm (xs.take k) * 31 + x + 7) % 4294967296)
        clear hcell hx
        generalize sm (xs.take k) = V at *
        go_wp2_with fail
        refine ⟨⟨k + 1, by omega, by go_num, ?_, trivial⟩, by simp [intOf]; omega⟩
        rw [hsn.out]
        exact congrArg (Value.int .u32) (by first | omega | (simp only [IntKind.wrap_u32]; omega))
    · obtain rfl : k = n := by omega
      have hT : xs.take xs.length = xs := List.take_length
      rw [HL.out] at hT
      have HT := Lib.hid hT
      clear hT
      go_wp2
      go_ret
      exact ⟨by rw [HT.out]; rfl, rfl⟩

set_option maxRecDepth 100000 in
set_option maxHeartbeats 1000000 in
theorem refSum (a : Option Addr) (n cap : Nat) (xs : List Int) (w : World) (h : BAt w a xs) (hl : xs.length = n) (hw : Wb xs) (hs : n ≤ 140737488355328) :
    Calls Try.prog 14 #[.slice a n cap] w fun e w' => e = .returned (.int .u32 (sm xs)) ∧ w = w' := by
  have HA := Lib.hid h
  have HL := Lib.hid hl
  have HW := Lib.hid hw
  clear h hl hw
  go_enter Try.func14, Try.ntmps14
  go_wp2_with fail
  go_loopw [3, 4] (fun v i wr => ∃ k : Nat, k ≤ n ∧ i = .int .i64 (k : Int) ∧ v = .int .u32 (sm (xs.take k)) ∧ wr = w) (fun _ i _ => n - (intOf i).toNat)
  case atStart => exact ⟨0, by omega, rfl, rfl, rfl⟩
  case round =>
    obtain ⟨k, hk, rfl, rfl, rfl⟩ := hrel
    have hsm := sm_in (xs.take k)
    by_cases hlt : k < n
    · obtain ⟨x, hx⟩ : ∃ x, xs[k]? = some x := ⟨_, List.getElem?_eq_getElem (by have := HL.out; omega)⟩
      rcases HA.out with h0 | ⟨b, o, rfl, hcell⟩
      · have := HL.out; rw [h0] at this; simp at this; omega
      · have hcx := hcell k x hx
        obtain ⟨hx0, hx1⟩ := HW.out x (List.mem_of_getElem? hx)
        have hsn := Lib.hid (by rw [take_snoc' xs k x hx, sm_snoc] : sm (xs.take (k + 1)) = (sm (xs.take k) * 31 + x + 7) % 4294967296)
        clear hcell hx
        generalize sm (xs.take k) = V at *
        go_wp2_with fail
        refine ⟨⟨k + 1, by omega, by go_num, ?_, trivial⟩, by simp [intOf]; omega⟩
        rw [hsn.out]
        exact congrArg (Value.int .u32) (by first | omega | (simp only [IntKind.wrap_u32]; omega))
    · obtain rfl : k = n := by omega
      have hT : xs.take xs.length = xs := List.take_length
      rw [HL.out] at hT
      have HT := Lib.hid hT
      clear hT
      go_wp2
      go_ret
      exact ⟨by rw [HT.out]; rfl, rfl⟩


theorem word_val (a b c d : Int) (a0 : 0 ≤ a) (a1 : a < 256) (b0 : 0 ≤ b) (b1 : b < 256) (c0 : 0 ≤ c) (c1 : c < 256) (d0 : 0 ≤ d) (d1 : d < 256) :
    bits .or .u32 (bits .or .u32 (bits .or .u32 (a * 16777216) (b * 65536)) (c * 256)) d = a * 16777216 + b * 65536 + c * 256 + d := by
  have hu : ∀ n : Int, 0 ≤ n → n < 2 ^ 32 → IntKind.u32.wrap n = n := wraps_u32
  rw [bits_join .u32 32 (by decide) hu 24 (a * 16777216) (b * 65536) (by omega) (by omega) (by omega) (by omega) (by omega) (by omega)]
  rw [bits_join .u32 32 (by decide) hu 16 (a * 16777216 + b * 65536) (c * 256) (by omega) (by omega) (by omega) (by omega) (by omega) (by omega)]
  rw [bits_join .u32 32 (by decide) hu 8 (a * 16777216 + b * 65536 + c * 256) d (by omega) (by omega) (by omega) (by omega) (by omega) (by omega)]

set_option maxRecDepth 100000 in
set_option maxHeartbeats 1000000 in
theorem frameWord (a : Option Addr) (n cap : Nat) (xs : List Int) (w : World) (h : BAt w a xs) (hl : xs.length = n) (h4 : 4 ≤ n) (hw : Wb xs) :
    Calls Try.prog 27 #[.slice a n cap] w fun e w' => e = .returned (.int .u32 (r4 xs)) ∧ Below w.heap.size w w' := by
  match xs, hl with
  | x0 :: x1 :: x2 :: x3 :: t, hl =>
    obtain ⟨p0, q0⟩ := hw x0 (by simp)
    obtain ⟨p1, q1⟩ := hw x1 (by simp)
    obtain ⟨p2, q2⟩ := hw x2 (by simp)
    obtain ⟨p3, q3⟩ := hw x3 (by simp)
    rcases h with h | ⟨b, o, rfl, hc⟩
    · cases h
    · have c0 := hc 0 x0 rfl
      have c1 := hc 1 x1 rfl
      have c2 := hc 2 x2 rfl
      have c3 := hc 3 x3 rfl
      have hv := Lib.hid (word_val x0 x1 x2 x3 p0 q0 p1 q1 p2 q2 p3 q3)
      have hr : r4 (x0 :: x1 :: x2 :: x3 :: t) = x0 * 16777216 + x1 * 65536 + x2 * 256 + x3 := by simp [r4]
      rw [hr]
      rw [Nat.add_zero] at c0
      clear hc hl hw hr
      go_enter Try.func27, Try.ntmps27
      go_wp2_with fail
      haveI hIq : Nonempty (Of w) := of_some _
      have hF0 := of_cell c0
      have hF1 := of_cell c1
      have hF2 := of_cell c2
      have hF3 := of_cell c3
      refine wp_region_stay w (by kernel_rfl) (by kernel_rfl) (by go_grown) ?_
      repeat (go_big_quiet_step (fail))
      refine wpQuiet_nil ?_
      intro w1 hb
      clear hIq hF0 hF1 hF2 hF3
      go_wp2
      go_ret
      exact ⟨congrArg (fun z => Ending.returned (Value.int .u32 z)) hv.out, hb⟩
  | [], hl => simp at hl; omega
  | [_], hl => simp at hl; omega
  | [_, _], hl => simp at hl; omega
  | [_, _, _], hl => simp at hl; omega

set_option maxRecDepth 100000 in
set_option maxHeartbeats 1000000 in
theorem frameAppendWord (base : Nat) (v : Value) (n : Nat) (z : Int) (xs : List Int) (w : World) (h : w.ownsRow base 5 1 v n (bc xs)) (hb : base ≤ w.heap.size) (hz0 : 0 ≤ z) (hz1 : z < 4294967296) (hs : n + 4 ≤ 140737488355328) :
    Calls Try.prog 24 #[v, .int .u32 z] w fun e w' => ∃ v', e = .returned v' ∧ w'.ownsRow base 5 1 v' (n + 4) (bc (xs ++ w4 z)) ∧ Below base w w' := by
  obtain ⟨i0, hi, hz0, hz1, hz2⟩ := info_parts info_u8
  have O1 := h.alloc (.cells #[.int .u8 (z / 2 ^ 24 % 256), .int .u8 (z / 2 ^ 16 % 256), .int .u8 (z / 2 ^ 8 % 256), .int .u8 (z % 256)] 5)
  have B1 : Below base w (w.alloc (.cells #[.int .u8 (z / 2 ^ 24 % 256), .int .u8 (z / 2 ^ 16 % 256), .int .u8 (z / 2 ^ 8 % 256), .int .u8 (z % 256)] 5)) := (Below.refl _ _).alloc hb _
  have A1 : BAt (w.alloc (.cells #[.int .u8 (z / 2 ^ 24 % 256), .int .u8 (z / 2 ^ 16 % 256), .int .u8 (z / 2 ^ 8 % 256), .int .u8 (z % 256)] 5)) (some ⟨w.heap.size, 0, none⟩) (w4 z) := bat_lit w (w4 z)
  obtain ⟨z0, e0⟩ : ∃ y, z / 2 ^ 24 % 256 = y := ⟨_, rfl⟩
  obtain ⟨z1, e1⟩ : ∃ y, z / 2 ^ 16 % 256 = y := ⟨_, rfl⟩
  obtain ⟨z2, e2⟩ : ∃ y, z / 2 ^ 8 % 256 = y := ⟨_, rfl⟩
  obtain ⟨z3, e3⟩ : ∃ y, z % 256 = y := ⟨_, rfl⟩
  rw [e0, e1, e2, e3] at O1 B1 A1
  simp only [show (2 : Int) ^ 24 = 16777216 from rfl, show (2 : Int) ^ 16 = 65536 from rfl, show (2 : Int) ^ 8 = 256 from rfl] at e0 e1 e2
  have e0' : z / 16777216 = z0 := by omega
  clear h
  go_enter Try.func24, Try.ntmps24
  go_wp2_with (at_builtin; refine wpList_append_bytes _ rfl _ _ 22 rfl (base) 5 i0 Try.underlying22 hi hz0 hz1 hz2 _ (n) (xs) rfl (O1) (some ⟨w.heap.size, 0, none⟩) (4) (4) (w4 z) rfl (A1) (rfl) ?c3 ?c4 ?c5 ?_)
  case c3 => unfold maxLen; omega
  case c4 => omega
  case c5 => exact Nat.le_trans hb (by simp)
  intro v' w2 ho hgrow
  have B2 := B1.grown hgrow (Nat.le_trans hb (by simp)) (fun q hq => own_ge O1 hq)
  go_wp2
  go_ret
  exact ⟨_, rfl, ho, B2⟩

set_option maxRecDepth 100000 in
set_option maxHeartbeats 1000000 in
theorem frameSumIsRight (b o m cap : Nat) (xs : List Int) (w : World) (h : BAt w (some ⟨b, o, none⟩) xs) (hl : xs.length = m + 4) (hc : m + 4 ≤ cap) (hm : cap ≤ maxLen) (hw : Wb xs) (hs : m ≤ 100000) :
    Calls Try.prog 29 #[.slice (some ⟨b, o, none⟩) (m + 4) cap] w fun e w' => e = .returned (.bool (r4 (xs.drop m) == sm (xs.take m))) ∧ Below w.heap.size w w' := by
  have HA := Lib.hid h
  have HL := Lib.hid hl
  have HD := Lib.hid (show (xs.drop m).length = cap - m - (cap - m - 4) by rw [List.length_drop, hl]; omega)
  have HDl := Lib.hid (show (xs.drop m).length = 4 by rw [List.length_drop, hl]; omega)
  have HT := Lib.hid (show (xs.take m).length = m by rw [List.length_take, hl]; omega)
  have HDA := Lib.hid (h.drop m)
  have HTA := Lib.hid (h.take m)
  have hne : ¬ cap = m := by omega
  unfold maxLen at hm
  clear h hl
  go_enter Try.func29, Try.ntmps29
  go_wp2_with fail
  haveI hIq : Nonempty (Of w) := of_some _
  refine wp_region_stay w (by kernel_rfl) (by kernel_rfl) (by go_grown) ?_
  repeat (go_big_quiet_step ((first | (go_at_call 27; refine stay_call (frameWord (some ⟨b, o + m, none⟩) 4 (cap - m) (xs.drop m) _ (HDA.out.ext (In.h _)) HDl.out (by omega) (hw.drop m))) | (go_at_call 13; refine stay_same (frameSum (some ⟨b, o, none⟩) m cap (xs.take m) _ (HTA.out.ext (In.h _)) HT.out (hw.take m) (by omega))))))
  refine wpQuiet_nil ?_
  intro w1 hb
  clear hIq 
  go_wp2
  go_ret
  exact ⟨rfl, hb⟩

set_option maxRecDepth 100000 in
set_option maxHeartbeats 1000000 in
theorem frameInside (b o m cap : Nat) (xs : List Int) (w : World) (h : BAt w (some ⟨b, o, none⟩) xs) (hl : xs.length = m + 8) (hc : m + 8 ≤ cap) (hm : cap ≤ maxLen) (hs : m ≤ 100000) :
    Calls Try.prog 26 #[.slice (some ⟨b, o, none⟩) (m + 8) cap] w (Row (inn xs) w) := by
  obtain ⟨i0, hi, hz0, hz1, hz2⟩ := info_parts info_u8
  have hin : inn xs = (xs.take (m + 4)).drop 4 := by unfold inn; rw [hl]; rfl
  have HI := Lib.hid (show (inn xs).length = m by rw [hin, List.length_drop, List.length_take, hl]; omega)
  have HA : BAt w (some ⟨b, o + 4, none⟩) (inn xs) := by rw [hin]; exact (h.take (m + 4)).drop 4
  have hne : ¬ cap = 4 := by omega
  have hO : w.ownsRow w.heap.size 5 1 (.slice none 0 0) 0 (bc []) := World.ownsRow_nil _ _ _ _
  unfold maxLen at hm
  clear h hl hin
  go_enter Try.func26, Try.ntmps26
  go_wp2_with (at_builtin; refine wpList_append_bytes _ rfl _ _ 22 rfl (w.heap.size) 5 i0 Try.underlying22 hi hz0 hz1 hz2 (.slice none 0 0) (0) ([]) rfl (hO) (some ⟨b, o + 4, none⟩) (m) (_) (inn xs) rfl (HA) (HI.out) ?c3 ?c4 ?c5 ?_)
  case c3 => unfold maxLen; omega
  case c4 => omega
  case c5 => exact Nat.le_refl _
  intro v' w2 ho hgrow
  have B2 := (Below.refl w.heap.size w).grown hgrow (Nat.le_refl _) (fun q hq => own_ge hO hq)
  go_wp2
  go_ret
  exact ⟨_, rfl, by rw [HI.out]; simpa using ho, B2⟩

theorem r4_take (l : List Int) : r4 (l.take 4) = r4 l := by
  match l with
  | [] => rfl
  | [_] => rfl
  | [_, _] => rfl
  | [_, _, _] => rfl
  | a :: b :: c :: d :: t => simp [r4]

set_option maxRecDepth 100000 in
set_option maxHeartbeats 1000000 in
theorem frameFirst (a : Option Addr) (n cap : Nat) (xs : List Int) (w : World) (h : BAt w a xs) (hl : xs.length = n) (hc : n ≤ cap) (hm : cap ≤ maxLen) (hw : Wb xs) :
    Calls Try.prog 25 #[.slice a n cap] w fun e w' => e = .returned (.tuple #[.int .i64 ((fs xs).1 : Int), .int .i64 (fs xs).2]) ∧ Below w.heap.size w w' := by
  have HA := Lib.hid h
  have HL := Lib.hid hl
  have HW := Lib.hid hw
  have hm' := Lib.hid hm
  unfold maxLen at hm
  have hcs := fs_cases xs
  rw [hl] at hcs
  clear h hl hw
  by_cases h4 : n < 4
  · have HF := Lib.hid (fs_short (row := xs) (by rw [HL.out]; exact h4))
    clear hcs
    go_enter Try.func25, Try.ntmps25
    go_wp2
    go_ret2
    exact ⟨by rw [HF.out]; rfl, Below.refl _ _⟩
  · obtain ⟨R, hR⟩ := Int.eq_ofNat_of_zero_le (r4_in xs HW.out).1
    rw [hR] at hcs
    simp only [Int.toNat_natCast] at hcs
    have HR := Lib.hid hR
    clear hR
    rcases hcs with ⟨h1, hf⟩ | ⟨h1, h2, hf⟩ | ⟨h1, h2, h3, hf⟩ | ⟨h1, h2, h3, hf⟩ | ⟨h1, h2, h3, hf⟩
    · omega
    · have HF := Lib.hid hf
      clear hf
      go_enter Try.func25, Try.ntmps25
      go_wp2_with fail
      refine (frameWord a n cap xs _ HA.out HL.out (by omega) HW.out).mono ?_
      rintro e w1 ⟨rfl, hb⟩
      rw [HR.out]
      go_wp2
      go_ret2
      exact ⟨by rw [HF.out]; rfl, hb⟩
    · have HF := Lib.hid hf
      have hd : decide (8192 < (R : Int)) = false := by simp; omega
      clear hf
      go_enter Try.func25, Try.ntmps25
      go_wp2_with fail
      refine (frameWord a n cap xs _ HA.out HL.out (by omega) HW.out).mono ?_
      rintro e w1 ⟨rfl, hb⟩
      rw [HR.out]
      have HA1 := Lib.hid (HA.out.ext hb)
      go_wp2_with fail
      refine (frameWord a n cap xs _ HA1.out HL.out (by omega) HW.out).mono ?_
      rintro e w2 ⟨rfl, hb2⟩
      rw [HR.out]
      have D2 := ext_trans hb hb2
      go_wp2
      go_ret2
      exact ⟨by rw [HF.out]; rfl, D2⟩
    all_goals
      have HF := Lib.hid hf
      have HE := Lib.hid h3
      have hd : decide (8192 < (R : Int)) = false := by simp; omega
      have hd2 : decide ((n : Int) < (R : Int) + 8) = false := by simp; omega
      clear hf h3
      rcases HA.out with h0 | ⟨b, o, rfl, -⟩
      · have := HL.out; rw [h0] at this; simp at this; omega
      have HT := Lib.hid (show (xs.take (R + 4 + 4)).length = R + 4 + 4 by rw [List.length_take, HL.out]; omega)
      have HV := Lib.hid (show (r4 ((xs.take (R + 4 + 4)).drop (R + 4)) == sm ((xs.take (R + 4 + 4)).take (R + 4))) = (r4 (xs.drop (R + 4)) == sm (xs.take (R + 4))) by
        rw [List.drop_take, show R + 4 + 4 - (R + 4) = 4 from by omega, r4_take, List.take_take, show min (R + 4) (R + 4 + 4) = R + 4 from by omega])
      go_enter Try.func25, Try.ntmps25
      go_wp2_with fail
      refine (frameWord _ n cap xs _ HA.out HL.out (by omega) HW.out).mono ?_
      rintro e w1 ⟨rfl, hb⟩
      rw [HR.out]
      have HA1 := Lib.hid (HA.out.ext hb)
      go_wp2_with fail
      refine (frameWord _ n cap xs _ HA1.out HL.out (by omega) HW.out).mono ?_
      rintro e w2 ⟨rfl, hb2⟩
      rw [HR.out]
      have D2 := ext_trans hb hb2
      have HA2 := Lib.hid (HA1.out.ext hb2)
      clear hb hb2
      go_wp2_with fail
      refine (frameSumIsRight b o (R + 4) cap (xs.take (R + 4 + 4)) _ (HA2.out.take _) HT.out (by omega) hm'.out (HW.out.take _) (by omega)).mono ?_
      rintro e w3 ⟨rfl, hb⟩
      have D3 := ext_trans D2 hb
      have hE := HE.out
      rw [HV.out]
      first | rw [show (r4 (xs.drop (R + 4)) == sm (xs.take (R + 4))) = true from beq_iff_eq.2 hE] | rw [show (r4 (xs.drop (R + 4)) == sm (xs.take (R + 4))) = false from beq_eq_false_iff_ne.2 hE]
      clear hE
      go_wp2
      go_ret2
      exact ⟨by rw [HF.out]; rfl, D3⟩

end Go.Proofs.Ytiblnonmlekjgaa
