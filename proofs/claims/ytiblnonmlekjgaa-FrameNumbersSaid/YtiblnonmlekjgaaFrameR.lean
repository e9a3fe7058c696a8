/- The document's own frames, and rows of frames. -/
import Derived.Test.YtiblnonmlekjgaaFrameY
import Derived.Test.YtiblnonmlekjgaaRowsB
namespace Go.Proofs.Ytiblnonmlekjgaa
open Go.RowKit
set_option linter.unusedVariables false

set_option maxRecDepth 100000 in
set_option maxHeartbeats 1000000 in
theorem refFour (a : Option Addr) (n cap : Nat) (z : Int) (xs : List Int) (w : World) (h : BAt w a xs) (hl : xs.length = n) (hz0 : 0 ≤ z) (hz1 : z < 4294967296) (hs : n + 4 ≤ 140737488355328) :
    Calls Try.prog 23 #[.slice a n cap, .int .u32 z] w (Row (xs ++ w4 z) w) := by
  have HL := Lib.hid hl
  obtain ⟨i0, hi, hz0', hz1', hz2⟩ := info_parts info_u8
  have O0 : (w.alloc (.cells #[] 5)).ownsRow w.heap.size 5 1 (.slice (some ⟨w.heap.size, 0, none⟩) 0 0) 0 (bc []) := World.ownsRow_made w #[] 0 (Nat.le_refl _) (by unfold maxLen; omega) rfl
  have B0 : Below w.heap.size w (w.alloc (.cells #[] 5)) := (Below.refl _ _).alloc (Nat.le_refl _) _
  have A0 := h.ext B0
  obtain ⟨z0, e0⟩ : ∃ y, z / 2 ^ 24 % 256 = y := ⟨_, rfl⟩
  obtain ⟨z1, e1⟩ : ∃ y, z / 2 ^ 16 % 256 = y := ⟨_, rfl⟩
  obtain ⟨z2, e2⟩ : ∃ y, z / 2 ^ 8 % 256 = y := ⟨_, rfl⟩
  obtain ⟨z3, e3⟩ : ∃ y, z % 256 = y := ⟨_, rfl⟩
  have HZ := Lib.hid (show w4 z = [z0, z1, z2, z3] by unfold w4; rw [e0, e1, e2, e3])
  simp only [show (2 : Int) ^ 24 = 16777216 from rfl, show (2 : Int) ^ 16 = 65536 from rfl, show (2 : Int) ^ 8 = 256 from rfl] at e0 e1 e2
  have e0' : z / 16777216 = z0 := by omega
  clear h hl
  go_enter Try.func23, Try.ntmps23
  go_wp2_with (at_builtin; refine wpList_append_bytes _ rfl _ _ 22 rfl (w.heap.size) 5 i0 Try.underlying22 hi hz0' hz1' hz2 (.slice (some ⟨w.heap.size, 0, none⟩) 0 0) (0) ([]) rfl (O0) (a) (n) (cap) (xs) rfl (A0) (HL.out) ?c3 ?c4 ?c5 ?_)
  case c3 => unfold maxLen; omega
  case c4 => omega
  case c5 => exact B0.size
  intro v1 w1 ho1 hg1
  have B1 := B0.grown hg1 B0.size (fun q hq => own_ge O0 hq)
  have HO1 := Lib.hid (show w1.ownsRow w.heap.size 5 1 v1 n (bc xs) by simpa using ho1)
  have Z1 := B1.size
  clear ho1 hg1 O0 B0 A0
  have A3 : BAt (w1.alloc (.cells #[.int .u8 z0, .int .u8 z1, .int .u8 z2, .int .u8 z3] 5)) (some ⟨w1.heap.size, 0, none⟩) [z0, z1, z2, z3] := bat_lit w1 [z0, z1, z2, z3]
  have O3 := HO1.out.alloc (.cells #[.int .u8 z0, .int .u8 z1, .int .u8 z2, .int .u8 z3] 5)
  have B3 := B1.alloc Z1 (.cells #[.int .u8 z0, .int .u8 z1, .int .u8 z2, .int .u8 z3] 5)
  go_wp2_with (at_builtin; refine wpList_append_bytes _ rfl _ _ 22 rfl (w.heap.size) 5 i0 Try.underlying22 hi hz0' hz1' hz2 _ (n) (xs) rfl (O3) (some ⟨w1.heap.size, 0, none⟩) (4) (4) ([z0, z1, z2, z3]) rfl (A3) (rfl) ?c3 ?c4 ?c5 ?_)
  case c3 => unfold maxLen; omega
  case c4 => omega
  case c5 => simp; omega
  intro v' w4' hown' hgrow
  have B4 := B3.grown hgrow (by simp; omega) (fun q hq => own_ge O3 hq)
  have O4 := Lib.hid hown'
  clear hown' hgrow A3 O3
  go_wp2
  go_ret
  exact ⟨_, rfl, by have := O4.out; rw [List.length_append, HL.out, w4_len, HZ.out]; exact this, B4⟩

set_option maxRecDepth 100000 in
set_option maxHeartbeats 1000000 in
theorem refFrame (a : Option Addr) (n cap : Nat) (xs : List Int) (w : World) (h : BAt w a xs) (hl : xs.length = n) (hn : n ≤ 60000) (hw : Wb xs) :
    Calls Try.prog 11 #[.slice a n cap] w (Row (fr xs) w) := by
  have HA := Lib.hid h
  have HL := Lib.hid hl
  have HW := Lib.hid hw
  clear h hl hw
  obtain ⟨i0, hi, hz0, hz1, hz2⟩ := info_parts info_u8
  go_enter Try.func11, Try.ntmps11
  go_wp2_with fail
  refine (refFour none 0 0 n [] _ (.inl rfl) rfl (by omega) (by omega) (by omega)).mono ?_
  rintro e w2 ⟨v2, rfl, ho2, B2⟩
  have HO2 := Lib.hid (show w2.ownsRow w.heap.size 5 1 v2 4 (bc (w4 n)) by have h := ho2; rw [List.nil_append] at h; exact h)
  have A2 := HA.out.ext B2
  clear ho2
  go_wp2_with (at_builtin; refine wpList_append_bytes _ rfl _ _ 22 rfl (w.heap.size) 5 i0 Try.underlying22 hi hz0 hz1 hz2 _ (4) (w4 n) rfl (HO2.out) (a) (n) (cap) (xs) rfl (A2) (HL.out) ?c3 ?c4 ?c5 ?_)
  case c3 => unfold maxLen; omega
  case c4 => omega
  case c5 => exact B2.size
  intro v3 w3 ho3 hg3
  have B3 := B2.grown hg3 B2.size (fun q hq => own_ge HO2.out hq)
  obtain ⟨y, hy⟩ : ∃ y, y = w4 n ++ xs := ⟨_, rfl⟩
  have hyl : y.length = 4 + n := by rw [hy, List.length_append, w4_len, HL.out]
  have hyw : Wb y := by rw [hy]; exact (w4_wb _).app HW.out
  have hyf : fr xs = y ++ w4 (sm y) := by rw [hy]; unfold fr; rw [HL.out]
  have ho3' : w3.ownsRow w.heap.size 5 1 v3 (4 + n) (bc y) := by rw [hy]; exact ho3
  obtain ⟨a3, c3, rfl, -, hc3, hm3, hA3, -, -⟩ := own_read ho3'
  have HA3 := Lib.hid hA3
  have HYL := Lib.hid hyl
  have HYW := Lib.hid hyw
  have HYF := Lib.hid hyf
  clear ho3 hg3 ho3' hA3 hy hyl hyw hyf A2
  go_wp2_with fail
  refine (refSum a3 _ c3 y _ HA3.out HYL.out HYW.out (by omega)).mono ?_
  rintro e w4' ⟨rfl, rfl⟩
  have hsm := sm_in y
  go_wp2_with fail
  refine (refFour a3 (4 + n) c3 (sm y) y _ HA3.out HYL.out hsm.1 hsm.2 (by omega)).mono ?_
  rintro e w5 ⟨v5, rfl, ho5, hb5⟩
  have B5 := ext_trans B3 hb5
  have HO5 := Lib.hid (ownsRow_base ho5 B3.size)
  clear hsm ho5 hb5
  go_wp2
  go_ret
  exact ⟨_, rfl, by rw [HYF.out]; exact HO5.out, B5⟩

/-- frames one behind the other, each of 60 bytes at most -/
def rowC (rx : Nat → List Int) (p : Nat) : List (List Int) := (List.range p).map fun i => (rx i).take 60
def rowF (rx : Nat → List Int) (p : Nat) : List Int := (rowC rx p).flatMap fr
theorem rowC_succ (rx : Nat → List Int) (p : Nat) : rowC rx (p + 1) = rowC rx p ++ [(rx p).take 60] := by simp [rowC, List.range_succ]
theorem rowF_succ (rx : Nat → List Int) (p : Nat) : rowF rx (p + 1) = rowF rx p ++ fr ((rx p).take 60) := by simp [rowF, rowC_succ]
theorem rowF_len (rx : Nat → List Int) (p : Nat) : (rowF rx p).length ≤ 68 * p := by
  induction p with
  | zero => simp [rowF, rowC]
  | succ p ih => rw [rowF_succ, List.length_append, fr_len, List.length_take]; omega
theorem rowC_len (rx : Nat → List Int) (p : Nat) : (rowC rx p).length = p := by simp [rowC]
theorem rowC_le (rx : Nat → List Int) (p : Nat) : ∀ x ∈ rowC rx p, x.length ≤ 8192 := by
  intro x hx
  simp only [rowC, List.mem_map] at hx
  obtain ⟨i, _, rfl⟩ := hx
  rw [List.length_take]; omega
theorem rowF_wb (rx : Nat → List Int) (p : Nat) (h : ∀ i, i < p → Wb (rx i)) : Wb (rowF rx p) := by
  induction p with
  | zero => intro n hn; simp [rowF, rowC] at hn
  | succ p ih => rw [rowF_succ]; exact (ih fun i hi => h i (by omega)).app (fr_wb _ ((h p (by omega)).take 60))

set_option maxRecDepth 100000 in
set_option maxHeartbeats 2000000 in
theorem law3row (a0 : Option Addr) (len cap : Nat) (ro : Nat → Option Addr) (rl rc : Nat → Nat) (rx : Nat → List Int) (w : World) (h0 : IsRows w a0 len cap ro rl rc rx) :
    Calls Try.prog 8 #[.slice a0 len cap] w (Row (rowF rx (min len 5)) w) := by
  have H0 := Lib.hid h0
  have hcap := h0.1
  have hmx := h0.2.1
  unfold maxLen at hmx
  obtain ⟨i0, hi, hz0, hz1, hz2⟩ := info_parts info_u8
  clear h0
  go_enter Try.func8, Try.ntmps8
  go_wp2_with fail
  go_loopw [3, 4] (fun v i wr => ∃ p : Nat, p ≤ len ∧ p ≤ 5 ∧ i = .int .i64 (p : Int) ∧ wr.ownsRow w.heap.size 5 1 v (rowF rx p).length (bc (rowF rx p)) ∧ Below w.heap.size w wr) (fun _ i _ => 5 - (intOf i).toNat)
  case atStart => exact ⟨0, by omega, by omega, rfl, World.ownsRow_nil _ _ _ _, Below.refl _ _⟩
  case round =>
    obtain ⟨w1, rfl⟩ : ∃ y : World, y = wr := ⟨_, rfl⟩
    obtain ⟨p, hp, hp5, rfl, ho, B1⟩ := hrel
    have HO := Lib.hid ho
    have hrl := rowF_len rx p
    clear ho
    by_cases hgo : p < len ∧ p < 5
    · obtain ⟨hg1, hg2⟩ := hgo
      obtain ⟨nb, no, rfl, hz⟩ := H0.out.2.2.2.resolve_left (by omega)
      have hcell := ext_cell B1 (hz p hg1)
      obtain ⟨hbA, hbL, hbC, hbM, hbW⟩ := H0.out.2.2.1 p hg1
      have hd1 : decide ((p : Int) < len) = true := by simp; omega
      generalize ro p = ra at *
      generalize rc p = rcap at *
      generalize rl p = m0 at *
      obtain ⟨xs0, hxs0⟩ : ∃ xs0, xs0 = rx p := ⟨_, rfl⟩
      rw [← hxs0] at hbA hbL hbW
      unfold maxLen at hbM
      clear hz
      by_cases h60 : 60 < m0
      · have HXL := Lib.hid (show (xs0.take 60).length = 60 by rw [List.length_take]; omega)
        have HW := Lib.hid (hbW.take 60)
        have HOLD := Lib.hid (hbA.take 60)
        have HXE := Lib.hid (show xs0.take 60 = (rx p).take 60 by rw [hxs0])
        clear hbA hbL hbW hxs0
        generalize xs0.take 60 = xs at *
        go_wp2_with fail
        refine (refFrame ra 60 rcap xs _ (HOLD.out.ext B1) HXL.out (by omega) HW.out).mono ?_
        rintro e w2 ⟨v2, rfl, ho2, hb2⟩
        have B2 := ext_trans B1 hb2
        obtain ⟨a2, c2, rfl, -, -, -, hA2, -, -⟩ := own_read ho2
        have O2 := ownsRow_ext HO.out hb2
        obtain ⟨f, hf⟩ : ∃ f, f = fr xs := ⟨_, rfl⟩
        have hfl : f.length ≤ 68 := by rw [hf, fr_len, HXL.out]; omega
        rw [← hf] at hA2 ⊢
        have HFE := Lib.hid hf
        have HA2 := Lib.hid hA2
        clear ho2 hb2 hA2 hf
        go_wp2_with (at_builtin; refine wpList_append_bytes _ rfl _ _ 22 rfl (w.heap.size) 5 i0 Try.underlying22 hi hz0 hz1 hz2 _ ((rowF rx p).length) (rowF rx p) rfl (O2) (a2) (_) (_) (f) rfl (HA2.out) (rfl) ?c3 ?c4 ?c5 ?_)
        case c3 => unfold maxLen; omega
        case c4 => omega
        case c5 => exact B2.size
        intro v3 w3 ho3 hg3
        have B3 := B2.grown hg3 B2.size (fun q hq => own_ge O2 hq)
        have HO3 := Lib.hid ho3
        clear ho3 hg3 O2
        go_wp2
        go_roundw
        case rel => exact ⟨p + 1, by omega, by omega, by go_num, by have h := HO3.out; rw [rowF_succ, ← HXE.out, ← HFE.out, List.length_append]; exact h, B3⟩
        case measure => simp [intOf]; omega
      · have HXL := Lib.hid hbL
        have HW := Lib.hid hbW
        have HOLD := Lib.hid hbA
        have HXE := Lib.hid (show xs0 = (rx p).take 60 by rw [← hxs0]; exact (List.take_of_length_le (by omega)).symm)
        clear hbA hbL hbW hxs0
        go_wp2_with fail
        refine (refFrame ra m0 rcap xs0 _ (HOLD.out.ext B1) HXL.out (by omega) HW.out).mono ?_
        rintro e w2 ⟨v2, rfl, ho2, hb2⟩
        have B2 := ext_trans B1 hb2
        obtain ⟨a2, c2, rfl, -, -, -, hA2, -, -⟩ := own_read ho2
        have O2 := ownsRow_ext HO.out hb2
        obtain ⟨f, hf⟩ : ∃ f, f = fr xs0 := ⟨_, rfl⟩
        have hfl : f.length ≤ 68 := by rw [hf, fr_len, HXL.out]; omega
        rw [← hf] at hA2 ⊢
        have HFE := Lib.hid hf
        have HA2 := Lib.hid hA2
        clear ho2 hb2 hA2 hf
        go_wp2_with (at_builtin; refine wpList_append_bytes _ rfl _ _ 22 rfl (w.heap.size) 5 i0 Try.underlying22 hi hz0 hz1 hz2 _ ((rowF rx p).length) (rowF rx p) rfl (O2) (a2) (_) (_) (f) rfl (HA2.out) (rfl) ?c3 ?c4 ?c5 ?_)
        case c3 => unfold maxLen; omega
        case c4 => omega
        case c5 => exact B2.size
        intro v3 w3 ho3 hg3
        have B3 := B2.grown hg3 B2.size (fun q hq => own_ge O2 hq)
        have HO3 := Lib.hid ho3
        clear ho3 hg3 O2
        go_wp2
        go_roundw
        case rel => exact ⟨p + 1, by omega, by omega, by go_num, by have h := HO3.out; rw [rowF_succ, ← HXE.out, ← HFE.out, List.length_append]; exact h, B3⟩
        case measure => simp [intOf]; omega
    · have hm5 : min len 5 = p := by omega
      have HM5 := Lib.hid hm5
      have hcases : (decide ((p : Int) < len) = false ∧ ¬ p < len) ∨ (decide ((p : Int) < len) = true ∧ p < len ∧ decide ((p : Int) < 5) = false ∧ ¬ p < 5) := by simp; omega
      clear hgo hm5
      rcases hcases with ⟨hd1, hd1'⟩ | ⟨hd1, hd1', hd2, hd2'⟩
      all_goals
        go_wp2
        go_ret
        exact ⟨_, rfl, by rw [HM5.out]; exact HO.out, B1⟩

end Go.Proofs.Ytiblnonmlekjgaa
