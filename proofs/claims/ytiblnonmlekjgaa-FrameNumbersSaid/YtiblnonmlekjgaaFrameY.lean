/- Package frame's walks: frames are written and taken. -/
import Derived.Test.YtiblnonmlekjgaaFrameF
import Derived.Lib.SlBytesConst
namespace Go.Proofs.Ytiblnonmlekjgaa
open Go.RowKit
set_option linter.unusedVariables false

/-- a row of bytes in new memory, and OK -/
def RowOkE (xs : List Int) (w : World) (e : Ending) (w' : World) : Prop := ∃ v, e = .returned (.tuple #[v, .int .i64 0]) ∧ w'.ownsRow w.heap.size 5 1 v xs.length (bc xs) ∧ Below w.heap.size w w'

set_option maxRecDepth 100000 in
set_option maxHeartbeats 1000000 in
theorem frameBytes (a : Option Addr) (n cap : Nat) (xs : List Int) (w : World) (h : BAt w a xs) (hl : xs.length = n) (hn : n ≤ 8192) (hw : Wb xs) :
    Calls Try.prog 12 #[.slice a n cap] w (RowOkE (fr xs) w) := by
  have HA := Lib.hid h
  have HL := Lib.hid hl
  have HW := Lib.hid hw
  clear h hl hw
  obtain ⟨i0, hi, hz0, hz1, hz2⟩ := info_parts info_u8
  obtain ⟨X, hX, hmk⟩ : ∃ X : Array Value, X.size = n + 8 ∧ ∀ w : World, (Instr.makeSlice 22 (.int .i64 0) (.int .i64 ((n : Int) + 8))).run Try.prog w = .ok (.slice (some ⟨w.heap.size, 0, none⟩) 0 (n + 8)) (w.alloc (.cells X 5)) :=
    ⟨madeCells (Value.int .u8 0).cells ((n + 8) * 1), by rw [size_madeCells]; omega, fun w => by
      have := run_make (P := Try.prog) w 22 5 i0 (.int .u8 0) Try.underlying22 hi hz0 .i64 .i64 0 (n + 8) (by omega) (by omega) (by rw [hz2]; omega) (by omega)
      rw [hz1] at this
      exact this⟩
  have HX := Lib.hid hX
  clear hX
  have O1 : (w.alloc (.cells X 5)).ownsRow w.heap.size 5 1 (.slice (some ⟨w.heap.size, 0, none⟩) 0 (n + 8)) 0 (bc []) := World.ownsRow_made w X (n + 8) (Nat.le_refl _) (by unfold maxLen; omega) (by rw [HX.out]; omega)
  have B1 : Below w.heap.size w (w.alloc (.cells X 5)) := (Below.refl _ _).alloc (Nat.le_refl _) _
  go_enter Try.func12, Try.ntmps12
  go_wp2_with fail
  refine (frameAppendWord w.heap.size _ 0 n [] _ O1 B1.size (by omega) (by omega) (by omega)).mono ?_
  rintro e w2 ⟨v2, rfl, ho2, hb2⟩
  have B2 := B1.trans hb2
  have HO2 := Lib.hid ho2
  have A2 := HA.out.ext B2
  clear O1 B1 ho2 hb2 hmk
  go_wp2_with (at_builtin; refine wpList_append_bytes _ rfl _ _ 22 rfl (w.heap.size) 5 i0 Try.underlying22 hi hz0 hz1 hz2 _ (4) ([] ++ w4 n) rfl (HO2.out) (a) (n) (cap) (xs) rfl (A2) (HL.out) ?c3 ?c4 ?c5 ?_)
  case c3 => unfold maxLen; omega
  case c4 => omega
  case c5 => exact B2.size
  intro v3 w3 ho3 hg3
  have B3 := B2.grown hg3 B2.size (fun q hq => own_ge HO2.out hq)
  obtain ⟨y, hy⟩ : ∃ y, y = w4 n ++ xs := ⟨_, rfl⟩
  have hyl : y.length = 4 + n := by rw [hy, List.length_append, w4_len, HL.out]
  have hyw : Wb y := by rw [hy]; exact (w4_wb _).app HW.out
  have hyf : fr xs = y ++ w4 (sm y) := by rw [hy]; unfold fr; rw [HL.out]
  have ho3' : w3.ownsRow w.heap.size 5 1 v3 (4 + n) (bc y) := by rw [hy]; simpa using ho3
  obtain ⟨a3, c3, rfl, -, hc3, hm3, hA3, -, -⟩ := own_read ho3'
  have HO3 := Lib.hid ho3'
  have HA3 := Lib.hid hA3
  have HYL := Lib.hid hyl
  have HYW := Lib.hid hyw
  have HYF := Lib.hid hyf
  clear ho3 hg3 ho3' hA3 hy hyl hyw hyf A2
  go_wp2_with fail
  refine (frameSum a3 _ c3 y _ HA3.out HYL.out HYW.out (by omega)).mono ?_
  rintro e w4' ⟨rfl, rfl⟩
  have hsm := sm_in y
  go_wp2_with fail
  refine (frameAppendWord w.heap.size _ (4 + n) (sm y) y _ HO3.out B3.size hsm.1 hsm.2 (by omega)).mono ?_
  rintro e w5 ⟨v5, rfl, ho5, hb5⟩
  have B5 := B3.trans hb5
  have HO5 := Lib.hid ho5
  clear hsm ho5 hb5
  go_wp2
  go_ret2
  refine ⟨_, rfl, ?_, B5⟩
  have h5 := HO5.out
  rw [fr_len, HL.out, HYF.out]
  rw [show n + 8 = 4 + n + 4 from by omega]
  exact h5

set_option maxRecDepth 100000 in
set_option maxHeartbeats 1000000 in
theorem frameBytes_long (a : Option Addr) (n cap : Nat) (w : World) (hn : 8192 < n) (hm : n ≤ maxLen) :
    Calls Try.prog 12 #[.slice a n cap] w fun e w' => e = .returned (.tuple #[.slice none 0 0, .int .i64 3]) ∧ w = w' := by
  unfold maxLen at hm
  go_enter Try.func12, Try.ntmps12
  go_wp2
  go_ret2
  exact ⟨rfl, rfl⟩

set_option maxRecDepth 100000 in
set_option maxHeartbeats 1000000 in
theorem frameNew (w : World) : Calls Try.prog 17 #[] w fun e w' => e = .returned (.pointer (some ⟨w.heap.size, 0, none⟩)) ∧ StV w.heap.size w' w.heap.size (.slice none 0 0) [] 0 ∧ Below w.heap.size w w' := by
  go_enter Try.func17, Try.ntmps17
  go_wp2
  go_ret
  exact ⟨rfl, ⟨blk_new _ _ _, World.ownsRow_nil _ _ _ _, Wb.nil⟩, (Below.refl _ _).alloc (Nat.le_refl _) _⟩

set_option maxHeartbeats 400000 in
theorem frameLeft (base sb : Nat) (v : Value) (l : List Int) (why : Int) (w : World) (h : StV base w sb v l why) :
    Calls Try.prog 20 #[.pointer (some ⟨sb, 0, none⟩)] w fun e w' => e = .returned (.int .i64 (l.length : Int)) ∧ w = w' := by
  obtain ⟨a, c, rfl⟩ := own_form h.2.1
  have hc := blk_cell h.1
  have hl := blk_lt h.1
  clear h
  go_enter Try.func20, Try.ntmps20
  go_wp2
  go_ret
  exact ⟨rfl, rfl⟩

set_option maxRecDepth 100000 in
set_option maxHeartbeats 1000000 in
theorem frameOne_ok (a : Option Addr) (m cap : Nat) (xs : List Int) (w : World) (h : BAt w a xs) (hl : xs.length = m + 8) (hc : m + 8 ≤ cap) (hm : cap ≤ maxLen) (hw : Wb xs) (hf : fs xs = (m + 8, 0)) (hr : r4 xs = m) (hmm : m ≤ 8192) :
    Calls Try.prog 19 #[.slice a (m + 8) cap] w (RowOkE (inn xs) w) := by
  have HA := Lib.hid h
  have HL := Lib.hid hl
  have HW := Lib.hid hw
  have HF := Lib.hid hf
  have HR := Lib.hid hr
  have HM := Lib.hid hm
  obtain ⟨b, o, rfl⟩ : ∃ b o, a = some ⟨b, o, none⟩ := by
    rcases h with h | ⟨b, o, e, _⟩
    · rw [h] at hl; simp at hl
    · exact ⟨b, o, e⟩
  clear h hl hw hf hr hm
  go_enter Try.func19, Try.ntmps19
  go_wp2_with fail
  refine (frameFirst _ _ cap xs _ HA.out HL.out hc HM.out HW.out).mono ?_
  rintro e w1 ⟨rfl, hb⟩
  rw [HF.out]
  have D1 := hb
  have HA1 := Lib.hid (HA.out.ext hb)
  clear hb
  go_wp2_with fail
  refine (frameWord _ _ cap xs _ HA1.out HL.out (by omega) HW.out).mono ?_
  rintro e w2 ⟨rfl, hb⟩
  rw [HR.out]
  have D2 := ext_trans D1 hb
  have HA2 := Lib.hid (HA1.out.ext hb)
  clear hb
  go_wp2_with fail
  refine (frameInside b o m cap xs _ HA2.out HL.out hc HM.out (by omega)).mono ?_
  rintro e w3 ⟨v3, rfl, ho, hb⟩
  have D3 := ext_trans D2 hb
  have HO := Lib.hid (ownsRow_base ho D2.size)
  clear ho hb
  go_wp2
  go_ret2
  exact ⟨_, rfl, HO.out, D3⟩

set_option maxRecDepth 100000 in
set_option maxHeartbeats 1000000 in
theorem frameOne_sum (a : Option Addr) (m cap : Nat) (xs : List Int) (w : World) (h : BAt w a xs) (hl : xs.length = m + 8) (hc : m + 8 ≤ cap) (hm : cap ≤ maxLen) (hw : Wb xs) (hf : fs xs = (0, 13)) (hr : r4 xs = m) (hmm : m ≤ 8192) :
    Calls Try.prog 19 #[.slice a (m + 8) cap] w fun e w' => e = .returned (.tuple #[.slice none 0 0, .int .i64 13]) ∧ Below w.heap.size w w' := by
  have HA := Lib.hid h
  have HL := Lib.hid hl
  have HW := Lib.hid hw
  have HF := Lib.hid hf
  have HR := Lib.hid hr
  have HM := Lib.hid hm
  clear h hl hw hf hr hm
  go_enter Try.func19, Try.ntmps19
  go_wp2_with fail
  refine (frameFirst _ _ cap xs _ HA.out HL.out hc HM.out HW.out).mono ?_
  rintro e w1 ⟨rfl, hb⟩
  rw [HF.out]
  have D1 := hb
  have HA1 := Lib.hid (HA.out.ext hb)
  clear hb
  go_wp2_with fail
  refine (frameWord _ _ cap xs _ HA1.out HL.out (by omega) HW.out).mono ?_
  rintro e w2 ⟨rfl, hb⟩
  rw [HR.out]
  have D2 := ext_trans D1 hb
  clear hb
  go_wp2
  go_ret2
  exact ⟨rfl, D2⟩

set_option maxHeartbeats 1000000 in
theorem frameOne_nil (w : World) : Calls Try.prog 19 #[.slice none 0 0] w fun e w' => e = .returned (.tuple #[.slice none 0 0, .int .i64 12]) ∧ w = w' := by
  go_enter Try.func19, Try.ntmps19
  go_wp2
  go_ret2
  exact ⟨rfl, rfl⟩

theorem bat_mark (w : World) (xs : List Int) (fr : Nat × Nat) : BAt (w.alloc (.cells (bc xs).toArray 5 fr)) (some ⟨w.heap.size, 0, none⟩) xs := by
  have h : (w.alloc (.cells (bc xs).toArray 5 fr)).heap[w.heap.size]? = some (.cells (bc xs).toArray 5 fr) := by
    show (w.heap.push _)[w.heap.size]? = _
    simp
  refine .inr ⟨_, _, rfl, fun i n hi => ?_⟩
  simp only [World.cell?, h]
  simp [bc, hi]
theorem known_str : strOfNums [97, 98] = ⟨#[97, 98]⟩ := by decide +kernel

set_option maxRecDepth 100000 in
set_option maxHeartbeats 1000000 in
theorem law3known (w : World) : Calls Try.prog 15 #[] w fun e w' => e = .returned (.bool true) ∧ Below w.heap.size w w' := by
  obtain ⟨i0, hi, hz0, hz1, hz2⟩ := info_parts info_u8
  have A0 : BAt (w.alloc (.cells #[.int .u8 97, .int .u8 98] 5 (2, 3))) (some ⟨w.heap.size, 0, none⟩) [97, 98] := bat_mark w [97, 98] (2, 3)
  have D0 : Below w.heap.size w (w.alloc (.cells #[.int .u8 97, .int .u8 98] 5 (2, 3))) := (Below.refl _ _).alloc (Nat.le_refl _) _
  obtain ⟨X, hmk⟩ : ∃ X : Array Value, ∀ w : World, (Instr.makeSlice 22 (.int .i64 8193) (.int .i64 8193)).run Try.prog w = .ok (.slice (some ⟨w.heap.size, 0, none⟩) 8193 8193) (w.alloc (.cells X 5)) :=
    ⟨madeCells (Value.int .u8 0).cells (8193 * 1), fun w => by
      have := run_make (P := Try.prog) w 22 5 i0 (.int .u8 0) Try.underlying22 hi hz0 .i64 .i64 8193 8193 (by omega) (by omega) (by rw [hz2]; omega) (by omega)
      rw [hz1] at this
      exact this⟩
  have HMK := Lib.hid hmk
  have hcv0 := Lib.run_convert_bytes_const (P := Try.prog) w 22 5 #[.int .u8 97, .int .u8 98] 2 2 Try.underlying22 Try.underlying5
  clear hmk
  go_enter Try.func15, Try.ntmps15
  go_wp2_with fail
  refine (frameBytes (some ⟨w.heap.size, 0, none⟩) 2 2 [97, 98] _ A0 rfl (by omega) (by intro n hn; simp at hn; omega)).mono ?_
  rintro e w1 ⟨v1, rfl, ho, hb⟩
  have D1 := ext_trans D0 hb
  obtain ⟨y, hy⟩ : ∃ y, y = fr [97, 98] := ⟨_, rfl⟩
  have y1 : y.length = 2 + 8 := by rw [hy, fr_len]; rfl
  have y2 : fs y = (2 + 8, 0) := by have := fr_fs [97, 98] [] (by simp); rw [List.append_nil] at this; rw [hy]; exact this
  have y3 : r4 y = ((2 : Nat) : Int) := by have := fr_r4 [97, 98] [] (by simp); rw [List.append_nil] at this; rw [hy]; exact this
  have y4 : inn y = [97, 98] := by rw [hy]; exact fr_inn _
  have y5 : Wb y := by rw [hy]; exact fr_wb _ (by intro n hn; simp at hn; omega)
  rw [← hy] at ho
  obtain ⟨a1, c1, rfl, -, hc1, hm1, hA1, -, -⟩ := own_read ho
  rw [y1] at hc1 ⊢
  have HA1 := Lib.hid hA1
  have Y1 := Lib.hid y1
  have Y2 := Lib.hid y2
  have Y3 := Lib.hid y3
  have Y4 := Lib.hid y4
  have Y5 := Lib.hid y5
  clear ho hb hA1 hy y1 y2 y3 y4 y5 A0 D0
  go_wp2_with fail
  refine (frameOne_ok a1 2 c1 y _ HA1.out Y1.out hc1 hm1 Y5.out Y2.out Y3.out (by omega)).mono ?_
  rintro e w2 ⟨v2, rfl, ho, hb⟩
  rw [Y4.out] at ho
  obtain ⟨a2, c2, rfl, -, -, -, hA2, -, -⟩ := own_read ho
  have D2 := ext_trans D1 hb
  have HA2 := Lib.hid hA2
  clear ho hb hA2
  go_wp2_with fail
  refine (frameOne_nil _).mono ?_
  rintro e w3 ⟨rfl, rfl⟩
  have hmk := HMK.out
  go_wp2_with fail
  refine (frameBytes_long _ 8193 8193 _ (by omega) (by unfold maxLen; omega)).mono ?_
  rintro e w3 ⟨rfl, rfl⟩
  have D3 := D2.alloc D2.size (.cells X 5)
  have hA3 := HA2.out.ext ((Below.refl w2.heap.size w2).alloc (Nat.le_refl _) (.cells X 5))
  clear hmk
  generalize w2.alloc (.cells X 5) = w3 at *
  have hcv := run_text (P := Try.prog) w3 22 5 Try.underlying22 Try.underlying5 9 Try.underlying9 a2 2 c2 [97, 98] rfl hA3
  rw [known_str] at hcv
  go_wp2_with fail
  refine (frameSum none 0 0 [] _ (.inl rfl) rfl Wb.nil (by omega)).mono ?_
  rintro e w4 ⟨rfl, rfl⟩
  rw [show sm [] = 17 from rfl]
  go_wp2
  go_ret
  exact ⟨rfl, D3⟩

end Go.Proofs.Ytiblnonmlekjgaa
