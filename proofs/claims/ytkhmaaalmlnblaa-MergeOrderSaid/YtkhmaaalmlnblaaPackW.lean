/- Package pack's walks: values are put behind bytes. -/
import Derived.Test.YtkhmaaalmlnblaaPackM
namespace Go.Proofs.Ytkhmaaalmlnblaa
open Go.RowKit
set_option linter.unusedVariables false

theorem info_u8 : (Try.prog.info? 5).map (fun i => (i.zero, i.size, i.bytes)) = some (some (.int .u8 0), 1, 1) := by kernel_rfl

/-- a row of bytes in new memory -/
def Row (xs : List Int) (w : World) (e : Ending) (w' : World) : Prop := ∃ v, e = .returned v ∧ w'.ownsRow w.heap.size 5 1 v xs.length (bc xs) ∧ Below w.heap.size w w'

theorem bat_one (w : World) (x : Int) : BAt (w.alloc (.cells #[.int .u8 x] 5)) (some ⟨w.heap.size, 0, none⟩) [x] := by
  refine .inr ⟨_, _, rfl, fun i n hi => ?_⟩
  match i, hi with
  | 0, hi => simp at hi; subst hi; exact blk_cell (blk_new w #[.int .u8 x] 5) 0
  | i + 1, hi => simp at hi
theorem len_snoc (xs : List Int) (x : Int) : (xs ++ [x]).length = xs.length + 1 := by simp

/-- of a text the first 255 bytes -/
def cut255 (s : ByteArray) : List Int := (sb s).take 255
theorem cut255_len (s : ByteArray) : (cut255 s).length = min s.size 255 := by simp [cut255, sb_len, Nat.min_comm]
theorem sb_take (s : ByteArray) (k : Nat) : sb (s.extract 0 k) = (sb s).take k := by
  simp [sb, ByteArray.data_extract, List.map_take]
/-- a text behind bytes -/
def txt (s : ByteArray) : List Int := ((cut255 s).length : Int) :: cut255 s
theorem txt_len (s : ByteArray) : (txt s).length = (cut255 s).length + 1 := by simp [txt]
theorem txt_wb (s : ByteArray) : Wb (txt s) := by
  intro n hn
  simp only [txt, List.mem_cons] at hn
  rcases hn with rfl | hn
  · have := cut255_len s; omega
  · exact (sb_wb s).take 255 n hn
theorem txt_app (xs : List Int) (s : ByteArray) (k : Int) (h : k = ((cut255 s).length : Int)) : xs ++ [k] ++ cut255 s = xs ++ txt s := by subst h; simp [txt]

set_option maxRecDepth 100000 in
set_option maxHeartbeats 1000000 in
theorem refInt (a : Option Addr) (n cap : Nat) (z : Int) (xs : List Int) (w : World) (h : BAt w a xs) (hl : xs.length = n) (hs : n + 8 ≤ 140737488355328) :
    Calls Try.prog 47 #[.slice a n cap, .int .i64 z] w (Row (xs ++ be z) w) := by
  have HL := Lib.hid hl
  obtain ⟨i0, hi, hz0, hz1, hz2⟩ := info_parts info_u8
  have O0 : (w.alloc (.cells #[] 5)).ownsRow w.heap.size 5 1 (.slice (some ⟨w.heap.size, 0, none⟩) 0 0) 0 (bc []) := World.ownsRow_made w #[] 0 (Nat.le_refl _) (by unfold maxLen; omega) rfl
  have B0 : Below w.heap.size w (w.alloc (.cells #[] 5)) := (Below.refl _ _).alloc (Nat.le_refl _) _
  have A0 := h.ext B0
  clear h hl
  go_enter Try.func47, Try.ntmps47
  go_wp2_with (at_builtin; refine wpList_append_bytes _ rfl _ _ 79 rfl (w.heap.size) 5 i0 Try.underlying79 hi hz0 hz1 hz2 (.slice (some ⟨w.heap.size, 0, none⟩) 0 0) (0) ([]) rfl (O0) (a) (n) (cap) (xs) rfl (A0) (HL.out) ?c3 ?c4 ?c5 ?_)
  case c3 => unfold maxLen; omega
  case c4 => omega
  case c5 => exact B0.size
  intro v1 w1 hown1 hgrow
  have B1 := B0.grown hgrow B0.size (fun q hq => own_ge O0 hq)
  have O1 := Lib.hid hown1
  clear hown1 hgrow O0 B0 A0
  go_wp2_with fail
  go_loopw [5, 6] (fun v i wr => ∃ k : Nat, k ≤ 8 ∧ i = .int .i64 (56 - 8 * (k : Int)) ∧ wr.ownsRow w.heap.size 5 1 v (n + k) (bc (xs ++ (be z).take k)) ∧ Below w.heap.size w wr) (fun _ i _ => (intOf i + 8).toNat)
  case atStart => exact ⟨0, by omega, rfl, by have := O1.out; simpa using this, B1⟩
  case round =>
    obtain ⟨w2, rfl⟩ : ∃ y : World, y = wr := ⟨_, rfl⟩
    obtain ⟨k, hk, rfl, hown, B2⟩ := hrel
    have O2 := Lib.hid hown
    have Z2 := B2.size
    clear hown
    by_cases hlt : k < 8
    · have hb := be_byte z k hlt
      have hsn := Lib.hid (be_snoc z k hlt)
      obtain ⟨I, hI⟩ : ∃ I, 56 - 8 * (k : Int) = I := ⟨_, rfl⟩
      have hI0 : 0 ≤ I := by omega
      have hI1 : I ≤ 56 := by omega
      rw [hI] at hb ⊢
      have HI := Lib.hid hI
      clear hI
      obtain ⟨y, hy⟩ : ∃ y, z / 2 ^ (56 - 8 * k) % 256 = y := ⟨_, rfl⟩
      rw [hy] at hb hsn
      clear hy
      have A3 := bat_one w2 y
      have O3 := O2.out.alloc (.cells #[.int .u8 y] 5)
      have B3 := B2.alloc Z2 (.cells #[.int .u8 y] 5)
      go_wp2_with (at_builtin; refine wpList_append_bytes _ rfl _ _ 79 rfl (w.heap.size) 5 i0 Try.underlying79 hi hz0 hz1 hz2 _ (n + k) (xs ++ (be z).take k) rfl (O3) (some ⟨w2.heap.size, 0, none⟩) (1) (1) ([y]) rfl (A3) (rfl) ?c3 ?c4 ?c5 ?_)
      case c3 => unfold maxLen; omega
      case c4 => omega
      case c5 => simp; omega
      intro v' w4 hown' hgrow
      have B4 := B3.grown hgrow (by simp; omega) (fun q hq => own_ge O3 hq)
      have O4 := Lib.hid hown'
      clear hown' hgrow A3 O3 hb
      go_wp2
      go_roundw
      case rel => exact ⟨k + 1, by omega, by have := HI.out; congr 1; omega, by have := O4.out; rw [← hsn.out] at this; exact this, B4⟩
      case measure => simp [intOf]; omega
    · obtain rfl : k = 8 := by omega
      go_wp2
      go_ret
      exact ⟨_, rfl, by have := O2.out; rw [show (be z).take 8 = be z from rfl] at this; simpa [be_len, HL.out] using this, B2⟩

set_option maxRecDepth 100000 in
set_option maxHeartbeats 1000000 in
theorem refByte (a : Option Addr) (n cap : Nat) (z : Int) (xs : List Int) (w : World) (h : BAt w a xs) (hl : xs.length = n) (hs : n + 1 ≤ 140737488355328) :
    Calls Try.prog 48 #[.slice a n cap, .int .i64 z] w (Row (xs ++ [z % 256]) w) := by
  have HL := Lib.hid hl
  obtain ⟨i0, hi, hz0, hz1, hz2⟩ := info_parts info_u8
  have O0 : (w.alloc (.cells #[] 5)).ownsRow w.heap.size 5 1 (.slice (some ⟨w.heap.size, 0, none⟩) 0 0) 0 (bc []) := World.ownsRow_made w #[] 0 (Nat.le_refl _) (by unfold maxLen; omega) rfl
  have B0 : Below w.heap.size w (w.alloc (.cells #[] 5)) := (Below.refl _ _).alloc (Nat.le_refl _) _
  have A0 := h.ext B0
  clear h hl
  go_enter Try.func48, Try.ntmps48
  go_wp2_with (at_builtin; refine wpList_append_bytes _ rfl _ _ 79 rfl (w.heap.size) 5 i0 Try.underlying79 hi hz0 hz1 hz2 (.slice (some ⟨w.heap.size, 0, none⟩) 0 0) (0) ([]) rfl (O0) (a) (n) (cap) (xs) rfl (A0) (HL.out) ?c3 ?c4 ?c5 ?_)
  case c3 => unfold maxLen; omega
  case c4 => omega
  case c5 => exact B0.size
  intro v1 w1 hown1 hgrow
  have B1 := B0.grown hgrow B0.size (fun q hq => own_ge O0 hq)
  have O1 := Lib.hid hown1
  have Z1 := B1.size
  clear hown1 hgrow O0 B0 A0
  have A3 := bat_one w1 (z % 256)
  have O3 := O1.out.alloc (.cells #[.int .u8 (z % 256)] 5)
  have B3 := B1.alloc Z1 (.cells #[.int .u8 (z % 256)] 5)
  go_wp2_with (at_builtin; refine wpList_append_bytes _ rfl _ _ 79 rfl (w.heap.size) 5 i0 Try.underlying79 hi hz0 hz1 hz2 _ (n) (xs) rfl (O3) (some ⟨w1.heap.size, 0, none⟩) (1) (1) ([z % 256]) rfl (A3) (rfl) ?c3 ?c4 ?c5 ?_)
  case c3 => have := HL.out; unfold maxLen; omega
  case c4 => have := HL.out; omega
  case c5 => simp; omega
  intro v' w4 hown' hgrow
  have B4 := B3.grown hgrow (by simp; omega) (fun q hq => own_ge O3 hq)
  have O4 := Lib.hid hown'
  clear hown' hgrow A3 O3
  go_wp2
  go_ret
  exact ⟨_, rfl, by have := O4.out; rw [len_snoc, HL.out]; simpa using this, B4⟩

set_option maxRecDepth 100000 in
set_option maxHeartbeats 1000000 in
theorem refText (a : Option Addr) (n cap : Nat) (s : ByteArray) (xs : List Int) (w : World) (h : BAt w a xs) (hl : xs.length = n) (hs : n + 256 ≤ 140737488355328) (hsz : s.size ≤ maxLen) :
    Calls Try.prog 46 #[.slice a n cap, .string s] w (Row (xs ++ txt s) w) := by
  have HA := Lib.hid h
  have HL := Lib.hid hl
  unfold maxLen at hsz
  clear h hl
  obtain ⟨i0, hi, hz0, hz1, hz2⟩ := info_parts info_u8
  by_cases hg : 255 < s.size
  · obtain ⟨q, hq, hq1, hq2⟩ : ∃ q, s.extract 0 255 = q ∧ q.size ≤ 255 ∧ sb q = cut255 s := ⟨_, rfl, by simp; omega, sb_take s 255⟩
    have HQ := Lib.hid hq2
    clear hq2
    go_enter Try.func46, Try.ntmps46
    go_wp2_with fail
    refine (refByte a n cap _ xs _ HA.out HL.out (by omega)).mono ?_
    rintro e w1 ⟨v1, rfl, hown1, B1⟩
    have hm : (q.size : Int) % 256 = (q.size : Int) := by omega
    rw [hm, len_snoc] at hown1
    have O1 := Lib.hid hown1
    have Z1 := B1.size
    clear hown1 hm
    go_wp2_with (at_builtin; refine Lib.wpList_append_own_string _ rfl _ _ 79 9 rfl w.heap.size 5 i0 Try.underlying79 Try.underlying9 hi hz0 hz1 hz2 _ (xs.length + 1) _ rfl O1.out q rfl ?c3 ?c4 ?c5 ?_)
    case c3 => have := HL.out; unfold maxLen; omega
    case c4 => have := HL.out; omega
    case c5 => exact B1.size
    intro v5 w5 hown' hgrow _
    have B5 := B1.grown hgrow B1.size (fun q hq => own_ge O1.out hq)
    rw [← bc_sb, HQ.out, ← bc_append, txt_app xs s _ (by rw [← HQ.out, sb_len])] at hown'
    have O5 := Lib.hid hown'
    clear hown' hgrow
    go_wp2
    go_ret
    exact ⟨_, rfl, by have := O5.out; have e : (xs ++ txt s).length = xs.length + 1 + q.size := (by rw [List.length_append, txt_len, ← HQ.out, sb_len]; omega); rw [e]; exact this, B5⟩
  · obtain ⟨hq1, hq2⟩ : s.size ≤ 255 ∧ sb s = cut255 s := ⟨by omega, by unfold cut255; rw [List.take_of_length_le (by rw [sb_len]; omega)]⟩
    have HQ := Lib.hid hq2
    clear hq2
    go_enter Try.func46, Try.ntmps46
    go_wp2_with fail
    refine (refByte a n cap _ xs _ HA.out HL.out (by omega)).mono ?_
    rintro e w1 ⟨v1, rfl, hown1, B1⟩
    have hm : (s.size : Int) % 256 = (s.size : Int) := by omega
    rw [hm, len_snoc] at hown1
    have O1 := Lib.hid hown1
    have Z1 := B1.size
    clear hown1 hm
    go_wp2_with (at_builtin; refine Lib.wpList_append_own_string _ rfl _ _ 79 9 rfl w.heap.size 5 i0 Try.underlying79 Try.underlying9 hi hz0 hz1 hz2 _ (xs.length + 1) _ rfl O1.out s rfl ?c3 ?c4 ?c5 ?_)
    case c3 => have := HL.out; unfold maxLen; omega
    case c4 => have := HL.out; omega
    case c5 => exact B1.size
    intro v5 w5 hown' hgrow _
    have B5 := B1.grown hgrow B1.size (fun q hq => own_ge O1.out hq)
    rw [← bc_sb, HQ.out, ← bc_append, txt_app xs s _ (by rw [← HQ.out, sb_len])] at hown'
    have O5 := Lib.hid hown'
    clear hown' hgrow
    go_wp2
    go_ret
    exact ⟨_, rfl, by have := O5.out; have e : (xs ++ txt s).length = xs.length + 1 + s.size := (by rw [List.length_append, txt_len, ← HQ.out, sb_len]; omega); rw [e]; exact this, B5⟩

end Go.Proofs.Ytkhmaaalmlnblaa
