/- Several texts as one: PackM, PackW, Sum. -/
import Derived.Test.YtkhcgopehmndgaaBb
/- Numbers as eight bytes, and back. -/
namespace Go.Proofs.Ytkhcgopehmndgaa
open Go.RowKit
set_option linter.unusedVariables false

/-- a number's eight bytes, the highest first -/
def be (n : Int) : List Int := [n / 2 ^ 56 % 256, n / 2 ^ 48 % 256, n / 2 ^ 40 % 256, n / 2 ^ 32 % 256, n / 2 ^ 24 % 256, n / 2 ^ 16 % 256, n / 2 ^ 8 % 256, n % 256]
theorem be_len (n : Int) : (be n).length = 8 := rfl
theorem be_wb (n : Int) : Wb (be n) := by
  intro m hm
  simp only [be, List.mem_cons, List.not_mem_nil, or_false] at hm
  rcases hm with rfl | rfl | rfl | rfl | rfl | rfl | rfl | rfl <;> exact ⟨Int.emod_nonneg _ (by omega), Int.emod_lt_of_pos _ (by omega)⟩
theorem be_snoc (n : Int) (k : Nat) (h : k < 8) : (be n).take (k + 1) = (be n).take k ++ [n / 2 ^ (56 - 8 * k) % 256] := by
  match k, h with
  | 0, _ => rfl
  | 1, _ => rfl
  | 2, _ => rfl
  | 3, _ => rfl
  | 4, _ => rfl
  | 5, _ => rfl
  | 6, _ => rfl
  | 7, _ => simp [be]
theorem be_byte (n : Int) (k : Nat) (h : k < 8) : n / 2 ^ (56 - 8 * (k : Int)).toNat % 256 = n / 2 ^ (56 - 8 * k) % 256 := by
  rw [show (56 - 8 * (k : Int)).toNat = 56 - 8 * k from by omega]

theorem w64_eq (n : Int) : wrap64 n = IntKind.i64.wrap n := by rw [IntKind.wrap_i64]; unfold wrap64; rfl
/-- bytes as a number, the highest first -/
def rdU (xs : List Int) : Int := xs.foldl (fun a c => a * 256 + c) 0
theorem rdU_snoc (xs : List Int) (c : Int) : rdU (xs ++ [c]) = rdU xs * 256 + c := by simp [rdU]

theorem or_low (A c : Nat) (h : A % 256 = 0) (hc : c < 256) : A ||| c = A + c := by
  obtain ⟨q, hq⟩ : ∃ q, A = q * 256 := ⟨A / 256, by omega⟩
  subst hq
  have := Nat.two_pow_add_eq_or_of_lt (i := 8) (b := c) (by omega) q
  rw [show q * 256 = 2 ^ 8 * q from by omega]
  exact this.symm

theorem ofInt_toNat (x : Int) : (BitVec.ofInt 64 x).toNat = (x % 18446744073709551616).toNat := by
  rw [BitVec.toNat_ofInt]; rfl

theorem or_i64 (a c : Int) (h0 : 0 ≤ c) (h1 : c < 256) : bits .or .i64 (IntKind.i64.wrap (IntKind.i64.wrap a * 256)) c = IntKind.i64.wrap (a * 256 + c) := by
  have key : (BitVec.ofInt 64 (IntKind.i64.wrap (IntKind.i64.wrap a * 256)) ||| BitVec.ofInt 64 c).toNat = ((a * 256) % 18446744073709551616).toNat + c.toNat := by
    rw [BitVec.toNat_or, ofInt_toNat, ofInt_toNat, IntKind.wrap_i64, IntKind.wrap_i64]
    rw [show ((((a + 9223372036854775808) % 18446744073709551616 - 9223372036854775808) * 256 + 9223372036854775808) % 18446744073709551616 - 9223372036854775808) % 18446744073709551616 = (a * 256) % 18446744073709551616 from by omega]
    rw [show (c % 18446744073709551616).toNat = c.toNat from by omega]
    exact or_low _ _ (by omega) (by omega)
  show IntKind.i64.wrap ((BitVec.ofInt 64 (IntKind.i64.wrap (IntKind.i64.wrap a * 256)) ||| BitVec.ofInt 64 c).toNat : Nat) = _
  rw [key, IntKind.wrap_i64, IntKind.wrap_i64]
  omega

theorem or_u64 (a c : Int) (h0 : 0 ≤ c) (h1 : c < 256) : bits .or .u64 (IntKind.u64.wrap (IntKind.u64.wrap a * 256)) c = IntKind.u64.wrap (a * 256 + c) := by
  have key : (BitVec.ofInt 64 (IntKind.u64.wrap (IntKind.u64.wrap a * 256)) ||| BitVec.ofInt 64 c).toNat = ((a * 256) % 18446744073709551616).toNat + c.toNat := by
    rw [BitVec.toNat_or, ofInt_toNat, ofInt_toNat, IntKind.wrap_u64, IntKind.wrap_u64]
    rw [show (a % 18446744073709551616 * 256 % 18446744073709551616) % 18446744073709551616 = (a * 256) % 18446744073709551616 from by omega]
    rw [show (c % 18446744073709551616).toNat = c.toNat from by omega]
    exact or_low _ _ (by omega) (by omega)
  show IntKind.u64.wrap ((BitVec.ofInt 64 (IntKind.u64.wrap (IntKind.u64.wrap a * 256)) ||| BitVec.ofInt 64 c).toNat : Nat) = _
  rw [key, IntKind.wrap_u64, IntKind.wrap_u64]
  omega

/-- the number that eight bytes say -/
def rd (xs : List Int) : Int := IntKind.i64.wrap (rdU xs)
theorem rd_of_u64 (xs : List Int) : IntKind.i64.wrap (IntKind.u64.wrap (rdU xs)) = rd xs := by
  unfold rd; rw [IntKind.wrap_u64, IntKind.wrap_i64, IntKind.wrap_i64]; omega

theorem rdU_be (n : Int) : rdU (be n) = n % 18446744073709551616 := by
  simp only [rdU, be, List.foldl]
  omega
theorem rd_be (n : Int) (h0 : -9223372036854775808 ≤ n) (h1 : n ≤ 9223372036854775807) : rd (be n) = n := by
  unfold rd; rw [rdU_be, IntKind.wrap_i64]; omega

end Go.Proofs.Ytkhcgopehmndgaa

/- Package pack's walks: values are put behind bytes. -/
namespace Go.Proofs.Ytkhcgopehmndgaa
open Go.RowKit
set_option linter.unusedVariables false

theorem info_u8 : (Try.prog.info? 5).map (fun i => (i.zero, i.size, i.bytes)) = some (some (.int .u8 0), 1, 1) := by kernel_rfl

/-- a row of bytes in new memory -/
def Row (xs : List Int) (w : World) (e : Ending) (w' : World) : Prop := ∃ v, e = .returned v ∧ w'.ownsRow w.heap.size 5 1 v xs.length (bc xs) ∧ Below w.heap.size w w'

theorem bat_one (w : World) (x : Int) : BAt (w.alloc (.cells #[.int .u8 x] 5)) (some ⟨w.heap.size, 0, none⟩) [x] := by
  refine .inr ⟨_, _, rfl, fun i n hi => ?_⟩
  match i, hi with
  | 0, hi => simp at hi; subst hi; exact blk_cell (blk_new w #[.int .u8 x] 5) 0
  | i + 1, hi => simp at hi
theorem len_snoc (xs : List Int) (x : Int) : (xs ++ [x]).length = xs.length + 1 := by simp

set_option maxRecDepth 100000 in
set_option maxHeartbeats 400000 in
theorem packLonger (a : Option Addr) (n cap : Nat) (m : Int) (xs : List Int) (w : World) (h : BAt w a xs) (hl : xs.length = n) (hm : 0 ≤ m) (hs : n + m ≤ 140737488355328) :
    Calls Try.prog 111 #[.slice a n cap, .int .i64 m] w (Row xs w) := by
  have HA := Lib.hid h
  have HL := Lib.hid hl
  clear h hl
  obtain ⟨i0, hi, hz0, hz1, hz2⟩ := info_parts info_u8
  obtain ⟨X, hX, hmk⟩ : ∃ X : Array Value, X.size = (n + m).toNat ∧ ∀ w : World, (Instr.makeSlice 62 (.int .i64 0) (.int .i64 ((n : Int) + m))).run Try.prog w = .ok (.slice (some ⟨w.heap.size, 0, none⟩) 0 (n + m).toNat) (w.alloc (.cells X 5)) :=
    ⟨madeCells (Value.int .u8 0).cells ((n + m).toNat * 1), by rw [size_madeCells]; omega, fun w => by
      have := run_make (P := Try.prog) w 62 5 i0 (.int .u8 0) Try.underlying62 hi hz0 .i64 .i64 0 (n + m) (by omega) (by omega) (by rw [hz2]; omega) (by omega)
      rw [hz1] at this
      exact this⟩
  have HX := Lib.hid hX
  clear hX
  obtain ⟨c, hc⟩ : ∃ c, (n + m).toNat = c := ⟨_, rfl⟩
  have hcn : n ≤ c := by omega
  have hcm : c ≤ 140737488355328 := by omega
  rw [hc] at HX hmk
  clear hc
  have O1 : (w.alloc (.cells X 5)).ownsRow w.heap.size 5 1 (.slice (some ⟨w.heap.size, 0, none⟩) 0 c) 0 (bc []) := World.ownsRow_made w X c (Nat.le_refl _) (by unfold maxLen; omega) (by rw [HX.out]; omega)
  have B1 : Below w.heap.size w (w.alloc (.cells X 5)) := (Below.refl _ _).alloc (Nat.le_refl _) _
  have A1 := HA.out.ext B1
  go_enter Try.func111, Try.ntmps111
  go_wp2_with (at_builtin; refine wpList_append_bytes _ rfl _ _ 62 rfl (w.heap.size) 5 i0 Try.underlying62 hi hz0 hz1 hz2 (.slice (some ⟨w.heap.size, 0, none⟩) 0 c) (0) ([]) rfl (O1) (a) (n) (cap) (xs) rfl (A1) (HL.out) ?c3 ?c4 ?c5 ?_)
  case c3 => unfold maxLen; omega
  case c4 => omega
  case c5 => exact B1.size
  intro v' w2 hown' hgrow
  have B2 := B1.grown hgrow B1.size (fun q hq => own_ge O1 hq)
  go_wp2
  go_ret
  exact ⟨_, rfl, by have e := HL.out; simpa [e] using hown', B2⟩

set_option maxRecDepth 100000 in
set_option maxHeartbeats 1000000 in
theorem packInt (a : Option Addr) (n cap : Nat) (z : Int) (xs : List Int) (w : World) (h : BAt w a xs) (hl : xs.length = n) (hs : n + 8 ≤ 140737488355328) :
    Calls Try.prog 105 #[.slice a n cap, .int .i64 z] w (Row (xs ++ be z) w) := by
  have HA := Lib.hid h
  have HL := Lib.hid hl
  clear h hl
  obtain ⟨i0, hi, hz0, hz1, hz2⟩ := info_parts info_u8
  go_enter Try.func105, Try.ntmps105
  go_wp2_with fail
  refine (packLonger a n cap 8 xs _ HA.out HL.out (by omega) (by omega)).mono ?_
  rintro e w1 ⟨v1, rfl, hown1, B1⟩
  have O1 := Lib.hid hown1
  clear hown1
  go_wp2_with fail
  go_loopw [5, 6] (fun v i wr => ∃ k : Nat, k ≤ 8 ∧ i = .int .i64 (56 - 8 * (k : Int)) ∧ wr.ownsRow w.heap.size 5 1 v (n + k) (bc (xs ++ (be z).take k)) ∧ Below w.heap.size w wr) (fun _ i _ => (intOf i + 8).toNat)
  case atStart => exact ⟨0, by omega, rfl, by have := O1.out; rw [HL.out] at this; simpa using this, B1⟩
  case round =>
    obtain ⟨w2, rfl⟩ : ∃ y : World, y = wr := ⟨_, rfl⟩
    obtain ⟨k, hk, rfl, hown, B2⟩ := hrel
    have O2 := Lib.hid hown
    have Z2 := B2.size
    clear hown
    by_cases hlt : k < 8
    · have hb := be_byte z k hlt
      have hsn := Lib.hid (be_snoc z k hlt)
      obtain ⟨I, hI⟩ : ∃ I, 56 - 8 * (k : Int) = I := ⟨_, rfl⟩
      have hI0 : 0 ≤ I := by omega
      have hI1 : I ≤ 56 := by omega
      rw [hI] at hb ⊢
      have HI := Lib.hid hI
      clear hI
      obtain ⟨y, hy⟩ : ∃ y, z / 2 ^ (56 - 8 * k) % 256 = y := ⟨_, rfl⟩
      rw [hy] at hb hsn
      clear hy
      have A3 := bat_one w2 y
      have O3 := O2.out.alloc (.cells #[.int .u8 y] 5)
      have B3 := B2.alloc Z2 (.cells #[.int .u8 y] 5)
      go_wp2_with (at_builtin; refine wpList_append_bytes _ rfl _ _ 62 rfl (w.heap.size) 5 i0 Try.underlying62 hi hz0 hz1 hz2 _ (n + k) (xs ++ (be z).take k) rfl (O3) (some ⟨w2.heap.size, 0, none⟩) (1) (1) ([y]) rfl (A3) (rfl) ?c3 ?c4 ?c5 ?_)
      case c3 => unfold maxLen; omega
      case c4 => omega
      case c5 => simp; omega
      intro v' w4 hown' hgrow
      have B4 := B3.grown hgrow (by simp; omega) (fun q hq => own_ge O3 hq)
      have O4 := Lib.hid hown'
      clear hown' hgrow A3 O3 hb
      go_wp2
      go_roundw
      case rel => exact ⟨k + 1, by omega, by have := HI.out; congr 1; omega, by have := O4.out; rw [← hsn.out] at this; exact this, B4⟩
      case measure => simp [intOf]; omega
    · obtain rfl : k = 8 := by omega
      go_wp2
      go_ret
      exact ⟨_, rfl, by have := O2.out; rw [show (be z).take 8 = be z from rfl] at this; simpa [be_len, HL.out] using this, B2⟩

set_option maxRecDepth 100000 in
set_option maxHeartbeats 1000000 in
theorem packByte (a : Option Addr) (n cap : Nat) (z : Int) (xs : List Int) (w : World) (h : BAt w a xs) (hl : xs.length = n) (hs : n + 1 ≤ 140737488355328) :
    Calls Try.prog 103 #[.slice a n cap, .int .i64 z] w (Row (xs ++ [z % 256]) w) := by
  have HA := Lib.hid h
  have HL := Lib.hid hl
  clear h hl
  obtain ⟨i0, hi, hz0, hz1, hz2⟩ := info_parts info_u8
  go_enter Try.func103, Try.ntmps103
  go_wp2_with fail
  refine (packLonger a n cap 1 xs _ HA.out HL.out (by omega) (by omega)).mono ?_
  rintro e w1 ⟨v1, rfl, hown1, B1⟩
  have O1 := Lib.hid hown1
  have Z1 := B1.size
  clear hown1
  have A3 := bat_one w1 (z % 256)
  have O3 := O1.out.alloc (.cells #[.int .u8 (z % 256)] 5)
  have B3 := B1.alloc Z1 (.cells #[.int .u8 (z % 256)] 5)
  go_wp2_with (at_builtin; refine wpList_append_bytes _ rfl _ _ 62 rfl (w.heap.size) 5 i0 Try.underlying62 hi hz0 hz1 hz2 _ (xs.length) (xs) rfl (O3) (some ⟨w1.heap.size, 0, none⟩) (1) (1) ([z % 256]) rfl (A3) (rfl) ?c3 ?c4 ?c5 ?_)
  case c3 => have := HL.out; unfold maxLen; omega
  case c4 => have := HL.out; omega
  case c5 => simp; omega
  intro v' w4 hown' hgrow
  have B4 := B3.grown hgrow (by simp; omega) (fun q hq => own_ge O3 hq)
  have O4 := Lib.hid hown'
  clear hown' hgrow A3 O3
  go_wp2
  go_ret
  exact ⟨_, rfl, by have := O4.out; rw [len_snoc]; exact this, B4⟩

/-- of a text the first 255 bytes -/
def cut255 (s : ByteArray) : List Int := (sb s).take 255
theorem cut255_len (s : ByteArray) : (cut255 s).length = min s.size 255 := by simp [cut255, sb_len, Nat.min_comm]
theorem sb_take (s : ByteArray) (k : Nat) : sb (s.extract 0 k) = (sb s).take k := by
  simp [sb, ByteArray.data_extract, List.map_take]
/-- a text behind bytes -/
def txt (s : ByteArray) : List Int := ((cut255 s).length : Int) :: cut255 s
theorem txt_len (s : ByteArray) : (txt s).length = (cut255 s).length + 1 := by simp [txt]
theorem txt_wb (s : ByteArray) : Wb (txt s) := by
  intro n hn
  simp only [txt, List.mem_cons] at hn
  rcases hn with rfl | hn
  · have := cut255_len s; omega
  · exact (sb_wb s).take 255 n hn
theorem txt_app (xs : List Int) (s : ByteArray) (k : Int) (h : k = ((cut255 s).length : Int)) : xs ++ [k] ++ cut255 s = xs ++ txt s := by subst h; simp [txt]

set_option maxRecDepth 100000 in
set_option maxHeartbeats 1000000 in
theorem packText (a : Option Addr) (n cap : Nat) (s : ByteArray) (xs : List Int) (w : World) (h : BAt w a xs) (hl : xs.length = n) (hs : n + 256 ≤ 140737488355328) (hsz : s.size ≤ maxLen) :
    Calls Try.prog 102 #[.slice a n cap, .string s] w (Row (xs ++ txt s) w) := by
  have HA := Lib.hid h
  have HL := Lib.hid hl
  unfold maxLen at hsz
  clear h hl
  obtain ⟨i0, hi, hz0, hz1, hz2⟩ := info_parts info_u8
  by_cases hg : 255 < s.size
  · obtain ⟨q, hq, hq1, hq2⟩ : ∃ q, s.extract 0 255 = q ∧ q.size ≤ 255 ∧ sb q = cut255 s := ⟨_, rfl, by simp; omega, sb_take s 255⟩
    have HQ := Lib.hid hq2
    clear hq2
    go_enter Try.func102, Try.ntmps102
    go_wp2_with fail
    refine (packLonger a n cap _ xs _ HA.out HL.out (by omega) (by omega)).mono ?_
    rintro e w1 ⟨v1, rfl, hown1, B1⟩
    have O1 := Lib.hid hown1
    have Z1 := B1.size
    clear hown1
    have A3 := bat_one w1 (q.size : Int)
    have O3 := O1.out.alloc (.cells #[.int .u8 (q.size : Int)] 5)
    have B3 := B1.alloc Z1 (.cells #[.int .u8 (q.size : Int)] 5)
    have hm : (q.size : Int) % 256 = (q.size : Int) := by omega
    go_wp2_with (at_builtin; refine wpList_append_bytes _ rfl _ _ 62 rfl (w.heap.size) 5 i0 Try.underlying62 hi hz0 hz1 hz2 _ (xs.length) (xs) rfl (O3) (some ⟨w1.heap.size, 0, none⟩) (1) (1) ([(q.size : Int)]) rfl (A3) (rfl) ?c3 ?c4 ?c5 ?_)
    case c3 => have := HL.out; unfold maxLen; omega
    case c4 => have := HL.out; omega
    case c5 => simp; omega
    intro v' w4 hown' hgrow
    have B4 := B3.grown hgrow (by simp; omega) (fun q hq => own_ge O3 hq)
    have O4 := Lib.hid hown'
    clear hown' hgrow A3 O3
    go_wp2_with (at_builtin; refine Lib.wpList_append_own_string _ rfl _ _ 62 9 rfl w.heap.size 5 i0 Try.underlying62 Try.underlying9 hi hz0 hz1 hz2 v' (xs.length + 1) _ rfl O4.out q rfl ?c3 ?c4 ?c5 ?_)
    case c3 => have := HL.out; unfold maxLen; omega
    case c4 => have := HL.out; omega
    case c5 => exact B4.size
    intro v5 w5 hown' hgrow _
    have B5 := B4.grown hgrow B4.size (fun q hq => own_ge O4.out hq)
    rw [← bc_sb, HQ.out, ← bc_append, txt_app xs s _ (by rw [← HQ.out, sb_len])] at hown'
    have O5 := Lib.hid hown'
    clear hown' hgrow
    go_wp2
    go_ret
    exact ⟨_, rfl, by have := O5.out; have e : (xs ++ txt s).length = xs.length + 1 + q.size := (by rw [List.length_append, txt_len, ← HQ.out, sb_len]; omega); rw [e]; exact this, B5⟩
  · obtain ⟨hq1, hq2⟩ : s.size ≤ 255 ∧ sb s = cut255 s := ⟨by omega, by unfold cut255; rw [List.take_of_length_le (by rw [sb_len]; omega)]⟩
    have HQ := Lib.hid hq2
    clear hq2
    go_enter Try.func102, Try.ntmps102
    go_wp2_with fail
    refine (packLonger a n cap _ xs _ HA.out HL.out (by omega) (by omega)).mono ?_
    rintro e w1 ⟨v1, rfl, hown1, B1⟩
    have O1 := Lib.hid hown1
    have Z1 := B1.size
    clear hown1
    have A3 := bat_one w1 (s.size : Int)
    have O3 := O1.out.alloc (.cells #[.int .u8 (s.size : Int)] 5)
    have B3 := B1.alloc Z1 (.cells #[.int .u8 (s.size : Int)] 5)
    have hm : (s.size : Int) % 256 = (s.size : Int) := by omega
    go_wp2_with (at_builtin; refine wpList_append_bytes _ rfl _ _ 62 rfl (w.heap.size) 5 i0 Try.underlying62 hi hz0 hz1 hz2 _ (xs.length) (xs) rfl (O3) (some ⟨w1.heap.size, 0, none⟩) (1) (1) ([(s.size : Int)]) rfl (A3) (rfl) ?c3 ?c4 ?c5 ?_)
    case c3 => have := HL.out; unfold maxLen; omega
    case c4 => have := HL.out; omega
    case c5 => simp; omega
    intro v' w4 hown' hgrow
    have B4 := B3.grown hgrow (by simp; omega) (fun q hq => own_ge O3 hq)
    have O4 := Lib.hid hown'
    clear hown' hgrow A3 O3
    go_wp2_with (at_builtin; refine Lib.wpList_append_own_string _ rfl _ _ 62 9 rfl w.heap.size 5 i0 Try.underlying62 Try.underlying9 hi hz0 hz1 hz2 v' (xs.length + 1) _ rfl O4.out s rfl ?c3 ?c4 ?c5 ?_)
    case c3 => have := HL.out; unfold maxLen; omega
    case c4 => have := HL.out; omega
    case c5 => exact B4.size
    intro v5 w5 hown' hgrow _
    have B5 := B4.grown hgrow B4.size (fun q hq => own_ge O4.out hq)
    rw [← bc_sb, HQ.out, ← bc_append, txt_app xs s _ (by rw [← HQ.out, sb_len])] at hown'
    have O5 := Lib.hid hown'
    clear hown' hgrow
    go_wp2
    go_ret
    exact ⟨_, rfl, by have := O5.out; have e : (xs ++ txt s).length = xs.length + 1 + s.size := (by rw [List.length_append, txt_len, ← HQ.out, sb_len]; omega); rw [e]; exact this, B5⟩



set_option maxRecDepth 100000 in
set_option maxHeartbeats 1000000 in
theorem refInt (a : Option Addr) (n cap : Nat) (z : Int) (xs : List Int) (w : World) (h : BAt w a xs) (hl : xs.length = n) (hs : n + 8 ≤ 140737488355328) :
    Calls Try.prog 50 #[.slice a n cap, .int .i64 z] w (Row (xs ++ be z) w) := by
  have HL := Lib.hid hl
  obtain ⟨i0, hi, hz0, hz1, hz2⟩ := info_parts info_u8
  have O0 : (w.alloc (.cells #[] 5)).ownsRow w.heap.size 5 1 (.slice (some ⟨w.heap.size, 0, none⟩) 0 0) 0 (bc []) := World.ownsRow_made w #[] 0 (Nat.le_refl _) (by unfold maxLen; omega) rfl
  have B0 : Below w.heap.size w (w.alloc (.cells #[] 5)) := (Below.refl _ _).alloc (Nat.le_refl _) _
  have A0 := h.ext B0
  clear h hl
  go_enter Try.func50, Try.ntmps50
  go_wp2_with (at_builtin; refine wpList_append_bytes _ rfl _ _ 62 rfl (w.heap.size) 5 i0 Try.underlying62 hi hz0 hz1 hz2 (.slice (some ⟨w.heap.size, 0, none⟩) 0 0) (0) ([]) rfl (O0) (a) (n) (cap) (xs) rfl (A0) (HL.out) ?c3 ?c4 ?c5 ?_)
  case c3 => unfold maxLen; omega
  case c4 => omega
  case c5 => exact B0.size
  intro v1 w1 hown1 hgrow
  have B1 := B0.grown hgrow B0.size (fun q hq => own_ge O0 hq)
  have O1 := Lib.hid hown1
  clear hown1 hgrow O0 B0 A0
  go_wp2_with fail
  go_loopw [5, 6] (fun v i wr => ∃ k : Nat, k ≤ 8 ∧ i = .int .i64 (56 - 8 * (k : Int)) ∧ wr.ownsRow w.heap.size 5 1 v (n + k) (bc (xs ++ (be z).take k)) ∧ Below w.heap.size w wr) (fun _ i _ => (intOf i + 8).toNat)
  case atStart => exact ⟨0, by omega, rfl, by have := O1.out; simpa using this, B1⟩
  case round =>
    obtain ⟨w2, rfl⟩ : ∃ y : World, y = wr := ⟨_, rfl⟩
    obtain ⟨k, hk, rfl, hown, B2⟩ := hrel
    have O2 := Lib.hid hown
    have Z2 := B2.size
    clear hown
    by_cases hlt : k < 8
    · have hb := be_byte z k hlt
      have hsn := Lib.hid (be_snoc z k hlt)
      obtain ⟨I, hI⟩ : ∃ I, 56 - 8 * (k : Int) = I := ⟨_, rfl⟩
      have hI0 : 0 ≤ I := by omega
      have hI1 : I ≤ 56 := by omega
      rw [hI] at hb ⊢
      have HI := Lib.hid hI
      clear hI
      obtain ⟨y, hy⟩ : ∃ y, z / 2 ^ (56 - 8 * k) % 256 = y := ⟨_, rfl⟩
      rw [hy] at hb hsn
      clear hy
      have A3 := bat_one w2 y
      have O3 := O2.out.alloc (.cells #[.int .u8 y] 5)
      have B3 := B2.alloc Z2 (.cells #[.int .u8 y] 5)
      go_wp2_with (at_builtin; refine wpList_append_bytes _ rfl _ _ 62 rfl (w.heap.size) 5 i0 Try.underlying62 hi hz0 hz1 hz2 _ (n + k) (xs ++ (be z).take k) rfl (O3) (some ⟨w2.heap.size, 0, none⟩) (1) (1) ([y]) rfl (A3) (rfl) ?c3 ?c4 ?c5 ?_)
      case c3 => unfold maxLen; omega
      case c4 => omega
      case c5 => simp; omega
      intro v' w4 hown' hgrow
      have B4 := B3.grown hgrow (by simp; omega) (fun q hq => own_ge O3 hq)
      have O4 := Lib.hid hown'
      clear hown' hgrow A3 O3 hb
      go_wp2
      go_roundw
      case rel => exact ⟨k + 1, by omega, by have := HI.out; congr 1; omega, by have := O4.out; rw [← hsn.out] at this; exact this, B4⟩
      case measure => simp [intOf]; omega
    · obtain rfl : k = 8 := by omega
      go_wp2
      go_ret
      exact ⟨_, rfl, by have := O2.out; rw [show (be z).take 8 = be z from rfl] at this; simpa [be_len, HL.out] using this, B2⟩

set_option maxRecDepth 100000 in
set_option maxHeartbeats 1000000 in
theorem refByte (a : Option Addr) (n cap : Nat) (z : Int) (xs : List Int) (w : World) (h : BAt w a xs) (hl : xs.length = n) (hs : n + 1 ≤ 140737488355328) :
    Calls Try.prog 51 #[.slice a n cap, .int .i64 z] w (Row (xs ++ [z % 256]) w) := by
  have HL := Lib.hid hl
  obtain ⟨i0, hi, hz0, hz1, hz2⟩ := info_parts info_u8
  have O0 : (w.alloc (.cells #[] 5)).ownsRow w.heap.size 5 1 (.slice (some ⟨w.heap.size, 0, none⟩) 0 0) 0 (bc []) := World.ownsRow_made w #[] 0 (Nat.le_refl _) (by unfold maxLen; omega) rfl
  have B0 : Below w.heap.size w (w.alloc (.cells #[] 5)) := (Below.refl _ _).alloc (Nat.le_refl _) _
  have A0 := h.ext B0
  clear h hl
  go_enter Try.func51, Try.ntmps51
  go_wp2_with (at_builtin; refine wpList_append_bytes _ rfl _ _ 62 rfl (w.heap.size) 5 i0 Try.underlying62 hi hz0 hz1 hz2 (.slice (some ⟨w.heap.size, 0, none⟩) 0 0) (0) ([]) rfl (O0) (a) (n) (cap) (xs) rfl (A0) (HL.out) ?c3 ?c4 ?c5 ?_)
  case c3 => unfold maxLen; omega
  case c4 => omega
  case c5 => exact B0.size
  intro v1 w1 hown1 hgrow
  have B1 := B0.grown hgrow B0.size (fun q hq => own_ge O0 hq)
  have O1 := Lib.hid hown1
  have Z1 := B1.size
  clear hown1 hgrow O0 B0 A0
  have A3 := bat_one w1 (z % 256)
  have O3 := O1.out.alloc (.cells #[.int .u8 (z % 256)] 5)
  have B3 := B1.alloc Z1 (.cells #[.int .u8 (z % 256)] 5)
  go_wp2_with (at_builtin; refine wpList_append_bytes _ rfl _ _ 62 rfl (w.heap.size) 5 i0 Try.underlying62 hi hz0 hz1 hz2 _ (n) (xs) rfl (O3) (some ⟨w1.heap.size, 0, none⟩) (1) (1) ([z % 256]) rfl (A3) (rfl) ?c3 ?c4 ?c5 ?_)
  case c3 => have := HL.out; unfold maxLen; omega
  case c4 => have := HL.out; omega
  case c5 => simp; omega
  intro v' w4 hown' hgrow
  have B4 := B3.grown hgrow (by simp; omega) (fun q hq => own_ge O3 hq)
  have O4 := Lib.hid hown'
  clear hown' hgrow A3 O3
  go_wp2
  go_ret
  exact ⟨_, rfl, by have := O4.out; rw [len_snoc, HL.out]; simpa using this, B4⟩

set_option maxRecDepth 100000 in
set_option maxHeartbeats 1000000 in
theorem refText (a : Option Addr) (n cap : Nat) (s : ByteArray) (xs : List Int) (w : World) (h : BAt w a xs) (hl : xs.length = n) (hs : n + 256 ≤ 140737488355328) (hsz : s.size ≤ maxLen) :
    Calls Try.prog 49 #[.slice a n cap, .string s] w (Row (xs ++ txt s) w) := by
  have HA := Lib.hid h
  have HL := Lib.hid hl
  unfold maxLen at hsz
  clear h hl
  obtain ⟨i0, hi, hz0, hz1, hz2⟩ := info_parts info_u8
  by_cases hg : 255 < s.size
  · obtain ⟨q, hq, hq1, hq2⟩ : ∃ q, s.extract 0 255 = q ∧ q.size ≤ 255 ∧ sb q = cut255 s := ⟨_, rfl, by simp; omega, sb_take s 255⟩
    have HQ := Lib.hid hq2
    clear hq2
    go_enter Try.func49, Try.ntmps49
    go_wp2_with fail
    refine (refByte a n cap _ xs _ HA.out HL.out (by omega)).mono ?_
    rintro e w1 ⟨v1, rfl, hown1, B1⟩
    have hm : (q.size : Int) % 256 = (q.size : Int) := by omega
    rw [hm, len_snoc] at hown1
    have O1 := Lib.hid hown1
    have Z1 := B1.size
    clear hown1 hm
    go_wp2_with (at_builtin; refine Lib.wpList_append_own_string _ rfl _ _ 62 9 rfl w.heap.size 5 i0 Try.underlying62 Try.underlying9 hi hz0 hz1 hz2 _ (xs.length + 1) _ rfl O1.out q rfl ?c3 ?c4 ?c5 ?_)
    case c3 => have := HL.out; unfold maxLen; omega
    case c4 => have := HL.out; omega
    case c5 => exact B1.size
    intro v5 w5 hown' hgrow _
    have B5 := B1.grown hgrow B1.size (fun q hq => own_ge O1.out hq)
    rw [← bc_sb, HQ.out, ← bc_append, txt_app xs s _ (by rw [← HQ.out, sb_len])] at hown'
    have O5 := Lib.hid hown'
    clear hown' hgrow
    go_wp2
    go_ret
    exact ⟨_, rfl, by have := O5.out; have e : (xs ++ txt s).length = xs.length + 1 + q.size := (by rw [List.length_append, txt_len, ← HQ.out, sb_len]; omega); rw [e]; exact this, B5⟩
  · obtain ⟨hq1, hq2⟩ : s.size ≤ 255 ∧ sb s = cut255 s := ⟨by omega, by unfold cut255; rw [List.take_of_length_le (by rw [sb_len]; omega)]⟩
    have HQ := Lib.hid hq2
    clear hq2
    go_enter Try.func49, Try.ntmps49
    go_wp2_with fail
    refine (refByte a n cap _ xs _ HA.out HL.out (by omega)).mono ?_
    rintro e w1 ⟨v1, rfl, hown1, B1⟩
    have hm : (s.size : Int) % 256 = (s.size : Int) := by omega
    rw [hm, len_snoc] at hown1
    have O1 := Lib.hid hown1
    have Z1 := B1.size
    clear hown1 hm
    go_wp2_with (at_builtin; refine Lib.wpList_append_own_string _ rfl _ _ 62 9 rfl w.heap.size 5 i0 Try.underlying62 Try.underlying9 hi hz0 hz1 hz2 _ (xs.length + 1) _ rfl O1.out s rfl ?c3 ?c4 ?c5 ?_)
    case c3 => have := HL.out; unfold maxLen; omega
    case c4 => have := HL.out; omega
    case c5 => exact B1.size
    intro v5 w5 hown' hgrow _
    have B5 := B1.grown hgrow B1.size (fun q hq => own_ge O1.out hq)
    rw [← bc_sb, HQ.out, ← bc_append, txt_app xs s _ (by rw [← HQ.out, sb_len])] at hown'
    have O5 := Lib.hid hown'
    clear hown' hgrow
    go_wp2
    go_ret
    exact ⟨_, rfl, by have := O5.out; have e : (xs ++ txt s).length = xs.length + 1 + s.size := (by rw [List.length_append, txt_len, ← HQ.out, sb_len]; omega); rw [e]; exact this, B5⟩

end Go.Proofs.Ytkhcgopehmndgaa

/- Sums of bytes. -/
namespace Go.Proofs.Ytkhcgopehmndgaa
open Go.RowKit
set_option linter.unusedVariables false

/-- the sum of bytes, from h on -/
def smF (h : Int) (xs : List Int) : Int := xs.foldl (fun h c => (h * 31 + c + 7) % 4294967296) h
def sm (xs : List Int) : Int := smF 17 xs
theorem smF_app (h : Int) (xs ys : List Int) : smF h (xs ++ ys) = smF (smF h xs) ys := by simp [smF]
theorem sm_snoc (xs : List Int) (c : Int) : sm (xs ++ [c]) = (sm xs * 31 + c + 7) % 4294967296 := by simp [sm, smF]
theorem smF_in (h : Int) (xs : List Int) (h0 : 0 ≤ h) (h1 : h < 4294967296) : 0 ≤ smF h xs ∧ smF h xs < 4294967296 := by
  induction xs generalizing h with
  | nil => exact ⟨h0, h1⟩
  | cons c t ih => exact ih _ (Int.emod_nonneg _ (by omega)) (Int.emod_lt_of_pos _ (by omega))
theorem sm_in (xs : List Int) : 0 ≤ sm xs ∧ sm xs < 4294967296 := smF_in 17 xs (by omega) (by omega)
theorem smF_inj (xs : List Int) (a b : Int) (a0 : 0 ≤ a) (a1 : a < 4294967296) (b0 : 0 ≤ b) (b1 : b < 4294967296) (h : smF a xs = smF b xs) : a = b := by
  induction xs generalizing a b with
  | nil => exact h
  | cons c t ih =>
    have := ih ((a * 31 + c + 7) % 4294967296) ((b * 31 + c + 7) % 4294967296) (Int.emod_nonneg _ (by omega)) (Int.emod_lt_of_pos _ (by omega)) (Int.emod_nonneg _ (by omega)) (Int.emod_lt_of_pos _ (by omega)) h
    omega
/-- one byte that is another one turns the sum -/
theorem sm_turn (xs ys : List Int) (c d : Int) (c0 : 0 ≤ c) (c1 : c < 256) (d0 : 0 ≤ d) (d1 : d < 256) (h : c ≠ d) : sm (xs ++ c :: ys) ≠ sm (xs ++ d :: ys) := by
  intro e
  have hx := sm_in xs
  unfold sm at *
  rw [smF_app, smF_app] at e
  have := smF_inj ys ((smF 17 xs * 31 + c + 7) % 4294967296) ((smF 17 xs * 31 + d + 7) % 4294967296) (Int.emod_nonneg _ (by omega)) (Int.emod_lt_of_pos _ (by omega)) (Int.emod_nonneg _ (by omega)) (Int.emod_lt_of_pos _ (by omega)) e
  omega

theorem take_snoc' (ys : List Int) (k : Nat) (x : Int) (h : ys[k]? = some x) : ys.take (k + 1) = ys.take k ++ [x] := by
  obtain ⟨hk, rfl⟩ := List.getElem?_eq_some_iff.1 h
  rw [List.take_succ_eq_append_getElem hk]
set_option maxRecDepth 100000 in
set_option maxHeartbeats 1000000 in
theorem frameSum (a : Option Addr) (n cap : Nat) (xs : List Int) (w : World) (h : BAt w a xs) (hl : xs.length = n) (hw : Wb xs) (hs : n ≤ 140737488355328) :
    Calls Try.prog 74 #[.slice a n cap] w fun e w' => e = .returned (.int .u32 (sm xs)) ∧ w = w' := by
  have HA := Lib.hid h
  have HL := Lib.hid hl
  have HW := Lib.hid hw
  clear h hl hw
  go_enter Try.func74, Try.ntmps74
  go_wp2_with fail
  go_loopw [3, 8] (fun v i wr => ∃ k : Nat, k ≤ n ∧ i = .int .i64 (k : Int) ∧ v = .int .u32 (sm (xs.take k)) ∧ wr = w) (fun _ i _ => n - (intOf i).toNat)
  case atStart => exact ⟨0, by omega, rfl, rfl, rfl⟩
  case round =>
    obtain ⟨k, hk, rfl, rfl, rfl⟩ := hrel
    have hsm := sm_in (xs.take k)
    by_cases hlt : k < n
    · obtain ⟨x, hx⟩ : ∃ x, xs[k]? = some x := ⟨_, List.getElem?_eq_getElem (by have := HL.out; omega)⟩
      rcases HA.out with h0 | ⟨b, o, rfl, hcell⟩
      · have := HL.out; rw [h0] at this; simp at this; omega
      · have hcx := hcell k x hx
        obtain ⟨hx0, hx1⟩ := HW.out x (List.mem_of_getElem? hx)
        have hsn := Lib.hid (by rw [take_snoc' xs k x hx, sm_snoc] : sm (xs.take (k + 1)) = (sm (xs.take k) * 31 + x + 7) % 4294967296)
        clear hcell hx
        generalize sm (xs.take k) = V at *
        go_wp2_with fail
        refine ⟨⟨k + 1, by omega, by go_num, ?_, trivial⟩, by simp [intOf]; omega⟩
        rw [hsn.out]
        exact congrArg (Value.int .u32) (by first | omega | (simp only [IntKind.wrap_u32]; omega))
    · obtain rfl : k = n := by omega
      have hT : xs.take xs.length = xs := List.take_length
      rw [HL.out] at hT
      have HT := Lib.hid hT
      clear hT
      go_wp2
      go_ret
      exact ⟨by rw [HT.out]; rfl, rfl⟩

set_option maxRecDepth 100000 in
set_option maxHeartbeats 1000000 in
theorem refSum (a : Option Addr) (n cap : Nat) (xs : List Int) (w : World) (h : BAt w a xs) (hl : xs.length = n) (hw : Wb xs) (hs : n ≤ 140737488355328) :
    Calls Try.prog 47 #[.slice a n cap] w fun e w' => e = .returned (.int .u32 (sm xs)) ∧ w = w' := by
  have HA := Lib.hid h
  have HL := Lib.hid hl
  have HW := Lib.hid hw
  clear h hl hw
  go_enter Try.func47, Try.ntmps47
  go_wp2_with fail
  go_loopw [3, 4] (fun v i wr => ∃ k : Nat, k ≤ n ∧ i = .int .i64 (k : Int) ∧ v = .int .u32 (sm (xs.take k)) ∧ wr = w) (fun _ i _ => n - (intOf i).toNat)
  case atStart => exact ⟨0, by omega, rfl, rfl, rfl⟩
  case round =>
    obtain ⟨k, hk, rfl, rfl, rfl⟩ := hrel
    have hsm := sm_in (xs.take k)
    by_cases hlt : k < n
    · obtain ⟨x, hx⟩ : ∃ x, xs[k]? = some x := ⟨_, List.getElem?_eq_getElem (by have := HL.out; omega)⟩
      rcases HA.out with h0 | ⟨b, o, rfl, hcell⟩
      · have := HL.out; rw [h0] at this; simp at this; omega
      · have hcx := hcell k x hx
        obtain ⟨hx0, hx1⟩ := HW.out x (List.mem_of_getElem? hx)
        have hsn := Lib.hid (by rw [take_snoc' xs k x hx, sm_snoc] : sm (xs.take (k + 1)) = (sm (xs.take k) * 31 + x + 7) % 4294967296)
        clear hcell hx
        generalize sm (xs.take k) = V at *
        go_wp2_with fail
        refine ⟨⟨k + 1, by omega, by go_num, ?_, trivial⟩, by simp [intOf]; omega⟩
        rw [hsn.out]
        exact congrArg (Value.int .u32) (by first | omega | (simp only [IntKind.wrap_u32]; omega))
    · obtain rfl : k = n := by omega
      have hT : xs.take xs.length = xs := List.take_length
      rw [HL.out] at hT
      have HT := Lib.hid hT
      clear hT
      go_wp2
      go_ret
      exact ⟨by rw [HT.out]; rfl, rfl⟩



end Go.Proofs.Ytkhcgopehmndgaa
