/- Several texts as one: PackM, PackW, PackR. -/
import Derived.Test.YtfdalmodnkkfiaaDoorBb
/- Numbers as eight bytes, and back. -/
namespace Go.Proofs.YtfdalmodnkkfiaaDoor
open Go.RowKit
set_option linter.unusedVariables false

/-- a number's eight bytes, the highest first -/
def be (n : Int) : List Int := [n / 2 ^ 56 % 256, n / 2 ^ 48 % 256, n / 2 ^ 40 % 256, n / 2 ^ 32 % 256, n / 2 ^ 24 % 256, n / 2 ^ 16 % 256, n / 2 ^ 8 % 256, n % 256]
theorem be_len (n : Int) : (be n).length = 8 := rfl
theorem be_wb (n : Int) : Wb (be n) := by
  intro m hm
  simp only [be, List.mem_cons, List.not_mem_nil, or_false] at hm
  rcases hm with rfl | rfl | rfl | rfl | rfl | rfl | rfl | rfl <;> exact ⟨Int.emod_nonneg _ (by omega), Int.emod_lt_of_pos _ (by omega)⟩
theorem be_snoc (n : Int) (k : Nat) (h : k < 8) : (be n).take (k + 1) = (be n).take k ++ [n / 2 ^ (56 - 8 * k) % 256] := by
  match k, h with
  | 0, _ => rfl
  | 1, _ => rfl
  | 2, _ => rfl
  | 3, _ => rfl
  | 4, _ => rfl
  | 5, _ => rfl
  | 6, _ => rfl
  | 7, _ => simp [be]
theorem be_byte (n : Int) (k : Nat) (h : k < 8) : n / 2 ^ (56 - 8 * (k : Int)).toNat % 256 = n / 2 ^ (56 - 8 * k) % 256 := by
  rw [show (56 - 8 * (k : Int)).toNat = 56 - 8 * k from by omega]

theorem w64_eq (n : Int) : wrap64 n = IntKind.i64.wrap n := by rw [IntKind.wrap_i64]; unfold wrap64; rfl
/-- bytes as a number, the highest first -/
def rdU (xs : List Int) : Int := xs.foldl (fun a c => a * 256 + c) 0
theorem rdU_snoc (xs : List Int) (c : Int) : rdU (xs ++ [c]) = rdU xs * 256 + c := by simp [rdU]

theorem or_low (A c : Nat) (h : A % 256 = 0) (hc : c < 256) : A ||| c = A + c := by
  obtain ⟨q, hq⟩ : ∃ q, A = q * 256 := ⟨A / 256, by omega⟩
  subst hq
  have := Nat.two_pow_add_eq_or_of_lt (i := 8) (b := c) (by omega) q
  rw [show q * 256 = 2 ^ 8 * q from by omega]
  exact this.symm

theorem ofInt_toNat (x : Int) : (BitVec.ofInt 64 x).toNat = (x % 18446744073709551616).toNat := by
  rw [BitVec.toNat_ofInt]; rfl

theorem or_i64 (a c : Int) (h0 : 0 ≤ c) (h1 : c < 256) : bits .or .i64 (IntKind.i64.wrap (IntKind.i64.wrap a * 256)) c = IntKind.i64.wrap (a * 256 + c) := by
  have key : (BitVec.ofInt 64 (IntKind.i64.wrap (IntKind.i64.wrap a * 256)) ||| BitVec.ofInt 64 c).toNat = ((a * 256) % 18446744073709551616).toNat + c.toNat := by
    rw [BitVec.toNat_or, ofInt_toNat, ofInt_toNat, IntKind.wrap_i64, IntKind.wrap_i64]
    rw [show ((((a + 9223372036854775808) % 18446744073709551616 - 9223372036854775808) * 256 + 9223372036854775808) % 18446744073709551616 - 9223372036854775808) % 18446744073709551616 = (a * 256) % 18446744073709551616 from by omega]
    rw [show (c % 18446744073709551616).toNat = c.toNat from by omega]
    exact or_low _ _ (by omega) (by omega)
  show IntKind.i64.wrap ((BitVec.ofInt 64 (IntKind.i64.wrap (IntKind.i64.wrap a * 256)) ||| BitVec.ofInt 64 c).toNat : Nat) = _
  rw [key, IntKind.wrap_i64, IntKind.wrap_i64]
  omega

theorem or_u64 (a c : Int) (h0 : 0 ≤ c) (h1 : c < 256) : bits .or .u64 (IntKind.u64.wrap (IntKind.u64.wrap a * 256)) c = IntKind.u64.wrap (a * 256 + c) := by
  have key : (BitVec.ofInt 64 (IntKind.u64.wrap (IntKind.u64.wrap a * 256)) ||| BitVec.ofInt 64 c).toNat = ((a * 256) % 18446744073709551616).toNat + c.toNat := by
    rw [BitVec.toNat_or, ofInt_toNat, ofInt_toNat, IntKind.wrap_u64, IntKind.wrap_u64]
    rw [show (a % 18446744073709551616 * 256 % 18446744073709551616) % 18446744073709551616 = (a * 256) % 18446744073709551616 from by omega]
    rw [show (c % 18446744073709551616).toNat = c.toNat from by omega]
    exact or_low _ _ (by omega) (by omega)
  show IntKind.u64.wrap ((BitVec.ofInt 64 (IntKind.u64.wrap (IntKind.u64.wrap a * 256)) ||| BitVec.ofInt 64 c).toNat : Nat) = _
  rw [key, IntKind.wrap_u64, IntKind.wrap_u64]
  omega

/-- the number that eight bytes say -/
def rd (xs : List Int) : Int := IntKind.i64.wrap (rdU xs)
theorem rd_of_u64 (xs : List Int) : IntKind.i64.wrap (IntKind.u64.wrap (rdU xs)) = rd xs := by
  unfold rd; rw [IntKind.wrap_u64, IntKind.wrap_i64, IntKind.wrap_i64]; omega

theorem rdU_be (n : Int) : rdU (be n) = n % 18446744073709551616 := by
  simp only [rdU, be, List.foldl]
  omega
theorem rd_be (n : Int) (h0 : -9223372036854775808 ≤ n) (h1 : n ≤ 9223372036854775807) : rd (be n) = n := by
  unfold rd; rw [rdU_be, IntKind.wrap_i64]; omega

end Go.Proofs.YtfdalmodnkkfiaaDoor

/- Package pack's walks: values are put behind bytes. -/
namespace Go.Proofs.YtfdalmodnkkfiaaDoor
open Go.RowKit
set_option linter.unusedVariables false

theorem info_u8 : (Tryd.prog.info? 5).map (fun i => (i.zero, i.size, i.bytes)) = some (some (.int .u8 0), 1, 1) := by kernel_rfl

/-- a row of bytes in new memory -/
def Row (xs : List Int) (w : World) (e : Ending) (w' : World) : Prop := ∃ v, e = .returned v ∧ w'.ownsRow w.heap.size 5 1 v xs.length (bc xs) ∧ Below w.heap.size w w'

theorem bat_one (w : World) (x : Int) : BAt (w.alloc (.cells #[.int .u8 x] 5)) (some ⟨w.heap.size, 0, none⟩) [x] := by
  refine .inr ⟨_, _, rfl, fun i n hi => ?_⟩
  match i, hi with
  | 0, hi => simp at hi; subst hi; exact blk_cell (blk_new w #[.int .u8 x] 5) 0
  | i + 1, hi => simp at hi
theorem len_snoc (xs : List Int) (x : Int) : (xs ++ [x]).length = xs.length + 1 := by simp

set_option maxRecDepth 100000 in
set_option maxHeartbeats 400000 in
theorem packLonger (a : Option Addr) (n cap : Nat) (m : Int) (xs : List Int) (w : World) (h : BAt w a xs) (hl : xs.length = n) (hm : 0 ≤ m) (hs : n + m ≤ 140737488355328) :
    Calls Tryd.prog 44 #[.slice a n cap, .int .i64 m] w (Row xs w) := by
  have HA := Lib.hid h
  have HL := Lib.hid hl
  clear h hl
  obtain ⟨i0, hi, hz0, hz1, hz2⟩ := info_parts info_u8
  obtain ⟨X, hX, hmk⟩ : ∃ X : Array Value, X.size = (n + m).toNat ∧ ∀ w : World, (Instr.makeSlice 34 (.int .i64 0) (.int .i64 ((n : Int) + m))).run Tryd.prog w = .ok (.slice (some ⟨w.heap.size, 0, none⟩) 0 (n + m).toNat) (w.alloc (.cells X 5)) :=
    ⟨madeCells (Value.int .u8 0).cells ((n + m).toNat * 1), by rw [size_madeCells]; omega, fun w => by
      have := run_make (P := Tryd.prog) w 34 5 i0 (.int .u8 0) Tryd.underlying34 hi hz0 .i64 .i64 0 (n + m) (by omega) (by omega) (by rw [hz2]; omega) (by omega)
      rw [hz1] at this
      exact this⟩
  have HX := Lib.hid hX
  clear hX
  obtain ⟨c, hc⟩ : ∃ c, (n + m).toNat = c := ⟨_, rfl⟩
  have hcn : n ≤ c := by omega
  have hcm : c ≤ 140737488355328 := by omega
  rw [hc] at HX hmk
  clear hc
  have O1 : (w.alloc (.cells X 5)).ownsRow w.heap.size 5 1 (.slice (some ⟨w.heap.size, 0, none⟩) 0 c) 0 (bc []) := World.ownsRow_made w X c (Nat.le_refl _) (by unfold maxLen; omega) (by rw [HX.out]; omega)
  have B1 : Below w.heap.size w (w.alloc (.cells X 5)) := (Below.refl _ _).alloc (Nat.le_refl _) _
  have A1 := HA.out.ext B1
  go_enter Tryd.func44, Tryd.ntmps44
  go_wp2_with (at_builtin; refine wpList_append_bytes _ rfl _ _ 34 rfl (w.heap.size) 5 i0 Tryd.underlying34 hi hz0 hz1 hz2 (.slice (some ⟨w.heap.size, 0, none⟩) 0 c) (0) ([]) rfl (O1) (a) (n) (cap) (xs) rfl (A1) (HL.out) ?c3 ?c4 ?c5 ?_)
  case c3 => unfold maxLen; omega
  case c4 => omega
  case c5 => exact B1.size
  intro v' w2 hown' hgrow
  have B2 := B1.grown hgrow B1.size (fun q hq => own_ge O1 hq)
  go_wp2
  go_ret
  exact ⟨_, rfl, by have e := HL.out; simpa [e] using hown', B2⟩

set_option maxRecDepth 100000 in
set_option maxHeartbeats 1000000 in
theorem packInt (a : Option Addr) (n cap : Nat) (z : Int) (xs : List Int) (w : World) (h : BAt w a xs) (hl : xs.length = n) (hs : n + 8 ≤ 140737488355328) :
    Calls Tryd.prog 23 #[.slice a n cap, .int .i64 z] w (Row (xs ++ be z) w) := by
  have HA := Lib.hid h
  have HL := Lib.hid hl
  clear h hl
  obtain ⟨i0, hi, hz0, hz1, hz2⟩ := info_parts info_u8
  go_enter Tryd.func23, Tryd.ntmps23
  go_wp2_with fail
  refine (packLonger a n cap 8 xs _ HA.out HL.out (by omega) (by omega)).mono ?_
  rintro e w1 ⟨v1, rfl, hown1, B1⟩
  have O1 := Lib.hid hown1
  clear hown1
  go_wp2_with fail
  go_loopw [5, 6] (fun v i wr => ∃ k : Nat, k ≤ 8 ∧ i = .int .i64 (56 - 8 * (k : Int)) ∧ wr.ownsRow w.heap.size 5 1 v (n + k) (bc (xs ++ (be z).take k)) ∧ Below w.heap.size w wr) (fun _ i _ => (intOf i + 8).toNat)
  case atStart => exact ⟨0, by omega, rfl, by have := O1.out; rw [HL.out] at this; simpa using this, B1⟩
  case round =>
    obtain ⟨w2, rfl⟩ : ∃ y : World, y = wr := ⟨_, rfl⟩
    obtain ⟨k, hk, rfl, hown, B2⟩ := hrel
    have O2 := Lib.hid hown
    have Z2 := B2.size
    clear hown
    by_cases hlt : k < 8
    · have hb := be_byte z k hlt
      have hsn := Lib.hid (be_snoc z k hlt)
      obtain ⟨I, hI⟩ : ∃ I, 56 - 8 * (k : Int) = I := ⟨_, rfl⟩
      have hI0 : 0 ≤ I := by omega
      have hI1 : I ≤ 56 := by omega
      rw [hI] at hb ⊢
      have HI := Lib.hid hI
      clear hI
      obtain ⟨y, hy⟩ : ∃ y, z / 2 ^ (56 - 8 * k) % 256 = y := ⟨_, rfl⟩
      rw [hy] at hb hsn
      clear hy
      have A3 := bat_one w2 y
      have O3 := O2.out.alloc (.cells #[.int .u8 y] 5)
      have B3 := B2.alloc Z2 (.cells #[.int .u8 y] 5)
      go_wp2_with (at_builtin; refine wpList_append_bytes _ rfl _ _ 34 rfl (w.heap.size) 5 i0 Tryd.underlying34 hi hz0 hz1 hz2 _ (n + k) (xs ++ (be z).take k) rfl (O3) (some ⟨w2.heap.size, 0, none⟩) (1) (1) ([y]) rfl (A3) (rfl) ?c3 ?c4 ?c5 ?_)
      case c3 => unfold maxLen; omega
      case c4 => omega
      case c5 => simp; omega
      intro v' w4 hown' hgrow
      have B4 := B3.grown hgrow (by simp; omega) (fun q hq => own_ge O3 hq)
      have O4 := Lib.hid hown'
      clear hown' hgrow A3 O3 hb
      go_wp2
      go_roundw
      case rel => exact ⟨k + 1, by omega, by have := HI.out; congr 1; omega, by have := O4.out; rw [← hsn.out] at this; exact this, B4⟩
      case measure => simp [intOf]; omega
    · obtain rfl : k = 8 := by omega
      go_wp2
      go_ret
      exact ⟨_, rfl, by have := O2.out; rw [show (be z).take 8 = be z from rfl] at this; simpa [be_len, HL.out] using this, B2⟩

set_option maxRecDepth 100000 in
set_option maxHeartbeats 1000000 in
theorem packByte (a : Option Addr) (n cap : Nat) (z : Int) (xs : List Int) (w : World) (h : BAt w a xs) (hl : xs.length = n) (hs : n + 1 ≤ 140737488355328) :
    Calls Tryd.prog 21 #[.slice a n cap, .int .i64 z] w (Row (xs ++ [z % 256]) w) := by
  have HA := Lib.hid h
  have HL := Lib.hid hl
  clear h hl
  obtain ⟨i0, hi, hz0, hz1, hz2⟩ := info_parts info_u8
  go_enter Tryd.func21, Tryd.ntmps21
  go_wp2_with fail
  refine (packLonger a n cap 1 xs _ HA.out HL.out (by omega) (by omega)).mono ?_
  rintro e w1 ⟨v1, rfl, hown1, B1⟩
  have O1 := Lib.hid hown1
  have Z1 := B1.size
  clear hown1
  have A3 := bat_one w1 (z % 256)
  have O3 := O1.out.alloc (.cells #[.int .u8 (z % 256)] 5)
  have B3 := B1.alloc Z1 (.cells #[.int .u8 (z % 256)] 5)
  go_wp2_with (at_builtin; refine wpList_append_bytes _ rfl _ _ 34 rfl (w.heap.size) 5 i0 Tryd.underlying34 hi hz0 hz1 hz2 _ (xs.length) (xs) rfl (O3) (some ⟨w1.heap.size, 0, none⟩) (1) (1) ([z % 256]) rfl (A3) (rfl) ?c3 ?c4 ?c5 ?_)
  case c3 => have := HL.out; unfold maxLen; omega
  case c4 => have := HL.out; omega
  case c5 => simp; omega
  intro v' w4 hown' hgrow
  have B4 := B3.grown hgrow (by simp; omega) (fun q hq => own_ge O3 hq)
  have O4 := Lib.hid hown'
  clear hown' hgrow A3 O3
  go_wp2
  go_ret
  exact ⟨_, rfl, by have := O4.out; rw [len_snoc]; exact this, B4⟩

/-- of a text the first 255 bytes -/
def cut255 (s : ByteArray) : List Int := (sb s).take 255
theorem cut255_len (s : ByteArray) : (cut255 s).length = min s.size 255 := by simp [cut255, sb_len, Nat.min_comm]
theorem sb_take (s : ByteArray) (k : Nat) : sb (s.extract 0 k) = (sb s).take k := by
  simp [sb, ByteArray.data_extract, List.map_take]
/-- a text behind bytes -/
def txt (s : ByteArray) : List Int := ((cut255 s).length : Int) :: cut255 s
theorem txt_len (s : ByteArray) : (txt s).length = (cut255 s).length + 1 := by simp [txt]
theorem txt_wb (s : ByteArray) : Wb (txt s) := by
  intro n hn
  simp only [txt, List.mem_cons] at hn
  rcases hn with rfl | hn
  · have := cut255_len s; omega
  · exact (sb_wb s).take 255 n hn
theorem txt_app (xs : List Int) (s : ByteArray) (k : Int) (h : k = ((cut255 s).length : Int)) : xs ++ [k] ++ cut255 s = xs ++ txt s := by subst h; simp [txt]

set_option maxRecDepth 100000 in
set_option maxHeartbeats 1000000 in
theorem packText (a : Option Addr) (n cap : Nat) (s : ByteArray) (xs : List Int) (w : World) (h : BAt w a xs) (hl : xs.length = n) (hs : n + 256 ≤ 140737488355328) (hsz : s.size ≤ maxLen) :
    Calls Tryd.prog 66 #[.slice a n cap, .string s] w (Row (xs ++ txt s) w) := by
  have HA := Lib.hid h
  have HL := Lib.hid hl
  unfold maxLen at hsz
  clear h hl
  obtain ⟨i0, hi, hz0, hz1, hz2⟩ := info_parts info_u8
  by_cases hg : 255 < s.size
  · obtain ⟨q, hq, hq1, hq2⟩ : ∃ q, s.extract 0 255 = q ∧ q.size ≤ 255 ∧ sb q = cut255 s := ⟨_, rfl, by simp; omega, sb_take s 255⟩
    have HQ := Lib.hid hq2
    clear hq2
    go_enter Tryd.func66, Tryd.ntmps66
    go_wp2_with fail
    refine (packLonger a n cap _ xs _ HA.out HL.out (by omega) (by omega)).mono ?_
    rintro e w1 ⟨v1, rfl, hown1, B1⟩
    have O1 := Lib.hid hown1
    have Z1 := B1.size
    clear hown1
    have A3 := bat_one w1 (q.size : Int)
    have O3 := O1.out.alloc (.cells #[.int .u8 (q.size : Int)] 5)
    have B3 := B1.alloc Z1 (.cells #[.int .u8 (q.size : Int)] 5)
    have hm : (q.size : Int) % 256 = (q.size : Int) := by omega
    go_wp2_with (at_builtin; refine wpList_append_bytes _ rfl _ _ 34 rfl (w.heap.size) 5 i0 Tryd.underlying34 hi hz0 hz1 hz2 _ (xs.length) (xs) rfl (O3) (some ⟨w1.heap.size, 0, none⟩) (1) (1) ([(q.size : Int)]) rfl (A3) (rfl) ?c3 ?c4 ?c5 ?_)
    case c3 => have := HL.out; unfold maxLen; omega
    case c4 => have := HL.out; omega
    case c5 => simp; omega
    intro v' w4 hown' hgrow
    have B4 := B3.grown hgrow (by simp; omega) (fun q hq => own_ge O3 hq)
    have O4 := Lib.hid hown'
    clear hown' hgrow A3 O3
    go_wp2_with (at_builtin; refine Lib.wpList_append_own_string _ rfl _ _ 34 9 rfl w.heap.size 5 i0 Tryd.underlying34 Tryd.underlying9 hi hz0 hz1 hz2 v' (xs.length + 1) _ rfl O4.out q rfl ?c3 ?c4 ?c5 ?_)
    case c3 => have := HL.out; unfold maxLen; omega
    case c4 => have := HL.out; omega
    case c5 => exact B4.size
    intro v5 w5 hown' hgrow _
    have B5 := B4.grown hgrow B4.size (fun q hq => own_ge O4.out hq)
    rw [← bc_sb, HQ.out, ← bc_append, txt_app xs s _ (by rw [← HQ.out, sb_len])] at hown'
    have O5 := Lib.hid hown'
    clear hown' hgrow
    go_wp2
    go_ret
    exact ⟨_, rfl, by have := O5.out; have e : (xs ++ txt s).length = xs.length + 1 + q.size := (by rw [List.length_append, txt_len, ← HQ.out, sb_len]; omega); rw [e]; exact this, B5⟩
  · obtain ⟨hq1, hq2⟩ : s.size ≤ 255 ∧ sb s = cut255 s := ⟨by omega, by unfold cut255; rw [List.take_of_length_le (by rw [sb_len]; omega)]⟩
    have HQ := Lib.hid hq2
    clear hq2
    go_enter Tryd.func66, Tryd.ntmps66
    go_wp2_with fail
    refine (packLonger a n cap _ xs _ HA.out HL.out (by omega) (by omega)).mono ?_
    rintro e w1 ⟨v1, rfl, hown1, B1⟩
    have O1 := Lib.hid hown1
    have Z1 := B1.size
    clear hown1
    have A3 := bat_one w1 (s.size : Int)
    have O3 := O1.out.alloc (.cells #[.int .u8 (s.size : Int)] 5)
    have B3 := B1.alloc Z1 (.cells #[.int .u8 (s.size : Int)] 5)
    have hm : (s.size : Int) % 256 = (s.size : Int) := by omega
    go_wp2_with (at_builtin; refine wpList_append_bytes _ rfl _ _ 34 rfl (w.heap.size) 5 i0 Tryd.underlying34 hi hz0 hz1 hz2 _ (xs.length) (xs) rfl (O3) (some ⟨w1.heap.size, 0, none⟩) (1) (1) ([(s.size : Int)]) rfl (A3) (rfl) ?c3 ?c4 ?c5 ?_)
    case c3 => have := HL.out; unfold maxLen; omega
    case c4 => have := HL.out; omega
    case c5 => simp; omega
    intro v' w4 hown' hgrow
    have B4 := B3.grown hgrow (by simp; omega) (fun q hq => own_ge O3 hq)
    have O4 := Lib.hid hown'
    clear hown' hgrow A3 O3
    go_wp2_with (at_builtin; refine Lib.wpList_append_own_string _ rfl _ _ 34 9 rfl w.heap.size 5 i0 Tryd.underlying34 Tryd.underlying9 hi hz0 hz1 hz2 v' (xs.length + 1) _ rfl O4.out s rfl ?c3 ?c4 ?c5 ?_)
    case c3 => have := HL.out; unfold maxLen; omega
    case c4 => have := HL.out; omega
    case c5 => exact B4.size
    intro v5 w5 hown' hgrow _
    have B5 := B4.grown hgrow B4.size (fun q hq => own_ge O4.out hq)
    rw [← bc_sb, HQ.out, ← bc_append, txt_app xs s _ (by rw [← HQ.out, sb_len])] at hown'
    have O5 := Lib.hid hown'
    clear hown' hgrow
    go_wp2
    go_ret
    exact ⟨_, rfl, by have := O5.out; have e : (xs ++ txt s).length = xs.length + 1 + s.size := (by rw [List.length_append, txt_len, ← HQ.out, sb_len]; omega); rw [e]; exact this, B5⟩



end Go.Proofs.YtfdalmodnkkfiaaDoor

/- Readers of bytes: package pack's, and the document's own. -/
namespace Go.Proofs.YtfdalmodnkkfiaaDoor
open Go.RowKit
set_option linter.unusedVariables false

/-- a reader: what is left, whether it is bad -/
abbrev Rs := List Int × Bool
def tk (s : Rs) (n : Nat) : List Int × Rs := if s.2 = true ∨ s.1.length < n then ([], (s.1, true)) else (s.1.take n, (s.1.drop n, false))
theorem tk_bad {s : Rs} {n : Nat} (h : s.2 = true ∨ s.1.length < n) : tk s n = ([], (s.1, true)) := by simp [tk, h]
theorem tk_ok {s : Rs} {n : Nat} (h : s.2 = false) (k : n ≤ s.1.length) : tk s n = (s.1.take n, (s.1.drop n, false)) := by
  unfold tk; rw [if_neg (by simp [h]; omega)]
theorem tk_wb {s : Rs} (n : Nat) (h : Wb s.1) : Wb (tk s n).1 ∧ Wb (tk s n).2.1 := by
  unfold tk; split
  · exact ⟨Wb.nil, h⟩
  · exact ⟨h.take n, h.drop n⟩
theorem tk_len (s : Rs) (n : Nat) : (tk s n).1.length = 0 ∨ (tk s n).1.length = n := by
  unfold tk; split
  · exact .inl rfl
  · rename_i h; right; simp only [List.length_take]; omega
theorem tk_le (s : Rs) (n : Nat) : (tk s n).2.1.length ≤ s.1.length := by
  unfold tk; split
  · exact Nat.le_refl _
  · simp
def tInt (s : Rs) : Int × Rs := (rd (tk s 8).1, (tk s 8).2)
def tByte (s : Rs) : Int × Rs := ((tk s 1).1.headD 0, (tk s 1).2)
theorem tByte_in (s : Rs) (h : Wb s.1) : 0 ≤ (tByte s).1 ∧ (tByte s).1 < 256 := by
  have h1 := (tk_wb 1 h).1
  unfold tByte
  cases e : (tk s 1).1 with
  | nil => simp
  | cons x xs => rw [e] at h1; exact h1 x (by simp)
def tText (s : Rs) : ByteArray × Rs := (strOfNums (tk (tByte s).2 (tByte s).1.toNat).1, (tk (tByte s).2 (tByte s).1.toNat).2)
def dn' (s : Rs) : Bool := !s.2 && decide (s.1.length = 0)

/-- the bytes' block, where there is one, is one of bytes, and not the reader's -/
def UT (w : World) (rb : Nat) (a : Option Addr) : Prop := ∀ b o, a = some ⟨b, o, none⟩ → b ≠ rb ∧ ∃ cur, w.heap[b]? = some (.cells cur 5 (0, 0))
theorem UT.ext {w w' : World} {rb : Nat} {a : Option Addr} (h : UT w rb a) (hb : Below w.heap.size w w') : UT w' rb a := fun b o e => by
  obtain ⟨h1, cur, h2⟩ := h b o e
  exact ⟨h1, cur, blk_ext hb h2⟩
theorem UT.kept {w w' : World} {rb : Nat} {a : Option Addr} (h : UT w rb a) (hk : Kept rb w w') : UT w' rb a := fun b o e => by
  obtain ⟨h1, cur, h2⟩ := h b o e
  exact ⟨h1, cur, (hk.block b h1).trans h2⟩
/-- at block rb a reader of type T lies -/
def RdAt (T : TypeId) (w : World) (rb : Nat) (s : Rs) : Prop := ∃ (a : Option Addr) (cap : Nat), w.heap[rb]? = some (.cells #[.slice a s.1.length cap, .bool s.2] T (0, 0)) ∧ s.1.length ≤ cap ∧ cap ≤ maxLen ∧ BAt w a s.1 ∧ (Wb s.1 ∧ UT w rb a) ∧ ((a = none ∧ cap = 0) ∨ ∃ b o, a = some ⟨b, o, none⟩)
theorem RdAt.lt {T : TypeId} {w : World} {rb : Nat} {s : Rs} (h : RdAt T w rb s) : rb < w.heap.size := by
  obtain ⟨a, cap, h1, _⟩ := h; exact blk_lt h1
theorem RdAt.wb {T : TypeId} {w : World} {rb : Nat} {s : Rs} (h : RdAt T w rb s) : Wb s.1 := by
  obtain ⟨a, cap, h1, h2, h3, h4, h5, _⟩ := h; exact h5.1
theorem RdAt.ext {T : TypeId} {w w' : World} {rb : Nat} {s : Rs} (h : RdAt T w rb s) (hb : Below w.heap.size w w') : RdAt T w' rb s := by
  obtain ⟨a, cap, h1, h2, h3, h4, h5, h6⟩ := h
  exact ⟨a, cap, blk_ext hb h1, h2, h3, h4.ext hb, ⟨h5.1, h5.2.ext hb⟩, h6⟩
/-- bytes stay where a reader is written: its block is none of theirs -/
theorem BAt.kept {T : TypeId} {w w' : World} {rb : Nat} {s : Rs} {a : Option Addr} {xs : List Int} (h : BAt w a xs) (hr : RdAt T w rb s) (hk : Kept rb w w') : BAt w' a xs := by
  obtain ⟨a', cap', h1, _⟩ := hr
  rcases h with h | ⟨b, o, e, h⟩
  · exact .inl h
  · refine .inr ⟨b, o, e, fun i n hi => ?_⟩
    have hc := h i n hi
    refine hk.cell ?_ hc
    rintro rfl
    rw [blk_cell h1] at hc
    match o + i, hc with
    | 0, hc => simp at hc
    | 1, hc => simp at hc
    | k + 2, hc => simp at hc
theorem RdAt.ne {T T' : TypeId} {w : World} {rb rb' : Nat} {s s' : Rs} (h : RdAt T w rb s) (k : RdAt T' w rb' s') (hT : T ≠ T') : rb ≠ rb' := by
  rintro rfl
  obtain ⟨a, cap, h1, _⟩ := h
  obtain ⟨a', cap', k1, _⟩ := k
  rw [h1] at k1
  simp at k1
  exact hT k1.2

def Took (T : TypeId) (rb : Nat) (s : Rs) (n : Nat) (w : World) (e : Ending) (w' : World) : Prop :=
  ∃ (a : Option Addr) (c : Nat), e = .returned (.slice a (tk s n).1.length c) ∧ BAt w' a (tk s n).1 ∧ RdAt T w' rb (tk s n).2 ∧ Kept rb w w'
theorem took_bad {T : TypeId} {rb : Nat} {s : Rs} {n : Nat} {w : World} (h : RdAt T w rb s) (hb : s.2 = true ∨ s.1.length < n) : Took T rb s n w (.returned (.slice none 0 0)) (w.setCell ⟨rb, 1, none⟩ (.bool true)) := by
  have hr := h
  obtain ⟨a, cap, h1, h2, h3, h4, h5, h6⟩ := h
  have hk : Kept rb w (w.setCell ⟨rb, 1, none⟩ (.bool true)) := (Kept.refl _ _).setCell _ _
  unfold Took
  rw [tk_bad hb]
  exact ⟨none, 0, rfl, .inl rfl, ⟨a, cap, blk_set h1 (by simp), h2, h3, h4.kept hr hk, ⟨h5.1, h5.2.kept hk⟩, h6⟩, hk⟩
theorem took_ok {T : TypeId} {rb : Nat} {s : Rs} {n : Nat} {w : World} {a a' : Option Addr} {cap c c' : Nat} (h1 : w.heap[rb]? = some (.cells #[.slice a s.1.length cap, .bool s.2] T (0, 0))) (h2 : s.1.length ≤ cap) (h3 : cap ≤ maxLen) (h4 : BAt w a s.1) (h5 : Wb s.1 ∧ UT w rb a) (h6 : (a = none ∧ cap = 0) ∨ ∃ b o, a = some ⟨b, o, none⟩)
    (hb : s.2 = false) (hn : n ≤ s.1.length) (hc : c' = cap - n) (ha : (a' = none ∧ a = none) ∨ (∃ b o, a = some ⟨b, o, none⟩ ∧ a' = some ⟨b, o + n, none⟩) ∨ ∃ b o, a = some ⟨b, o, none⟩ ∧ a' = some ⟨b, o, none⟩ ∧ n = s.1.length) :
    Took T rb s n w (.returned (.slice a n c)) (w.setCell ⟨rb, 0, none⟩ (.slice a' (s.1.length - n) c')) := by
  have hr : RdAt T w rb s := ⟨a, cap, h1, h2, h3, h4, h5, h6⟩
  have hk : Kept rb w (w.setCell ⟨rb, 0, none⟩ (.slice a' (s.1.length - n) c')) := (Kept.refl _ _).setCell _ _
  unfold Took
  rw [tk_ok hb hn]
  have e1 : (s.1.take n).length = n := by simp; omega
  have e2 : (s.1.drop n).length = s.1.length - n := by simp
  refine ⟨a, c, by rw [e1], (h4.take n).kept hr hk, ⟨a', c', ?_, by rw [e2]; omega, by omega, ?_, ⟨h5.1.drop n, ?_⟩, ?_⟩, hk⟩
  · have := blk_set (n := 0) (u := .slice a' (s.1.length - n) c') h1 (by simp; rfl)
    rw [e2, ← hb]; exact this
  · rcases ha with ⟨rfl, rfl⟩ | ⟨b, o, rfl, rfl⟩ | ⟨b, o, rfl, rfl, he⟩
    · rcases h4 with h | ⟨b, o, e, _⟩
      · left; simp [h]
      · cases e
    · exact (h4.drop n).kept hr hk
    · left; simp [he]
  · rcases ha with ⟨rfl, rfl⟩ | ⟨b, o, rfl, rfl⟩ | ⟨b, o, rfl, rfl, he⟩
    · intro b o e; cases e
    · have h9 := h5.2.kept hk
      intro b' o' e
      obtain ⟨rfl, -⟩ : b = b' ∧ o + n = o' := (by simpa using e)
      exact h9 b o rfl
    · exact h5.2.kept hk
  · rcases ha with ⟨rfl, rfl⟩ | ⟨b, o, rfl, rfl⟩ | ⟨b, o, rfl, rfl, he⟩
    · left; refine ⟨rfl, ?_⟩
      rcases h6 with ⟨_, h⟩ | ⟨b, o, e⟩
      · omega
      · cases e
    · exact .inr ⟨_, _, rfl⟩
    · exact .inr ⟨_, _, rfl⟩

set_option maxRecDepth 100000 in
set_option maxHeartbeats 1000000 in
theorem packTake (rb : Nat) (s : Rs) (m : Int) (w : World) (h : RdAt 107 w rb s) (hm : 0 ≤ m) :
    Calls Tryd.prog 67 #[.pointer (some ⟨rb, 0, none⟩), .int .i64 m] w (Took 107 rb s m.toNat w) := by
  obtain ⟨xs, bad⟩ := s
  obtain ⟨n, rfl⟩ := Int.eq_ofNat_of_zero_le hm
  rw [Int.toNat_natCast]
  have hr := Lib.hid h
  obtain ⟨a, cap, h1, h2, h3, h4, h5, h6⟩ := h
  simp only [] at h1 h2 h4 h5
  have hc := blk_cell h1
  have hf := blk_free h1
  have hl := blk_lt h1
  have H1 := Lib.hid h1
  have H3 := Lib.hid h3
  have H4 := Lib.hid h4
  have H5 := Lib.hid h5
  have H6 := Lib.hid h6
  unfold maxLen at h3
  clear h1 h4 h5 h6
  cases bad
  case true =>
    go_enter Tryd.func67, Tryd.ntmps67
    go_wp2
    go_ret
    exact took_bad hr.out (.inl rfl)
  case false =>
    by_cases hlt : xs.length < n
    · go_enter Tryd.func67, Tryd.ntmps67
      go_wp2
      go_ret
      exact took_bad hr.out (.inr hlt)
    · have hd : decide ((xs.length : Int) < n) = false := by simp; omega
      have hle : n ≤ xs.length := by omega
      have hle2 : n ≤ cap := by omega
      rcases H6.out with ⟨rfl, hc0⟩ | ⟨b, o, rfl⟩
      · have hx0 : xs.length = 0 := by omega
        have hn0 : n = 0 := by omega
        subst hc0
        subst hn0
        have HX := Lib.hid hx0
        rw [hx0] at hc
        clear hx0
        go_enter Tryd.func67, Tryd.ntmps67
        go_wp2
        go_ret
        have hX := HX.out
        have := took_ok (s := (xs, false)) (n := 0) (a := none) (cap := 0) (c := 0) (c' := 0) (a' := none) H1.out (Nat.le_of_eq hX) H3.out H4.out H5.out (.inl ⟨rfl, rfl⟩) rfl (Nat.zero_le _) rfl (.inl ⟨rfl, rfl⟩)
        simpa [hX] using this
      · by_cases hcn : cap = n
        · subst hcn
          have hxn : xs.length = cap := by omega
          have HX := Lib.hid hxn
          rw [hxn] at hc
          clear hxn
          go_enter Tryd.func67, Tryd.ntmps67
          go_wp2
          go_ret
          have hX := HX.out
          have := took_ok (s := (xs, false)) (n := cap) (a := some ⟨b, o, none⟩) (cap := cap) (c := cap) (c' := 0) (a' := some ⟨b, o, none⟩) H1.out (Nat.le_of_eq hX) H3.out H4.out H5.out (.inr ⟨b, o, rfl⟩) rfl (Nat.le_of_eq hX.symm) (by omega) (.inr (.inr ⟨b, o, rfl, rfl, hX.symm⟩))
          simpa [hX] using this
        · go_enter Tryd.func67, Tryd.ntmps67
          go_wp2
          go_ret
          exact took_ok H1.out h2 H3.out H4.out H5.out H6.out rfl hle rfl (.inr (.inl ⟨b, o, rfl, rfl⟩))

/-- what a reader answers, and what is left -/
def Got (T : TypeId) (rb : Nat) (v : Value) (s : Rs) (w : World) (e : Ending) (w' : World) : Prop := e = .returned v ∧ RdAt T w' rb s ∧ Kept rb w w'
theorem take_snoc (ys : List Int) (k : Nat) (x : Int) (h : ys[k]? = some x) : ys.take (k + 1) = ys.take k ++ [x] := by
  obtain ⟨hk, rfl⟩ := List.getElem?_eq_some_iff.1 h
  rw [List.take_succ_eq_append_getElem hk]
theorem wrap_i64_in (x : Int) : -9223372036854775808 ≤ IntKind.i64.wrap x ∧ IntKind.i64.wrap x ≤ 9223372036854775807 := by rw [IntKind.wrap_i64]; omega
theorem wrap_u64_in (x : Int) : 0 ≤ IntKind.u64.wrap x ∧ IntKind.u64.wrap x ≤ 18446744073709551615 := by rw [IntKind.wrap_u64]; omega

set_option maxRecDepth 100000 in
set_option maxHeartbeats 1000000 in
theorem packRInt (rb : Nat) (s : Rs) (w : World) (h : RdAt 107 w rb s) :
    Calls Tryd.prog 50 #[.pointer (some ⟨rb, 0, none⟩)] w (Got 107 rb (.int .i64 (tInt s).1) (tInt s).2 w) := by
  have H := Lib.hid h
  have hwb := (tk_wb 8 h.wb).1
  clear h
  go_enter Tryd.func50, Tryd.ntmps50
  go_wp2_with fail
  refine (packTake rb s 8 _ H.out (by omega)).mono ?_
  rintro e w1 ⟨a, c, rfl, hA, hR, hK⟩
  rw [show (8 : Int).toNat = 8 from rfl] at *
  have HA := Lib.hid hA
  have HR := Lib.hid hR
  have HK := Lib.hid hK
  have HW := Lib.hid hwb
  have hlen : (tk s 8).1.length ≤ 8 := by rcases tk_len s 8 with h | h <;> omega
  have hfin : tInt s = (rd (tk s 8).1, (tk s 8).2) := rfl
  have HF := Lib.hid hfin
  clear hA hR hK hwb hfin
  generalize (tk s 8).2 = s2 at *
  generalize (tk s 8).1 = ys at *
  obtain ⟨L, hL⟩ : ∃ L, ys.length = L := ⟨_, rfl⟩
  have HL := Lib.hid hL
  rw [hL] at hlen ⊢
  clear hL
  go_wp2_with fail
  go_loopw [3, 9] (fun v i wr => ∃ k : Nat, k ≤ L ∧ i = .int .i64 (k : Int) ∧ v = .int .i64 (IntKind.i64.wrap (rdU (ys.take k))) ∧ wr = w1) (fun _ i _ => L - (intOf i).toNat)
  case atStart => exact ⟨0, by omega, rfl, rfl, rfl⟩
  case round =>
    obtain ⟨k, hk, rfl, rfl, rfl⟩ := hrel
    by_cases hlt : k < L
    · obtain ⟨x, hx⟩ : ∃ x, ys[k]? = some x := ⟨_, List.getElem?_eq_getElem (by have := HL.out; omega)⟩
      rcases HA.out with h0 | ⟨b, o, rfl, hcell⟩
      · have := HL.out; rw [h0] at this; simp at this; omega
      · have hcx := hcell k x hx
        obtain ⟨hx0, hx1⟩ := HW.out x (List.mem_of_getElem? hx)
        have hsn := Lib.hid (take_snoc ys k x hx)
        have hor := or_i64 (rdU (ys.take k)) x hx0 hx1
        obtain ⟨hv0, hv1⟩ := wrap_i64_in (rdU (ys.take k))
        have HO := Lib.hid hor
        clear hcell hx hor
        go_wp2_with fail
        refine ⟨⟨k + 1, by omega, by go_num, ?_, trivial⟩, by simp [intOf]; omega⟩
        rw [hsn.out, rdU_snoc]
        simp only [w64_eq]
        exact congrArg (Value.int .i64) HO.out
    · obtain rfl : k = L := by omega
      have hT : ys.take ys.length = ys := List.take_length
      rw [HL.out] at hT
      have HT := Lib.hid hT
      clear hT
      go_wp2
      go_ret
      rw [HF.out]
      have hT := HT.out
      exact ⟨congrArg (fun z => Ending.returned (Value.int .i64 z)) (by rw [hT]; rfl), HR.out, HK.out⟩

set_option maxRecDepth 100000 in
set_option maxHeartbeats 1000000 in
theorem packRByte (rb : Nat) (s : Rs) (w : World) (h : RdAt 107 w rb s) :
    Calls Tryd.prog 48 #[.pointer (some ⟨rb, 0, none⟩)] w (Got 107 rb (.int .i64 (tByte s).1) (tByte s).2 w) := by
  have H := Lib.hid h
  have hwb := (tk_wb 1 h.wb).1
  clear h
  go_enter Tryd.func48, Tryd.ntmps48
  go_wp2_with fail
  refine (packTake rb s 1 _ H.out (by omega)).mono ?_
  rintro e w1 ⟨a, c, rfl, hA, hR, hK⟩
  rw [show (1 : Int).toNat = 1 from rfl] at *
  have HA := Lib.hid hA
  have HR := Lib.hid hR
  have HK := Lib.hid hK
  have hlen := tk_len s 1
  have hfin : tByte s = ((tk s 1).1.headD 0, (tk s 1).2) := rfl
  have HF := Lib.hid hfin
  clear hA hR hK hfin
  generalize (tk s 1).2 = s2 at *
  generalize (tk s 1).1 = ys at *
  match ys, hlen with
  | [], _ =>
    go_wp2
    go_ret
    rw [HF.out]
    exact ⟨rfl, HR.out, HK.out⟩
  | [x], _ =>
    obtain ⟨hx0, hx1⟩ := hwb x (by simp)
    rcases HA.out with h0 | ⟨b, o, rfl, hcell⟩
    · cases h0
    · have hcx := hcell 0 x rfl
      rw [Nat.add_zero] at hcx
      clear hcell hwb
      go_wp2
      go_ret
      rw [HF.out]
      exact ⟨rfl, HR.out, HK.out⟩
  | x :: y :: zs, h => simp at h



set_option maxRecDepth 100000 in
set_option maxHeartbeats 1000000 in
theorem packRText (rb : Nat) (s : Rs) (w : World) (h : RdAt 107 w rb s) :
    Calls Tryd.prog 81 #[.pointer (some ⟨rb, 0, none⟩)] w (Got 107 rb (.string (tText s).1) (tText s).2 w) := by
  have H := Lib.hid h
  have hin := tByte_in s h.wb
  clear h
  go_enter Tryd.func81, Tryd.ntmps81
  go_wp2_with fail
  refine (packRByte rb s _ H.out).mono ?_
  rintro e w1 ⟨rfl, hR, hK⟩
  have hfin : tText s = (strOfNums (tk (tByte s).2 (tByte s).1.toNat).1, (tk (tByte s).2 (tByte s).1.toNat).2) := rfl
  have HF := Lib.hid hfin
  have HR := Lib.hid hR
  have HK := Lib.hid hK
  clear hfin hR hK
  generalize (tByte s).2 = s2 at *
  generalize (tByte s).1 = m at *
  go_wp2_with fail
  refine (packTake rb s2 m _ HR.out (by omega)).mono ?_
  rintro e w2 ⟨a, c, rfl, hA, hR, hK⟩
  have hcv := run_text (P := Tryd.prog) w2 34 5 Tryd.underlying34 Tryd.underlying5 9 Tryd.underlying9 a _ c _ rfl hA
  have HR2 := Lib.hid hR
  have HK2 := Lib.hid hK
  clear hA hR hK
  generalize (tk s2 m.toNat).2 = s3 at *
  generalize (tk s2 m.toNat).1 = ys at *
  go_wp2
  go_ret
  rw [HF.out]
  exact ⟨rfl, HR2.out, HK.out.trans HK2.out⟩

set_option maxHeartbeats 400000 in
theorem packRDone (rb : Nat) (s : Rs) (w : World) (h : RdAt 107 w rb s) :
    Calls Tryd.prog 55 #[.pointer (some ⟨rb, 0, none⟩)] w fun e w' => e = .returned (.bool (dn' s)) ∧ w = w' := by
  obtain ⟨xs, bad⟩ := s
  obtain ⟨a, cap, h1, h2, h3, h4, h5, h6⟩ := h
  simp only [] at h1 h2
  have hl : xs.length ≤ maxLen := Nat.le_trans h2 h3
  have hc := blk_cell h1
  have hlt := blk_lt h1
  unfold maxLen at hl
  clear h1 h2 h3 h4 h5 h6
  cases bad
  all_goals
    go_enter Tryd.func55, Tryd.ntmps55
    go_wp2
    go_ret
    exact ⟨by cases xs with | nil => simp [dn'] | cons x t => (simp [dn']; try omega), rfl⟩

def Made (xs : List Int) (w : World) (e : Ending) (w' : World) : Prop := ∃ rb, e = .returned (.pointer (some ⟨rb, 0, none⟩)) ∧ w.heap.size ≤ rb ∧ RdAt 107 w' rb (xs, false) ∧ Below w.heap.size w w'
theorem rdAt_new (w : World) (T : TypeId) (a : Option Addr) (n cap : Nat) (xs : List Int) (hn : n = xs.length) (h2 : n ≤ cap) (h3 : cap ≤ maxLen) (h4 : BAt w a xs) (h5 : Wb xs) (h6 : (a = none ∧ cap = 0) ∨ ∃ b o, a = some ⟨b, o, none⟩) (h7 : ∀ b o, a = some ⟨b, o, none⟩ → ∃ cur, w.heap[b]? = some (.cells cur 5 (0, 0))) :
    RdAt T (w.alloc (.cells #[.slice a n cap, .bool false] T)) w.heap.size (xs, false) := by
  subst hn
  exact ⟨a, cap, blk_new _ _ _, h2, h3, h4.ext ((Below.refl _ _).alloc (Nat.le_refl _) _), ⟨h5, fun b o e => by obtain ⟨cur, h⟩ := h7 b o e; exact ⟨by have := blk_lt h; omega, cur, blk_alloc h _⟩⟩, h6⟩
theorem own_formB {a : Option Addr} {n cap base : Nat} {v : Value} {w : World} (h1 : ∀ b o, a = some ⟨b, o, none⟩ → v.ownBlock = some b ∧ base ≤ b ∧ b < w.heap.size ∧ o = 0) (h2 : a = none → n = 0 ∧ cap = 0) (h3 : ∀ x, a = some x → ∃ b o, x = ⟨b, o, none⟩) : (a = none ∧ cap = 0) ∨ ∃ b o, a = some ⟨b, o, none⟩ := by
  cases a with
  | none => exact .inl ⟨rfl, (h2 rfl).2⟩
  | some x => obtain ⟨b, o, rfl⟩ := h3 x rfl; exact .inr ⟨b, o, rfl⟩
theorem own_made {w : World} {base n : Nat} {v : Value} {xs : List Int} (T : TypeId) (h : w.ownsRow base 5 1 v n (bc xs)) (hw : Wb xs) : ∃ a cap, v = .slice a xs.length cap ∧ RdAt T (w.alloc (.cells #[.slice a xs.length cap, .bool false] T)) w.heap.size (xs, false) := by
  obtain ⟨a, cap, rfl, rfl, h2, h3, h4, -, -⟩ := own_read h
  refine ⟨a, cap, rfl, ?_⟩
  obtain ⟨-, h5⟩ := h
  rcases h5 with ⟨e, _⟩ | ⟨g, cap', cur, e, hg, hh, _⟩
  · simp at e
    exact rdAt_new w T a _ cap xs rfl h2 h3 h4 hw (.inl ⟨e.1, e.2.2⟩) (fun b o e' => by rw [e.1] at e'; cases e')
  · simp at e
    exact rdAt_new w T a _ cap xs rfl h2 h3 h4 hw (.inr ⟨g, 0, e.1⟩) (fun b o e' => by rw [e.1] at e'; obtain ⟨rfl, -⟩ : g = b ∧ 0 = o := (by simpa using e'); exact ⟨cur, hh⟩)

set_option maxRecDepth 100000 in
set_option maxHeartbeats 1000000 in
theorem packNew (a : Option Addr) (n cap : Nat) (xs : List Int) (w : World) (h : BAt w a xs) (hl : xs.length = n) (hs : n ≤ 140737488355328) (hw : Wb xs) :
    Calls Tryd.prog 47 #[.slice a n cap] w (Made xs w) := by
  have H := Lib.hid h
  have HL := Lib.hid hl
  have HW := Lib.hid hw
  clear h hl hw
  go_enter Tryd.func47, Tryd.ntmps47
  go_wp2_with fail
  refine (packLonger a n cap 0 xs _ H.out HL.out (by omega) (by omega)).mono ?_
  rintro e w1 ⟨v, rfl, ho, B1⟩
  obtain ⟨a', cap', rfl, hR⟩ := own_made 107 ho HW.out
  have HR := Lib.hid hR
  clear ho hR
  go_wp2
  go_ret
  exact ⟨_, rfl, B1.size, HR.out, B1.alloc B1.size _⟩

end Go.Proofs.YtfdalmodnkkfiaaDoor
