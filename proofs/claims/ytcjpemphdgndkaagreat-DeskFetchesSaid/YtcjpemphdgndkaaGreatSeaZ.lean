/- Several texts as one: PackM, PackW, Sum, SealW, SealS. -/
import Derived.Test.YtcjpemphdgndkaaGreatBbZ
import Derived.Test.YtcjpemphdgndkaaGreatBeZ
import Derived.Test.YtcjpemphdgndkaaGreatSybZ
/- Numbers as eight bytes, and back. -/
namespace Go.Proofs.YtcjpemphdgndkaaGreat
open Go.RowKit
set_option linter.unusedVariables false

/-- a number's eight bytes, the highest first -/
def be (n : Int) : List Int := [n / 2 ^ 56 % 256, n / 2 ^ 48 % 256, n / 2 ^ 40 % 256, n / 2 ^ 32 % 256, n / 2 ^ 24 % 256, n / 2 ^ 16 % 256, n / 2 ^ 8 % 256, n % 256]
theorem be_len (n : Int) : (be n).length = 8 := rfl
theorem be_wb (n : Int) : Wb (be n) := by
  intro m hm
  simp only [be, List.mem_cons, List.not_mem_nil, or_false] at hm
  rcases hm with rfl | rfl | rfl | rfl | rfl | rfl | rfl | rfl <;> exact ⟨Int.emod_nonneg _ (by omega), Int.emod_lt_of_pos _ (by omega)⟩
theorem be_snoc (n : Int) (k : Nat) (h : k < 8) : (be n).take (k + 1) = (be n).take k ++ [n / 2 ^ (56 - 8 * k) % 256] := by
  match k, h with
  | 0, _ => rfl
  | 1, _ => rfl
  | 2, _ => rfl
  | 3, _ => rfl
  | 4, _ => rfl
  | 5, _ => rfl
  | 6, _ => rfl
  | 7, _ => simp [be]
theorem be_byte (n : Int) (k : Nat) (h : k < 8) : n / 2 ^ (56 - 8 * (k : Int)).toNat % 256 = n / 2 ^ (56 - 8 * k) % 256 := by
  rw [show (56 - 8 * (k : Int)).toNat = 56 - 8 * k from by omega]

/-- bytes as a number, the highest first -/
def rdU (xs : List Int) : Int := xs.foldl (fun a c => a * 256 + c) 0
/-- the number that eight bytes say -/
def rd (xs : List Int) : Int := IntKind.i64.wrap (rdU xs)
end Go.Proofs.YtcjpemphdgndkaaGreat

/- Package pack's walks: values are put behind bytes. -/
namespace Go.Proofs.YtcjpemphdgndkaaGreat
open Go.RowKit
set_option linter.unusedVariables false

theorem info_u8 : (Tryz.prog.info? 5).map (fun i => (i.zero, i.size, i.bytes)) = some (some (.int .u8 0), 1, 1) := by kernel_rfl

/-- a row of bytes in new memory -/
def Row (xs : List Int) (w : World) (e : Ending) (w' : World) : Prop := ∃ v, e = .returned v ∧ w'.ownsRow w.heap.size 5 1 v xs.length (bc xs) ∧ Below w.heap.size w w'

theorem bat_one (w : World) (x : Int) : BAt (w.alloc (.cells #[.int .u8 x] 5)) (some ⟨w.heap.size, 0, none⟩) [x] := by
  refine .inr ⟨_, _, rfl, fun i n hi => ?_⟩
  match i, hi with
  | 0, hi => simp at hi; subst hi; exact blk_cell (blk_new w #[.int .u8 x] 5) 0
  | i + 1, hi => simp at hi
theorem len_snoc (xs : List Int) (x : Int) : (xs ++ [x]).length = xs.length + 1 := by simp

set_option maxRecDepth 100000 in
set_option maxHeartbeats 400000 in
theorem packLonger (a : Option Addr) (n cap : Nat) (m : Int) (xs : List Int) (w : World) (h : BAt w a xs) (hl : xs.length = n) (hm : 0 ≤ m) (hs : n + m ≤ 140737488355328) :
    Calls Tryz.prog 186 #[.slice a n cap, .int .i64 m] w (Row xs w) := by
  have HA := Lib.hid h
  have HL := Lib.hid hl
  clear h hl
  obtain ⟨i0, hi, hz0, hz1, hz2⟩ := info_parts info_u8
  obtain ⟨X, hX, hmk⟩ : ∃ X : Array Value, X.size = (n + m).toNat ∧ ∀ w : World, (Instr.makeSlice 190 (.int .i64 0) (.int .i64 ((n : Int) + m))).run Tryz.prog w = .ok (.slice (some ⟨w.heap.size, 0, none⟩) 0 (n + m).toNat) (w.alloc (.cells X 5)) :=
    ⟨madeCells (Value.int .u8 0).cells ((n + m).toNat * 1), by rw [size_madeCells]; omega, fun w => by
      have := run_make (P := Tryz.prog) w 190 5 i0 (.int .u8 0) Tryz.underlying190 hi hz0 .i64 .i64 0 (n + m) (by omega) (by omega) (by rw [hz2]; omega) (by omega)
      rw [hz1] at this
      exact this⟩
  have HX := Lib.hid hX
  clear hX
  obtain ⟨c, hc⟩ : ∃ c, (n + m).toNat = c := ⟨_, rfl⟩
  have hcn : n ≤ c := by omega
  have hcm : c ≤ 140737488355328 := by omega
  rw [hc] at HX hmk
  clear hc
  have O1 : (w.alloc (.cells X 5)).ownsRow w.heap.size 5 1 (.slice (some ⟨w.heap.size, 0, none⟩) 0 c) 0 (bc []) := World.ownsRow_made w X c (Nat.le_refl _) (by unfold maxLen; omega) (by rw [HX.out]; omega)
  have B1 : Below w.heap.size w (w.alloc (.cells X 5)) := (Below.refl _ _).alloc (Nat.le_refl _) _
  have A1 := HA.out.ext B1
  go_enter Tryz.func186, Tryz.ntmps186
  go_wp2_with (at_builtin; refine wpList_append_bytes _ rfl _ _ 190 rfl (w.heap.size) 5 i0 Tryz.underlying190 hi hz0 hz1 hz2 (.slice (some ⟨w.heap.size, 0, none⟩) 0 c) (0) ([]) rfl (O1) (a) (n) (cap) (xs) rfl (A1) (HL.out) ?c3 ?c4 ?c5 ?_)
  case c3 => unfold maxLen; omega
  case c4 => omega
  case c5 => exact B1.size
  intro v' w2 hown' hgrow
  have B2 := B1.grown hgrow B1.size (fun q hq => own_ge O1 hq)
  go_wp2
  go_ret
  exact ⟨_, rfl, by have e := HL.out; simpa [e] using hown', B2⟩

set_option maxRecDepth 100000 in
set_option maxHeartbeats 1000000 in
theorem packInt (a : Option Addr) (n cap : Nat) (z : Int) (xs : List Int) (w : World) (h : BAt w a xs) (hl : xs.length = n) (hs : n + 8 ≤ 140737488355328) :
    Calls Tryz.prog 183 #[.slice a n cap, .int .i64 z] w (Row (xs ++ be z) w) := by
  have HA := Lib.hid h
  have HL := Lib.hid hl
  clear h hl
  obtain ⟨i0, hi, hz0, hz1, hz2⟩ := info_parts info_u8
  go_enter Tryz.func183, Tryz.ntmps183
  go_wp2_with fail
  refine (packLonger a n cap 8 xs _ HA.out HL.out (by omega) (by omega)).mono ?_
  rintro e w1 ⟨v1, rfl, hown1, B1⟩
  have O1 := Lib.hid hown1
  clear hown1
  go_wp2_with fail
  go_loopw [5, 6] (fun v i wr => ∃ k : Nat, k ≤ 8 ∧ i = .int .i64 (56 - 8 * (k : Int)) ∧ wr.ownsRow w.heap.size 5 1 v (n + k) (bc (xs ++ (be z).take k)) ∧ Below w.heap.size w wr) (fun _ i _ => (intOf i + 8).toNat)
  case atStart => exact ⟨0, by omega, rfl, by have := O1.out; rw [HL.out] at this; simpa using this, B1⟩
  case round =>
    obtain ⟨w2, rfl⟩ : ∃ y : World, y = wr := ⟨_, rfl⟩
    obtain ⟨k, hk, rfl, hown, B2⟩ := hrel
    have O2 := Lib.hid hown
    have Z2 := B2.size
    clear hown
    by_cases hlt : k < 8
    · have hb := be_byte z k hlt
      have hsn := Lib.hid (be_snoc z k hlt)
      obtain ⟨I, hI⟩ : ∃ I, 56 - 8 * (k : Int) = I := ⟨_, rfl⟩
      have hI0 : 0 ≤ I := by omega
      have hI1 : I ≤ 56 := by omega
      rw [hI] at hb ⊢
      have HI := Lib.hid hI
      clear hI
      obtain ⟨y, hy⟩ : ∃ y, z / 2 ^ (56 - 8 * k) % 256 = y := ⟨_, rfl⟩
      rw [hy] at hb hsn
      clear hy
      have A3 := bat_one w2 y
      have O3 := O2.out.alloc (.cells #[.int .u8 y] 5)
      have B3 := B2.alloc Z2 (.cells #[.int .u8 y] 5)
      go_wp2_with (at_builtin; refine wpList_append_bytes _ rfl _ _ 190 rfl (w.heap.size) 5 i0 Tryz.underlying190 hi hz0 hz1 hz2 _ (n + k) (xs ++ (be z).take k) rfl (O3) (some ⟨w2.heap.size, 0, none⟩) (1) (1) ([y]) rfl (A3) (rfl) ?c3 ?c4 ?c5 ?_)
      case c3 => unfold maxLen; omega
      case c4 => omega
      case c5 => simp; omega
      intro v' w4 hown' hgrow
      have B4 := B3.grown hgrow (by simp; omega) (fun q hq => own_ge O3 hq)
      have O4 := Lib.hid hown'
      clear hown' hgrow A3 O3 hb
      go_wp2
      go_roundw
      case rel => exact ⟨k + 1, by omega, by have := HI.out; congr 1; omega, by have := O4.out; rw [← hsn.out] at this; exact this, B4⟩
      case measure => simp [intOf]; omega
    · obtain rfl : k = 8 := by omega
      go_wp2
      go_ret
      exact ⟨_, rfl, by have := O2.out; rw [show (be z).take 8 = be z from rfl] at this; simpa [be_len, HL.out] using this, B2⟩

set_option maxRecDepth 100000 in
set_option maxHeartbeats 1000000 in
theorem packByte (a : Option Addr) (n cap : Nat) (z : Int) (xs : List Int) (w : World) (h : BAt w a xs) (hl : xs.length = n) (hs : n + 1 ≤ 140737488355328) :
    Calls Tryz.prog 181 #[.slice a n cap, .int .i64 z] w (Row (xs ++ [z % 256]) w) := by
  have HA := Lib.hid h
  have HL := Lib.hid hl
  clear h hl
  obtain ⟨i0, hi, hz0, hz1, hz2⟩ := info_parts info_u8
  go_enter Tryz.func181, Tryz.ntmps181
  go_wp2_with fail
  refine (packLonger a n cap 1 xs _ HA.out HL.out (by omega) (by omega)).mono ?_
  rintro e w1 ⟨v1, rfl, hown1, B1⟩
  have O1 := Lib.hid hown1
  have Z1 := B1.size
  clear hown1
  have A3 := bat_one w1 (z % 256)
  have O3 := O1.out.alloc (.cells #[.int .u8 (z % 256)] 5)
  have B3 := B1.alloc Z1 (.cells #[.int .u8 (z % 256)] 5)
  go_wp2_with (at_builtin; refine wpList_append_bytes _ rfl _ _ 190 rfl (w.heap.size) 5 i0 Tryz.underlying190 hi hz0 hz1 hz2 _ (xs.length) (xs) rfl (O3) (some ⟨w1.heap.size, 0, none⟩) (1) (1) ([z % 256]) rfl (A3) (rfl) ?c3 ?c4 ?c5 ?_)
  case c3 => have := HL.out; unfold maxLen; omega
  case c4 => have := HL.out; omega
  case c5 => simp; omega
  intro v' w4 hown' hgrow
  have B4 := B3.grown hgrow (by simp; omega) (fun q hq => own_ge O3 hq)
  have O4 := Lib.hid hown'
  clear hown' hgrow A3 O3
  go_wp2
  go_ret
  exact ⟨_, rfl, by have := O4.out; rw [len_snoc]; exact this, B4⟩

/-- of a text the first 255 bytes -/
def cut255 (s : ByteArray) : List Int := (sb s).take 255
theorem cut255_len (s : ByteArray) : (cut255 s).length = min s.size 255 := by simp [cut255, sb_len, Nat.min_comm]
theorem sb_take (s : ByteArray) (k : Nat) : sb (s.extract 0 k) = (sb s).take k := by
  simp [sb, ByteArray.data_extract, List.map_take]
/-- a text behind bytes -/
def txt (s : ByteArray) : List Int := ((cut255 s).length : Int) :: cut255 s
theorem txt_len (s : ByteArray) : (txt s).length = (cut255 s).length + 1 := by simp [txt]
theorem txt_wb (s : ByteArray) : Wb (txt s) := by
  intro n hn
  simp only [txt, List.mem_cons] at hn
  rcases hn with rfl | hn
  · have := cut255_len s; omega
  · exact (sb_wb s).take 255 n hn
theorem txt_app (xs : List Int) (s : ByteArray) (k : Int) (h : k = ((cut255 s).length : Int)) : xs ++ [k] ++ cut255 s = xs ++ txt s := by subst h; simp [txt]

set_option maxRecDepth 100000 in
set_option maxHeartbeats 1000000 in
theorem packText (a : Option Addr) (n cap : Nat) (s : ByteArray) (xs : List Int) (w : World) (h : BAt w a xs) (hl : xs.length = n) (hs : n + 256 ≤ 140737488355328) (hsz : s.size ≤ maxLen) :
    Calls Tryz.prog 180 #[.slice a n cap, .string s] w (Row (xs ++ txt s) w) := by
  have HA := Lib.hid h
  have HL := Lib.hid hl
  unfold maxLen at hsz
  clear h hl
  obtain ⟨i0, hi, hz0, hz1, hz2⟩ := info_parts info_u8
  by_cases hg : 255 < s.size
  · obtain ⟨q, hq, hq1, hq2⟩ : ∃ q, s.extract 0 255 = q ∧ q.size ≤ 255 ∧ sb q = cut255 s := ⟨_, rfl, by simp; omega, sb_take s 255⟩
    have HQ := Lib.hid hq2
    clear hq2
    go_enter Tryz.func180, Tryz.ntmps180
    go_wp2_with fail
    refine (packLonger a n cap _ xs _ HA.out HL.out (by omega) (by omega)).mono ?_
    rintro e w1 ⟨v1, rfl, hown1, B1⟩
    have O1 := Lib.hid hown1
    have Z1 := B1.size
    clear hown1
    have A3 := bat_one w1 (q.size : Int)
    have O3 := O1.out.alloc (.cells #[.int .u8 (q.size : Int)] 5)
    have B3 := B1.alloc Z1 (.cells #[.int .u8 (q.size : Int)] 5)
    have hm : (q.size : Int) % 256 = (q.size : Int) := by omega
    go_wp2_with (at_builtin; refine wpList_append_bytes _ rfl _ _ 190 rfl (w.heap.size) 5 i0 Tryz.underlying190 hi hz0 hz1 hz2 _ (xs.length) (xs) rfl (O3) (some ⟨w1.heap.size, 0, none⟩) (1) (1) ([(q.size : Int)]) rfl (A3) (rfl) ?c3 ?c4 ?c5 ?_)
    case c3 => have := HL.out; unfold maxLen; omega
    case c4 => have := HL.out; omega
    case c5 => simp; omega
    intro v' w4 hown' hgrow
    have B4 := B3.grown hgrow (by simp; omega) (fun q hq => own_ge O3 hq)
    have O4 := Lib.hid hown'
    clear hown' hgrow A3 O3
    go_wp2_with (at_builtin; refine Lib.wpList_append_own_string _ rfl _ _ 190 9 rfl w.heap.size 5 i0 Tryz.underlying190 Tryz.underlying9 hi hz0 hz1 hz2 v' (xs.length + 1) _ rfl O4.out q rfl ?c3 ?c4 ?c5 ?_)
    case c3 => have := HL.out; unfold maxLen; omega
    case c4 => have := HL.out; omega
    case c5 => exact B4.size
    intro v5 w5 hown' hgrow _
    have B5 := B4.grown hgrow B4.size (fun q hq => own_ge O4.out hq)
    rw [← bc_sb, HQ.out, ← bc_append, txt_app xs s _ (by rw [← HQ.out, sb_len])] at hown'
    have O5 := Lib.hid hown'
    clear hown' hgrow
    go_wp2
    go_ret
    exact ⟨_, rfl, by have := O5.out; have e : (xs ++ txt s).length = xs.length + 1 + q.size := (by rw [List.length_append, txt_len, ← HQ.out, sb_len]; omega); rw [e]; exact this, B5⟩
  · obtain ⟨hq1, hq2⟩ : s.size ≤ 255 ∧ sb s = cut255 s := ⟨by omega, by unfold cut255; rw [List.take_of_length_le (by rw [sb_len]; omega)]⟩
    have HQ := Lib.hid hq2
    clear hq2
    go_enter Tryz.func180, Tryz.ntmps180
    go_wp2_with fail
    refine (packLonger a n cap _ xs _ HA.out HL.out (by omega) (by omega)).mono ?_
    rintro e w1 ⟨v1, rfl, hown1, B1⟩
    have O1 := Lib.hid hown1
    have Z1 := B1.size
    clear hown1
    have A3 := bat_one w1 (s.size : Int)
    have O3 := O1.out.alloc (.cells #[.int .u8 (s.size : Int)] 5)
    have B3 := B1.alloc Z1 (.cells #[.int .u8 (s.size : Int)] 5)
    have hm : (s.size : Int) % 256 = (s.size : Int) := by omega
    go_wp2_with (at_builtin; refine wpList_append_bytes _ rfl _ _ 190 rfl (w.heap.size) 5 i0 Tryz.underlying190 hi hz0 hz1 hz2 _ (xs.length) (xs) rfl (O3) (some ⟨w1.heap.size, 0, none⟩) (1) (1) ([(s.size : Int)]) rfl (A3) (rfl) ?c3 ?c4 ?c5 ?_)
    case c3 => have := HL.out; unfold maxLen; omega
    case c4 => have := HL.out; omega
    case c5 => simp; omega
    intro v' w4 hown' hgrow
    have B4 := B3.grown hgrow (by simp; omega) (fun q hq => own_ge O3 hq)
    have O4 := Lib.hid hown'
    clear hown' hgrow A3 O3
    go_wp2_with (at_builtin; refine Lib.wpList_append_own_string _ rfl _ _ 190 9 rfl w.heap.size 5 i0 Tryz.underlying190 Tryz.underlying9 hi hz0 hz1 hz2 v' (xs.length + 1) _ rfl O4.out s rfl ?c3 ?c4 ?c5 ?_)
    case c3 => have := HL.out; unfold maxLen; omega
    case c4 => have := HL.out; omega
    case c5 => exact B4.size
    intro v5 w5 hown' hgrow _
    have B5 := B4.grown hgrow B4.size (fun q hq => own_ge O4.out hq)
    rw [← bc_sb, HQ.out, ← bc_append, txt_app xs s _ (by rw [← HQ.out, sb_len])] at hown'
    have O5 := Lib.hid hown'
    clear hown' hgrow
    go_wp2
    go_ret
    exact ⟨_, rfl, by have := O5.out; have e : (xs ++ txt s).length = xs.length + 1 + s.size := (by rw [List.length_append, txt_len, ← HQ.out, sb_len]; omega); rw [e]; exact this, B5⟩



end Go.Proofs.YtcjpemphdgndkaaGreat

/- Sums of bytes. -/
namespace Go.Proofs.YtcjpemphdgndkaaGreat
open Go.RowKit
set_option linter.unusedVariables false

/-- the sum of bytes, from h on -/
def smF (h : Int) (xs : List Int) : Int := xs.foldl (fun h c => (h * 31 + c + 7) % 4294967296) h
def sm (xs : List Int) : Int := smF 17 xs
theorem sm_snoc (xs : List Int) (c : Int) : sm (xs ++ [c]) = (sm xs * 31 + c + 7) % 4294967296 := by simp [sm, smF]
theorem smF_in (h : Int) (xs : List Int) (h0 : 0 ≤ h) (h1 : h < 4294967296) : 0 ≤ smF h xs ∧ smF h xs < 4294967296 := by
  induction xs generalizing h with
  | nil => exact ⟨h0, h1⟩
  | cons c t ih => exact ih _ (Int.emod_nonneg _ (by omega)) (Int.emod_lt_of_pos _ (by omega))
theorem sm_in (xs : List Int) : 0 ≤ sm xs ∧ sm xs < 4294967296 := smF_in 17 xs (by omega) (by omega)
theorem take_snoc' (ys : List Int) (k : Nat) (x : Int) (h : ys[k]? = some x) : ys.take (k + 1) = ys.take k ++ [x] := by
  obtain ⟨hk, rfl⟩ := List.getElem?_eq_some_iff.1 h
  rw [List.take_succ_eq_append_getElem hk]
set_option maxRecDepth 100000 in
set_option maxHeartbeats 1000000 in
theorem frameSum (a : Option Addr) (n cap : Nat) (xs : List Int) (w : World) (h : BAt w a xs) (hl : xs.length = n) (hw : Wb xs) (hs : n ≤ 140737488355328) :
    Calls Tryz.prog 167 #[.slice a n cap] w fun e w' => e = .returned (.int .u32 (sm xs)) ∧ w = w' := by
  have HA := Lib.hid h
  have HL := Lib.hid hl
  have HW := Lib.hid hw
  clear h hl hw
  go_enter Tryz.func167, Tryz.ntmps167
  go_wp2_with fail
  go_loopw [3, 8] (fun v i wr => ∃ k : Nat, k ≤ n ∧ i = .int .i64 (k : Int) ∧ v = .int .u32 (sm (xs.take k)) ∧ wr = w) (fun _ i _ => n - (intOf i).toNat)
  case atStart => exact ⟨0, by omega, rfl, rfl, rfl⟩
  case round =>
    obtain ⟨k, hk, rfl, rfl, rfl⟩ := hrel
    have hsm := sm_in (xs.take k)
    by_cases hlt : k < n
    · obtain ⟨x, hx⟩ : ∃ x, xs[k]? = some x := ⟨_, List.getElem?_eq_getElem (by have := HL.out; omega)⟩
      rcases HA.out with h0 | ⟨b, o, rfl, hcell⟩
      · have := HL.out; rw [h0] at this; simp at this; omega
      · have hcx := hcell k x hx
        obtain ⟨hx0, hx1⟩ := HW.out x (List.mem_of_getElem? hx)
        have hsn := Lib.hid (by rw [take_snoc' xs k x hx, sm_snoc] : sm (xs.take (k + 1)) = (sm (xs.take k) * 31 + x + 7) % 4294967296)
        clear hcell hx
        generalize sm (xs.take k) = V at *
        go_wp2_with fail
        refine ⟨⟨k + 1, by omega, by go_num, ?_, trivial⟩, by simp [intOf]; omega⟩
        rw [hsn.out]
        exact congrArg (Value.int .u32) (by first | omega | (simp only [IntKind.wrap_u32]; omega))
    · obtain rfl : k = n := by omega
      have hT : xs.take xs.length = xs := List.take_length
      rw [HL.out] at hT
      have HT := Lib.hid hT
      clear hT
      go_wp2
      go_ret
      exact ⟨by rw [HT.out]; rfl, rfl⟩

end Go.Proofs.YtcjpemphdgndkaaGreat

/- Package seal's walks. -/
namespace Go.Proofs.YtcjpemphdgndkaaGreat
open Go.RowKit
set_option linter.unusedVariables false
set_option linter.unusedSimpArgs false

/-- what a card shows -/
def shw (c : Cd) : Int := if c.g then 0 else if c.o = 0 then c.s else c.o
/-- its bytes -/
def cardB (c : Cd) : List Int := txt c.a ++ txt c.i ++ [shw c % 256] ++ be c.l
/-- a card whose texts are short -/
def CdS (c : Cd) : Prop := c.a.size ≤ 1000 ∧ c.i.size ≤ 1000
theorem CdOk.s {c : Cd} (h : CdOk c) : CdS c := ⟨by have := h.1; omega, by have := h.2.1; omega⟩
theorem cardB_len (c : Cd) : (cardB c).length ≤ 521 := by
  have h1 := txt_len c.a
  have h2 := txt_len c.i
  have h3 := cut255_len c.a
  have h4 := cut255_len c.i
  simp only [cardB, List.length_append, be_len, List.length_cons, List.length_nil]
  omega
theorem cardB_wb (c : Cd) : Wb (cardB c) := (((txt_wb _).app (txt_wb _)).app (Wb.one (Int.emod_nonneg _ (by omega)) (Int.emod_lt_of_pos _ (by omega)))).app (be_wb _)
def seenL (ls : List Cd) : List Cd := srt klt (ls.filter (fun c => !c.g))
def sealB (ls : List Cd) : List Int := (seenL ls).flatMap cardB
theorem flatB_len (ls : List Cd) : (ls.flatMap cardB).length ≤ 521 * ls.length := by
  induction ls with
  | nil => simp
  | cons x xs ih => rw [List.flatMap_cons, List.length_append, List.length_cons]; have := cardB_len x; omega
theorem flatB_wb (ls : List Cd) : Wb (ls.flatMap cardB) := by
  induction ls with
  | nil => exact Wb.nil
  | cons x xs ih => rw [List.flatMap_cons]; exact (cardB_wb x).app ih
theorem seenL_len (ls : List Cd) : (seenL ls).length ≤ ls.length := by unfold seenL; rw [srt_len]; exact List.length_filter_le _ _
theorem seenL_mem {ls : List Cd} {c : Cd} (h : c ∈ seenL ls) : c ∈ ls ∧ c.g = false := by
  have := (srt_mem klt c _).1 h
  simpa using this

set_option maxRecDepth 100000 in
set_option maxHeartbeats 1000000 in
theorem cardShows (c : Cd) (w : World) :
    Calls Tryz.prog 182 #[.agg #[.string c.a, .string c.i, .int .i64 c.s, .int .i64 c.o, .int .i64 c.l, .int .i64 c.t, .int .i64 c.k, .int .i64 c.n, .bool c.g]] w fun e w' => e = .returned (.int .i64 (shw c)) ∧ Below w.heap.size w w' := by
  have D : Below w.heap.size w (w.alloc (.cells #[.string c.a, .string c.i, .int .i64 c.s, .int .i64 c.o, .int .i64 c.l, .int .i64 c.t, .int .i64 c.k, .int .i64 c.n, .bool c.g] 37)) := (Below.refl _ _).alloc (Nat.le_refl _) _
  obtain ⟨a, i, s, o, l, t, k, n, g⟩ := c
  simp only at D ⊢
  cases g
  · by_cases h : o = 0
    · have e : shw ⟨a, i, s, o, l, t, k, n, false⟩ = s := by simp [shw, h]
      rw [e]
      subst h
      clear e
      go_enter Tryz.func182, Tryz.ntmps182
      go_wp2
      go_ret
      exact ⟨rfl, D⟩
    · have e : shw ⟨a, i, s, o, l, t, k, n, false⟩ = o := by simp [shw, h]
      rw [e]
      have hd : (o == 0) = false := by simp [h]
      clear e h
      go_enter Tryz.func182, Tryz.ntmps182
      go_wp2
      go_ret
      exact ⟨rfl, D⟩
  · have e : shw ⟨a, i, s, o, l, t, k, n, true⟩ = 0 := by simp [shw]
    rw [e]
    clear e
    go_enter Tryz.func182, Tryz.ntmps182
    go_wp2
    go_ret
    exact ⟨rfl, D⟩

set_option maxRecDepth 100000 in
set_option maxHeartbeats 1000000 in
theorem sealCard (x : Cd) (w : World) (hx : CdS x) :
    Calls Tryz.prog 176 #[.agg #[.string x.a, .string x.i, .int .i64 x.s, .int .i64 x.o, .int .i64 x.l, .int .i64 x.t, .int .i64 x.k, .int .i64 x.n, .bool x.g]] w (Row (cardB x) w) := by
  have h1 := hx.1
  have h2 := hx.2
  have hA0 := cut255_len x.a
  have hI0 := cut255_len x.i
  have HTA := Lib.hid (txt_len x.a)
  have HTI := Lib.hid (txt_len x.i)
  have D0 : Below w.heap.size w (w.alloc (.cells #[.string x.a, .string x.i, .int .i64 x.s, .int .i64 x.o, .int .i64 x.l, .int .i64 x.t, .int .i64 x.k, .int .i64 x.n, .bool x.g] 37)) := (Below.refl _ _).alloc (Nat.le_refl _) _
  have HB0 := Lib.hid D0
  have HX0 := Lib.hid (blk_new w #[.string x.a, .string x.i, .int .i64 x.s, .int .i64 x.o, .int .i64 x.l, .int .i64 x.t, .int .i64 x.k, .int .i64 x.n, .bool x.g] 37)
  obtain ⟨r, hr⟩ : ∃ r, w.heap.size = r := ⟨_, rfl⟩
  have HR := Lib.hid hr
  have hk0 := blk_cell HX0.out
  have hl0 := blk_lt HX0.out
  clear D0 hx
  go_enter Tryz.func176, Tryz.ntmps176
  go_upto_region 1 with (fail)
  rw [hr] at HX0
  clear hk0 hl0
  generalize (w.alloc (.cells #[.string x.a, .string x.i, .int .i64 x.s, .int .i64 x.o, .int .i64 x.l, .int .i64 x.t, .int .i64 x.k, .int .i64 x.n, .bool x.g] 37)) = w0 at *
  have hk0 := blk_cell HX0.out
  have hl0 := blk_lt HX0.out
  clear hr
  go_wp2_with fail
  refine (packText none 0 0 x.a [] _ (.inl rfl) rfl (by omega) (by unfold maxLen; omega)).mono ?_
  rintro e w1 ⟨v1, rfl, ho1, hb1⟩
  obtain ⟨a1, c1, rfl, -, -, -, hr1, -, -⟩ := own_read ho1
  have HB1 := Lib.hid (ext_trans HB0.out hb1)
  have HX1 := Lib.hid (blk_ext hb1 HX0.out)
  have HA1 := Lib.hid hr1
  obtain ⟨n1, hn1⟩ : ∃ n, (([] : List Int) ++ txt x.a).length = n := ⟨_, rfl⟩
  have HN1 := Lib.hid hn1
  have hk1 := blk_cell HX1.out
  have hl1 := blk_lt HX1.out
  rw [hn1]
  clear ho1 hb1 hr1 hn1
  
  have hz1 : n1 ≤ 256 := by have := HN1.out; rw [List.length_append, HTA.out] at this; simp at this; omega
  go_wp2_with fail
  refine (packText a1 n1 c1 x.i (([] : List Int) ++ txt x.a) _ HA1.out HN1.out (by omega) (by unfold maxLen; omega)).mono ?_
  rintro e w2 ⟨v2, rfl, ho2, hb2⟩
  obtain ⟨a2, c2, rfl, -, -, -, hr2, -, -⟩ := own_read ho2
  have HB2 := Lib.hid (ext_trans HB1.out hb2)
  have HX2 := Lib.hid (blk_ext hb2 HX1.out)
  have HA2 := Lib.hid hr2
  obtain ⟨n2, hn2⟩ : ∃ n, (([] : List Int) ++ txt x.a ++ txt x.i).length = n := ⟨_, rfl⟩
  have HN2 := Lib.hid hn2
  have hk2 := blk_cell HX2.out
  have hl2 := blk_lt HX2.out
  rw [hn2]
  clear ho2 hb2 hr2 hn2
  
  have hz2 : n2 ≤ 512 := by have := HN2.out; rw [List.length_append, HN1.out, HTI.out] at this; omega
  go_wp2_with fail
  refine (cardShows x _).mono ?_
  rintro e w3 ⟨rfl, hb3⟩
  have HB3 := Lib.hid (ext_trans HB2.out hb3)
  have HX3 := Lib.hid (blk_ext hb3 HX2.out)
  have HA3 := Lib.hid (HA2.out.ext hb3)
  clear hb3
  go_wp2_with fail
  refine (packByte a2 n2 c2 (shw x) (([] : List Int) ++ txt x.a ++ txt x.i) _ HA3.out HN2.out (by omega)).mono ?_
  rintro e w4 ⟨v4, rfl, ho4, hb4⟩
  obtain ⟨a4, c4, rfl, -, -, -, hr4, -, -⟩ := own_read ho4
  have HB4 := Lib.hid (ext_trans HB3.out hb4)
  have HX4 := Lib.hid (blk_ext hb4 HX3.out)
  have HA4 := Lib.hid hr4
  obtain ⟨n4, hn4⟩ : ∃ n, (([] : List Int) ++ txt x.a ++ txt x.i ++ [shw x % 256]).length = n := ⟨_, rfl⟩
  have HN4 := Lib.hid hn4
  have hk4 := blk_cell HX4.out
  have hl4 := blk_lt HX4.out
  rw [hn4]
  clear ho4 hb4 hr4 hn4
  
  have hz4 : n4 ≤ 513 := by have := HN4.out; rw [List.length_append, HN2.out] at this; simp at this; omega
  go_wp2_with fail
  refine (packInt a4 n4 c4 x.l (([] : List Int) ++ txt x.a ++ txt x.i ++ [shw x % 256]) _ HA4.out HN4.out (by omega)).mono ?_
  rintro e w5 ⟨v5, rfl, ho5, hb5⟩
  have HO5 := Lib.hid ho5
  have HB5 := Lib.hid (ext_trans HB4.out hb5)
  have Z4 := HB4.out.size
  clear ho5 hb5
  go_wp2
  go_ret
  exact ⟨_, rfl, ownsRow_base HO5.out Z4, HB5.out⟩

end Go.Proofs.YtcjpemphdgndkaaGreat

/- Package seal's walks: what is seen, its bytes, its sum. -/
namespace Go.Proofs.YtcjpemphdgndkaaGreat
open Go.RowKit
set_option linter.unusedVariables false
set_option linter.unusedSimpArgs false

theorem filt_snoc (ls : List Cd) (x : Cd) : (ls ++ [x]).filter (fun c => !c.g) = ls.filter (fun c => !c.g) ++ (if x.g then [] else [x]) := by
  rw [List.filter_append]
  cases h : x.g <;> simp [List.filter, h]

set_option maxRecDepth 100000 in
set_option maxHeartbeats 2000000 in
theorem sealSeen (a : Option Addr) (n c : Nat) (ls : List Cd) (w : World) (h : CAt w a ls) (hl : ls.length = n) (hn : n ≤ 100) (hnc : n ≤ c) :
    Calls Tryz.prog 128 #[.slice a n c] w fun e w' => ∃ v', e = .returned v' ∧ OwnC w.heap.size w' v' (seenL ls) ∧ Below w.heap.size w w' := by
  obtain ⟨i0, hi, hz0, hz1, hz2⟩ := info_parts' info_card
  have HA := Lib.hid h
  have HN := Lib.hid hl
  clear h hl
  go_enter Tryz.func128, Tryz.ntmps128
  go_wp2_with fail
  go_loopw [3, 8] (fun o j wr => ∃ J : Nat, J ≤ n ∧ j = .int .i64 (J : Int) ∧ OwnC w.heap.size wr o ((ls.take J).filter (fun c => !c.g)) ∧ Below w.heap.size w wr) (fun o j _ => n - (intOf j).toNat)
  case atStart => exact ⟨0, by omega, rfl, OwnR.nil _ _, Below.refl _ _⟩
  case round =>
    obtain ⟨w2, rfl⟩ : ∃ y : World, y = wr := ⟨_, rfl⟩
    obtain ⟨J, hJ, rfl, ho2, hb2⟩ := hrel
    obtain ⟨ga, gc, rfl, hgc, hgm, hgat, hgb, hgf⟩ := ho2.read
    obtain ⟨S, hS⟩ : ∃ S, (ls.take J).filter (fun c => !c.g) = S := ⟨_, rfl⟩
    rw [hS] at ho2 hgc hgat hgf ⊢
    obtain ⟨m, hm⟩ : ∃ m, S.length = m := ⟨_, rfl⟩
    have hm1 : m ≤ 100 := by rw [← hm, ← hS]; have := List.length_filter_le (fun c : Cd => !c.g) (ls.take J); rw [List.length_take] at this; omega
    have HM := Lib.hid hm
    rw [hm] at hgc ⊢
    by_cases hlt : J < n
    · obtain ⟨x, hx⟩ : ∃ x, ls[J]? = some x := ⟨_, List.getElem?_eq_getElem (by have := HN.out; omega)⟩
      have HST := Lib.hid (show (ls.take (J + 1)).filter (fun c => !c.g) = S ++ (if x.g then [] else [x]) from by rw [List.take_add_one, hx]; show (ls.take J ++ [x]).filter _ = _; rw [filt_snoc, hS])
      obtain ⟨b, o, rfl⟩ : ∃ b o, a = some ⟨b, o, none⟩ := by
        rcases HA.out with h | ⟨b, o, e, _⟩
        · rw [h] at hx; simp at hx
        · exact ⟨b, o, e⟩
      obtain ⟨x0, x1, x2, x3, x4, x5, x6, x7, x8⟩ := (HA.out.ext hb2).at hx
      have D0 : Below w2.heap.size w2 (w2.alloc (.cells #[.string x.a, .string x.i, .int .i64 x.s, .int .i64 x.o, .int .i64 x.l, .int .i64 x.t, .int .i64 x.k, .int .i64 x.n, .bool x.g] 37)) := (Below.refl _ _).alloc (Nat.le_refl _) _
      have HX := Lib.hid (blk_new w2 #[.string x.a, .string x.i, .int .i64 x.s, .int .i64 x.o, .int .i64 x.l, .int .i64 x.t, .int .i64 x.k, .int .i64 x.n, .bool x.g] 37)
      have HO3 := Lib.hid (show OwnC w.heap.size (w2.alloc (.cells #[.string x.a, .string x.i, .int .i64 x.s, .int .i64 x.o, .int .i64 x.l, .int .i64 x.t, .int .i64 x.k, .int .i64 x.n, .bool x.g] 37)) (.slice ga m gc) S from by have := OwnR.ext ho2 D0; rw [hm] at this; exact this)
      have HB3 := Lib.hid (ext_trans hb2 D0)
      unfold maxLen at hgm
      clear ho2 hb2 hx hS hm D0 hgat hgb hgf
      go_upto_region 5 with (fail)
      obtain ⟨r, hr⟩ : ∃ r, w2.heap.size = r := ⟨_, rfl⟩
      rw [hr] at HX ⊢
      clear hr
      generalize (w2.alloc (.cells #[.string x.a, .string x.i, .int .i64 x.s, .int .i64 x.o, .int .i64 x.l, .int .i64 x.t, .int .i64 x.k, .int .i64 x.n, .bool x.g] 37)) = w4 at *
      clear x0 x1 x2 x3 x4 x5 x6 x7 x8
      have hk4 := blk_cell HX.out
      have hl4 := blk_lt HX.out
      have Z4 := HB3.out.size
      obtain ⟨gg, hgg⟩ : ∃ gg, x.g = gg := ⟨_, rfl⟩
      rw [hgg] at HST
      cases gg
      · have HO5' := Lib.hid (show w4.ownsRow w.heap.size 37 9 (.slice ga m gc) m (flat cc S) from by have := HO3.out; unfold OwnC OwnR at this; rw [HM.out] at this; exact this)
        go_wp2_with (at_builtin; refine wpList_append_own _ rfl _ _ 30 rfl (w.heap.size) 37 i0 Cd.zero.v 9 88 Tryz.underlying30 hi hz0 hz1 hz2 rfl (by decide) _ m (flat cc S) rfl (HO5'.out.alloc (.cells #[.string x.a, .string x.i, .int .i64 x.s, .int .i64 x.o, .int .i64 x.l, .int .i64 x.t, .int .i64 x.k, .int .i64 x.n, .bool false] 37)) ⟨w4.heap.size, 0, none⟩ 1 1 (cc x) rfl rfl ?c1 ?c2 ?c3 ?c4 ?c5 ?_)
        case c1 =>
          intro j u hj
          rw [add_off, Nat.zero_add, blk_cell (blk_new w4 #[.string x.a, .string x.i, .int .i64 x.s, .int .i64 x.o, .int .i64 x.l, .int .i64 x.t, .int .i64 x.k, .int .i64 x.n, .bool false] 37)]
          simpa [cc, hgg] using hj
        case c2 => exact cc_one x
        case c3 => unfold maxLen; omega
        case c4 => omega
        case c5 => simp; omega
        intro v7 w7 ho7 hg7 _
        have HB7 := Lib.hid ((HB3.out.alloc Z4 (.cells #[.string x.a, .string x.i, .int .i64 x.s, .int .i64 x.o, .int .i64 x.l, .int .i64 x.t, .int .i64 x.k, .int .i64 x.n, .bool false] 37)).grown hg7 (by simp; omega) (fun q hq => own_ge HO5'.out hq))
        have HO7 := Lib.hid (show OwnC w.heap.size w7 v7 (S ++ [x]) by unfold OwnC OwnR; rw [flat_snoc, List.length_append, HM.out]; exact ho7)
        clear ho7 hg7 HO5' HX hk4 hl4
        go_wp2
        go_roundw
        case rel => exact ⟨J + 1, by omega, by go_num, by rw [HST.out]; exact HO7.out, HB7.out⟩
        case measure => simp [intOf]; omega
      · go_wp2
        go_roundw
        case rel => exact ⟨J + 1, by omega, by go_num, by rw [HST.out]; simpa using HO3.out, HB3.out⟩
        case measure => simp [intOf]; omega
    · obtain rfl : J = n := by omega
      have HF := Lib.hid (show S = ls.filter (fun c => !c.g) from by rw [← hS, List.take_of_length_le (by have := HN.out; omega)])
      have HAT := Lib.hid hgat
      have HB2 := Lib.hid hb2
      have HGF := Lib.hid hgf
      have Z2 := hb2.size
      clear ho2 hb2 hgat hgb hgf hS hm
      go_wp2_with fail
      refine (cardSortAny ga m gc S _ HAT.out HM.out (by omega) (by
        rcases HGF.out with ⟨e1, e2, _⟩ | ⟨g, e⟩
        · exact .inl ⟨e1, e2⟩
        · exact .inr ⟨g, 0, e⟩)).mono ?_
      rintro e w3 ⟨v', rfl, ho3, hb3⟩
      have HO3 := Lib.hid (show OwnC w.heap.size w3 v' (seenL ls) from by have := OwnR.base ho3 Z2; rw [HF.out] at this; exact this)
      have HB3 := Lib.hid (ext_trans HB2.out hb3)
      clear ho3 hb3
      go_wp2
      go_ret
      exact ⟨_, rfl, HO3.out, HB3.out⟩

set_option maxRecDepth 100000 in
set_option maxHeartbeats 2000000 in
theorem sealBytes (a : Option Addr) (n c : Nat) (ls : List Cd) (w : World) (h : CAt w a ls) (hl : ls.length = n) (hn : n ≤ 100) (hnc : n ≤ c) (hs : ∀ x ∈ ls, CdS x) :
    Calls Tryz.prog 168 #[.slice a n c] w (Row (sealB ls) w) := by
  obtain ⟨i0, hi, hz0, hz1, hz2⟩ := info_parts info_u8
  have HA := Lib.hid h
  have HN := Lib.hid hl
  have HS := Lib.hid hs
  clear h hl hs
  go_enter Tryz.func168, Tryz.ntmps168
  go_wp2_with fail
  refine (sealSeen a n c ls _ HA.out HN.out hn hnc).mono ?_
  rintro e w1 ⟨vs, rfl, hos, hbs⟩
  obtain ⟨T, hT⟩ : ∃ T, seenL ls = T := ⟨_, rfl⟩
  rw [hT] at hos
  obtain ⟨ta, tc, rfl, htc, htm, htat, -, -⟩ := hos.read
  obtain ⟨t, hTt⟩ : ∃ t, T.length = t := ⟨_, rfl⟩
  have ht19 : t ≤ 100 := by rw [← hTt, ← hT]; have := seenL_len ls; rw [HN.out] at this; omega
  have HTS := Lib.hid (show ∀ x ∈ T, CdS x from fun x hx => HS.out x (seenL_mem (by rw [hT]; exact hx)).1)
  rw [hTt] at htc ⊢
  have HTT := Lib.hid hT
  have HTN := Lib.hid hTt
  have HTA := Lib.hid htat
  have HB1 := Lib.hid hbs
  have Z1 := hbs.size
  unfold maxLen at htm
  clear hos hbs hT hTt htat HA
  go_wp2_with fail
  go_loopw [3, 9] (fun g j wr => ∃ J : Nat, J ≤ t ∧ j = .int .i64 (J : Int) ∧ wr.ownsRow w1.heap.size 5 1 g ((T.take J).flatMap cardB).length (bc ((T.take J).flatMap cardB)) ∧ Below w1.heap.size w1 wr) (fun g j _ => t - (intOf j).toNat)
  case atStart => exact ⟨0, by omega, rfl, ⟨rfl, .inl ⟨rfl, rfl⟩⟩, Below.refl _ _⟩
  case round =>
    obtain ⟨w2, rfl⟩ : ∃ y : World, y = wr := ⟨_, rfl⟩
    obtain ⟨J, hJ, rfl, ho2, hb2⟩ := hrel
    obtain ⟨B, hB⟩ : ∃ B, (T.take J).flatMap cardB = B := ⟨_, rfl⟩
    rw [hB] at ho2
    by_cases hlt : J < t
    · obtain ⟨x, hx⟩ : ∃ x, T[J]? = some x := ⟨_, List.getElem?_eq_getElem (by have := HTN.out; omega)⟩
      have HST := Lib.hid (show (T.take (J + 1)).flatMap cardB = B ++ cardB x from by rw [List.take_add_one, hx]; show (T.take J ++ [x]).flatMap cardB = _; rw [List.flatMap_append, hB]; simp)
      obtain ⟨m, hm⟩ : ∃ m, B.length = m := ⟨_, rfl⟩
      have hm1 : m ≤ 52100 := by rw [← hm, ← hB]; have := flatB_len (T.take J); rw [List.length_take] at this; omega
      obtain ⟨b, o, rfl⟩ : ∃ b o, ta = some ⟨b, o, none⟩ := by
        rcases HTA.out with h | ⟨b, o, e, _⟩
        · rw [h] at hx; simp at hx
        · exact ⟨b, o, e⟩
      obtain ⟨x0, x1, x2, x3, x4, x5, x6, x7, x8⟩ := (HTA.out.ext hb2).at hx
      have HXS := Lib.hid (HTS.out x (List.mem_of_getElem? hx))
      have D0 : Below w2.heap.size w2 (w2.alloc (.cells #[.string x.a, .string x.i, .int .i64 x.s, .int .i64 x.o, .int .i64 x.l, .int .i64 x.t, .int .i64 x.k, .int .i64 x.n, .bool x.g] 37)) := (Below.refl _ _).alloc (Nat.le_refl _) _
      have HX := Lib.hid (blk_new w2 #[.string x.a, .string x.i, .int .i64 x.s, .int .i64 x.o, .int .i64 x.l, .int .i64 x.t, .int .i64 x.k, .int .i64 x.n, .bool x.g] 37)
      rw [hm] at ho2
      have HO3 := Lib.hid (ownsRow_ext ho2 D0)
      have HB3 := Lib.hid (ext_trans hb2 D0)
      obtain ⟨ga, gc, rfl, -, hgc, hgm, -, -, -⟩ := own_read ho2
      have HM := Lib.hid hm
      unfold maxLen at hgm
      clear ho2 hb2 hx hB hm D0
      go_upto_region 5 with (fail)
      obtain ⟨r, hr⟩ : ∃ r, w2.heap.size = r := ⟨_, rfl⟩
      rw [hr] at HX ⊢
      clear hr
      generalize (w2.alloc (.cells #[.string x.a, .string x.i, .int .i64 x.s, .int .i64 x.o, .int .i64 x.l, .int .i64 x.t, .int .i64 x.k, .int .i64 x.n, .bool x.g] 37)) = w4 at *
      clear x0 x1 x2 x3 x4 x5 x6 x7 x8
      have hk4 := blk_cell HX.out
      have hl4 := blk_lt HX.out
      go_wp2_with fail
      refine (sealCard x _ HXS.out).mono ?_
      rintro e w5 ⟨v5, rfl, ho5, hb5⟩
      obtain ⟨a5, c5, rfl, -, -, -, hr5, -, -⟩ := own_read ho5
      obtain ⟨b5, o5, rfl, hr5'⟩ : ∃ b o, a5 = some ⟨b, o, none⟩ ∧ BAt w5 (some ⟨b, o, none⟩) (cardB x) := by
        rcases hr5 with h | ⟨b, o, e, h⟩
        · exfalso; have := congrArg List.length h; simp [cardB, txt] at this
        · exact ⟨b, o, e, .inr ⟨b, o, rfl, h⟩⟩
      have HR5 := Lib.hid hr5'
      obtain ⟨k5, hk5⟩ : ∃ k, (cardB x).length = k := ⟨_, rfl⟩
      have hk521 : k5 ≤ 521 := by rw [← hk5]; exact cardB_len x
      have HK5 := Lib.hid hk5
      have HO5 := Lib.hid (ownsRow_ext HO3.out hb5)
      have HB5 := Lib.hid (ext_trans HB3.out hb5)
      have Z5 := HB5.out.size
      rw [hk5]
      clear ho5 hb5 hr5 hr5' hk5 hk4 hl4 HX HO3 HB3
      go_wp2_with (at_builtin; refine wpList_append_own _ rfl _ _ 190 rfl (w1.heap.size) 5 i0 (.int .u8 0) 1 1 Tryz.underlying190 hi hz0 hz1 hz2 rfl (by decide) _ m (bc B) rfl HO5.out ⟨b5, o5, none⟩ k5 c5 (bc (cardB x)) rfl ?c0 ?c1 ?c2 ?c3 ?c4 ?c5 ?_)
      case c0 => rw [bc_len, HK5.out, Nat.mul_one]
      case c1 => exact fun j u hj => HR5.out.cells j u hj
      case c2 => exact bc_one _
      case c3 => unfold maxLen; omega
      case c4 => omega
      case c5 => exact Z5
      intro v7 w7 ho7 hg7 _
      have HB7 := Lib.hid (HB5.out.grown hg7 Z5 (fun q hq => own_ge HO5.out hq))
      have HO7 := Lib.hid (show w7.ownsRow w1.heap.size 5 1 v7 (B ++ cardB x).length (bc (B ++ cardB x)) from by rw [bc_append, List.length_append, HM.out, HK5.out]; exact ho7)
      clear ho7 hg7 HO5 HB5 HR5
      go_wp2
      go_roundw
      case rel => exact ⟨J + 1, by omega, by go_num, by rw [HST.out]; exact HO7.out, HB7.out⟩
      case measure => simp [intOf]; omega
    · obtain rfl : J = t := by omega
      have HF := Lib.hid (show B = sealB ls from by rw [← hB, List.take_of_length_le (by have := HTN.out; omega), ← HTT.out]; rfl)
      go_wp2
      go_ret
      exact ⟨_, rfl, by rw [HF.out] at ho2; exact ownsRow_base ho2 Z1, ext_trans HB1.out hb2⟩

set_option maxRecDepth 100000 in
set_option maxHeartbeats 1000000 in
theorem sealOf (a : Option Addr) (n c : Nat) (ls : List Cd) (w : World) (h : CAt w a ls) (hl : ls.length = n) (hn : n ≤ 100) (hnc : n ≤ c) (hs : ∀ x ∈ ls, CdS x) :
    Calls Tryz.prog 153 #[.slice a n c] w fun e w' => e = .returned (.int .u32 (sm (sealB ls))) ∧ Below w.heap.size w w' := by
  have hlen : (sealB ls).length ≤ 52100 := by have h1 := flatB_len (seenL ls); have h2 := seenL_len ls; unfold sealB; omega
  go_enter Tryz.func153, Tryz.ntmps153
  go_wp2_with fail
  refine (sealBytes a n c ls _ h hl hn hnc hs).mono ?_
  rintro e w1 ⟨v1, rfl, ho1, hb1⟩
  obtain ⟨a1, c1, rfl, -, -, -, hr1, -, -⟩ := own_read ho1
  go_wp2_with fail
  refine (frameSum a1 _ c1 (sealB ls) _ hr1 rfl (flatB_wb _) (by omega)).mono ?_
  rintro e w2 ⟨rfl, rfl⟩
  go_wp2
  go_ret
  exact ⟨rfl, hb1⟩

end Go.Proofs.YtcjpemphdgndkaaGreat
