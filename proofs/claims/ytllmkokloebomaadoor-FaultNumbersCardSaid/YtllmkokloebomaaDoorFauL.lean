/- What errors tell: Errno.Error, words, Fault.Error. -/
import Derived.Test.YtllmkokloebomaaDoorFauI
import Derived.Test.YtllmkokloebomaaDoorBytes
import Derived.Lib.AppendStr
import Derived.Laws.Concat
namespace Go.Proofs.YtllmkokloebomaaDoor
open Go.RowKit Go.Extern.Stop Go.Stop Go.Extern
set_option linter.unusedVariables false
set_option linter.unusedSimpArgs false

theorem info_u8 : (Tryd.prog.info? 5).map (fun i => (i.zero, i.size, i.bytes)) = some (some (.int .u8 0), 1, 1) := by kernel_rfl
theorem mErrE (v : Value) (w : World) : (Go.method 221 23 v "Error").run Tryd.prog w = .ok (32, v) w := by kernel_rfl
theorem mErrF (v : Value) (w : World) : (Go.method 221 29 v "Error").run Tryd.prog w = .ok (16, v) w := by kernel_rfl
/-- digits ahead of those that are there -/
def dg (m : Nat) (acc : List Int) : List Int := if h : m = 0 then acc else dg (m / 10) (((48 + m % 10 : Nat) : Int) :: acc)
  termination_by m
  decreasing_by omega
/-- the digits of a number -/
def dgs (m : Nat) : List Int := if m = 0 then [48] else dg m []
/-- what an Errno tells -/
def errT (c : Int) : ByteArray := if c = 0 then ⟨#[110, 111, 32, 101, 114, 114, 111, 114]⟩ else if c = 1 then ⟨#[97, 110, 32, 97, 114, 103, 117, 109, 101, 110, 116, 32, 116, 104, 97, 116, 32, 109, 97, 121, 32, 110, 111, 116, 32, 98, 101]⟩ else if c = 22 then ⟨#[110, 111, 116, 32, 116, 104, 101, 114, 101]⟩ else ⟨#[114, 101, 102, 117, 115, 97, 108, 32]⟩ ++ strOfNums (dgs c.toNat)
theorem own_one (w : World) (base : Nat) (d : Int) (h : base ≤ w.heap.size) : (w.alloc (.cells #[.int .u8 d] 5)).ownsRow base 5 1 (.slice (some ⟨w.heap.size, 0, none⟩) 1 1) 1 (bc [d]) := by
  refine ⟨rfl, .inr ⟨w.heap.size, 1, #[.int .u8 d], rfl, h, blk_new _ _ _, by omega, by unfold maxLen; omega, rfl, rfl⟩⟩
theorem w64 (n : Int) (h : -9223372036854775808 ≤ n ∧ n ≤ 9223372036854775807) : wrap64 n = n := by unfold wrap64; omega
/-- 1 of an empty row -/
def lz : Value → Nat
  | .slice _ 0 _ => 1
  | _ => 0
theorem lz_pos (a : Option Addr) (n c : Nat) (h : 0 < n) : lz (.slice a n c) = 0 := by
  cases n with
  | zero => omega
  | succ n => rfl
theorem lz_0 (a : Option Addr) (c : Nat) : lz (.slice a 0 c) = 1 := rfl
theorem ms_step (k m L c4 gc : Nat) (a4 ga : Option Addr) (h : k < m) (hm : (m : Int) ≤ 9223372036854775807) : 2 * (intOf (Value.int IntKind.i64 (wrap64 (k : Int)))).toNat + lz (Value.slice a4 (1 + L) c4) < 2 * (intOf (Value.int IntKind.i64 (m : Int))).toNat + lz (Value.slice ga L gc) := by
  have hwk : wrap64 (k : Int) = (k : Int) := w64 _ (by omega)
  have e1 := lz_pos a4 (1 + L) c4 (by omega)
  rw [e1, hwk]
  have e2 : (intOf (Value.int IntKind.i64 (k : Int))).toNat = k := rfl
  have e3 : (intOf (Value.int IntKind.i64 (m : Int))).toNat = m := rfl
  rw [e2, e3]
  omega
theorem ms_zero (c4 gc : Nat) (a4 ga : Option Addr) : 2 * (intOf (Value.int IntKind.i64 0)).toNat + lz (Value.slice a4 1 c4) < 2 * (intOf (Value.int IntKind.i64 ((0 : Nat) : Int))).toNat + lz (Value.slice ga 0 gc) := by
  have e1 := lz_pos a4 1 c4 (by omega)
  rw [e1, lz_0]
  show 0 < 1
  omega
theorem dg_step (m : Nat) (acc : List Int) (h : m ≠ 0) : dg m acc = dg (m / 10) (((48 + m % 10 : Nat) : Int) :: acc) := by rw [dg, dif_neg h]
theorem dg_zero (acc : List Int) : dg 0 acc = acc := by rw [dg, dif_pos rfl]

set_option maxRecDepth 100000 in
set_option maxHeartbeats 2000000 in
theorem errnoError (c : Int) (w : World) (hc : (Lit.int .i64 c).wf = true) :
    Calls Tryd.prog 32 #[.int .i64 c] w fun r w' => r = .returned (.string (errT c)) ∧ Below w.heap.size w w' := by
  obtain ⟨i0, hi, hz0, hz1, hz2⟩ := info_parts2 info_u8
  have hcb := bounds_i64 hc
  by_cases h0 : c = 0
  · subst h0
    have e : errT 0 = ⟨#[110, 111, 32, 101, 114, 114, 111, 114]⟩ := by simp [errT]
    rw [e]
    clear e
    go_enter Tryd.func32, Tryd.ntmps32
    go_wp2
    go_ret
    exact ⟨rfl, Below.refl _ _⟩
  by_cases h1 : c = 1
  · subst h1
    have e : errT 1 = ⟨#[97, 110, 32, 97, 114, 103, 117, 109, 101, 110, 116, 32, 116, 104, 97, 116, 32, 109, 97, 121, 32, 110, 111, 116, 32, 98, 101]⟩ := by simp [errT]
    rw [e]
    clear e
    go_enter Tryd.func32, Tryd.ntmps32
    go_wp2
    go_ret
    exact ⟨rfl, Below.refl _ _⟩
  by_cases h2 : c = 22
  · subst h2
    have e : errT 22 = ⟨#[110, 111, 116, 32, 116, 104, 101, 114, 101]⟩ := by simp [errT]
    rw [e]
    clear e
    go_enter Tryd.func32, Tryd.ntmps32
    go_wp2
    go_ret
    exact ⟨rfl, Below.refl _ _⟩
  obtain ⟨m0, hm0⟩ : ∃ m0, c.toNat = m0 := ⟨_, rfl⟩
  have hm9 : m0 < 10 ^ 19 := by omega
  have he : errT c = ⟨#[114, 101, 102, 117, 115, 97, 108, 32]⟩ ++ strOfNums (dgs m0) := by unfold errT; rw [if_neg h0, if_neg h1, if_neg h2, hm0]
  obtain ⟨T, hT⟩ : ∃ T, errT c = T := ⟨_, rfl⟩
  rw [he] at hT
  rw [he, hT]
  have HT := Lib.hid hT
  have HM9 := Lib.hid hm9
  have HM0 := Lib.hid hm0
  have d0 : (c == 0) = false := by simpa using h0
  have d1 : (c == 1) = false := by simpa using h1
  have d2 : (c == 22) = false := by simpa using h2
  clear he hT hm9 hm0 h0 h1 h2
  by_cases hc0 : c < 0
  all_goals
    first | have hcd := decide_eq_true hc0 | have hcd := decide_eq_false hc0
    go_enter Tryd.func32, Tryd.ntmps32
    go_wp2_with fail
    go_loopw [3, 4] (fun n b wr => ∃ (m : Nat) (xs : List Int), n = .int .i64 (m : Int) ∧ m ≤ m0 ∧ wr.ownsRow w.heap.size 5 1 b xs.length (bc xs) ∧ Wb xs ∧ (xs = [] → m = m0) ∧ (xs ≠ [] → dg m xs = dgs m0) ∧ m * 10 ^ xs.length ≤ m0 ∧ xs.length ≤ 19 ∧ Below w.heap.size w wr) (fun n b _ => 2 * (intOf n).toNat + lz b)
    case atStart => exact ⟨m0, [], by have := HM0.out; congr 1; omega, Nat.le_refl _, OwnR.nil (enc := fun x : Int => [Value.int .u8 x]) _ _, Wb.nil, fun _ => rfl, fun h => absurd rfl h, by simp, by simp, Below.refl _ _⟩
    case round =>
      obtain ⟨w2, rfl⟩ : ∃ y : World, y = wr := ⟨_, rfl⟩
      obtain ⟨m, xs, rfl, hm, ho, hwb, hx0, hx1, hp, h19, hb2⟩ := hrel
      obtain ⟨ga, gc, rfl, -, hgc, hgm, hbt, -, -⟩ := own_read ho
      obtain ⟨L, hL⟩ : ∃ L, xs.length = L := ⟨_, rfl⟩
      have hm8 : (m : Int) ≤ 9223372036854775807 := by have := HM9.out; have h7 := HM0.out; omega
      have HO := Lib.hid ho
      have HB2 := Lib.hid hb2
      have HL := Lib.hid hL
      have HBT := Lib.hid hbt
      have HWB := Lib.hid hwb
      have HX0 := Lib.hid hx0
      have HX1 := Lib.hid hx1
      have HP := Lib.hid hp
      have HM := Lib.hid hm
      rw [hL] at hgc h19 ⊢
      unfold maxLen at hgm
      have Z2 := hb2.size
      clear ho hb2 hL hbt hwb hx0 hx1 hp hm
      by_cases hm0 : m = 0
      · subst hm0
        by_cases hl0 : L = 0
        · subst hl0
          have HE := Lib.hid (show xs = [] from List.eq_nil_of_length_eq_zero HL.out)
          go_wp2_with (at_builtin; refine wpList_append_bytes _ rfl _ _ 66 rfl w.heap.size 5 i0 Tryd.underlying66 hi hz0 hz1 hz2 _ 1 [48] rfl (own_one w2 w.heap.size 48 Z2) ga 0 gc [] rfl (.inl rfl) rfl ?c3 ?c4 ?c5 ?_)
          case c3 => unfold maxLen; omega
          case c4 => omega
          case c5 => first | (simp; omega) | omega
          intro v4 w4 ho4 hg4
          have HB4 := Lib.hid ((HB2.out.alloc Z2 (.cells #[.int .u8 48] 5)).grown hg4 (by simp; omega) (fun q hq => own_ge (own_one w2 w.heap.size 48 Z2) hq))
          have HO4 := Lib.hid ho4
          obtain ⟨a4, c4, rfl, -⟩ := own_read ho4
          clear ho4 hg4
          go_wp2
          go_roundw
          case rel =>
            have hz : m0 = 0 := (HX0.out HE.out).symm
            exact ⟨0, [48], by simp, by omega, HO4.out, Wb.one (by omega) (by omega), (fun h => by cases h), (fun _ => by rw [dg_zero, hz]; rfl), by simp, by simp, HB4.out⟩
          case measure =>
            exact ms_zero _ _ _ _
        · have HE := Lib.hid (show xs ≠ [] from fun h => hl0 (by rw [← HL.out, h]; rfl))
          have hcv : (convert 66 9 (.slice ga L gc)).run Tryd.prog w2 = .ok (.string (strOfNums xs)) w2 := run_text w2 66 5 Tryd.underlying66 Tryd.underlying5 9 Tryd.underlying9 ga L gc xs HL.out HBT.out
          have hsz : (strOfNums xs).size = L := by rw [← sb_len, sb_str _ HWB.out, HL.out]
          have hadd : (Op.stringOp .add ⟨#[114, 101, 102, 117, 115, 97, 108, 32]⟩ (strOfNums xs)).run Tryd.prog w2 = .ok (.string T) w2 := by
            have e := HX1.out HE.out
            rw [dg_zero] at e
            rw [← HT.out, ← e]
            exact run_string_add_sum w2 _ _ (by rw [hsz]; show (8 : Nat) + L ≤ _; omega)
          clear hsz
          obtain ⟨X, hX⟩ : ∃ X, strOfNums xs = X := ⟨_, rfl⟩
          rw [hX] at hcv hadd
          clear hX
          go_wp2
          go_ret
          exact ⟨rfl, HB2.out⟩
      · have hq : (m : Int).tdiv 10 = ((m / 10 : Nat) : Int) := by rw [Int.tdiv_eq_ediv_of_nonneg (by omega)]; omega
        have hr : (m : Int).tmod 10 = ((m % 10 : Nat) : Int) := by rw [Int.tmod_eq_emod_of_nonneg (by omega)]; omega
        have h20 : L < 19 := by
          rcases Nat.lt_or_ge L 19 with h | h
          · exact h
          · exfalso
            have h9 := HP.out
            rw [HL.out] at h9
            have h7 : (10 : Nat) ^ 19 ≤ 10 ^ L := Nat.pow_le_pow_right (by omega) h
            have h6 : 1 * 10 ^ L ≤ m * 10 ^ L := Nat.mul_le_mul_right _ (by omega)
            have := HM9.out
            omega
        have hmp : (m : Int) > 0 := by omega
        obtain ⟨d, hd⟩ : ∃ d, m % 10 = d := ⟨_, rfl⟩
        obtain ⟨k, hk⟩ : ∃ k, m / 10 = k := ⟨_, rfl⟩
        rw [hd] at hr
        rw [hk] at hq
        have hd10 : d < 10 := by omega
        have HD := Lib.hid hd
        have HK := Lib.hid hk
        have HNE := Lib.hid hm0
        have hkm : k < m := by omega
        have HKM := Lib.hid hkm
        clear hd hk hm0 hkm
        have hwr : IntKind.u8.wrap (48 + (d : Int)) = 48 + (d : Int) := by rw [IntKind.wrap_u8]; omega
        have hwi : IntKind.i64.wrap (48 + (d : Int)) = 48 + (d : Int) := by rw [IntKind.wrap_i64]; omega
        go_wp2_with (at_builtin; refine wpList_append_bytes _ rfl _ _ 66 rfl w.heap.size 5 i0 Tryd.underlying66 hi hz0 hz1 hz2 _ 1 [48 + (d : Int)] rfl (own_one w2 w.heap.size (48 + (d : Int)) Z2) ga L gc xs rfl (HBT.out.ext ((Below.refl _ _).alloc (Nat.le_refl _) _)) HL.out ?c3 ?c4 ?c5 ?_)
        case c3 => unfold maxLen; omega
        case c4 => omega
        case c5 => first | (simp; omega) | omega
        intro v4 w4 ho4 hg4
        have HB4 := Lib.hid ((HB2.out.alloc Z2 (.cells #[.int .u8 (48 + (d : Int))] 5)).grown hg4 (by simp; omega) (fun q hq => own_ge (own_one w2 w.heap.size (48 + (d : Int)) Z2) hq))
        have HO4 := Lib.hid ho4
        obtain ⟨a4, c4, rfl, -⟩ := own_read ho4
        clear ho4 hg4
        go_wp2
        go_roundw
        case rel =>
          refine ⟨k, (48 + (d : Int)) :: xs, congrArg (Value.int .i64) (w64 _ (by have := HKM.out; omega)), by have := HKM.out; have := HM.out; omega, ?_, ?_, (fun h => by cases h), (fun _ => ?_), ?_, by rw [List.length_cons, HL.out]; omega, HB4.out⟩
          · have e : ((48 + (d : Int)) :: xs).length = 1 + L := by rw [List.length_cons, HL.out]; omega
            rw [e]; exact HO4.out
          · intro x hx
            rcases List.mem_cons.1 hx with rfl | hx
            · omega
            · exact HWB.out x hx
          · have e : dg m xs = dg k ((48 + (d : Int)) :: xs) := by
              have e0 : ((48 + d : Nat) : Int) = 48 + (d : Int) := by omega
              rw [dg_step m xs HNE.out, HD.out, HK.out, e0]
            rw [← e]
            by_cases hx : xs = []
            · have h5 : m = m0 := HX0.out hx
              subst h5
              subst hx
              unfold dgs
              rw [if_neg HNE.out]
            · exact HX1.out hx
          · have h9 := HP.out
            have h8 : k * 10 ≤ m := by have := HK.out; omega
            rw [List.length_cons, Nat.pow_succ, Nat.mul_comm (10 ^ xs.length) 10, ← Nat.mul_assoc]
            exact Nat.le_trans (Nat.mul_le_mul_right _ h8) h9
        case measure =>
          have := HKM.out
          exact ms_step _ _ _ _ _ _ _ HKM.out hm8
end Go.Proofs.YtllmkokloebomaaDoor
