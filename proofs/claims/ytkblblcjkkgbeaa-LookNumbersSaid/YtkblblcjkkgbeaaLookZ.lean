/- 'LookNumbers': the walk. -/
import Derived.Test.YtkblblcjkkgbeaaLookY
namespace Go.Proofs.Ytkblblcjkkgbeaa
open Go.RowKit
set_option linter.unusedVariables false
set_option linter.unusedSimpArgs false

theorem info_int : (Try.prog.info? 3).map (fun i => (i.zero, i.size, i.bytes)) = some (some (.int .i64 0), 1, 8) := by kernel_rfl
theorem mul_lo {a b : Nat} : (0 : Int) ≤ (a : Int) * b := Int.mul_nonneg (by omega) (by omega)
theorem mul_hi {a b x y : Nat} (ha : a ≤ x) (hb : b ≤ y) : (a : Int) * b ≤ (x : Int) * y := by exact_mod_cast Nat.mul_le_mul ha hb
theorem five_at (P : Nat) (h : P < 5) : ∃ t : ByteArray, (#[.string ⟨#[97, 112, 112]⟩, .string ⟨#[98]⟩, .string ⟨#[97, 112, 112, 49]⟩, .string ⟨#[122, 57]⟩, .string ⟨#[]⟩] : Array Value)[P]? = some (.string t) := by
  match P, h with
  | 0, _ => exact ⟨_, rfl⟩
  | 1, _ => exact ⟨_, rfl⟩
  | 2, _ => exact ⟨_, rfl⟩
  | 3, _ => exact ⟨_, rfl⟩
  | 4, _ => exact ⟨_, rfl⟩
theorem seven_at (P : Nat) (h : P < 7) : ∃ z : Int, (#[.int .i64 (-9223372036854775808), .int .i64 (-3), .int .i64 (-1), .int .i64 0, .int .i64 1, .int .i64 5, .int .i64 9223372036854775807] : Array Value)[P]? = some (.int .i64 z) := by
  match P, h with
  | 0, _ => exact ⟨_, rfl⟩
  | 1, _ => exact ⟨_, rfl⟩
  | 2, _ => exact ⟨_, rfl⟩
  | 3, _ => exact ⟨_, rfl⟩
  | 4, _ => exact ⟨_, rfl⟩
  | 5, _ => exact ⟨_, rfl⟩
  | 6, _ => exact ⟨_, rfl⟩

set_option maxRecDepth 100000 in
set_option maxHeartbeats 4000000 in
theorem lookNumbers_walk (w : World) :
    Calls Try.prog 3 #[] w fun e w' => e = .returned (.bool true) ∧ Below w.heap.size w w' := by
  obtain ⟨i0, hi, hz0, hz1, hz2⟩ := info_parts info_int
  go_enter Try.func3, Try.ntmps3
  go_wp2_with fail
  go_loopw [1] (fun i wr => ∃ k : Nat, k ≤ 40 ∧ i = .int .i64 k ∧ Below w.heap.size w wr) (fun i _ => 40 - (intOf i).toNat)
  case atStart => exact ⟨0, by omega, rfl, Below.refl _ _⟩
  case round =>
    obtain ⟨w1, rfl⟩ : ∃ y : World, y = wr := ⟨_, rfl⟩
    obtain ⟨k, hk, rfl, B1⟩ := hrel
    by_cases hlk : k < 40
    · have hdk : decide ((k : Int) < 40) = true := by simp; omega
      have Z1 := B1.size
      go_wp2_with fail
      go_loopw [2, 3] (fun v i wr => ∃ (j : Nat) (xs : List Int), j ≤ 120 ∧ i = .int .i64 j ∧ xs.length = j ∧ (∀ x ∈ xs, (Lit.int .i64 x).wf = true) ∧ wr.ownsRow w1.heap.size 3 1 v j (xs.map (Value.int .i64)) ∧ Below w1.heap.size w1 wr) (fun _ i _ => 120 - (intOf i).toNat)
      case atStart => exact ⟨0, [], by omega, rfl, rfl, by simp, World.ownsRow_nil _ _ _ _, Below.refl _ _⟩
      case round =>
        obtain ⟨w2, rfl⟩ : ∃ y : World, y = wr := ⟨_, rfl⟩
        obtain ⟨j, xs, hj, rfl, hxl, hxw, hown, B2⟩ := hrel
        have HX := Lib.hid hxl
        have HW := Lib.hid hxw
        have HO := Lib.hid hown
        have Z2 := B2.size
        clear hxl hxw hown
        by_cases hlj : j < 120
        · have hdj : decide ((j : Int) < 120) = true := by simp; omega
          have m1 := mul_lo (a := j) (b := j)
          have m2 : (j : Int) * j ≤ 14400 := by have := mul_hi (a := j) (b := j) (x := 120) (y := 120) (by omega) (by omega); omega
          have m3 := mul_lo (a := j) (b := k)
          have m4 : (j : Int) * k ≤ 4800 := by have := mul_hi (a := j) (b := k) (x := 120) (y := 40) (by omega) (by omega); omega
          have hv0 : 0 ≤ (((j : Int) * j * 7 + k * 79 + j * k) % 211) := Int.emod_nonneg _ (by omega)
          have hv1 : (((j : Int) * j * 7 + k * 79 + j * k) % 211) < 211 := Int.emod_lt_of_pos _ (by omega)
          have hvw : (Lit.int .i64 (((j : Int) * j * 7 + k * 79 + j * k) % 211)).wf = true := WalkArith.wf_i64 (by omega)
          have HV := Lib.hid hvw
          clear hv0 hv1 hvw
          go_wp2_with (first | (at_builtin; refine wpList_append_own _ rfl _ _ 22 rfl (w1.heap.size) 3 i0 (.int .i64 0) 1 8 Try.underlying22 hi hz0 hz1 hz2 rfl (by decide) _ _ _ rfl (HO.out.alloc _) ⟨w2.heap.size, 0, none⟩ 1 1 [.int .i64 (((j : Int) * j * 7 + k * 79 + j * k) % 211)] rfl rfl ?c1 ?c2 ?c3 ?c4 ?c5 ?_))
          case c1 =>
            intro j' u hj'
            match j', hj' with
            | 0, hj' => simp at hj'; subst hj'; simp [Addr.add, go_sem]
          case c2 => intro u hu; simp at hu; subst hu; rfl
          case c3 => unfold maxLen; omega
          case c4 => omega
          case c5 => simp; omega
          intro v' w3 hown' hgrow _
          have B3 := (B2.alloc B2.size _).grown hgrow (by simp; omega) (fun q hq => own_ge HO.out hq)
          have O3 := Lib.hid hown'
          clear hown' hgrow
          go_wp2
          go_roundw
          case rel => exact ⟨j + 1, xs ++ [(((j : Int) * j * 7 + k * 79 + j * k) % 211)], by omega, by go_num, by simp [HX.out], by intro y hy; rcases List.mem_append.1 hy with h | h; (· exact HW.out y h); (· simp at h; subst h; exact HV.out), by simpa using O3.out, B3⟩
          case measure => simp [intOf]; omega
        · have hdj : decide ((j : Int) < 120) = false := by simp; omega
          obtain ⟨at_, ct, rfl, hrow⟩ := isRow_of_owns HO.out HX.out HW.out
          have D2 := ext_trans B1 B2
          have DA : Below w2.heap.size w2 (w2.alloc (.cells #[.slice at_ j ct, .int .i64 0] 26)) := (Below.refl _ _).alloc (Nat.le_refl _) _
          have HT3 := Lib.hid (tapeK_new (a := at_) (len := j) (cap := ct) w2)
          have HR3 := Lib.hid (rowOk_new hrow (.cells #[.slice at_ j ct, .int .i64 0] 26))
          have HB3 := Lib.hid (ext_trans D2 DA)
          have HD2 := Lib.hid D2
          have HZW := Lib.hid (ext_trans D2 DA).size
          clear hrow DA D2 B1 B2 Z1 Z2 HO HX HW
          go_wp2_with fail
          generalize (w2.alloc (.cells #[.slice at_ j ct, .int .i64 0] 26)) = w3 at *
          obtain ⟨tb, htb⟩ : ∃ tb, w2.heap.size = tb := ⟨_, rfl⟩
          have HTB := Lib.hid (show w.heap.size ≤ tb by have := HD2.out.size; omega)
          rw [htb] at HT3 HR3 ⊢
          clear htb
          refine (tapeCards at_ j ct xs tb 12 _ HT3.out HR3.out (by omega)).mono ?_
          rintro e w4 ⟨va, as_, rfl, hoa, hla, hoka, hT4, hb4⟩
          obtain ⟨aa, ac, rfl, hac, ham, haat, hage, haf⟩ := hoa.read
          obtain ⟨n, hn⟩ : ∃ n, as_.length = n := ⟨_, rfl⟩
          have HA4 := Lib.hid haat
          have HN := Lib.hid hn
          have HB4 := Lib.hid (HB3.out.trans (hb4.below HTB.out HB3.out.size))
          rw [hn] at hac hla ⊢
          unfold maxLen at ham
          clear hoa hoka hT4 hb4 haat hn HT3 HR3 HB3 hage haf
          have D4 : Below w4.heap.size w4 (w4.alloc (.cells #[.string ⟨#[97, 112, 112]⟩, .string ⟨#[98]⟩, .string ⟨#[97, 112, 112, 49]⟩, .string ⟨#[122, 57]⟩, .string ⟨#[]⟩] 9)) := (Below.refl _ _).alloc (Nat.le_refl _) _
          have HX5 := Lib.hid (blk_new w4 #[.string ⟨#[97, 112, 112]⟩, .string ⟨#[98]⟩, .string ⟨#[97, 112, 112, 49]⟩, .string ⟨#[122, 57]⟩, .string ⟨#[]⟩] 9)
          have HA5 := Lib.hid (HA4.out.ext D4)
          have HB5 := Lib.hid (ext_trans HB4.out D4)
          clear D4 HA4 HB4
          go_upto_region 11 with (fail)
          obtain ⟨sb, hsb⟩ : ∃ tb, w4.heap.size = tb := ⟨_, rfl⟩
          rw [hsb] at HX5 ⊢
          clear hsb
          generalize (w4.alloc (.cells #[.string ⟨#[97, 112, 112]⟩, .string ⟨#[98]⟩, .string ⟨#[97, 112, 112, 49]⟩, .string ⟨#[122, 57]⟩, .string ⟨#[]⟩] 9)) = w5 at *
          go_wp2_with fail
          go_loopw [38] (fun i wr => ∃ P : Nat, P ≤ 5 ∧ i = .int .i64 (P : Int) ∧ Below w5.heap.size w5 wr) (fun i _ => 5 - (intOf i).toNat)
          case atStart => exact ⟨0, by omega, rfl, Below.refl _ _⟩
          case round =>
            obtain ⟨w6, rfl⟩ : ∃ y : World, y = wr := ⟨_, rfl⟩
            obtain ⟨P, hP, rfl, hb6⟩ := hrel
            by_cases hlP : P < 5
            · have hdP : decide ((P : Int) < 5) = true := by simp; omega
              obtain ⟨app, happ⟩ := five_at P hlP
              have k0 : w6.cell? ⟨sb, P, none⟩ = some (.string app) := by rw [blk_cell (blk_ext hb6 HX5.out)]; exact happ
              have HB6 := Lib.hid hb6
              have D6 : Below w6.heap.size w6 (w6.alloc (.cells #[.int .i64 (-9223372036854775808), .int .i64 (-3), .int .i64 (-1), .int .i64 0, .int .i64 1, .int .i64 5, .int .i64 9223372036854775807] 2)) := (Below.refl _ _).alloc (Nat.le_refl _) _
              have HX7 := Lib.hid (blk_new w6 #[.int .i64 (-9223372036854775808), .int .i64 (-3), .int .i64 (-1), .int .i64 0, .int .i64 1, .int .i64 5, .int .i64 9223372036854775807] 2)
              have HB7 := Lib.hid (ext_trans HB6.out D6)
              clear happ hb6 D6
              go_upto_region 14 with (fail)
              obtain ⟨nb, hnb⟩ : ∃ tb, w6.heap.size = tb := ⟨_, rfl⟩
              rw [hnb] at HX7 ⊢
              clear hnb
              generalize (w6.alloc (.cells #[.int .i64 (-9223372036854775808), .int .i64 (-3), .int .i64 (-1), .int .i64 0, .int .i64 1, .int .i64 5, .int .i64 9223372036854775807] 2)) = w7 at *
              clear k0
              go_wp2_with fail
              go_loopw [44] (fun i wr => ∃ I : Nat, I ≤ 7 ∧ i = .int .i64 (I : Int) ∧ Below w7.heap.size w7 wr) (fun i _ => 7 - (intOf i).toNat)
              case atStart => exact ⟨0, by omega, rfl, Below.refl _ _⟩
              case round =>
                obtain ⟨w8, rfl⟩ : ∃ y : World, y = wr := ⟨_, rfl⟩
                obtain ⟨I, hI, rfl, hb8⟩ := hrel
                by_cases hlI : I < 7
                · have hdI : decide ((I : Int) < 7) = true := by simp; omega
                  obtain ⟨z, hz⟩ := seven_at I hlI
                  have k1 : w8.cell? ⟨nb, I, none⟩ = some (.int .i64 z) := by rw [blk_cell (blk_ext hb8 HX7.out)]; exact hz
                  have HA8 := Lib.hid (HA5.out.ext (ext_trans HB7.out hb8))
                  have HB8 := Lib.hid hb8
                  clear hz hb8
                  go_wp2_with fail
                  refine (law23same aa n ac as_ app z _ HA8.out HN.out (by omega) hac).mono ?_
                  rintro e w9 ⟨rfl, hb9⟩
                  have HB9 := Lib.hid (ext_trans HB8.out hb9)
                  clear hb9 k1 HB8 HA8
                  go_wp2
                  go_roundw
                  case rel => exact ⟨I + 1, by omega, by go_num, HB9.out⟩
                  case measure => simp [intOf]; omega
                · have hdI : decide ((I : Int) < 7) = false := by simp; omega
                  have HB8 := Lib.hid (ext_trans HB7.out hb8)
                  clear hb8
                  go_wp2
                  go_roundw
                  case rel => exact ⟨P + 1, by omega, by go_num, HB8.out⟩
                  case measure => simp [intOf]; omega
            · have hdP : decide ((P : Int) < 5) = false := by simp; omega
              have HB8 := Lib.hid (ext_trans HB5.out hb6)
              clear hb6
              go_wp2
              go_roundw
              case rel => exact ⟨k + 1, by omega, by go_num, HB8.out⟩
              case measure => simp [intOf]; omega
    · have hdk : decide ((k : Int) < 40) = false := by simp; omega
      have HB1 := Lib.hid B1
      clear B1
      go_wp2_with fail
      refine (law23same none 0 0 [] ⟨#[]⟩ 0 _ (.inl rfl) rfl (by omega) (by omega)).mono ?_
      rintro e w4 ⟨rfl, hb4⟩
      have HB4 := Lib.hid (ext_trans HB1.out hb4)
      clear hb4
      go_wp2_with fail
      refine (law23known _).mono ?_
      rintro e w5 ⟨rfl, hb5⟩
      have HB5 := Lib.hid (ext_trans HB4.out hb5)
      clear hb5
      go_wp2
      go_ret
      exact ⟨rfl, HB5.out⟩

end Go.Proofs.Ytkblblcjkkgbeaa
