/- Layer 7: ClockPlays, walked. -/
import Derived.Test.YtjnkchilgdhlaaaClockPA
import Derived.Test.YtjnkchilgdhlaaaOwn
namespace Go.Proofs.Ytjnkchilgdhlaaa
open Go.RowKit
set_option linter.unusedVariables false

theorem info_int : (Try.prog.info? 3).map (fun i => (i.zero, i.size, i.bytes)) = some (some (.int .i64 0), 1, 8) := by kernel_rfl
theorem info_i64 : (Try.prog.info? 2).map (fun i => (i.zero, i.size, i.bytes)) = some (some (.int .i64 0), 1, 8) := by kernel_rfl

set_option maxRecDepth 100000 in
set_option maxHeartbeats 4000000 in
theorem clockPlays_walk (n : Int) (a1 : Option Addr) (len1 cap1 : Nat) (zs1 : List Int) (a2 : Option Addr) (len2 cap2 : Nat) (zs2 : List Int) (w : World) (_ : (Lit.int .i64 n).wf = true) (h1 : IsRow .i64 w a1 len1 cap1 zs1) (hr1 : len1 * 8 ≤ 140737488351232) (h2 : IsRow .i64 w a2 len2 cap2 zs2) (hr2 : len2 * 8 ≤ 140737488351232) :
    Calls Try.prog 4 #[.int .i64 n, .slice a1 len1 cap1, .slice a2 len2 cap2] w fun e w' => e = .returned (.bool true) ∧ Below w.heap.size w w' := by
  have H1 := Lib.hid h1
  have H2 := Lib.hid h2
  obtain ⟨hlc1, hcm1, hzl1, hwz1, hcell1⟩ := h1
  obtain ⟨hlc2, hcm2, hzl2, hwz2, hcell2⟩ := h2
  unfold maxLen at hcm1 hcm2
  have C1 := Lib.hid hcell1
  have C2 := Lib.hid hcell2
  clear hcell1 hcell2
  obtain ⟨i0, hi, hz0, hz1, hz2⟩ := info_parts info_int
  obtain ⟨i4, ki, kz0, kz1, kz2⟩ := info_parts info_i64
  go_enter Try.func4, Try.ntmps4
  go_wp2_with fail
  go_loopw [7, 13] (fun v i wr => ∃ (j : Nat) (xs : List Int), j ≤ len1 ∧ i = .int .i64 j ∧ xs.length = j ∧ (∀ x ∈ xs, (Lit.int .i64 x).wf = true) ∧ wr.ownsRow w.heap.size 3 1 v j (xs.map (Value.int .i64)) ∧ Below w.heap.size w wr) (fun _ i _ => len1 - (intOf i).toNat)
  case atStart => exact ⟨0, [], by omega, rfl, rfl, by simp, World.ownsRow_nil _ _ _ _, Below.refl _ _⟩
  case round =>
    obtain ⟨wo, rfl⟩ : ∃ wo : World, wo = wr := ⟨_, rfl⟩
    obtain ⟨j, xs, hj, rfl, hxl, hxw, hown, B⟩ := hrel
    by_cases hlt : j < len1
    · obtain ⟨b1, o1, rfl, hc1⟩ := C1.out.resolve_left (by omega)
      have hx := ext_cell B (hc1 j hlt)
      clear hc1
      generalize zs1.getD j 0 = x at hx
      have hy := within_in (n := x) (lo := -1) (hi := 6) (by omega)
      go_wp2_with fail
      refine (bookWithin _ _ _ _ (by omega) (by omega) (by omega)).mono ?_
      rintro e u1 ⟨rfl, rfl⟩
      generalize within x (-1) 6 = y at *
      go_wp2_with (first | (at_builtin; refine wpList_append_own _ rfl _ _ 23 rfl (w.heap.size) 3 i0 (.int .i64 0) 1 8 Try.underlying23 hi hz0 hz1 hz2 rfl (by decide) _ _ _ rfl (hown.alloc _) ⟨wo.heap.size, 0, none⟩ 1 1 [Value.int .i64 y] rfl rfl ?c1 ?c2 ?c3 ?c4 ?c5 ?_))
      case c1 =>
        intro j' u hj'
        match j', hj' with
        | 0, hj' => simp at hj'; subst hj'; simp [Addr.add, go_sem]
      case c2 => intro u hu; simp at hu; subst hu; rfl
      case c3 => unfold maxLen; omega
      case c4 => omega
      case c5 => have := B.size; simp; omega
      intro v' w1 hown' hgrow _
      have B1 : Below w.heap.size w w1 := (B.alloc B.size _).grown hgrow (by have := B.size; simp; omega) (by intro k hk; exact own_ge hown hk)
      have hyw : (Lit.int .i64 y).wf = true := WalkArith.wf_i64 (by omega)
      clear hgrow hown B
      go_wp2
      go_roundw
      case rel => exact ⟨j + 1, xs ++ [y], by omega, by go_num, by simp [hxl], by simpa [or_imp, forall_and] using ⟨hxw, hyw⟩, by simpa using hown', B1⟩
      case measure => simp [intOf]; omega
    · obtain rfl : j = len1 := by omega
      obtain ⟨a3, cap3, rfl, hrow⟩ := isRow_of_owns hown hxl hxw
      have hrow := Lib.hid hrow
      have Bo := Lib.hid B
      have hwo := B.size
      clear hown
      go_wp2_with fail
      go_loopw [8, 27] (fun v i wr => ∃ (k : Nat) (ys : List Int), k ≤ len2 ∧ i = .int .i64 k ∧ ys.length = k ∧ (∀ x ∈ ys, (Lit.int .i64 x).wf = true) ∧ wr.ownsRow wo.heap.size 2 1 v k (ys.map (Value.int .i64)) ∧ Below wo.heap.size wo wr) (fun _ i _ => len2 - (intOf i).toNat)
      case atStart => exact ⟨0, [], by omega, rfl, rfl, by simp, World.ownsRow_nil _ _ _ _, Below.refl _ _⟩
      case round =>
        obtain ⟨wq, rfl⟩ : ∃ wq : World, wq = wr := ⟨_, rfl⟩
        obtain ⟨k, ys, hk, rfl, hyl, hyw, hown, D⟩ := hrel
        by_cases hlt2 : k < len2
        · obtain ⟨b2, o2, rfl, hc2⟩ := C2.out.resolve_left (by omega)
          have hx := ext_cell D (ext_cell B (hc2 k hlt2))
          clear hc2
          generalize zs2.getD k 0 = x at hx
          go_wp2_with (first | (at_builtin; refine wpList_append_own _ rfl _ _ 24 rfl (wo.heap.size) 2 i4 (.int .i64 0) 1 8 Try.underlying24 ki kz0 kz1 kz2 rfl (by decide) _ _ _ rfl (hown.alloc _) ⟨wq.heap.size, 0, none⟩ 1 1 [Value.int .i64 (bits BinOp.and IntKind.i64 x 1023)] rfl rfl ?c1 ?c2 ?c3 ?c4 ?c5 ?_))
          case c1 =>
            intro j' u hj'
            match j', hj' with
            | 0, hj' => simp at hj'; subst hj'; simp [Addr.add, go_sem]
          case c2 => intro u hu; simp at hu; subst hu; rfl
          case c3 => unfold maxLen; omega
          case c4 => omega
          case c5 => have := D.size; simp; omega
          intro v' w1 hown' hgrow _
          have D1 : Below wo.heap.size wo w1 := (D.alloc D.size _).grown hgrow (by have := D.size; simp; omega) (by intro k hk; exact own_ge hown hk)
          have hxw' : (Lit.int .i64 (bits BinOp.and IntKind.i64 x 1023)).wf = true := wf_bits _ _ _ _
          generalize bits BinOp.and IntKind.i64 x 1023 = y at *
          clear hgrow hown D
          go_wp2
          go_roundw
          case rel => exact ⟨k + 1, ys ++ [y], by omega, by go_num, by simp [hyl], by simpa [or_imp, forall_and] using ⟨hyw, hxw'⟩, by simpa using hown', D1⟩
          case measure => simp [intOf]; omega
        · obtain rfl : k = len2 := by omega
          obtain ⟨a4, cap4, rfl, hrow2⟩ := isRow_of_owns hown hyl hyw
          have hrow2 := Lib.hid hrow2
          have B1 := ext_trans B D
          clear hown
          go_wp2_with fail
          refine (law7play _ _ _ _ _ _ _ _ _ _ (hrow.out.ext D) hrow2.out).mono ?_
          rintro e u1 ⟨rfl, hb⟩
          have B2 := ext_trans B1 hb
          go_wp2_with fail
          refine (law7play _ _ _ _ _ _ _ _ _ _ (H1.out.ext B2) (H2.out.ext B2)).mono ?_
          rintro e u2 ⟨rfl, hb⟩
          have B3 := ext_trans B2 hb
          go_wp2_with fail
          refine (law7known _).mono ?_
          rintro e u3 ⟨rfl, hb⟩
          have B4 := ext_trans B3 hb
          go_wp2_with fail
          go_ret
          exact ⟨rfl, B4⟩

end Go.Proofs.Ytjnkchilgdhlaaa
