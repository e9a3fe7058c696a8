/- Layer 11: GuardPlays, walked. -/
import Derived.Test.YtelmalkgfikddaaGuardP
import Derived.Test.YtelmalkgfikddaaMask
import Derived.Test.YtelmalkgfikddaaOwn
namespace Go.Proofs.Ytelmalkgfikddaa
open Go.RowKit
set_option linter.unusedVariables false

theorem info_i64 : (Try.prog.info? 2).map (fun i => (i.zero, i.size, i.bytes)) = some (some (.int .i64 0), 1, 8) := by kernel_rfl

set_option maxRecDepth 100000 in
set_option maxHeartbeats 4000000 in
theorem guardPlays_walk (now : Int) (a1 : Option Addr) (len1 cap1 : Nat) (zs1 : List Int) (a2 : Option Addr) (len2 cap2 : Nat) (zs2 : List Int) (w : World) (hnow : (Lit.int .i64 now).wf = true) (h1 : IsRow .i64 w a1 len1 cap1 zs1) (hr1 : len1 * 8 ≤ 140737488351232) (h2 : IsRow .i64 w a2 len2 cap2 zs2) (hr2 : len2 * 8 ≤ 140737488351232) :
    Calls Try.prog 4 #[.int .i64 now, .slice a1 len1 cap1, .slice a2 len2 cap2] w fun e w' => e = .returned (.bool true) ∧ Below w.heap.size w w' := by
  have H1 := h1
  have H2 := h2
  obtain ⟨hlc2, hcm2, hzl2, hwz2, hcell2⟩ := h2
  unfold maxLen at hcm2
  have hm : (Lit.int .i64 (bits .and .i64 now 255)).wf = true := wf_bits _ _ _ _
  have H1 := Lib.hid H1
  have H2 := Lib.hid H2
  clear h1
  obtain ⟨i0, hi, hz0, hz1, hz2⟩ := info_parts info_i64
  go_enter Try.func4, Try.ntmps4
  go_wp2_with fail
  go_loopw [7, 8, 14] (fun v t i wr => ∃ (j : Nat) (at0 : Int) (xs : List Int), j ≤ len2 ∧ i = .int .i64 j ∧ t = .int .i64 at0 ∧ xs.length = j ∧ (∀ x ∈ xs, (Lit.int .i64 x).wf = true) ∧ wr.ownsRow w.heap.size 2 1 v j (xs.map (Value.int .i64)) ∧ Below w.heap.size w wr) (fun _ _ i _ => len2 - (intOf i).toNat)
  case atStart => exact ⟨0, _, [], by omega, rfl, rfl, rfl, by simp, World.ownsRow_nil _ _ _ _, Below.refl _ _⟩
  case round =>
    obtain ⟨j, at0, xs, hj, rfl, rfl, hxl, hxw, hown, B⟩ := hrel
    by_cases hlt : j < len2
    · obtain ⟨b2, o2, rfl, hc2⟩ := hcell2.resolve_left (by omega)
      have hx := ext_cell B (hc2 j hlt)
      clear hc2 hcell2
      generalize zs2.getD j 0 = x at hx
      go_wp2_with (first | (at_builtin; refine wpList_append_own _ rfl _ _ 25 rfl (w.heap.size) 2 i0 (.int .i64 0) 1 8 Try.underlying25 hi hz0 hz1 hz2 rfl (by decide) _ _ _ rfl (hown.alloc _) ⟨wr.heap.size, 0, none⟩ 1 1 [Value.int .i64 (wrap64 (at0 + bits BinOp.and IntKind.i64 x 63))] rfl rfl ?c1 ?c2 ?c3 ?c4 ?c5 ?_))
      case c1 =>
        intro j' u hj'
        match j', hj' with
        | 0, hj' => simp at hj'; subst hj'; simp [Addr.add, go_sem]
      case c2 => intro u hu; simp at hu; subst hu; rfl
      case c3 => unfold maxLen; omega
      case c4 => omega
      case c5 => have := B.size; simp; omega
      intro v' w1 hown' hgrow _
      have B1 : Below w.heap.size w w1 := (B.alloc B.size _).grown hgrow (by have := B.size; simp; omega) (by intro k hk; exact own_ge hown hk)
      have hxw' : (Lit.int .i64 (wrap64 (at0 + bits BinOp.and IntKind.i64 x 63))).wf = true := RowKit.wrap64_wf _
      generalize wrap64 (at0 + bits BinOp.and IntKind.i64 x 63) = y at *
      clear hgrow hown B
      go_wp2
      go_roundw
      case rel => exact ⟨j + 1, y, xs ++ [y], by omega, by go_num, rfl, by simp [hxl], by simpa [or_imp, forall_and] using ⟨hxw, hxw'⟩, by simpa using hown', B1⟩
      case measure => simp [intOf]; omega
    · obtain rfl : j = len2 := by omega
      obtain ⟨a3, cap3, rfl, hrow⟩ := isRow_of_owns hown hxl hxw
      have hrow := Lib.hid hrow
      go_wp2_with fail
      refine (law11play _ _ _ _ _ _ _ _ _ _ hm (H1.out.ext B) hrow.out).mono ?_
      rintro e u1 ⟨rfl, hb⟩
      have B1 := ext_trans B hb
      go_wp2_with fail
      refine (law11play _ _ _ _ _ _ _ _ _ _ hnow (H1.out.ext B1) (H2.out.ext B1)).mono ?_
      rintro e u2 ⟨rfl, hb⟩
      have B2 := ext_trans B1 hb
      go_wp2_with fail
      refine (law11known _).mono ?_
      rintro e u3 ⟨rfl, hb⟩
      have B3 := ext_trans B2 hb
      go_wp2_with fail
      go_ret
      exact ⟨rfl, B3⟩

end Go.Proofs.Ytelmalkgfikddaa
