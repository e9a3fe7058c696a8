/- Layer 13's laws, walked: RecentPlays. -/
import Derived.Test.YtingmfchlnpgbaaRecentP
namespace Go.Proofs.Ytingmfchlnpgbaa
open Go.RowKit
set_option linter.unusedVariables false

theorem info_i64 : (Try.prog.info? 2).map (fun i => (i.zero, i.size, i.bytes)) = some (some (.int .i64 0), 1, 8) := by kernel_rfl

set_option maxRecDepth 100000 in
set_option maxHeartbeats 4000000 in
theorem recentPlays_walk (a0 : Option Addr) (len cap : Nat) (zs : List Int) (ar : Option Addr) (cr : Nat) (rs : List Ky) (sa : Option Addr) (ls sc : Nat) (ss : List Int) (w : World) (h0 : IsRow .i64 w a0 len cap zs) (hr : len * 8 ≤ 140737488351232) (hk : KAt w ar rs) (hkl : rs.length ≤ maxLen) (h1 : IsRow .i64 w sa ls sc ss) (hr1 : ls * 8 ≤ 140737488351232) :
    Calls Try.prog 4 #[.slice a0 len cap, .slice ar rs.length cr, .slice sa ls sc] w fun e w' => e = .returned (.bool true) ∧ Below w.heap.size w w' := by
  have H0 := Lib.hid h0
  have H1 := Lib.hid h1
  have HK := Lib.hid hk
  have HKL := Lib.hid hkl
  have hl0 := h1.1
  have hl1 := h1.2.1
  unfold maxLen at hl1
  obtain ⟨i0, hi, hz0, hz1, hz2⟩ := info_parts info_i64
  clear h0 h1 hk hkl
  go_enter Try.func4, Try.ntmps4
  go_wp2_with fail
  go_loopw [7, 11] (fun v i wr => ∃ (j : Nat) (xs : List Int), j ≤ ls ∧ i = .int .i64 j ∧ xs.length = j ∧ (∀ x ∈ xs, (Lit.int .i64 x).wf = true) ∧ wr.ownsRow w.heap.size 2 1 v j (xs.map (Value.int .i64)) ∧ Below w.heap.size w wr) (fun _ i _ => ls - (intOf i).toNat)
  case atStart => exact ⟨0, [], by omega, rfl, rfl, by simp, World.ownsRow_nil _ _ _ _, Below.refl _ _⟩
  case round =>
    obtain ⟨w2, rfl⟩ : ∃ y : World, y = wr := ⟨_, rfl⟩
    obtain ⟨j, xs, hj, rfl, hxl, hxw, hown, B2⟩ := hrel
    have HX := Lib.hid hxl
    have HW := Lib.hid hxw
    have HO := Lib.hid hown
    have Z2 := B2.size
    clear hxl hxw hown
    by_cases hlj : j < ls
    · obtain ⟨sb, so, rfl, hz⟩ := H1.out.2.2.2.2.resolve_left (by omega)
      have hx := ext_cell B2 (hz j hlj)
      have hwx := bounds_i64 (getD_wf (j := j) H1.out.2.2.2.1)
      generalize ss.getD j 0 = x at hx hwx
      have hdj : decide ((j : Int) < ls) = true := by simp; omega
      have hy1 := win_lo x (-1) 45 (by omega)
      have hy2 := win_hi x (-1) 45 (by omega)
      clear hz
      go_wp2_with fail
      refine (within_any _ _ _ _ (by omega) (by omega) (by omega) (by omega) (by omega)).mono ?_
      rintro e w3 ⟨rfl, rfl⟩
      generalize win x (-1) 45 = y at *
      have HV := Lib.hid (WalkArith.wf_i64 (by omega) : (Lit.int .i64 y).wf = true)
      go_wp2_with (first | (at_builtin; refine wpList_append_own _ rfl _ _ 26 rfl (w.heap.size) 2 i0 (.int .i64 0) 1 8 Try.underlying26 hi hz0 hz1 hz2 rfl (by decide) _ _ _ rfl (HO.out.alloc _) ⟨w2.heap.size, 0, none⟩ 1 1 [.int .i64 y] rfl rfl ?c1 ?c2 ?c3 ?c4 ?c5 ?_))
      case c1 =>
        intro j' u hj'
        match j', hj' with
        | 0, hj' => simp at hj'; subst hj'; simp [Addr.add, go_sem]
      case c2 => intro u hu; simp at hu; subst hu; rfl
      case c3 => unfold maxLen; omega
      case c4 => omega
      case c5 => simp; omega
      intro v' w3 hown' hgrow _
      have B3 := (B2.alloc B2.size _).grown hgrow (by simp; omega) (fun q hq => own_ge HO.out hq)
      have O3 := Lib.hid hown'
      clear hown' hgrow
      go_wp2
      go_roundw
      case rel => exact ⟨j + 1, xs ++ [y], by omega, by go_num, by simp [HX.out], by intro z hz; rcases List.mem_append.1 hz with h | h; (· exact HW.out z h); (· simp at h; subst h; exact HV.out), by simpa using O3.out, B3⟩
      case measure => simp [intOf]; omega
    · obtain ⟨at_, ct, rfl, hrow⟩ := isRow_of_owns HO.out HX.out HW.out
      have HR := Lib.hid hrow
      have hdj : decide ((j : Int) < ls) = false := by simp; omega
      clear hrow
      go_wp2_with fail
      refine (law13keys a0 len cap zs _ (H0.out.ext B2) hr).mono ?_
      rintro e w3 ⟨v, ks, rfl, ho, hl50, B3⟩
      obtain ⟨al, cl, rfl, -, -, -, hka, -⟩ := own_read ho
      have K3 := Lib.hid hka
      have D3 := ext_trans B2 B3
      clear ho hka
      go_wp2_with fail
      refine (law13play al cl ks _ j ct _ _ K3.out (by unfold maxLen; omega) (HR.out.ext B3)).mono ?_
      rintro e w4 ⟨rfl, hb⟩
      have D4 := ext_trans D3 hb
      clear hb
      go_wp2_with fail
      refine (law13play ar cr rs _ ls sc _ _ (HK.out.ext D4) HKL.out (H1.out.ext D4)).mono ?_
      rintro e w5 ⟨rfl, hb⟩
      have D5 := ext_trans D4 hb
      clear hb
      go_wp2_with fail
      refine (law13keys a0 len cap zs _ (H0.out.ext D5) hr).mono ?_
      rintro e w6 ⟨v, ks', rfl, ho, hl50', B6⟩
      obtain ⟨al', cl', rfl, -, -, -, hka, -⟩ := own_read ho
      have K6 := Lib.hid hka
      have D6 := ext_trans D5 B6
      clear ho hka
      go_wp2_with fail
      refine (law13play al' cl' ks' _ ls sc _ _ K6.out (by unfold maxLen; omega) (H1.out.ext D6)).mono ?_
      rintro e w7 ⟨rfl, hb⟩
      have D7 := ext_trans D6 hb
      clear hb
      go_wp2_with fail
      refine (law13known _).mono ?_
      rintro e w8 ⟨rfl, hb⟩
      have D8 := ext_trans D7 hb
      go_wp2
      go_ret
      exact ⟨rfl, D8⟩

end Go.Proofs.Ytingmfchlnpgbaa
