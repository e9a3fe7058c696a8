/- ScriptLines: the walk. -/
import Derived.Test.YtcgembfdejjliaaGreatDoorScS
import Derived.Test.YtcgembfdejjliaaGreatDoorStay
namespace Go.Proofs.YtcgembfdejjliaaGreatDoor
open Go.RowKit
set_option linter.unusedVariables false
set_option linter.unusedSimpArgs false

set_option maxRecDepth 100000 in
set_option maxHeartbeats 4000000 in
theorem scriptLines00 (a b : ByteArray) (w : World) (hw : SW w) (ha : ¬ 60 < a.size) (hb : ¬ 60 < b.size) (hma : a.size ≤ maxLen) (hmb : b.size ≤ maxLen) :
    Calls Tryz.prog 5 #[.string a, .string b] w fun r w' => r = .returned (.bool true) ∧ Below w.heap.size w w' := by
  obtain ⟨x, hx, hzx⟩ : ∃ x, a = x ∧ x.size ≤ 60 := ⟨_, rfl, by omega⟩
  have agt : ¬ (60 : Int) < (a.size : Int) := by omega
  obtain ⟨y, hy, hzy⟩ : ∃ y, b = y ∧ y.size ≤ 60 := ⟨_, rfl, by omega⟩
  have bgt : ¬ (60 : Int) < (b.size : Int) := by omega
  have hadd1 : ∀ u : World, (Op.stringOp .add x ⟨#[10]⟩).run Tryz.prog u = .ok (.string (x ++ ⟨#[10]⟩)) u := fun u => run_string_add_sum u _ _ (by show x.size + 1 ≤ _; omega)
  have hadd2 : ∀ u : World, (Op.stringOp .add (x ++ ⟨#[10]⟩) y).run Tryz.prog u = .ok (.string (x ++ ⟨#[10]⟩ ++ y)) u := fun u => run_string_add_sum u _ _ (by rw [ByteArray.size_append]; show x.size + 1 + y.size ≤ _; omega)
  obtain ⟨z, hz⟩ : ∃ z, x ++ ⟨#[10]⟩ ++ y = z := ⟨_, rfl⟩
  have hzz : z.size ≤ 121 := by rw [← hz, ByteArray.size_append, ByteArray.size_append]; show x.size + 1 + y.size ≤ _; omega
  have HAP := Lib.hid (by have := lines_app x y hzx hzy; rw [hz] at this; exact this)
  rw [hz] at hadd2
  have HW := Lib.hid hw
  have HZ := Lib.hid (show _ ∧ _ ∧ _ from ⟨pm_small x (by omega), pm_small y (by omega), pm_small z (by omega)⟩)
  clear hw hz
  go_enter Tryz.func5, Tryz.ntmps5
  go_wp2_with fail
  try rw [hx]
  try rw [hy]
  refine (parseP x (by omega) w HW.out).mono ?_
  rintro e w1 ⟨va, vf, vs, rfl, hp⟩
  have H1 := Lib.hid hp
  clear hp
  go_wp2_with fail
  try rw [hy]
  refine (parseP y (by omega) w1 (HW.out.ext H1.out.bl)).mono ?_
  rintro e w2 ⟨ua, uf, us, rfl, hp⟩
  have H2 := Lib.hid (show _ ∧ _ ∧ _ from ⟨ext_trans H1.out.bl hp.bl, H1.out.ext hp.bl, hp⟩)
  clear hp H1
  go_wp2_with fail
  try rw [hx]
  try rw [hy]
  refine (parseP z (by omega) w2 (HW.out.ext H2.out.1)).mono ?_
  rintro e w3 ⟨ta, tf, ts, rfl, hp⟩
  have H3 := Lib.hid (show _ ∧ _ ∧ _ ∧ _ from ⟨ext_trans H2.out.1 hp.bl, H2.out.2.1.ext hp.bl, H2.out.2.2.ext hp.bl, hp⟩)
  clear hp H2
  obtain ⟨LA, hLA⟩ : ∃ l, (pm 1 0 (nl x.data.toList)).1 = l := ⟨_, rfl⟩
  obtain ⟨LB, hLB⟩ : ∃ l, (pm 1 0 (nl y.data.toList)).1 = l := ⟨_, rfl⟩
  rw [HAP.out.1, hLA, hLB] at H3
  rw [hLA, hLB] at HZ
  obtain ⟨a1, c1, rfl, hc1, hA1⟩ := H3.out.2.1.oa.acts
  obtain ⟨a2, c2, rfl, hc2, hA2⟩ := H3.out.2.2.1.oa.acts
  obtain ⟨a3, c3, rfl, hc3, hA3⟩ := H3.out.2.2.2.oa.acts
  obtain ⟨e1, d1, rfl, hd1, -, -⟩ := H3.out.2.1.ov.form
  obtain ⟨e2, d2, rfl, hd2, -, -⟩ := H3.out.2.2.1.ov.form
  obtain ⟨e3, d3, rfl, hd3, hm3, he3⟩ := H3.out.2.2.2.ov.form
  have k1 := H3.out.2.1.fe.len
  have k2 := H3.out.2.2.1.fe.len
  have k3 := H3.out.2.2.2.fe.len
  rw [HAP.out.2, ← k1, ← k2] at k3
  obtain ⟨n1, hn1⟩ : ∃ n, LA.length = n := ⟨_, rfl⟩
  obtain ⟨n2, hn2⟩ : ∃ n, LB.length = n := ⟨_, rfl⟩
  obtain ⟨m1, hm1⟩ : ∃ n, vs.length = n := ⟨_, rfl⟩
  obtain ⟨m2, hm2⟩ : ∃ n, us.length = n := ⟨_, rfl⟩
  have b1 : n1 ≤ 131 ∧ m1 ≤ 131 := by have := HZ.out.1; omega
  have b2 : n2 ≤ 131 ∧ m2 ≤ 131 := by have := HZ.out.2.1; omega
  obtain ⟨n3, hn3⟩ : ∃ n, n = n1 + n2 := ⟨_, rfl⟩
  obtain ⟨m3, hm3'⟩ : ∃ n, n = m1 + m2 := ⟨_, rfl⟩
  have e3n : (LA ++ LB).length = n3 := by rw [List.length_append, hn1, hn2, hn3]
  have e3m : ts.length = m3 := by rw [k3, hm1, hm2, hm3']
  have t1 : ((n3 : Int) != (n1 : Int) + (n2 : Int)) = false := by simp; omega
  have t2 : ((m3 : Int) != (m1 : Int) + (m2 : Int)) = false := by simp; omega
  rw [e3n, e3m, hn1, hn2, hm1, hm2]
  rw [e3n] at hc3
  rw [e3m] at hd3
  have H4 := Lib.hid (show _ ∧ _ ∧ _ ∧ _ from ⟨hA1, hA2, hA3, he3⟩)
  have HN := Lib.hid (show _ ∧ _ ∧ _ ∧ _ ∧ _ from ⟨hn1, hn2, e3n, e3m, hn3⟩)
  have b3 : n3 ≤ 262 ∧ m3 ≤ 262 := by omega
  clear hA1 hA2 hA3 he3 k1 k2 k3 hn1 hn2 hm1 hm2 e3n e3m hn3 hm3' hLA hLB hm3
  go_wp2_with fail
  go_loopw [61] (fun j wr => ∃ J : Nat, J ≤ n3 ∧ j = .int .i64 (J : Int) ∧ Below w3.heap.size w3 wr) (fun j _ => n3 - (RowKit.intOf j).toNat)
  case atStart => exact ⟨0, by omega, rfl, Below.refl _ _⟩
  case round =>
    obtain ⟨w5, rfl⟩ : ∃ y : World, y = wr := ⟨_, rfl⟩
    obtain ⟨J, hJ, rfl, hb5⟩ := hrel
    have HB5 := Lib.hid hb5
    clear hb5
    by_cases hlt : J < n3
    · have hltI : (J : Int) < (n3 : Int) := by omega
      obtain ⟨r, hr⟩ : ∃ r, (LA ++ LB)[J]? = some r := ⟨_, List.getElem?_eq_getElem (by have := HN.out.2.2.1; omega)⟩
      obtain ⟨g3, o3, rfl, h3⟩ := H4.out.2.2.1.resolve_left (by intro e; rw [e] at hr; simp at hr)
      have q0 := ext_cell HB5.out (h3 J r hr 0 _ rfl)
      have q1 := ext_cell HB5.out (h3 J r hr 1 _ rfl)
      have q2 := ext_cell HB5.out (h3 J r hr 2 _ rfl)
      have q3 := ext_cell HB5.out (h3 J r hr 3 _ rfl)
      have q4 := ext_cell HB5.out (h3 J r hr 4 _ rfl)
      have q5 := ext_cell HB5.out (h3 J r hr 5 _ rfl)
      have q6 := ext_cell HB5.out (h3 J r hr 6 _ rfl)
      rw [Nat.add_zero] at q0
      clear h3
      have hne := act_ne r.k r.a r.b r.op r.st r.n r.app
      by_cases hJ1 : J < n1
      · have t3 : decide ((J : Int) < (n1 : Int)) = true := by simp; omega
        have t4 : decide ((n1 : Int) ≤ (J : Int)) = false := by simp; omega
        have t4n : decide (n1 ≤ J) = false := decide_eq_false (by omega)
        have t3n : decide (J < n1) = true := decide_eq_true (by omega)
        have t5 : (J : Int) < (n1 : Int) := by omega
        have hr1 : LA[J]? = some r := by rw [List.getElem?_append_left (by have := HN.out.1; omega)] at hr; exact hr
        obtain ⟨g1, o1, rfl, h1⟩ := H4.out.1.resolve_left (by intro e; rw [e] at hr1; simp at hr1)
        have hb := HB5.out
        have p0 := ext_cell hb (h1 J r hr1 0 _ rfl)
        have p1 := ext_cell hb (h1 J r hr1 1 _ rfl)
        have p2 := ext_cell hb (h1 J r hr1 2 _ rfl)
        have p3 := ext_cell hb (h1 J r hr1 3 _ rfl)
        have p4 := ext_cell hb (h1 J r hr1 4 _ rfl)
        have p5 := ext_cell hb (h1 J r hr1 5 _ rfl)
        have p6 := ext_cell hb (h1 J r hr1 6 _ rfl)
        rw [Nat.add_zero] at p0
        clear h1 hr1 hr hb
        go_wp2_with fail
        haveI hIq : Nonempty (Of w5) := of_some _
        have hF0 := of_cell p0
        have hG0 := of_cell q0
        have hF1 := of_cell p1
        have hG1 := of_cell q1
        have hF2 := of_cell p2
        have hG2 := of_cell q2
        have hF3 := of_cell p3
        have hG3 := of_cell q3
        have hF4 := of_cell p4
        have hG4 := of_cell q4
        have hF5 := of_cell p5
        have hG5 := of_cell q5
        have hF6 := of_cell p6
        have hG6 := of_cell q6
        first | (refine wp_region_stay w5 (by kernel_rfl) (by kernel_rfl) (by go_grown) ?_) | (refine wp_region_stay_seq w5 (by go_grown) ?_)
        repeat (go_big_quiet_step (fail))
        refine wpQuiet_nil ?_
        intro w6 hb6
        clear hIq hF0 hG0 hF1 hG1 hF2 hG2 hF3 hG3 hF4 hG4 hF5 hG5 hF6 hG6
        have HB6 := Lib.hid (ext_trans HB5.out hb6)
        clear hb6 p0 p1 p2 p3 p4 p5 p6 q0 q1 q2 q3 q4 q5 q6 hne
        go_wp2
        go_roundw
        case rel => exact ⟨J + 1, by omega, by go_num, HB6.out⟩
        case measure => simp [RowKit.intOf]; omega
      · obtain ⟨K, hK⟩ : ∃ K, J - n1 = K := ⟨_, rfl⟩
        have t3 : decide ((J : Int) < (n1 : Int)) = false := by simp; omega
        have t4 : decide ((n1 : Int) ≤ (J : Int)) = true := by simp; omega
        have t4n : decide (n1 ≤ J) = true := decide_eq_true (by omega)
        have t3n : decide (J < n1) = false := decide_eq_false (by omega)
        have t5 : ¬ (J : Int) < (n1 : Int) := by omega
        have t6 : (J : Int) - (n1 : Int) = (K : Int) := by omega
        have t7 : wrap64 ((J : Int) - (n1 : Int)) = (K : Int) := by unfold wrap64; omega
        have t8 : K < n2 := by have := HN.out.2.2.2.2; omega
        have t9 : (K : Int) < (n2 : Int) := by omega
        have hr1 : LB[K]? = some r := by rw [List.getElem?_append_right (by have := HN.out.1; omega), HN.out.1, hK] at hr; exact hr
        obtain ⟨g1, o1, rfl, h1⟩ := H4.out.2.1.resolve_left (by intro e; rw [e] at hr1; simp at hr1)
        have hb := HB5.out
        have p0 := ext_cell hb (h1 K r hr1 0 _ rfl)
        have p1 := ext_cell hb (h1 K r hr1 1 _ rfl)
        have p2 := ext_cell hb (h1 K r hr1 2 _ rfl)
        have p3 := ext_cell hb (h1 K r hr1 3 _ rfl)
        have p4 := ext_cell hb (h1 K r hr1 4 _ rfl)
        have p5 := ext_cell hb (h1 K r hr1 5 _ rfl)
        have p6 := ext_cell hb (h1 K r hr1 6 _ rfl)
        rw [Nat.add_zero] at p0
        clear h1 hr1 hr hb
        go_wp2_with fail
        haveI hIq : Nonempty (Of w5) := of_some _
        have hF0 := of_cell p0
        have hG0 := of_cell q0
        have hF1 := of_cell p1
        have hG1 := of_cell q1
        have hF2 := of_cell p2
        have hG2 := of_cell q2
        have hF3 := of_cell p3
        have hG3 := of_cell q3
        have hF4 := of_cell p4
        have hG4 := of_cell q4
        have hF5 := of_cell p5
        have hG5 := of_cell q5
        have hF6 := of_cell p6
        have hG6 := of_cell q6
        first | (refine wp_region_stay w5 (by kernel_rfl) (by kernel_rfl) (by go_grown) ?_) | (refine wp_region_stay_seq w5 (by go_grown) ?_)
        repeat (go_big_quiet_step (fail))
        refine wpQuiet_nil ?_
        intro w6 hb6
        clear hIq hF0 hG0 hF1 hG1 hF2 hG2 hF3 hG3 hF4 hG4 hF5 hG5 hF6 hG6
        have HB6 := Lib.hid (ext_trans HB5.out hb6)
        clear hb6 p0 p1 p2 p3 p4 p5 p6 q0 q1 q2 q3 q4 q5 q6 hne
        go_wp2
        go_roundw
        case rel => exact ⟨J + 1, by omega, by go_num, HB6.out⟩
        case measure => simp [RowKit.intOf]; omega
    · obtain rfl : J = n3 := by omega
      have hlt2 : decide ((J : Int) < (J : Int)) = false := by simp
      go_wp2_with fail
      go_loopw [102] (fun j wr => ∃ J : Nat, J ≤ m3 ∧ j = .int .i64 (J : Int) ∧ Below w3.heap.size w3 wr) (fun j _ => m3 - (RowKit.intOf j).toNat)
      case atStart => exact ⟨0, by omega, rfl, HB5.out⟩
      case round =>
        obtain ⟨w6, rfl⟩ : ∃ y : World, y = wr := ⟨_, rfl⟩
        obtain ⟨I, hI, rfl, hb6⟩ := hrel
        have HB6 := Lib.hid hb6
        clear hb6
        by_cases hit : I < m3
        · have hitI : (I : Int) < (m3 : Int) := by omega
          obtain ⟨v, hv⟩ : ∃ v, ts[I]? = some v := ⟨_, List.getElem?_eq_getElem (by have := HN.out.2.2.2.1; omega)⟩
          obtain ⟨eb, rfl, -, -⟩ := H4.out.2.2.2.resolve_left (by rintro ⟨-, -, e⟩; rw [e] at hv; simp at hv)
          have y0 := ext_cell HB6.out (OwnR.at eE_len H3.out.2.2.2.ov hv 0 v rfl)
          rw [Nat.mul_one, Nat.add_zero] at y0
          obtain ⟨f, hf⟩ := FErr.at H3.out.2.2.2.fe hv
          have HF := Lib.hid (hf.ext HB6.out)
          have HSW := Lib.hid (HW.out.ext (ext_trans H3.out.1 HB6.out))
          clear hf hv
          go_wp2_with fail
          refine (faultCode_hit _ 12 _ w6 HSW.out.eg HF.out (by simp)).mono ?_
          rintro e w7 ⟨rfl, hb7⟩
          have H7 := Lib.hid (show _ ∧ _ ∧ _ from ⟨ext_trans HB6.out hb7, HF.out.ext hb7, HSW.out.ext hb7⟩)
          have y1 := ext_cell hb7 y0
          clear y0 hb7 HF HSW
          go_wp2_with fail
          refine (faultPath _ _ _ w7 H7.out.2.2.eg H7.out.2.1 (.no 12) (by simp)).mono ?_
          rintro e w8 ⟨u, rfl, ho, hb8⟩
          obtain ⟨ua, uc, hu, -, -, -⟩ := OwnR.form ho
          replace hu : u = .slice ua 2 uc := hu
          subst hu
          have HB8 := Lib.hid (ext_trans H7.out.1 hb8)
          clear ho hb8 H7 y1
          go_wp2
          go_roundw
          case rel => exact ⟨I + 1, by omega, by go_num, HB8.out⟩
          case measure => simp [RowKit.intOf]; omega
        · obtain rfl : I = m3 := by omega
          have hit2 : decide ((I : Int) < (I : Int)) = false := by simp
          go_wp2_with fail
          refine (known25 w6 (HW.out.ext (ext_trans H3.out.1 HB6.out))).mono ?_
          rintro e w7 ⟨rfl, hb7⟩
          go_wp2
          go_ret
          exact ⟨rfl, ext_trans H3.out.1 (ext_trans HB6.out hb7)⟩
end Go.Proofs.YtcgembfdejjliaaGreatDoor
