/- slices.symMergeCmpFunc at structs: one on the right. -/
import Derived.Test.YtkhmaaalmlnblaaSymM
import Derived.Deep.Cut
namespace Go.Proofs.Ytkhmaaalmlnblaa
open Go.Shelf Go.RowKit Go.Lib Go.Sort
set_option linter.unusedVariables false
set_option linter.unusedSimpArgs false
set_option linter.unusedSectionVars false
variable {P : Program} {ρ : Ren} {α : Type} [Inhabited α]
set_option maxHeartbeats 2000000 in
set_option maxRecDepth 1000000 in
theorem syMerR (L : SyL P ρ) (k : Nat) (aE : ∀ w, (isAgg (ρ.t 24)).run P w = .ok true w) (zE : ∀ w, (Go.sizeOf (ρ.t 24)).run P w = .ok k w) (enc : α → List Value) (g : Nat) (cb : Array Value) (blk off cap : Nat) (cf : α → α → Int) (N : Nat) (d0 : Array α) (w0 : World) (R : RowK enc k w0 blk off d0) (hs : d0.size = N) (eg : ∀ args w, (callFunc g args).run P w = .ok (.enter g args) w) (hcmp : CmpLays P g cb enc k cf blk off N w0) (W : Weak (ltOf cf)) (hsz : N < 1000000000) (a m b : Nat) (d : Array α) (w : World) (hN : d.size = N) (S : SWK enc k w0 blk off d w) (X Lf Z : List α) (y : α) (hd : d.toList = X ++ (Lf ++ ([y] ++ Z))) (ha : X.length = a) (hL : a + Lf.length = m) (hR : m + 1 = b) (ham : a + 1 < m) (oL : Ord (ltOf cf) Lf) :
    Calls P (ρ.f 79) #[.slice (some ⟨blk, off, none⟩) N cap, .int .i64 a, .int .i64 m, .int .i64 b, .func (.func g) #[] cb] w fun e w' => e = .returned (.tuple #[]) ∧ ∃ d' : Array α, d'.size = N ∧ d'.toList = X ++ (mrg (ltOf cf) Lf [y] ++ Z) ∧ SWK enc k w0 blk off d' w' := by
  have mixed := L.l20.mixed; have t0 := L.l20.t0; have a0 := L.l20.a0; have z0 := L.l20.z0; have v0 := L.l20.v0; have t3 := L.l20.t3; have a3 := L.l20.a3; have z3 := L.l20.z3; have v3 := L.l20.v3; have t4 := L.l20.t4; have a4 := L.l20.a4; have z4 := L.l20.z4; have v4 := L.l20.v4; have t22 := L.l20.t22; have a22 := L.l20.a22; have z22 := L.l20.z22; have v22 := L.l20.v22; have t25 := L.l20.t25; have a25 := L.l20.a25; have z25 := L.l20.z25; have v25 := L.l20.v25
  have t39 := L.t39; have a39 := L.a39; have z39 := L.z39; have v39 := L.v39
  obtain ⟨_, _, FG⟩ := L.f79
  have hbd : b ≤ N := by
    have := congrArg List.length hd
    simp at this
    omega
  have HC : Aside _ := hcmp
  have hx : d[m]! = y := at_of (pre := X ++ Lf) (post := Z) (by simpa using hd) (by simp; omega)
  have hO : Hid (∀ s t, a ≤ s → s ≤ t → t < m → ltOf cf d[t]! d[s]! = false) := ord_at (ltOf cf) W (X := X) (Y := Lf) (Z := [y] ++ Z) hd oL ha hL
  have HX : Hid (d[m]! = y) := hx
  have HM : Hid (d.toList = X ++ (Lf ++ ([y] ++ Z)) ∧ X.length = a ∧ a + Lf.length = m ∧ m + 1 = b) := ⟨hd, ha, hL, hR⟩
  have HW : Hid (Weak (ltOf cf)) := W
  have HN : Hid (d.size = N) := hN
  have S0 : Aside (SWK enc k w0 blk off d w) := S
  have q1 : (b : Int) - (m : Int) = 1 := by omega
  have am : a < m := by omega
  obtain ⟨ml, hml⟩ : ∃ q, q + a = m := ⟨m - a, by omega⟩
  have q0 : (m : Int) - (a : Int) = (ml : Int) := by omega
  have q4 : IntKind.i64.wrap (ml : Int) = (ml : Int) := by rw [IntKind.wrap_i64]; omega
  have q5 : ((ml : Int) == 1) = false := beq_eq_false_iff_ne.2 (by omega)
  clear S hd ha hL hR oL hcmp hx W
  go_enter FG, syB_mer_ntmps ρ
  go_wp2
  go_loopg [14, 15] (m - a) (fun kx s10 s11 wr => ∃ i j : Nat, s10 = .int .i64 i ∧ s11 = .int .i64 j ∧ a ≤ i ∧ i ≤ j ∧ j ≤ m ∧ j - i ≤ kx ∧ Aside (SWK enc k w0 blk off d wr) ∧ Hid (∀ t, a ≤ t → t < i → ltOf cf d[m]! d[t]! = false) ∧ Hid (∀ t, j ≤ t → t < m → ltOf cf d[m]! d[t]! = true))
  case atStart => exact ⟨a, m, rfl, rfl, Nat.le_refl _, by omega, Nat.le_refl _, Nat.le_refl _, S0, fun t h1 h2 => by omega, fun t h1 h2 => by omega⟩
  case round =>
    clear S0
    obtain ⟨i, j, rfl, rfl, h1, h2, h3, hkx, S1, H1, H2⟩ := hrel
    by_cases hlt : i < j
    · have hltz : (i : Int) < (j : Int) := by omega
      obtain ⟨h, hh⟩ : ∃ q, q = (i + j) / 2 := ⟨_, rfl⟩
      have wa1 : IntKind.i64.wrap ((i : Int) + (j : Int)) = (i : Int) + (j : Int) := by rw [IntKind.wrap_i64]; omega
      have wb1 : IntKind.u64.wrap ((i : Int) + (j : Int)) = (i : Int) + (j : Int) := by unfold IntKind.wrap; simp [IntKind.signed, IntKind.bits]; omega
      have wc1 : ((i : Int) + (j : Int)) / 2 = (h : Int) := by omega
      have wd1 : IntKind.u64.wrap (h : Int) = (h : Int) := by unfold IntKind.wrap; simp [IntKind.signed, IntKind.bits]; omega
      have we1 : IntKind.i64.wrap (h : Int) = (h : Int) := by rw [IntKind.wrap_i64]; omega
      have HH : Hid (h = (i + j) / 2) := hh
      have m1 : i ≤ h := by omega
      have m2 : h < j := by omega
      clear hh
      go_upto_region 17 with fail
      cases hlv : (ltOf cf) d[m]! d[h]! with
      | true =>
        have ea44 : ((m : Int)).toNat = m := by omega
        have pa44 : (0 : Int) ≤ (m : Int) := by omega
        have ba44 : (m : Int) < (N : Int) := by omega
        have ra44 : IntKind.i64.wrap ((m : Int)) = (m : Int) := by rw [IntKind.wrap_i64]; omega
        have ec44 : ((h : Int)).toNat = h := by omega
        have pc44 : (0 : Int) ≤ (h : Int) := by omega
        have bc44 : (h : Int) < (N : Int) := by omega
        have rc44 : IntKind.i64.wrap ((h : Int)) = (h : Int) := by rw [IntKind.wrap_i64]; omega
        obtain ⟨x44, hx44⟩ : ∃ x, x = d[m]! := ⟨_, rfl⟩
        obtain ⟨y44, hy44⟩ : ∃ x, x = d[h]! := ⟨_, rfl⟩
        have l44a := S1.out.ld R (by omega) P (m) (by omega)
        have l44b := S1.out.ld R (by omega) P (h) (by omega)
        rw [← hx44] at l44a
        rw [← hy44] at l44b
        have hc44 := S1.out.cmp HC.out (by omega) x44 y44
        have hv44 : cf x44 y44 < 0 := by rw [hx44, hy44]; exact of_decide_eq_true hlv
        have hd44 : decide (cf x44 y44 < 0) = true := decide_eq_true hv44
        clear hx44 hy44
        go_wp2_with fail
        go_quiet_grown (first | (go_at_fn g; refine Calls.grown_of (hc44 _ _)))
        have S2 : Aside (SWK enc k w0 blk off d (grow (wr.drewN nq) osq)) := S1.out.grown nq osq
        clear l44a l44b hc44 S1
        generalize grow (wr.drewN nq) osq = w2 at S2 ⊢
        clear nq osq
        go_wp2
        go_roundg (h - i)
        case measure => omega
        case rel =>
          refine ⟨i, h, rfl, by first | rfl | go_num, h1, m1, by omega, Nat.le_refl _, S2, H1, (show Hid _ from ?_)⟩
          intro t t1 t2
          cases hc : ltOf cf d[m]! d[t]! with
          | true => rfl
          | false =>
            have := HW.out.ntr _ _ _ (hO.out h t (by omega) t1 t2) hc
            rw [this] at hlv
            cases hlv
      | false =>
        have ea45 : ((m : Int)).toNat = m := by omega
        have pa45 : (0 : Int) ≤ (m : Int) := by omega
        have ba45 : (m : Int) < (N : Int) := by omega
        have ra45 : IntKind.i64.wrap ((m : Int)) = (m : Int) := by rw [IntKind.wrap_i64]; omega
        have ec45 : ((h : Int)).toNat = h := by omega
        have pc45 : (0 : Int) ≤ (h : Int) := by omega
        have bc45 : (h : Int) < (N : Int) := by omega
        have rc45 : IntKind.i64.wrap ((h : Int)) = (h : Int) := by rw [IntKind.wrap_i64]; omega
        obtain ⟨x45, hx45⟩ : ∃ x, x = d[m]! := ⟨_, rfl⟩
        obtain ⟨y45, hy45⟩ : ∃ x, x = d[h]! := ⟨_, rfl⟩
        have l45a := S1.out.ld R (by omega) P (m) (by omega)
        have l45b := S1.out.ld R (by omega) P (h) (by omega)
        rw [← hx45] at l45a
        rw [← hy45] at l45b
        have hc45 := S1.out.cmp HC.out (by omega) x45 y45
        have hv45 : ¬ cf x45 y45 < 0 := by rw [hx45, hy45]; exact of_decide_eq_false hlv
        have hd45 : decide (cf x45 y45 < 0) = false := decide_eq_false hv45
        clear hx45 hy45
        go_wp2_with fail
        go_quiet_grown (first | (go_at_fn g; refine Calls.grown_of (hc45 _ _)))
        have S2 : Aside (SWK enc k w0 blk off d (grow (wr.drewN nq) osq)) := S1.out.grown nq osq
        clear l45a l45b hc45 S1
        generalize grow (wr.drewN nq) osq = w2 at S2 ⊢
        clear nq osq
        go_wp2
        go_roundg (j - (h + 1))
        case measure => omega
        case rel =>
          refine ⟨h + 1, j, by first | rfl | go_num, rfl, by omega, by omega, h3, Nat.le_refl _, S2, (show Hid _ from ?_), H2⟩
          intro t t1 t2
          exact HW.out.ntr _ _ _ (hO.out t h t1 (by omega) (by omega)) hlv
    · have hltz : ¬ (i : Int) < (j : Int) := by omega
      have e : j = i := by omega
      subst e
      go_wp2
      go_loopg [17] (m - j) (fun kx s13 wr => ∃ (kk : Nat) (dk : Array α), s13 = .int .i64 kk ∧ j ≤ kk ∧ kk ≤ m ∧ kk - j ≤ kx ∧ dk.size = N ∧ Aside (SWK enc k w0 blk off dk wr) ∧ Hid (∃ L1 L2, Lf = L1 ++ L2 ∧ L1.length = kk - a ∧ dk.toList = X ++ (L1 ++ (y :: (L2 ++ Z)))))
      case atStart => exact ⟨m, d, rfl, by omega, Nat.le_refl _, Nat.le_refl _, HN.out, S1, Lf, [], by simp, by have := HM.out; omega, by simpa using HM.out.1⟩
      case round =>
        obtain ⟨kk, dk, rfl, k1, k2, kkx, hds, S2, HL⟩ := hrel
        by_cases hkl : j < kk
        · obtain ⟨kp, rfl⟩ : ∃ q, kk = q + 1 := ⟨kk - 1, by omega⟩
          have hklz : (j : Int) < (kp : Int) + 1 := by omega
          go_wp2_with fail
          have ea46 : ((kp : Int) + 1).toNat = kp + 1 := by omega
          have pa46 : (0 : Int) ≤ (kp : Int) + 1 := by omega
          have ba46 : (kp : Int) + 1 < (N : Int) := by omega
          have ra46 : IntKind.i64.wrap ((kp : Int) + 1) = (kp : Int) + 1 := by rw [IntKind.wrap_i64]; omega
          have ec46 : ((kp : Int)).toNat = kp := by omega
          have pc46 : (0 : Int) ≤ (kp : Int) := by omega
          have bc46 : (kp : Int) < (N : Int) := by omega
          have rc46 : IntKind.i64.wrap ((kp : Int)) = (kp : Int) := by rw [IntKind.wrap_i64]; omega
          have S3 : Aside (SWK enc k w0 blk off (swp dk (kp + 1) (kp)) ((wr.drew.setCells blk (off + (kp + 1) * k) (enc dk[kp]!)).setCells blk (off + (kp) * k) (enc dk[kp + 1]!))) := S2.out.swapped R (kp + 1) (kp) (by omega) (by omega)
          have l46a := S2.out.ld1 R (by omega) P (kp + 1) (by omega)
          have l46b := S2.out.ld1 R (by omega) P (kp) (by omega)
          have s46a := S2.out.st1 R (by omega) P (kp + 1) (by omega) dk[kp]!
          have s46b := S2.out.st2 R (by omega) P (kp + 1) (kp) (by omega) (by omega) dk[kp]! dk[kp + 1]!
          have n46a : (enc dk[kp + 1]!).length = k := R.hk _
          have n46b : (enc dk[kp]!).length = k := R.hk _
          generalize enc dk[kp + 1]! = cI46 at S3 l46a s46b n46a
          generalize enc dk[kp]! = cJ46 at S3 l46b s46a s46b n46b
          clear S2
          go_wp2_with fail
          go_big_region_o
          clear l46a l46b s46a s46b
          generalize (wr.drew.setCells blk (off + (kp + 1) * k) cJ46).setCells blk (off + (kp) * k) cI46 = w3 at S3 ⊢
          go_wp2
          go_roundg (kp - j)
          case measure => omega
          case rel =>
            refine ⟨kp, swp dk (kp + 1) kp, by first | rfl | go_num, by omega, by omega, Nat.le_refl _, by rw [size_swp]; exact hds, S3, (show Hid _ from ?_)⟩
            obtain ⟨L1, L2, rfl, r2, r3⟩ := HL.out
            obtain ⟨n1, n2, n3, n4⟩ := HM.out
            obtain ⟨L1, z, rfl⟩ : ∃ l z, L1 = l ++ [z] := by
              rcases List.eq_nil_or_concat L1 with rfl | ⟨l, z, rfl⟩
              · simp at r2; omega
              · exact ⟨l, z, by simp⟩
            simp only [List.length_append, List.length_cons, List.length_nil] at r2
            refine ⟨L1, z :: L2, by simp, by omega, ?_⟩
            have := (sy_swp (d := dk) (X := X ++ L1) (Y := []) (Z := L2 ++ Z) (x := z) (y := y) (i := kp) (j := kp + 1) (by simpa using r3) (by simp; omega) (by simp; omega)).2
            simpa using this
        · have hklz : ¬ (j : Int) < (kk : Int) := by omega
          go_wp2
          refine bodyPost_ret (results_none rfl _ _ _) rfl ?_
          refine ⟨rfl, dk, hds, ?_, S2.out⟩
          obtain ⟨L1, L2, r1, r2, r3⟩ := HL.out
          obtain ⟨n1, n2, n3, n4⟩ := HM.out
          have e1 := mer_right (ltOf cf) (d := d) (X := X) (L := Lf) (Z := [y] ++ Z) (y := y) (a := a) (m := m) (i := j) n1 n2 n3 h1 (fun t t1 t2 => by rw [← HX.out]; exact H1.out t t1 t2) (fun t t1 t2 => by rw [← HX.out]; exact H2.out t t1 t2)
          have e2 : j - a = L1.length := by omega
          rw [e1, r3, r1, e2]
          simp

end Go.Proofs.Ytkhmaaalmlnblaa
