/- slices.symMergeCmpFunc at structs: one on the left. -/
import Derived.Test.YtkhmaaalmlnblaaSymW
import Derived.Deep.Cut
namespace Go.Proofs.Ytkhmaaalmlnblaa
open Go.Shelf Go.RowKit Go.Lib Go.Sort
set_option linter.unusedVariables false
set_option linter.unusedSimpArgs false
set_option linter.unusedSectionVars false
variable {P : Program} {ρ : Ren} {α : Type} [Inhabited α]
structure SyL (P : Program) (ρ : Ren) : Prop where
  l20 : SlLaysF0.n20 P ρ
  f81 : Bears P (ρ.f 81) (syB_swp ρ)
  f80 : Bears P (ρ.f 80) (syB_rot ρ)
  f79 : Bears P (ρ.f 79) (syB_mer ρ)
  f77 : Bears P (ρ.f 77) (syB_stb ρ)
  t39 : P.underlying (ρ.t 39) = some (TypeDesc.int IntKind.u64)
  a39 : ∀ w, (isAgg (ρ.t 39)).run P w = .ok false w
  z39 : ∀ w, (Go.sizeOf (ρ.t 39)).run P w = .ok 1 w
  v39 : ∀ w, (zeroValue (ρ.t 39)).run P w = .ok (Value.int IntKind.u64 0) w
set_option maxHeartbeats 2000000 in
set_option maxRecDepth 1000000 in
theorem syMerL (L : SyL P ρ) (k : Nat) (aE : ∀ w, (isAgg (ρ.t 24)).run P w = .ok true w) (zE : ∀ w, (Go.sizeOf (ρ.t 24)).run P w = .ok k w) (enc : α → List Value) (g : Nat) (cb : Array Value) (blk off cap : Nat) (cf : α → α → Int) (N : Nat) (d0 : Array α) (w0 : World) (R : RowK enc k w0 blk off d0) (hs : d0.size = N) (eg : ∀ args w, (callFunc g args).run P w = .ok (.enter g args) w) (hcmp : CmpLays P g cb enc k cf blk off N w0) (W : Weak (ltOf cf)) (hsz : N < 1000000000) (a m b : Nat) (d : Array α) (w : World) (hN : d.size = N) (S : SWK enc k w0 blk off d w) (X Rt Z : List α) (x : α) (hd : d.toList = X ++ ([x] ++ (Rt ++ Z))) (ha : X.length = a) (hL : a + 1 = m) (hR : m + Rt.length = b) (hmb : m < b) (oR : Ord (ltOf cf) Rt) :
    Calls P (ρ.f 79) #[.slice (some ⟨blk, off, none⟩) N cap, .int .i64 a, .int .i64 m, .int .i64 b, .func (.func g) #[] cb] w fun e w' => e = .returned (.tuple #[]) ∧ ∃ d' : Array α, d'.size = N ∧ d'.toList = X ++ (mrg (ltOf cf) [x] Rt ++ Z) ∧ SWK enc k w0 blk off d' w' := by
  have mixed := L.l20.mixed; have t0 := L.l20.t0; have a0 := L.l20.a0; have z0 := L.l20.z0; have v0 := L.l20.v0; have t3 := L.l20.t3; have a3 := L.l20.a3; have z3 := L.l20.z3; have v3 := L.l20.v3; have t4 := L.l20.t4; have a4 := L.l20.a4; have z4 := L.l20.z4; have v4 := L.l20.v4; have t22 := L.l20.t22; have a22 := L.l20.a22; have z22 := L.l20.z22; have v22 := L.l20.v22; have t25 := L.l20.t25; have a25 := L.l20.a25; have z25 := L.l20.z25; have v25 := L.l20.v25
  have t39 := L.t39; have a39 := L.a39; have z39 := L.z39; have v39 := L.v39
  obtain ⟨_, _, FG⟩ := L.f79
  have hbd : b ≤ N := by
    have := congrArg List.length hd
    simp at this
    omega
  have HC : Aside _ := hcmp
  have hx : d[a]! = x := at_of hd ha
  have hO : Hid (∀ s t, m ≤ s → s ≤ t → t < b → ltOf cf d[t]! d[s]! = false) := ord_at (ltOf cf) W (X := X ++ [x]) (Y := Rt) (Z := Z) (by simpa using hd) oR (by simp; omega) hR
  have HX : Hid (d[a]! = x) := hx
  have HM : Hid (d.toList = X ++ ([x] ++ (Rt ++ Z)) ∧ X.length = a ∧ a + 1 = m ∧ m + Rt.length = b) := ⟨hd, ha, hL, hR⟩
  have HW : Hid (Weak (ltOf cf)) := W
  have HN : Hid (d.size = N) := hN
  have S0 : Aside (SWK enc k w0 blk off d w) := S
  have q1 : (m : Int) - (a : Int) = 1 := by omega
  have am : a < m := by omega
  clear S hd ha hL hR oR hcmp hx W
  go_enter FG, syB_mer_ntmps ρ
  go_wp2
  go_loopg [10, 11] (b - m) (fun kx s10 s11 wr => ∃ i j : Nat, s10 = .int .i64 i ∧ s11 = .int .i64 j ∧ m ≤ i ∧ i ≤ j ∧ j ≤ b ∧ j - i ≤ kx ∧ Aside (SWK enc k w0 blk off d wr) ∧ Hid (∀ t, m ≤ t → t < i → ltOf cf d[t]! d[a]! = true) ∧ Hid (∀ t, j ≤ t → t < b → ltOf cf d[t]! d[a]! = false))
  case atStart => exact ⟨m, b, rfl, rfl, Nat.le_refl _, by omega, Nat.le_refl _, Nat.le_refl _, S0, fun t h1 h2 => by omega, fun t h1 h2 => by omega⟩
  case round =>
    clear S0
    obtain ⟨i, j, rfl, rfl, h1, h2, h3, hkx, S1, H1, H2⟩ := hrel
    by_cases hlt : i < j
    · have hltz : (i : Int) < (j : Int) := by omega
      obtain ⟨h, hh⟩ : ∃ q, q = (i + j) / 2 := ⟨_, rfl⟩
      have wa1 : IntKind.i64.wrap ((i : Int) + (j : Int)) = (i : Int) + (j : Int) := by rw [IntKind.wrap_i64]; omega
      have wb1 : IntKind.u64.wrap ((i : Int) + (j : Int)) = (i : Int) + (j : Int) := by unfold IntKind.wrap; simp [IntKind.signed, IntKind.bits]; omega
      have wc1 : ((i : Int) + (j : Int)) / 2 = (h : Int) := by omega
      have wd1 : IntKind.u64.wrap (h : Int) = (h : Int) := by unfold IntKind.wrap; simp [IntKind.signed, IntKind.bits]; omega
      have we1 : IntKind.i64.wrap (h : Int) = (h : Int) := by rw [IntKind.wrap_i64]; omega
      have HH : Hid (h = (i + j) / 2) := hh
      have m1 : i ≤ h := by omega
      have m2 : h < j := by omega
      clear hh
      go_upto_region 5 with fail
      cases hlv : (ltOf cf) d[h]! d[a]! with
      | true =>
        have ea44 : ((h : Int)).toNat = h := by omega
        have pa44 : (0 : Int) ≤ (h : Int) := by omega
        have ba44 : (h : Int) < (N : Int) := by omega
        have ra44 : IntKind.i64.wrap ((h : Int)) = (h : Int) := by rw [IntKind.wrap_i64]; omega
        have ec44 : ((a : Int)).toNat = a := by omega
        have pc44 : (0 : Int) ≤ (a : Int) := by omega
        have bc44 : (a : Int) < (N : Int) := by omega
        have rc44 : IntKind.i64.wrap ((a : Int)) = (a : Int) := by rw [IntKind.wrap_i64]; omega
        obtain ⟨x44, hx44⟩ : ∃ x, x = d[h]! := ⟨_, rfl⟩
        obtain ⟨y44, hy44⟩ : ∃ x, x = d[a]! := ⟨_, rfl⟩
        have l44a := S1.out.ld R (by omega) P (h) (by omega)
        have l44b := S1.out.ld R (by omega) P (a) (by omega)
        rw [← hx44] at l44a
        rw [← hy44] at l44b
        have hc44 := S1.out.cmp HC.out (by omega) x44 y44
        have hv44 : cf x44 y44 < 0 := by rw [hx44, hy44]; exact of_decide_eq_true hlv
        have hd44 : decide (cf x44 y44 < 0) = true := decide_eq_true hv44
        clear hx44 hy44
        go_wp2_with fail
        go_quiet_grown (first | (go_at_fn g; refine Calls.grown_of (hc44 _ _)))
        have S2 : Aside (SWK enc k w0 blk off d (grow (wr.drewN nq) osq)) := S1.out.grown nq osq
        clear l44a l44b hc44 S1
        generalize grow (wr.drewN nq) osq = w2 at S2 ⊢
        clear nq osq
        go_wp2
        go_roundg (j - (h + 1))
        case measure => omega
        case rel =>
          refine ⟨h + 1, j, by first | rfl | go_num, rfl, by omega, by omega, h3, Nat.le_refl _, S2, (show Hid _ from ?_), H2⟩
          intro t t1 t2
          cases hc : ltOf cf d[t]! d[a]! with
          | true => rfl
          | false =>
            have := HW.out.ntr _ _ _ hc (hO.out t h t1 (by omega) (by omega))
            rw [this] at hlv
            cases hlv
      | false =>
        have ea45 : ((h : Int)).toNat = h := by omega
        have pa45 : (0 : Int) ≤ (h : Int) := by omega
        have ba45 : (h : Int) < (N : Int) := by omega
        have ra45 : IntKind.i64.wrap ((h : Int)) = (h : Int) := by rw [IntKind.wrap_i64]; omega
        have ec45 : ((a : Int)).toNat = a := by omega
        have pc45 : (0 : Int) ≤ (a : Int) := by omega
        have bc45 : (a : Int) < (N : Int) := by omega
        have rc45 : IntKind.i64.wrap ((a : Int)) = (a : Int) := by rw [IntKind.wrap_i64]; omega
        obtain ⟨x45, hx45⟩ : ∃ x, x = d[h]! := ⟨_, rfl⟩
        obtain ⟨y45, hy45⟩ : ∃ x, x = d[a]! := ⟨_, rfl⟩
        have l45a := S1.out.ld R (by omega) P (h) (by omega)
        have l45b := S1.out.ld R (by omega) P (a) (by omega)
        rw [← hx45] at l45a
        rw [← hy45] at l45b
        have hc45 := S1.out.cmp HC.out (by omega) x45 y45
        have hv45 : ¬ cf x45 y45 < 0 := by rw [hx45, hy45]; exact of_decide_eq_false hlv
        have hd45 : decide (cf x45 y45 < 0) = false := decide_eq_false hv45
        clear hx45 hy45
        go_wp2_with fail
        go_quiet_grown (first | (go_at_fn g; refine Calls.grown_of (hc45 _ _)))
        have S2 : Aside (SWK enc k w0 blk off d (grow (wr.drewN nq) osq)) := S1.out.grown nq osq
        clear l45a l45b hc45 S1
        generalize grow (wr.drewN nq) osq = w2 at S2 ⊢
        clear nq osq
        go_wp2
        go_roundg (h - i)
        case measure => omega
        case rel =>
          refine ⟨i, h, rfl, by first | rfl | go_num, h1, m1, by omega, Nat.le_refl _, S2, H1, (show Hid _ from ?_)⟩
          intro t t1 t2
          exact HW.out.ntr _ _ _ hlv (hO.out h t (by omega) t1 t2)
    · have hltz : ¬ (i : Int) < (j : Int) := by omega
      have e : j = i := by omega
      subst e
      obtain ⟨ip, hip⟩ : ∃ q, q + 1 = j := ⟨j - 1, by omega⟩
      have q2 : (j : Int) - 1 = (ip : Int) := by omega
      have q3 : IntKind.i64.wrap (ip : Int) = (ip : Int) := by rw [IntKind.wrap_i64]; omega
      go_wp2
      go_loopg [13] (ip - a) (fun kx s13 wr => ∃ (kk : Nat) (dk : Array α), s13 = .int .i64 kk ∧ a ≤ kk ∧ kk ≤ ip ∧ ip - kk ≤ kx ∧ dk.size = N ∧ Aside (SWK enc k w0 blk off dk wr) ∧ Hid (∃ R1 R2, Rt = R1 ++ R2 ∧ R1.length = kk - a ∧ dk.toList = X ++ (R1 ++ (x :: (R2 ++ Z)))))
      case atStart => exact ⟨a, d, rfl, Nat.le_refl _, by omega, Nat.le_refl _, HN.out, S1, [], Rt, rfl, by simp, by simpa using HM.out.1⟩
      case round =>
        obtain ⟨kk, dk, rfl, k1, k2, kkx, hds, S2, HL⟩ := hrel
        by_cases hkl : kk < ip
        · have hklz : (kk : Int) < (ip : Int) := by omega
          go_wp2_with fail
          have ea46 : ((kk : Int)).toNat = kk := by omega
          have pa46 : (0 : Int) ≤ (kk : Int) := by omega
          have ba46 : (kk : Int) < (N : Int) := by omega
          have ra46 : IntKind.i64.wrap ((kk : Int)) = (kk : Int) := by rw [IntKind.wrap_i64]; omega
          have ec46 : ((kk : Int) + 1).toNat = kk + 1 := by omega
          have pc46 : (0 : Int) ≤ (kk : Int) + 1 := by omega
          have bc46 : (kk : Int) + 1 < (N : Int) := by omega
          have rc46 : IntKind.i64.wrap ((kk : Int) + 1) = (kk : Int) + 1 := by rw [IntKind.wrap_i64]; omega
          have S3 : Aside (SWK enc k w0 blk off (swp dk (kk) (kk + 1)) ((wr.drew.setCells blk (off + (kk) * k) (enc dk[kk + 1]!)).setCells blk (off + (kk + 1) * k) (enc dk[kk]!))) := S2.out.swapped R (kk) (kk + 1) (by omega) (by omega)
          have l46a := S2.out.ld1 R (by omega) P (kk) (by omega)
          have l46b := S2.out.ld1 R (by omega) P (kk + 1) (by omega)
          have s46a := S2.out.st1 R (by omega) P (kk) (by omega) dk[kk + 1]!
          have s46b := S2.out.st2 R (by omega) P (kk) (kk + 1) (by omega) (by omega) dk[kk + 1]! dk[kk]!
          have n46a : (enc dk[kk]!).length = k := R.hk _
          have n46b : (enc dk[kk + 1]!).length = k := R.hk _
          generalize enc dk[kk]! = cI46 at S3 l46a s46b n46a
          generalize enc dk[kk + 1]! = cJ46 at S3 l46b s46a s46b n46b
          clear S2
          go_wp2_with fail
          go_big_region_o
          clear l46a l46b s46a s46b
          generalize (wr.drew.setCells blk (off + (kk) * k) cJ46).setCells blk (off + (kk + 1) * k) cI46 = w3 at S3 ⊢
          go_wp2
          go_roundg (ip - (kk + 1))
          case measure => omega
          case rel =>
            refine ⟨kk + 1, swp dk kk (kk + 1), by first | rfl | go_num, by omega, by omega, Nat.le_refl _, by rw [size_swp]; exact hds, S3, (show Hid _ from ?_)⟩
            obtain ⟨R1, R2, rfl, r2, r3⟩ := HL.out
            obtain ⟨n1, n2, n3, n4⟩ := HM.out
            simp only [List.length_append] at n4
            obtain ⟨y, R2, rfl⟩ : ∃ y l, R2 = y :: l := by cases R2 with | nil => (simp at n4; omega) | cons y l => exact ⟨y, l, rfl⟩
            refine ⟨R1 ++ [y], R2, by simp, by simp; omega, ?_⟩
            have := (sy_swp (d := dk) (X := X ++ R1) (Y := []) (Z := R2 ++ Z) (x := x) (y := y) (i := kk) (j := kk + 1) (by simpa using r3) (by simp; omega) (by simp; omega)).1
            simpa using this
        · have hklz : ¬ (kk : Int) < (ip : Int) := by omega
          go_wp2
          refine bodyPost_ret (results_none rfl _ _ _) rfl ?_
          refine ⟨rfl, dk, hds, ?_, S2.out⟩
          obtain ⟨R1, R2, r1, r2, r3⟩ := HL.out
          obtain ⟨n1, n2, n3, n4⟩ := HM.out
          have e1 := mer_left (ltOf cf) (d := d) (X := X ++ [x]) (R := Rt) (Z := Z) (x := x) (m := m) (b := b) (i := j) (by simpa using n1) (by simp; omega) n4 h1 (fun t t1 t2 => by rw [← HX.out]; exact H1.out t t1 t2) (fun t t1 t2 => by rw [← HX.out]; exact H2.out t t1 t2)
          have e2 : j - m = R1.length := by omega
          rw [e1, r3, r1, e2]
          simp

end Go.Proofs.Ytkhmaaalmlnblaa
