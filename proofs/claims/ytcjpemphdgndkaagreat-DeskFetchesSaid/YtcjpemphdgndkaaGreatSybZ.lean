/- Several texts as one: SymM, SymR, SymG, SymS, SortE. -/
import Derived.Test.YtcjpemphdgndkaaGreatSyaZ
import Derived.Deep.Cut
import Derived.Deep.CutRange
import Derived.Test.YtcjpemphdgndkaaGreatBsZ
import Derived.Test.YtcjpemphdgndkaaGreatBeZ
/- slices.symMergeCmpFunc at structs: one on the left. -/
namespace Go.Proofs.YtcjpemphdgndkaaGreat
open Go.Shelf Go.RowKit Go.Lib Go.Sort
set_option linter.unusedVariables false
set_option linter.unusedSimpArgs false
set_option linter.unusedSectionVars false
variable {P : Program} {ρ : Ren} {α : Type} [Inhabited α]
structure SyL (P : Program) (ρ : Ren) : Prop where
  l20 : SlLaysF0.n20 P ρ
  f81 : Bears P (ρ.f 81) (syB_swp ρ)
  f80 : Bears P (ρ.f 80) (syB_rot ρ)
  f79 : Bears P (ρ.f 79) (syB_mer ρ)
  f77 : Bears P (ρ.f 77) (syB_stb ρ)
  t39 : P.underlying (ρ.t 39) = some (TypeDesc.int IntKind.u64)
  a39 : ∀ w, (isAgg (ρ.t 39)).run P w = .ok false w
  z39 : ∀ w, (Go.sizeOf (ρ.t 39)).run P w = .ok 1 w
  v39 : ∀ w, (zeroValue (ρ.t 39)).run P w = .ok (Value.int IntKind.u64 0) w
set_option maxHeartbeats 2000000 in
set_option maxRecDepth 1000000 in
theorem syMerL (L : SyL P ρ) (k : Nat) (aE : ∀ w, (isAgg (ρ.t 24)).run P w = .ok true w) (zE : ∀ w, (Go.sizeOf (ρ.t 24)).run P w = .ok k w) (enc : α → List Value) (g : Nat) (cb : Array Value) (blk off cap : Nat) (cf : α → α → Int) (N : Nat) (d0 : Array α) (w0 : World) (R : RowK enc k w0 blk off d0) (hs : d0.size = N) (eg : ∀ args w, (callFunc g args).run P w = .ok (.enter g args) w) (hcmp : CmpLays P g cb enc k cf blk off N w0) (W : Weak (ltOf cf)) (hsz : N < 1000000000) (a m b : Nat) (d : Array α) (w : World) (hN : d.size = N) (S : SWK enc k w0 blk off d w) (X Rt Z : List α) (x : α) (hd : d.toList = X ++ ([x] ++ (Rt ++ Z))) (ha : X.length = a) (hL : a + 1 = m) (hR : m + Rt.length = b) (hmb : m < b) (oR : Ord (ltOf cf) Rt) :
    Calls P (ρ.f 79) #[.slice (some ⟨blk, off, none⟩) N cap, .int .i64 a, .int .i64 m, .int .i64 b, .func (.func g) #[] cb] w fun e w' => e = .returned (.tuple #[]) ∧ ∃ d' : Array α, d'.size = N ∧ d'.toList = X ++ (mrg (ltOf cf) [x] Rt ++ Z) ∧ SWK enc k w0 blk off d' w' := by
  have mixed := L.l20.mixed; have t0 := L.l20.t0; have a0 := L.l20.a0; have z0 := L.l20.z0; have v0 := L.l20.v0; have t3 := L.l20.t3; have a3 := L.l20.a3; have z3 := L.l20.z3; have v3 := L.l20.v3; have t4 := L.l20.t4; have a4 := L.l20.a4; have z4 := L.l20.z4; have v4 := L.l20.v4; have t22 := L.l20.t22; have a22 := L.l20.a22; have z22 := L.l20.z22; have v22 := L.l20.v22; have t25 := L.l20.t25; have a25 := L.l20.a25; have z25 := L.l20.z25; have v25 := L.l20.v25
  have t39 := L.t39; have a39 := L.a39; have z39 := L.z39; have v39 := L.v39
  obtain ⟨_, _, FG⟩ := L.f79
  have hbd : b ≤ N := by
    have := congrArg List.length hd
    simp at this
    omega
  have HC : Aside _ := hcmp
  have hx : d[a]! = x := at_of hd ha
  have hO : Hid (∀ s t, m ≤ s → s ≤ t → t < b → ltOf cf d[t]! d[s]! = false) := ord_at (ltOf cf) W (X := X ++ [x]) (Y := Rt) (Z := Z) (by simpa using hd) oR (by simp; omega) hR
  have HX : Hid (d[a]! = x) := hx
  have HM : Hid (d.toList = X ++ ([x] ++ (Rt ++ Z)) ∧ X.length = a ∧ a + 1 = m ∧ m + Rt.length = b) := ⟨hd, ha, hL, hR⟩
  have HW : Hid (Weak (ltOf cf)) := W
  have HN : Hid (d.size = N) := hN
  have S0 : Aside (SWK enc k w0 blk off d w) := S
  have q1 : (m : Int) - (a : Int) = 1 := by omega
  have am : a < m := by omega
  clear S hd ha hL hR oR hcmp hx W
  go_enter FG, syB_mer_ntmps ρ
  go_wp2
  go_loopg [10, 11] (b - m) (fun kx s10 s11 wr => ∃ i j : Nat, s10 = .int .i64 i ∧ s11 = .int .i64 j ∧ m ≤ i ∧ i ≤ j ∧ j ≤ b ∧ j - i ≤ kx ∧ Aside (SWK enc k w0 blk off d wr) ∧ Hid (∀ t, m ≤ t → t < i → ltOf cf d[t]! d[a]! = true) ∧ Hid (∀ t, j ≤ t → t < b → ltOf cf d[t]! d[a]! = false))
  case atStart => exact ⟨m, b, rfl, rfl, Nat.le_refl _, by omega, Nat.le_refl _, Nat.le_refl _, S0, fun t h1 h2 => by omega, fun t h1 h2 => by omega⟩
  case round =>
    clear S0
    obtain ⟨i, j, rfl, rfl, h1, h2, h3, hkx, S1, H1, H2⟩ := hrel
    by_cases hlt : i < j
    · have hltz : (i : Int) < (j : Int) := by omega
      obtain ⟨h, hh⟩ : ∃ q, q = (i + j) / 2 := ⟨_, rfl⟩
      have wa1 : IntKind.i64.wrap ((i : Int) + (j : Int)) = (i : Int) + (j : Int) := by rw [IntKind.wrap_i64]; omega
      have wb1 : IntKind.u64.wrap ((i : Int) + (j : Int)) = (i : Int) + (j : Int) := by unfold IntKind.wrap; simp [IntKind.signed, IntKind.bits]; omega
      have wc1 : ((i : Int) + (j : Int)) / 2 = (h : Int) := by omega
      have wd1 : IntKind.u64.wrap (h : Int) = (h : Int) := by unfold IntKind.wrap; simp [IntKind.signed, IntKind.bits]; omega
      have we1 : IntKind.i64.wrap (h : Int) = (h : Int) := by rw [IntKind.wrap_i64]; omega
      have HH : Hid (h = (i + j) / 2) := hh
      have m1 : i ≤ h := by omega
      have m2 : h < j := by omega
      clear hh
      go_upto_region 5 with fail
      cases hlv : (ltOf cf) d[h]! d[a]! with
      | true =>
        have ea44 : ((h : Int)).toNat = h := by omega
        have pa44 : (0 : Int) ≤ (h : Int) := by omega
        have ba44 : (h : Int) < (N : Int) := by omega
        have ra44 : IntKind.i64.wrap ((h : Int)) = (h : Int) := by rw [IntKind.wrap_i64]; omega
        have ec44 : ((a : Int)).toNat = a := by omega
        have pc44 : (0 : Int) ≤ (a : Int) := by omega
        have bc44 : (a : Int) < (N : Int) := by omega
        have rc44 : IntKind.i64.wrap ((a : Int)) = (a : Int) := by rw [IntKind.wrap_i64]; omega
        obtain ⟨x44, hx44⟩ : ∃ x, x = d[h]! := ⟨_, rfl⟩
        obtain ⟨y44, hy44⟩ : ∃ x, x = d[a]! := ⟨_, rfl⟩
        have l44a := S1.out.ld R (by omega) P (h) (by omega)
        have l44b := S1.out.ld R (by omega) P (a) (by omega)
        rw [← hx44] at l44a
        rw [← hy44] at l44b
        have hc44 := S1.out.cmp HC.out (by omega) x44 y44
        have hv44 : cf x44 y44 < 0 := by rw [hx44, hy44]; exact of_decide_eq_true hlv
        have hd44 : decide (cf x44 y44 < 0) = true := decide_eq_true hv44
        clear hx44 hy44
        go_wp2_with fail
        go_quiet_grown (first | (go_at_fn g; refine Calls.grown_of (hc44 _ _)))
        have S2 : Aside (SWK enc k w0 blk off d (grow (wr.drewN nq) osq)) := S1.out.grown nq osq
        clear l44a l44b hc44 S1
        generalize grow (wr.drewN nq) osq = w2 at S2 ⊢
        clear nq osq
        go_wp2
        go_roundg (j - (h + 1))
        case measure => omega
        case rel =>
          refine ⟨h + 1, j, by first | rfl | go_num, rfl, by omega, by omega, h3, Nat.le_refl _, S2, (show Hid _ from ?_), H2⟩
          intro t t1 t2
          cases hc : ltOf cf d[t]! d[a]! with
          | true => rfl
          | false =>
            have := HW.out.ntr _ _ _ hc (hO.out t h t1 (by omega) (by omega))
            rw [this] at hlv
            cases hlv
      | false =>
        have ea45 : ((h : Int)).toNat = h := by omega
        have pa45 : (0 : Int) ≤ (h : Int) := by omega
        have ba45 : (h : Int) < (N : Int) := by omega
        have ra45 : IntKind.i64.wrap ((h : Int)) = (h : Int) := by rw [IntKind.wrap_i64]; omega
        have ec45 : ((a : Int)).toNat = a := by omega
        have pc45 : (0 : Int) ≤ (a : Int) := by omega
        have bc45 : (a : Int) < (N : Int) := by omega
        have rc45 : IntKind.i64.wrap ((a : Int)) = (a : Int) := by rw [IntKind.wrap_i64]; omega
        obtain ⟨x45, hx45⟩ : ∃ x, x = d[h]! := ⟨_, rfl⟩
        obtain ⟨y45, hy45⟩ : ∃ x, x = d[a]! := ⟨_, rfl⟩
        have l45a := S1.out.ld R (by omega) P (h) (by omega)
        have l45b := S1.out.ld R (by omega) P (a) (by omega)
        rw [← hx45] at l45a
        rw [← hy45] at l45b
        have hc45 := S1.out.cmp HC.out (by omega) x45 y45
        have hv45 : ¬ cf x45 y45 < 0 := by rw [hx45, hy45]; exact of_decide_eq_false hlv
        have hd45 : decide (cf x45 y45 < 0) = false := decide_eq_false hv45
        clear hx45 hy45
        go_wp2_with fail
        go_quiet_grown (first | (go_at_fn g; refine Calls.grown_of (hc45 _ _)))
        have S2 : Aside (SWK enc k w0 blk off d (grow (wr.drewN nq) osq)) := S1.out.grown nq osq
        clear l45a l45b hc45 S1
        generalize grow (wr.drewN nq) osq = w2 at S2 ⊢
        clear nq osq
        go_wp2
        go_roundg (h - i)
        case measure => omega
        case rel =>
          refine ⟨i, h, rfl, by first | rfl | go_num, h1, m1, by omega, Nat.le_refl _, S2, H1, (show Hid _ from ?_)⟩
          intro t t1 t2
          exact HW.out.ntr _ _ _ hlv (hO.out h t (by omega) t1 t2)
    · have hltz : ¬ (i : Int) < (j : Int) := by omega
      have e : j = i := by omega
      subst e
      obtain ⟨ip, hip⟩ : ∃ q, q + 1 = j := ⟨j - 1, by omega⟩
      have q2 : (j : Int) - 1 = (ip : Int) := by omega
      have q3 : IntKind.i64.wrap (ip : Int) = (ip : Int) := by rw [IntKind.wrap_i64]; omega
      go_wp2
      go_loopg [13] (ip - a) (fun kx s13 wr => ∃ (kk : Nat) (dk : Array α), s13 = .int .i64 kk ∧ a ≤ kk ∧ kk ≤ ip ∧ ip - kk ≤ kx ∧ dk.size = N ∧ Aside (SWK enc k w0 blk off dk wr) ∧ Hid (∃ R1 R2, Rt = R1 ++ R2 ∧ R1.length = kk - a ∧ dk.toList = X ++ (R1 ++ (x :: (R2 ++ Z)))))
      case atStart => exact ⟨a, d, rfl, Nat.le_refl _, by omega, Nat.le_refl _, HN.out, S1, [], Rt, rfl, by simp, by simpa using HM.out.1⟩
      case round =>
        obtain ⟨kk, dk, rfl, k1, k2, kkx, hds, S2, HL⟩ := hrel
        by_cases hkl : kk < ip
        · have hklz : (kk : Int) < (ip : Int) := by omega
          go_wp2_with fail
          have ea46 : ((kk : Int)).toNat = kk := by omega
          have pa46 : (0 : Int) ≤ (kk : Int) := by omega
          have ba46 : (kk : Int) < (N : Int) := by omega
          have ra46 : IntKind.i64.wrap ((kk : Int)) = (kk : Int) := by rw [IntKind.wrap_i64]; omega
          have ec46 : ((kk : Int) + 1).toNat = kk + 1 := by omega
          have pc46 : (0 : Int) ≤ (kk : Int) + 1 := by omega
          have bc46 : (kk : Int) + 1 < (N : Int) := by omega
          have rc46 : IntKind.i64.wrap ((kk : Int) + 1) = (kk : Int) + 1 := by rw [IntKind.wrap_i64]; omega
          have S3 : Aside (SWK enc k w0 blk off (swp dk (kk) (kk + 1)) ((wr.drew.setCells blk (off + (kk) * k) (enc dk[kk + 1]!)).setCells blk (off + (kk + 1) * k) (enc dk[kk]!))) := S2.out.swapped R (kk) (kk + 1) (by omega) (by omega)
          have l46a := S2.out.ld1 R (by omega) P (kk) (by omega)
          have l46b := S2.out.ld1 R (by omega) P (kk + 1) (by omega)
          have s46a := S2.out.st1 R (by omega) P (kk) (by omega) dk[kk + 1]!
          have s46b := S2.out.st2 R (by omega) P (kk) (kk + 1) (by omega) (by omega) dk[kk + 1]! dk[kk]!
          have n46a : (enc dk[kk]!).length = k := R.hk _
          have n46b : (enc dk[kk + 1]!).length = k := R.hk _
          generalize enc dk[kk]! = cI46 at S3 l46a s46b n46a
          generalize enc dk[kk + 1]! = cJ46 at S3 l46b s46a s46b n46b
          clear S2
          go_wp2_with fail
          go_big_region_o
          clear l46a l46b s46a s46b
          generalize (wr.drew.setCells blk (off + (kk) * k) cJ46).setCells blk (off + (kk + 1) * k) cI46 = w3 at S3 ⊢
          go_wp2
          go_roundg (ip - (kk + 1))
          case measure => omega
          case rel =>
            refine ⟨kk + 1, swp dk kk (kk + 1), by first | rfl | go_num, by omega, by omega, Nat.le_refl _, by rw [size_swp]; exact hds, S3, (show Hid _ from ?_)⟩
            obtain ⟨R1, R2, rfl, r2, r3⟩ := HL.out
            obtain ⟨n1, n2, n3, n4⟩ := HM.out
            simp only [List.length_append] at n4
            obtain ⟨y, R2, rfl⟩ : ∃ y l, R2 = y :: l := by cases R2 with | nil => (simp at n4; omega) | cons y l => exact ⟨y, l, rfl⟩
            refine ⟨R1 ++ [y], R2, by simp, by simp; omega, ?_⟩
            have := (sy_swp (d := dk) (X := X ++ R1) (Y := []) (Z := R2 ++ Z) (x := x) (y := y) (i := kk) (j := kk + 1) (by simpa using r3) (by simp; omega) (by simp; omega)).1
            simpa using this
        · have hklz : ¬ (kk : Int) < (ip : Int) := by omega
          go_wp2
          refine bodyPost_ret (results_none rfl _ _ _) rfl ?_
          refine ⟨rfl, dk, hds, ?_, S2.out⟩
          obtain ⟨R1, R2, r1, r2, r3⟩ := HL.out
          obtain ⟨n1, n2, n3, n4⟩ := HM.out
          have e1 := mer_left (ltOf cf) (d := d) (X := X ++ [x]) (R := Rt) (Z := Z) (x := x) (m := m) (b := b) (i := j) (by simpa using n1) (by simp; omega) n4 h1 (fun t t1 t2 => by rw [← HX.out]; exact H1.out t t1 t2) (fun t t1 t2 => by rw [← HX.out]; exact H2.out t t1 t2)
          have e2 : j - m = R1.length := by omega
          rw [e1, r3, r1, e2]
          simp

end Go.Proofs.YtcjpemphdgndkaaGreat

/- slices.symMergeCmpFunc at structs: one on the right. -/
namespace Go.Proofs.YtcjpemphdgndkaaGreat
open Go.Shelf Go.RowKit Go.Lib Go.Sort
set_option linter.unusedVariables false
set_option linter.unusedSimpArgs false
set_option linter.unusedSectionVars false
variable {P : Program} {ρ : Ren} {α : Type} [Inhabited α]
set_option maxHeartbeats 2000000 in
set_option maxRecDepth 1000000 in
theorem syMerR (L : SyL P ρ) (k : Nat) (aE : ∀ w, (isAgg (ρ.t 24)).run P w = .ok true w) (zE : ∀ w, (Go.sizeOf (ρ.t 24)).run P w = .ok k w) (enc : α → List Value) (g : Nat) (cb : Array Value) (blk off cap : Nat) (cf : α → α → Int) (N : Nat) (d0 : Array α) (w0 : World) (R : RowK enc k w0 blk off d0) (hs : d0.size = N) (eg : ∀ args w, (callFunc g args).run P w = .ok (.enter g args) w) (hcmp : CmpLays P g cb enc k cf blk off N w0) (W : Weak (ltOf cf)) (hsz : N < 1000000000) (a m b : Nat) (d : Array α) (w : World) (hN : d.size = N) (S : SWK enc k w0 blk off d w) (X Lf Z : List α) (y : α) (hd : d.toList = X ++ (Lf ++ ([y] ++ Z))) (ha : X.length = a) (hL : a + Lf.length = m) (hR : m + 1 = b) (ham : a + 1 < m) (oL : Ord (ltOf cf) Lf) :
    Calls P (ρ.f 79) #[.slice (some ⟨blk, off, none⟩) N cap, .int .i64 a, .int .i64 m, .int .i64 b, .func (.func g) #[] cb] w fun e w' => e = .returned (.tuple #[]) ∧ ∃ d' : Array α, d'.size = N ∧ d'.toList = X ++ (mrg (ltOf cf) Lf [y] ++ Z) ∧ SWK enc k w0 blk off d' w' := by
  have mixed := L.l20.mixed; have t0 := L.l20.t0; have a0 := L.l20.a0; have z0 := L.l20.z0; have v0 := L.l20.v0; have t3 := L.l20.t3; have a3 := L.l20.a3; have z3 := L.l20.z3; have v3 := L.l20.v3; have t4 := L.l20.t4; have a4 := L.l20.a4; have z4 := L.l20.z4; have v4 := L.l20.v4; have t22 := L.l20.t22; have a22 := L.l20.a22; have z22 := L.l20.z22; have v22 := L.l20.v22; have t25 := L.l20.t25; have a25 := L.l20.a25; have z25 := L.l20.z25; have v25 := L.l20.v25
  have t39 := L.t39; have a39 := L.a39; have z39 := L.z39; have v39 := L.v39
  obtain ⟨_, _, FG⟩ := L.f79
  have hbd : b ≤ N := by
    have := congrArg List.length hd
    simp at this
    omega
  have HC : Aside _ := hcmp
  have hx : d[m]! = y := at_of (pre := X ++ Lf) (post := Z) (by simpa using hd) (by simp; omega)
  have hO : Hid (∀ s t, a ≤ s → s ≤ t → t < m → ltOf cf d[t]! d[s]! = false) := ord_at (ltOf cf) W (X := X) (Y := Lf) (Z := [y] ++ Z) hd oL ha hL
  have HX : Hid (d[m]! = y) := hx
  have HM : Hid (d.toList = X ++ (Lf ++ ([y] ++ Z)) ∧ X.length = a ∧ a + Lf.length = m ∧ m + 1 = b) := ⟨hd, ha, hL, hR⟩
  have HW : Hid (Weak (ltOf cf)) := W
  have HN : Hid (d.size = N) := hN
  have S0 : Aside (SWK enc k w0 blk off d w) := S
  have q1 : (b : Int) - (m : Int) = 1 := by omega
  have am : a < m := by omega
  obtain ⟨ml, hml⟩ : ∃ q, q + a = m := ⟨m - a, by omega⟩
  have q0 : (m : Int) - (a : Int) = (ml : Int) := by omega
  have q4 : IntKind.i64.wrap (ml : Int) = (ml : Int) := by rw [IntKind.wrap_i64]; omega
  have q5 : ((ml : Int) == 1) = false := beq_eq_false_iff_ne.2 (by omega)
  clear S hd ha hL hR oL hcmp hx W
  go_enter FG, syB_mer_ntmps ρ
  go_wp2
  go_loopg [14, 15] (m - a) (fun kx s10 s11 wr => ∃ i j : Nat, s10 = .int .i64 i ∧ s11 = .int .i64 j ∧ a ≤ i ∧ i ≤ j ∧ j ≤ m ∧ j - i ≤ kx ∧ Aside (SWK enc k w0 blk off d wr) ∧ Hid (∀ t, a ≤ t → t < i → ltOf cf d[m]! d[t]! = false) ∧ Hid (∀ t, j ≤ t → t < m → ltOf cf d[m]! d[t]! = true))
  case atStart => exact ⟨a, m, rfl, rfl, Nat.le_refl _, by omega, Nat.le_refl _, Nat.le_refl _, S0, fun t h1 h2 => by omega, fun t h1 h2 => by omega⟩
  case round =>
    clear S0
    obtain ⟨i, j, rfl, rfl, h1, h2, h3, hkx, S1, H1, H2⟩ := hrel
    by_cases hlt : i < j
    · have hltz : (i : Int) < (j : Int) := by omega
      obtain ⟨h, hh⟩ : ∃ q, q = (i + j) / 2 := ⟨_, rfl⟩
      have wa1 : IntKind.i64.wrap ((i : Int) + (j : Int)) = (i : Int) + (j : Int) := by rw [IntKind.wrap_i64]; omega
      have wb1 : IntKind.u64.wrap ((i : Int) + (j : Int)) = (i : Int) + (j : Int) := by unfold IntKind.wrap; simp [IntKind.signed, IntKind.bits]; omega
      have wc1 : ((i : Int) + (j : Int)) / 2 = (h : Int) := by omega
      have wd1 : IntKind.u64.wrap (h : Int) = (h : Int) := by unfold IntKind.wrap; simp [IntKind.signed, IntKind.bits]; omega
      have we1 : IntKind.i64.wrap (h : Int) = (h : Int) := by rw [IntKind.wrap_i64]; omega
      have HH : Hid (h = (i + j) / 2) := hh
      have m1 : i ≤ h := by omega
      have m2 : h < j := by omega
      clear hh
      go_upto_region 17 with fail
      cases hlv : (ltOf cf) d[m]! d[h]! with
      | true =>
        have ea44 : ((m : Int)).toNat = m := by omega
        have pa44 : (0 : Int) ≤ (m : Int) := by omega
        have ba44 : (m : Int) < (N : Int) := by omega
        have ra44 : IntKind.i64.wrap ((m : Int)) = (m : Int) := by rw [IntKind.wrap_i64]; omega
        have ec44 : ((h : Int)).toNat = h := by omega
        have pc44 : (0 : Int) ≤ (h : Int) := by omega
        have bc44 : (h : Int) < (N : Int) := by omega
        have rc44 : IntKind.i64.wrap ((h : Int)) = (h : Int) := by rw [IntKind.wrap_i64]; omega
        obtain ⟨x44, hx44⟩ : ∃ x, x = d[m]! := ⟨_, rfl⟩
        obtain ⟨y44, hy44⟩ : ∃ x, x = d[h]! := ⟨_, rfl⟩
        have l44a := S1.out.ld R (by omega) P (m) (by omega)
        have l44b := S1.out.ld R (by omega) P (h) (by omega)
        rw [← hx44] at l44a
        rw [← hy44] at l44b
        have hc44 := S1.out.cmp HC.out (by omega) x44 y44
        have hv44 : cf x44 y44 < 0 := by rw [hx44, hy44]; exact of_decide_eq_true hlv
        have hd44 : decide (cf x44 y44 < 0) = true := decide_eq_true hv44
        clear hx44 hy44
        go_wp2_with fail
        go_quiet_grown (first | (go_at_fn g; refine Calls.grown_of (hc44 _ _)))
        have S2 : Aside (SWK enc k w0 blk off d (grow (wr.drewN nq) osq)) := S1.out.grown nq osq
        clear l44a l44b hc44 S1
        generalize grow (wr.drewN nq) osq = w2 at S2 ⊢
        clear nq osq
        go_wp2
        go_roundg (h - i)
        case measure => omega
        case rel =>
          refine ⟨i, h, rfl, by first | rfl | go_num, h1, m1, by omega, Nat.le_refl _, S2, H1, (show Hid _ from ?_)⟩
          intro t t1 t2
          cases hc : ltOf cf d[m]! d[t]! with
          | true => rfl
          | false =>
            have := HW.out.ntr _ _ _ (hO.out h t (by omega) t1 t2) hc
            rw [this] at hlv
            cases hlv
      | false =>
        have ea45 : ((m : Int)).toNat = m := by omega
        have pa45 : (0 : Int) ≤ (m : Int) := by omega
        have ba45 : (m : Int) < (N : Int) := by omega
        have ra45 : IntKind.i64.wrap ((m : Int)) = (m : Int) := by rw [IntKind.wrap_i64]; omega
        have ec45 : ((h : Int)).toNat = h := by omega
        have pc45 : (0 : Int) ≤ (h : Int) := by omega
        have bc45 : (h : Int) < (N : Int) := by omega
        have rc45 : IntKind.i64.wrap ((h : Int)) = (h : Int) := by rw [IntKind.wrap_i64]; omega
        obtain ⟨x45, hx45⟩ : ∃ x, x = d[m]! := ⟨_, rfl⟩
        obtain ⟨y45, hy45⟩ : ∃ x, x = d[h]! := ⟨_, rfl⟩
        have l45a := S1.out.ld R (by omega) P (m) (by omega)
        have l45b := S1.out.ld R (by omega) P (h) (by omega)
        rw [← hx45] at l45a
        rw [← hy45] at l45b
        have hc45 := S1.out.cmp HC.out (by omega) x45 y45
        have hv45 : ¬ cf x45 y45 < 0 := by rw [hx45, hy45]; exact of_decide_eq_false hlv
        have hd45 : decide (cf x45 y45 < 0) = false := decide_eq_false hv45
        clear hx45 hy45
        go_wp2_with fail
        go_quiet_grown (first | (go_at_fn g; refine Calls.grown_of (hc45 _ _)))
        have S2 : Aside (SWK enc k w0 blk off d (grow (wr.drewN nq) osq)) := S1.out.grown nq osq
        clear l45a l45b hc45 S1
        generalize grow (wr.drewN nq) osq = w2 at S2 ⊢
        clear nq osq
        go_wp2
        go_roundg (j - (h + 1))
        case measure => omega
        case rel =>
          refine ⟨h + 1, j, by first | rfl | go_num, rfl, by omega, by omega, h3, Nat.le_refl _, S2, (show Hid _ from ?_), H2⟩
          intro t t1 t2
          exact HW.out.ntr _ _ _ (hO.out t h t1 (by omega) (by omega)) hlv
    · have hltz : ¬ (i : Int) < (j : Int) := by omega
      have e : j = i := by omega
      subst e
      go_wp2
      go_loopg [17] (m - j) (fun kx s13 wr => ∃ (kk : Nat) (dk : Array α), s13 = .int .i64 kk ∧ j ≤ kk ∧ kk ≤ m ∧ kk - j ≤ kx ∧ dk.size = N ∧ Aside (SWK enc k w0 blk off dk wr) ∧ Hid (∃ L1 L2, Lf = L1 ++ L2 ∧ L1.length = kk - a ∧ dk.toList = X ++ (L1 ++ (y :: (L2 ++ Z)))))
      case atStart => exact ⟨m, d, rfl, by omega, Nat.le_refl _, Nat.le_refl _, HN.out, S1, Lf, [], by simp, by have := HM.out; omega, by simpa using HM.out.1⟩
      case round =>
        obtain ⟨kk, dk, rfl, k1, k2, kkx, hds, S2, HL⟩ := hrel
        by_cases hkl : j < kk
        · obtain ⟨kp, rfl⟩ : ∃ q, kk = q + 1 := ⟨kk - 1, by omega⟩
          have hklz : (j : Int) < (kp : Int) + 1 := by omega
          go_wp2_with fail
          have ea46 : ((kp : Int) + 1).toNat = kp + 1 := by omega
          have pa46 : (0 : Int) ≤ (kp : Int) + 1 := by omega
          have ba46 : (kp : Int) + 1 < (N : Int) := by omega
          have ra46 : IntKind.i64.wrap ((kp : Int) + 1) = (kp : Int) + 1 := by rw [IntKind.wrap_i64]; omega
          have ec46 : ((kp : Int)).toNat = kp := by omega
          have pc46 : (0 : Int) ≤ (kp : Int) := by omega
          have bc46 : (kp : Int) < (N : Int) := by omega
          have rc46 : IntKind.i64.wrap ((kp : Int)) = (kp : Int) := by rw [IntKind.wrap_i64]; omega
          have S3 : Aside (SWK enc k w0 blk off (swp dk (kp + 1) (kp)) ((wr.drew.setCells blk (off + (kp + 1) * k) (enc dk[kp]!)).setCells blk (off + (kp) * k) (enc dk[kp + 1]!))) := S2.out.swapped R (kp + 1) (kp) (by omega) (by omega)
          have l46a := S2.out.ld1 R (by omega) P (kp + 1) (by omega)
          have l46b := S2.out.ld1 R (by omega) P (kp) (by omega)
          have s46a := S2.out.st1 R (by omega) P (kp + 1) (by omega) dk[kp]!
          have s46b := S2.out.st2 R (by omega) P (kp + 1) (kp) (by omega) (by omega) dk[kp]! dk[kp + 1]!
          have n46a : (enc dk[kp + 1]!).length = k := R.hk _
          have n46b : (enc dk[kp]!).length = k := R.hk _
          generalize enc dk[kp + 1]! = cI46 at S3 l46a s46b n46a
          generalize enc dk[kp]! = cJ46 at S3 l46b s46a s46b n46b
          clear S2
          go_wp2_with fail
          go_big_region_o
          clear l46a l46b s46a s46b
          generalize (wr.drew.setCells blk (off + (kp + 1) * k) cJ46).setCells blk (off + (kp) * k) cI46 = w3 at S3 ⊢
          go_wp2
          go_roundg (kp - j)
          case measure => omega
          case rel =>
            refine ⟨kp, swp dk (kp + 1) kp, by first | rfl | go_num, by omega, by omega, Nat.le_refl _, by rw [size_swp]; exact hds, S3, (show Hid _ from ?_)⟩
            obtain ⟨L1, L2, rfl, r2, r3⟩ := HL.out
            obtain ⟨n1, n2, n3, n4⟩ := HM.out
            obtain ⟨L1, z, rfl⟩ : ∃ l z, L1 = l ++ [z] := by
              rcases List.eq_nil_or_concat L1 with rfl | ⟨l, z, rfl⟩
              · simp at r2; omega
              · exact ⟨l, z, by simp⟩
            simp only [List.length_append, List.length_cons, List.length_nil] at r2
            refine ⟨L1, z :: L2, by simp, by omega, ?_⟩
            have := (sy_swp (d := dk) (X := X ++ L1) (Y := []) (Z := L2 ++ Z) (x := z) (y := y) (i := kp) (j := kp + 1) (by simpa using r3) (by simp; omega) (by simp; omega)).2
            simpa using this
        · have hklz : ¬ (j : Int) < (kk : Int) := by omega
          go_wp2
          refine bodyPost_ret (results_none rfl _ _ _) rfl ?_
          refine ⟨rfl, dk, hds, ?_, S2.out⟩
          obtain ⟨L1, L2, r1, r2, r3⟩ := HL.out
          obtain ⟨n1, n2, n3, n4⟩ := HM.out
          have e1 := mer_right (ltOf cf) (d := d) (X := X) (L := Lf) (Z := [y] ++ Z) (y := y) (a := a) (m := m) (i := j) n1 n2 n3 h1 (fun t t1 t2 => by rw [← HX.out]; exact H1.out t t1 t2) (fun t t1 t2 => by rw [← HX.out]; exact H2.out t t1 t2)
          have e2 : j - a = L1.length := by omega
          rw [e1, r3, r1, e2]
          simp

end Go.Proofs.YtcjpemphdgndkaaGreat

/- slices.symMergeCmpFunc at structs. -/
namespace Go.Proofs.YtcjpemphdgndkaaGreat
open Go.Shelf Go.RowKit Go.Lib Go.Sort
set_option linter.unusedVariables false
set_option linter.unusedSimpArgs false
set_option linter.unusedSectionVars false
section
variable {β : Type} [Inhabited β] (lt : β → β → Bool)
/-- what the search for the cut has found -/
theorem mer_found (W : Weak lt) {d : Array β} {X L R Z : List β} {a m b h n p s0 r0 s : Nat} (hd : d.toList = X ++ (L ++ (R ++ Z))) (ha : X.length = a) (hL : a + L.length = m) (hR : m + R.length = b) (oL : Ord lt L) (oR : Ord lt R) (hn : n = h + m) (hp : p + 1 = n) (b0 : a ≤ s0) (b1 : s0 ≤ s) (b2 : s ≤ r0) (b3 : r0 ≤ m) (b4 : r0 ≤ h) (b5 : n ≤ s0 + b) (b6 : s0 = a ∨ n = s0 + b) (b7 : r0 = m ∨ r0 = h)
    (H1 : ∀ t, s0 ≤ t → t < s → lt d[p - t]! d[t]! = false) (H2 : ∀ t, s ≤ t → t < r0 → lt d[p - t]! d[t]! = true) : mrg lt L R = mrg lt (L.take (s - a)) (R.take (n - s - m)) ++ mrg lt (L.drop (s - a)) (R.drop (n - s - m)) := by
  have gL : ∀ t (ht : t < L.length), d[a + t]! = L[t] := fun t ht => by rw [← ha]; exact sy_get hd t ht
  have gR : ∀ t (ht : t < R.length), d[m + t]! = R[t] := fun t ht => by
    have := sy_get (d := d) (X := X ++ L) (Y := R) (Z := Z) (by simpa using hd) t ht
    rw [← this]
    congr 1
    simp
    omega
  refine mer_halves lt W oL oR _ _ ?_ ?_ (by omega) (by omega)
  · intro i j hi hj e1 e2
    have := H1 (s - 1) (by omega) (by omega)
    rw [← gR j hj, ← gL i hi, show m + j = p - (s - 1) from by omega, show a + i = s - 1 from by omega]
    exact this
  · intro i j hi hj e1 e2
    have := H2 s (by omega) (by omega)
    rw [← gR j hj, ← gL i hi, show m + j = p - s from by omega, show a + i = s from by omega]
    exact this
theorem mer_down (W : Weak lt) {d : Array β} {a m b p s0 r0 : Nat} (hOL : ∀ s t, a ≤ s → s ≤ t → t < m → lt d[t]! d[s]! = false) (hOR : ∀ s t, m ≤ s → s ≤ t → t < b → lt d[t]! d[s]! = false) (b0 : a ≤ s0) (b3 : r0 ≤ m) (c1 : ∀ t, t < r0 → m ≤ p - t) (c2 : ∀ t, s0 ≤ t → p - t < b) (t u : Nat) (h1 : s0 ≤ t) (h2 : t ≤ u) (h3 : u < r0) (h : lt d[p - u]! d[u]! = false) : lt d[p - t]! d[t]! = false :=
  W.ntr _ _ _ (W.ntr _ _ _ (hOL t u (by omega) h2 (by omega)) h) (hOR (p - u) (p - t) (c1 u h3) (by omega) (c2 t h1))
end
variable {P : Program} {ρ : Ren} {α : Type} [Inhabited α]
set_option maxHeartbeats 2000000 in
set_option maxRecDepth 1000000 in
theorem syMerG (L : SyL P ρ) (k : Nat) (aE : ∀ w, (isAgg (ρ.t 24)).run P w = .ok true w) (zE : ∀ w, (Go.sizeOf (ρ.t 24)).run P w = .ok k w) (enc : α → List Value) (g : Nat) (cb : Array Value) (blk off cap : Nat) (cf : α → α → Int) (N : Nat) (d0 : Array α) (w0 : World) (R : RowK enc k w0 blk off d0) (hs : d0.size = N) (eg : ∀ args w, (callFunc g args).run P w = .ok (.enter g args) w) (hcmp : CmpLays P g cb enc k cf blk off N w0) (W : Weak (ltOf cf)) (hsz : N < 1000000000) (a m b : Nat) (d : Array α) (w : World) (hN : d.size = N) (S : SWK enc k w0 blk off d w) (X Lf Rt Z : List α) (hd : d.toList = X ++ (Lf ++ (Rt ++ Z))) (ha : X.length = a) (hL : a + Lf.length = m) (hR : m + Rt.length = b) (ham : a + 1 < m) (hmb : m + 1 < b) (oL : Ord (ltOf cf) Lf) (oR : Ord (ltOf cf) Rt)
    (IH : ∀ (a' m' b' : Nat) (d : Array α) (w : World) (X L R Z : List α), b' - a' < b - a → d.size = N → SWK enc k w0 blk off d w → d.toList = X ++ (L ++ (R ++ Z)) → X.length = a' → a' + L.length = m' → m' + R.length = b' → a' < m' → m' < b' → Ord (ltOf cf) L → Ord (ltOf cf) R → Calls P (ρ.f 79) #[.slice (some ⟨blk, off, none⟩) N cap, .int .i64 a', .int .i64 m', .int .i64 b', .func (.func g) #[] cb] w fun e w' => e = .returned (.tuple #[]) ∧ ∃ d' : Array α, d'.size = N ∧ d'.toList = X ++ (mrg (ltOf cf) L R ++ Z) ∧ SWK enc k w0 blk off d' w') :
    Calls P (ρ.f 79) #[.slice (some ⟨blk, off, none⟩) N cap, .int .i64 a, .int .i64 m, .int .i64 b, .func (.func g) #[] cb] w fun e w' => e = .returned (.tuple #[]) ∧ ∃ d' : Array α, d'.size = N ∧ d'.toList = X ++ (mrg (ltOf cf) Lf Rt ++ Z) ∧ SWK enc k w0 blk off d' w' := by
  have e80 : ∀ args w, (callFunc (ρ.f 80) args).run P w = .ok (.enter (ρ.f 80) args) w := L.f80.enters rfl
  have e79 : ∀ args w, (callFunc (ρ.f 79) args).run P w = .ok (.enter (ρ.f 79) args) w := L.f79.enters rfl
  have HROT : Aside (∀ (a m b : Nat) (d : Array α) (w : World) (hN : d.size = N) (S : SWK enc k w0 blk off d w) (X U V Z : List α) (hd : d.toList = X ++ (U ++ (V ++ Z))) (ha : X.length = a) (hU : a + U.length = m) (hV : m + V.length = b) (ham : a < m) (hmb : m < b), Calls P (ρ.f 80) #[.slice (some ⟨blk, off, none⟩) N cap, .int .i64 a, .int .i64 m, .int .i64 b, .func (.func g) #[] cb] w fun e w' => e = .returned (.tuple #[]) ∧ ∃ d' : Array α, d'.size = N ∧ d'.toList = X ++ (V ++ (U ++ Z)) ∧ SWK enc k w0 blk off d' w') := fun a m b d w hN S X U V Z hd ha hU hV ham hmb => syRot L.l20 L.f81 L.f80 k aE zE enc g cb blk off cap a m b N d0 d w0 w R hs hN S X U V Z hd ha hU hV ham hmb (by omega)
  have HIH : Aside (∀ (a' m' b' : Nat) (d : Array α) (w : World) (X L R Z : List α), b' - a' < b - a → d.size = N → SWK enc k w0 blk off d w → d.toList = X ++ (L ++ (R ++ Z)) → X.length = a' → a' + L.length = m' → m' + R.length = b' → a' < m' → m' < b' → Ord (ltOf cf) L → Ord (ltOf cf) R → Calls P (ρ.f 79) #[.slice (some ⟨blk, off, none⟩) N cap, .int .i64 a', .int .i64 m', .int .i64 b', .func (.func g) #[] cb] w fun e w' => e = .returned (.tuple #[]) ∧ ∃ d' : Array α, d'.size = N ∧ d'.toList = X ++ (mrg (ltOf cf) L R ++ Z) ∧ SWK enc k w0 blk off d' w') := IH
  have mixed := L.l20.mixed; have t0 := L.l20.t0; have a0 := L.l20.a0; have z0 := L.l20.z0; have v0 := L.l20.v0; have t3 := L.l20.t3; have a3 := L.l20.a3; have z3 := L.l20.z3; have v3 := L.l20.v3; have t4 := L.l20.t4; have a4 := L.l20.a4; have z4 := L.l20.z4; have v4 := L.l20.v4; have t22 := L.l20.t22; have a22 := L.l20.a22; have z22 := L.l20.z22; have v22 := L.l20.v22; have t25 := L.l20.t25; have a25 := L.l20.a25; have z25 := L.l20.z25; have v25 := L.l20.v25
  have t39 := L.t39; have a39 := L.a39; have z39 := L.z39; have v39 := L.v39
  obtain ⟨_, _, FG⟩ := L.f79
  have hbd : b ≤ N := by
    have := congrArg List.length hd
    simp at this
    omega
  have HC : Aside _ := hcmp
  have hOL : Hid (∀ s t, a ≤ s → s ≤ t → t < m → ltOf cf d[t]! d[s]! = false) := ord_at (ltOf cf) W (X := X) (Y := Lf) (Z := Rt ++ Z) hd oL ha hL
  have hOR : Hid (∀ s t, m ≤ s → s ≤ t → t < b → ltOf cf d[t]! d[s]! = false) := ord_at (ltOf cf) W (X := X ++ Lf) (Y := Rt) (Z := Z) (by simpa using hd) oR (by simp; omega) hR
  have HM : Hid (d.toList = X ++ (Lf ++ (Rt ++ Z)) ∧ X.length = a ∧ a + Lf.length = m ∧ m + Rt.length = b) := ⟨hd, ha, hL, hR⟩
  have HO : Hid (Ord (ltOf cf) Lf ∧ Ord (ltOf cf) Rt) := ⟨oL, oR⟩
  have HW : Hid (Weak (ltOf cf)) := W
  have HN : Hid (d.size = N) := hN
  have S0 : Aside (SWK enc k w0 blk off d w) := S
  obtain ⟨ml, hml⟩ : ∃ q, q + a = m := ⟨m - a, by omega⟩
  have q0 : (m : Int) - (a : Int) = (ml : Int) := by omega
  have q4 : IntKind.i64.wrap (ml : Int) = (ml : Int) := by rw [IntKind.wrap_i64]; omega
  have q5 : ((ml : Int) == 1) = false := beq_eq_false_iff_ne.2 (by omega)
  obtain ⟨bm, hbm⟩ : ∃ q, q + m = b := ⟨b - m, by omega⟩
  have q1 : (b : Int) - (m : Int) = (bm : Int) := by omega
  have q6 : IntKind.i64.wrap (bm : Int) = (bm : Int) := by rw [IntKind.wrap_i64]; omega
  have q7 : ((bm : Int) == 1) = false := beq_eq_false_iff_ne.2 (by omega)
  obtain ⟨h, hh⟩ : ∃ q, q = (a + b) / 2 := ⟨_, rfl⟩
  have wa1 : IntKind.i64.wrap ((a : Int) + (b : Int)) = (a : Int) + (b : Int) := by rw [IntKind.wrap_i64]; omega
  have wb1 : IntKind.u64.wrap ((a : Int) + (b : Int)) = (a : Int) + (b : Int) := by unfold IntKind.wrap; simp [IntKind.signed, IntKind.bits]; omega
  have wc1 : ((a : Int) + (b : Int)) / 2 = (h : Int) := by omega
  have wd1 : IntKind.u64.wrap (h : Int) = (h : Int) := by unfold IntKind.wrap; simp [IntKind.signed, IntKind.bits]; omega
  have we1 : IntKind.i64.wrap (h : Int) = (h : Int) := by rw [IntKind.wrap_i64]; omega
  have HH : Hid (h = (a + b) / 2) := hh
  obtain ⟨n, hn⟩ : ∃ q, q = h + m := ⟨_, rfl⟩
  have HNN : Hid (n = h + m) := hn
  have n1 : (h : Int) + (m : Int) = (n : Int) := by omega
  have n2 : IntKind.i64.wrap (n : Int) = (n : Int) := by rw [IntKind.wrap_i64]; omega
  obtain ⟨p, hp⟩ : ∃ q, q + 1 = n := ⟨n - 1, by omega⟩
  have p1 : (n : Int) - 1 = (p : Int) := by omega
  have p2 : IntKind.i64.wrap (p : Int) = (p : Int) := by rw [IntKind.wrap_i64]; omega
  have HP : Hid (p + 1 = n) := hp
  have hah : a < h := by omega
  have hhb : h < b := by omega
  have hgen : h < m → b ≤ n ∧ n ≤ h + b := by omega
  have hgn2 : ¬ h < m → n ≤ a + b ∧ a ≤ m ∧ m ≤ h := by omega
  have HG : Hid ((h < m → b ≤ n ∧ n ≤ h + b ∧ a + b ≤ n) ∧ (¬ h < m → n ≤ a + b ∧ a ≤ m ∧ m ≤ h)) := ⟨by omega, by omega⟩
  have nN : n ≤ 2 * N := by omega
  clear S hd ha hL hR oL oR hcmp W IH hh hn hp hgen hgn2 hml hbm
  go_enter FG, syB_mer_ntmps ρ
  go_upto_if 140 with fail
  clear q0 q4 q5 q1 q6 q7 wa1 wb1 wc1 wd1 we1 n1 n2
  go_cut [20, 21] from 138 to 146 (fun s20 s21 wx => ∃ s0 r0 : Nat, s20 = .int .i64 s0 ∧ s21 = .int .i64 r0 ∧ Hid (a ≤ s0 ∧ s0 ≤ r0 ∧ r0 ≤ m ∧ r0 ≤ h ∧ n ≤ s0 + b ∧ (s0 = a ∨ n = s0 + b) ∧ (r0 = m ∨ r0 = h)) ∧ wx = w)
  case first =>
    clear S0 p1 p2
    by_cases hg : h < m
    · have hgz : (h : Int) < (m : Int) := by omega
      have hgd : decide ((h : Int) < (m : Int)) = true := decide_eq_true hgz
      obtain ⟨g1, g2, g3⟩ := HG.out.1 hg
      obtain ⟨s0, hs0⟩ : ∃ q, q + b = n := ⟨n - b, by omega⟩
      have q1 : (n : Int) - (b : Int) = (s0 : Int) := by omega
      have q2 : IntKind.i64.wrap (s0 : Int) = (s0 : Int) := by rw [IntKind.wrap_i64]; omega
      have HS : Hid (s0 + b = n) := hs0
      clear hs0
      go_wp2
      go_meet
      case rel => exact ⟨s0, h, rfl, rfl, (show Hid _ from by have := HS.out; show _ ∧ _; omega), rfl⟩
    · have hgz : ¬ (h : Int) < (m : Int) := by omega
      have hgd : decide ((h : Int) < (m : Int)) = false := decide_eq_false hgz
      obtain ⟨g1, g2, g3⟩ := HG.out.2 hg
      go_wp2
      go_meet
      case rel => exact ⟨a, m, rfl, rfl, (show Hid _ from by show _ ∧ _; omega), rfl⟩
  case rest =>
    obtain ⟨s0, r0, rfl, rfl, HB, hwc⟩ := hcut
    subst hwc
    have HD : Hid (∀ t u, s0 ≤ t → t ≤ u → u < r0 → ltOf cf d[p - u]! d[u]! = false → ltOf cf d[p - t]! d[t]! = false) := by
      obtain ⟨b0, b1, b3, b4, b5, b6, b7⟩ := HB.out
      have e1 := HP.out
      have e2 := HNN.out
      exact fun t u h1 h2 h3 h4 => mer_down (ltOf cf) HW.out (a := a) (m := m) (b := b) (p := p) (s0 := s0) (r0 := r0) hOL.out hOR.out b0 b3 (fun t ht => by omega) (fun t ht => by omega) t u h1 h2 h3 h4
    go_wp2
    clear p1 p2
    go_loopg [20, 21] (r0 - s0) (fun kx s10 s11 wr => ∃ s r : Nat, s10 = .int .i64 s ∧ s11 = .int .i64 r ∧ s0 ≤ s ∧ s ≤ r ∧ r ≤ r0 ∧ r - s ≤ kx ∧ Aside (SWK enc k w0 blk off d wr) ∧ Hid (∀ t, s0 ≤ t → t < s → ltOf cf d[p - t]! d[t]! = false) ∧ Hid (∀ t, r ≤ t → t < r0 → ltOf cf d[p - t]! d[t]! = true))
    case atStart => exact ⟨s0, r0, rfl, rfl, Nat.le_refl _, HB.out.2.1, Nat.le_refl _, Nat.le_refl _, S0, fun t h1 h2 => by omega, fun t h1 h2 => by omega⟩
    case round =>
      clear S0
      obtain ⟨s, r, rfl, rfl, h1, h2, h3, hkx, S1, H1, H2⟩ := hrel
      by_cases hlt : s < r
      · have hltz : (s : Int) < (r : Int) := by omega
        obtain ⟨b0, b1, b3, b4, b5, -, -⟩ := HB.out
        have e1 := HP.out
        have e2 := HNN.out
        obtain ⟨c, hc⟩ : ∃ q, q = (s + r) / 2 := ⟨_, rfl⟩
        have wa2 : IntKind.i64.wrap ((s : Int) + (r : Int)) = (s : Int) + (r : Int) := by rw [IntKind.wrap_i64]; omega
        have wb2 : IntKind.u64.wrap ((s : Int) + (r : Int)) = (s : Int) + (r : Int) := by unfold IntKind.wrap; simp [IntKind.signed, IntKind.bits]; omega
        have wc2 : ((s : Int) + (r : Int)) / 2 = (c : Int) := by omega
        have wd2 : IntKind.u64.wrap (c : Int) = (c : Int) := by unfold IntKind.wrap; simp [IntKind.signed, IntKind.bits]; omega
        have we2 : IntKind.i64.wrap (c : Int) = (c : Int) := by rw [IntKind.wrap_i64]; omega
        have HCC : Hid (c = (s + r) / 2) := hc
        have m1 : s ≤ c := by omega
        have m2 : c < r := by omega
        obtain ⟨e, he⟩ : ∃ q, q + c = p := ⟨p - c, by omega⟩
        have v1 : (p : Int) - (c : Int) = (e : Int) := by omega
        have v2 : IntKind.i64.wrap (e : Int) = (e : Int) := by rw [IntKind.wrap_i64]; omega
        have eN : e < N := by omega
        have cN : c < N := by omega
        have HE : Hid (p - c = e) := by show _ = _; omega
        clear hc he e1 e2 b0 b1 b3 b4 b5
        go_upto_region 35 with fail
        cases hlv : (ltOf cf) d[e]! d[c]! with
        | true =>
          have ea44 : ((e : Int)).toNat = e := by omega
          have pa44 : (0 : Int) ≤ (e : Int) := by omega
          have ba44 : (e : Int) < (N : Int) := by omega
          have ra44 : IntKind.i64.wrap ((e : Int)) = (e : Int) := by rw [IntKind.wrap_i64]; omega
          have ec44 : ((c : Int)).toNat = c := by omega
          have pc44 : (0 : Int) ≤ (c : Int) := by omega
          have bc44 : (c : Int) < (N : Int) := by omega
          have rc44 : IntKind.i64.wrap ((c : Int)) = (c : Int) := by rw [IntKind.wrap_i64]; omega
          obtain ⟨x44, hx44⟩ : ∃ x, x = d[e]! := ⟨_, rfl⟩
          obtain ⟨y44, hy44⟩ : ∃ x, x = d[c]! := ⟨_, rfl⟩
          have l44a := S1.out.ld R (by omega) P (e) (by omega)
          have l44b := S1.out.ld R (by omega) P (c) (by omega)
          rw [← hx44] at l44a
          rw [← hy44] at l44b
          have hc44 := S1.out.cmp HC.out (by omega) x44 y44
          have hv44 : cf x44 y44 < 0 := by rw [hx44, hy44]; exact of_decide_eq_true hlv
          have hd44 : decide (cf x44 y44 < 0) = true := decide_eq_true hv44
          clear hx44 hy44
          go_wp2_with fail
          go_quiet_grown (first | (go_at_fn g; refine Calls.grown_of (hc44 _ _)))
          have S2 : Aside (SWK enc k w0 blk off d (grow (wr.drewN nq) osq)) := S1.out.grown nq osq
          clear l44a l44b hc44 S1
          generalize grow (wr.drewN nq) osq = w2 at S2 ⊢
          clear nq osq
          go_wp2
          go_roundg (c - s)
          case measure => omega
          case rel =>
            refine ⟨s, c, rfl, by first | rfl | go_num, h1, m1, by omega, Nat.le_refl _, S2, H1, (show Hid _ from ?_)⟩
            intro t t1 t2
            cases hq : ltOf cf d[p - t]! d[t]! with
            | true => rfl
            | false =>
              have := HD.out c t (by omega) t1 t2 hq
              rw [HE.out, hlv] at this
              cases this
        | false =>
          have ea45 : ((e : Int)).toNat = e := by omega
          have pa45 : (0 : Int) ≤ (e : Int) := by omega
          have ba45 : (e : Int) < (N : Int) := by omega
          have ra45 : IntKind.i64.wrap ((e : Int)) = (e : Int) := by rw [IntKind.wrap_i64]; omega
          have ec45 : ((c : Int)).toNat = c := by omega
          have pc45 : (0 : Int) ≤ (c : Int) := by omega
          have bc45 : (c : Int) < (N : Int) := by omega
          have rc45 : IntKind.i64.wrap ((c : Int)) = (c : Int) := by rw [IntKind.wrap_i64]; omega
          obtain ⟨x45, hx45⟩ : ∃ x, x = d[e]! := ⟨_, rfl⟩
          obtain ⟨y45, hy45⟩ : ∃ x, x = d[c]! := ⟨_, rfl⟩
          have l45a := S1.out.ld R (by omega) P (e) (by omega)
          have l45b := S1.out.ld R (by omega) P (c) (by omega)
          rw [← hx45] at l45a
          rw [← hy45] at l45b
          have hc45 := S1.out.cmp HC.out (by omega) x45 y45
          have hv45 : ¬ cf x45 y45 < 0 := by rw [hx45, hy45]; exact of_decide_eq_false hlv
          have hd45 : decide (cf x45 y45 < 0) = false := decide_eq_false hv45
          clear hx45 hy45
          go_wp2_with fail
          go_quiet_grown (first | (go_at_fn g; refine Calls.grown_of (hc45 _ _)))
          have S2 : Aside (SWK enc k w0 blk off d (grow (wr.drewN nq) osq)) := S1.out.grown nq osq
          clear l45a l45b hc45 S1
          generalize grow (wr.drewN nq) osq = w2 at S2 ⊢
          clear nq osq
          go_wp2
          go_roundg (r - (c + 1))
          case measure => omega
          case rel =>
            refine ⟨c + 1, r, by first | rfl | go_num, rfl, by omega, by omega, h3, Nat.le_refl _, S2, (show Hid _ from ?_), H2⟩
            intro t t1 t2
            exact HD.out t c t1 (by omega) (by omega) (by rw [HE.out]; exact hlv)
      · have hltz : ¬ (s : Int) < (r : Int) := by omega
        have e : r = s := by omega
        subst e
        obtain ⟨b0, b1, b3, b4, b5, b6, b7⟩ := HB.out
        have e1 := HP.out
        have e2 := HNN.out
        obtain ⟨m1, m2, m3, m4⟩ := HM.out
        have key := mer_found (ltOf cf) HW.out m1 m2 m3 m4 HO.out.1 HO.out.2 e2 e1 b0 h1 h3 b3 b4 b5 b6 b7 H1.out H2.out
        obtain ⟨en, hen⟩ : ∃ q, q + r = n := ⟨n - r, by omega⟩
        obtain ⟨L1, hL1⟩ : ∃ l, Lf.take (r - a) = l := ⟨_, rfl⟩
        obtain ⟨L2, hL2⟩ : ∃ l, Lf.drop (r - a) = l := ⟨_, rfl⟩
        obtain ⟨R1, hR1⟩ : ∃ l, Rt.take (n - r - m) = l := ⟨_, rfl⟩
        obtain ⟨R2, hR2⟩ : ∃ l, Rt.drop (n - r - m) = l := ⟨_, rfl⟩
        have jL : Lf = L1 ++ L2 := by rw [← hL1, ← hL2, List.take_append_drop]
        have jR : Rt = R1 ++ R2 := by rw [← hR1, ← hR2, List.take_append_drop]
        have k1 : a + L1.length = r := by rw [← hL1, List.length_take]; omega
        have k2 : r + L2.length = m := by rw [← hL2, List.length_drop]; omega
        have k3 : m + R1.length = en := by rw [← hR1, List.length_take]; omega
        have k4 : en + R2.length = b := by rw [← hR2, List.length_drop]; omega
        rw [hL1, hL2, hR1, hR2] at key
        have HKEY : Hid _ := key
        have o1 : Ord (ltOf cf) L1 := by rw [← hL1]; exact HO.out.1.sublist (List.take_sublist _ _)
        have o2 : Ord (ltOf cf) L2 := by rw [← hL2]; exact HO.out.1.sublist (List.drop_sublist _ _)
        have o3 : Ord (ltOf cf) R1 := by rw [← hR1]; exact HO.out.2.sublist (List.take_sublist _ _)
        have o4 : Ord (ltOf cf) R2 := by rw [← hR2]; exact HO.out.2.sublist (List.drop_sublist _ _)
        have HL : Hid (d.toList = X ++ (L1 ++ (L2 ++ (R1 ++ (R2 ++ Z)))) ∧ X.length = a ∧ a + L1.length = r ∧ r + L2.length = m ∧ m + R1.length = en ∧ en + R2.length = b) := ⟨by rw [m1, jL, jR]; simp, m2, k1, k2, k3, k4⟩
        have HOO : Hid (Ord (ltOf cf) L1 ∧ Ord (ltOf cf) L2 ∧ Ord (ltOf cf) R1 ∧ Ord (ltOf cf) R2) := ⟨o1, o2, o3, o4⟩
        have v1 : (n : Int) - (r : Int) = (en : Int) := by omega
        have v2 : IntKind.i64.wrap (en : Int) = (en : Int) := by rw [IntKind.wrap_i64]; omega
        have HEN : Hid (en + r = n ∧ n = h + m) := ⟨hen, e2⟩
        have hmen : m ≤ en := by omega
        have hrh : r ≤ h := by omega
        have har : a ≤ r := by omega
        clear b0 b1 b3 b4 b5 b6 b7 e1 e2 m1 m2 m3 m4 key hen hL1 hL2 hR1 hR2 jL jR k1 k2 k3 k4 o1 o2 o3 o4 HM HO HD H1 H2 hOL hOR
        go_upto_region 39 with fail
        clear v1 v2
        go_cut [185] from 178 to 185 (fun s185 wx => ∃ B : Bool, s185 = .bool B ∧ Hid (B = decide (r < m ∧ m < en)) ∧ wx = wr)
        case first =>
          by_cases c1 : r < m
          · have z1 : (r : Int) < (m : Int) := by omega
            have y1 : decide ((r : Int) < (m : Int)) = true := decide_eq_true z1
            by_cases c2 : m < en
            · have z2 : (m : Int) < (en : Int) := by omega
              have y2 : decide ((m : Int) < (en : Int)) = true := decide_eq_true z2
              go_wp2
              go_meet
              case rel => exact ⟨true, rfl, (show Hid _ from by show _ = _; simp; omega), rfl⟩
            · have z2 : ¬ (m : Int) < (en : Int) := by omega
              have y2 : decide ((m : Int) < (en : Int)) = false := decide_eq_false z2
              go_wp2
              go_meet
              case rel => exact ⟨false, rfl, (show Hid _ from by show _ = _; simp; omega), rfl⟩
          · have z1 : ¬ (r : Int) < (m : Int) := by omega
            have y1 : decide ((r : Int) < (m : Int)) = false := decide_eq_false z1
            go_wp2
            go_meet
            case rel => exact ⟨false, rfl, (show Hid _ from by show _ = _; simp; omega), rfl⟩
        case rest =>
          obtain ⟨B, rfl, HBB, hwc⟩ := hcut
          subst hwc
          go_upto_if 185 with fail
          go_cut [] from 178 to 191 (fun wx => ∃ d2 : Array α, d2.size = N ∧ Hid (d2.toList = X ++ (L1 ++ (R1 ++ (L2 ++ (R2 ++ Z))))) ∧ Aside (SWK enc k w0 blk off d2 wx))
          case first =>
            obtain ⟨x1, x2, x3, x4, x5, x6⟩ := HL.out
            cases B with
            | true =>
              have hc := of_decide_eq_true HBB.out.symm
              have hrot := HROT.out r m en d wc HN.out S1.out (X ++ L1) L2 R1 (R2 ++ Z) (by simpa using x1) (by simp; omega) x4 x5 (by omega) (by omega)
              clear x1 x2 x3 x4 x5 x6
              go_wp2_with (go_at_fn (ρ.f 80); refine hrot.mono ?_; rintro e w4 ⟨rfl, d2, hz2, hl2, S2⟩)
              go_meet
              case rel => exact ⟨d2, hz2, (show Hid _ from by show _ = _; simpa using hl2), S2⟩
            | false =>
              have hc := of_decide_eq_false HBB.out.symm
              have hl2 : L2 = [] ∨ R1 = [] := by
                by_cases c1 : r < m
                · right; exact List.eq_nil_of_length_eq_zero (by omega)
                · left; exact List.eq_nil_of_length_eq_zero (by omega)
              have hq : L2 ++ (R1 ++ (R2 ++ Z)) = R1 ++ (L2 ++ (R2 ++ Z)) := by
                rcases hl2 with e | e
                · rw [e]; simp
                · rw [e]; simp
              have HQ : Hid (d.toList = X ++ (L1 ++ (R1 ++ (L2 ++ (R2 ++ Z))))) := by show _ = _; rw [x1, hq]
              clear x1 x2 x3 x4 x5 x6 hl2 hq
              go_wp2
              go_meet
              case rel => exact ⟨d, HN.out, HQ, S1⟩
          case rest =>
            clear S1
            obtain ⟨d2, hz2, HL2, S2⟩ := hcut
            obtain ⟨w5, hw5⟩ : ∃ y : World, y = wc := ⟨_, rfl⟩
            rw [← hw5] at S2 ⊢
            clear hw5
            go_upto_region 41 with fail
            go_cut [199] from 192 to 199 (fun s185 wx => ∃ B : Bool, s185 = .bool B ∧ Hid (B = decide (a < r ∧ r < h)) ∧ wx = w5)
            case first =>
              by_cases c1 : a < r
              · have z1 : (a : Int) < (r : Int) := by omega
                have y1 : decide ((a : Int) < (r : Int)) = true := decide_eq_true z1
                by_cases c2 : r < h
                · have z2 : (r : Int) < (h : Int) := by omega
                  have y2 : decide ((r : Int) < (h : Int)) = true := decide_eq_true z2
                  go_wp2
                  go_meet
                  case rel => exact ⟨true, rfl, (show Hid _ from by show _ = _; simp; omega), rfl⟩
                · have z2 : ¬ (r : Int) < (h : Int) := by omega
                  have y2 : decide ((r : Int) < (h : Int)) = false := decide_eq_false z2
                  go_wp2
                  go_meet
                  case rel => exact ⟨false, rfl, (show Hid _ from by show _ = _; simp; omega), rfl⟩
              · have z1 : ¬ (a : Int) < (r : Int) := by omega
                have y1 : decide ((a : Int) < (r : Int)) = false := decide_eq_false z1
                go_wp2
                go_meet
                case rel => exact ⟨false, rfl, (show Hid _ from by show _ = _; simp; omega), rfl⟩
            case rest =>
              obtain ⟨B2, rfl, HBB2, hwc⟩ := hcut
              subst hwc
              go_upto_if 199 with fail
              go_cut [] from 192 to 205 (fun wx => ∃ d3 : Array α, d3.size = N ∧ Hid (d3.toList = X ++ (mrg (ltOf cf) L1 R1 ++ (L2 ++ (R2 ++ Z)))) ∧ Aside (SWK enc k w0 blk off d3 wx))
              case first =>
                obtain ⟨x1, x2, x3, x4, x5, x6⟩ := HL.out
                obtain ⟨g1, g2⟩ := HEN.out
                cases B2 with
                | true =>
                  have hc := of_decide_eq_true HBB2.out.symm
                  have hrec := HIH.out a r h d2 wc X L1 R1 (L2 ++ (R2 ++ Z)) (by omega) hz2 S2.out HL2.out x2 x3 (by omega) hc.1 hc.2 HOO.out.1 HOO.out.2.2.1
                  clear x1 x2 x3 x4 x5 x6 g1 g2
                  go_wp2_with (go_at_fn (ρ.f 79); refine hrec.mono ?_; rintro e w6 ⟨rfl, d3, hz3, hl3, S3⟩)
                  go_meet
                  case rel => exact ⟨d3, hz3, hl3, S3⟩
                | false =>
                  have hc := of_decide_eq_false HBB2.out.symm
                  have hl2 : L1 = [] ∨ R1 = [] := by
                    by_cases c1 : a < r
                    · right; exact List.eq_nil_of_length_eq_zero (by omega)
                    · left; exact List.eq_nil_of_length_eq_zero (by omega)
                  have hq : mrg (ltOf cf) L1 R1 = L1 ++ R1 := by
                    rcases hl2 with e | e
                    · rw [e, mrg_nilL]; rfl
                    · rw [e, mrg_nilR]; simp
                  have HQ : Hid (d2.toList = X ++ (mrg (ltOf cf) L1 R1 ++ (L2 ++ (R2 ++ Z)))) := by show _ = _; rw [HL2.out, hq]; simp
                  clear x1 x2 x3 x4 x5 x6 hl2 hq g1 g2
                  go_wp2
                  go_meet
                  case rel => exact ⟨d2, hz2, HQ, S2⟩
              case rest =>
                clear S2
                obtain ⟨d3, hz3, HL3, S3⟩ := hcut
                obtain ⟨w7, hw7⟩ : ∃ y : World, y = wc := ⟨_, rfl⟩
                rw [← hw7] at S3 ⊢
                clear hw7
                obtain ⟨x1, x2, x3, x4, x5, x6⟩ := HL.out
                obtain ⟨g1, g2⟩ := HEN.out
                have hh1 := mrg_len (ltOf cf) L1 R1
                by_cases c1 : h < en
                · have z1 : (h : Int) < (en : Int) := by omega
                  have y1 : decide ((h : Int) < (en : Int)) = true := decide_eq_true z1
                  by_cases c2 : en < b
                  · have z2 : (en : Int) < (b : Int) := by omega
                    have y2 : decide ((en : Int) < (b : Int)) = true := decide_eq_true z2
                    have hrec := HIH.out h en b d3 w7 (X ++ mrg (ltOf cf) L1 R1) L2 R2 Z (by omega) hz3 S3.out (by rw [HL3.out]; simp) (by simp; omega) (by omega) x6 c1 c2 HOO.out.2.1 HOO.out.2.2.2
                    clear x1 x2 x3 x4 x5 x6 g1 g2 hh1
                    go_wp2_with (go_at_fn (ρ.f 79); refine hrec.mono ?_; rintro e w8 ⟨rfl, d4, hz4, hl4, S4⟩)
                    go_end0
                    exact ⟨rfl, d4, hz4, by rw [HKEY.out, hl4]; simp, S4⟩
                  · have z2 : ¬ (en : Int) < (b : Int) := by omega
                    have y2 : decide ((en : Int) < (b : Int)) = false := decide_eq_false z2
                    have er : R2 = [] := List.eq_nil_of_length_eq_zero (by omega)
                    clear x1 x2 x3 x4 x5 x6 g1 g2 hh1
                    go_wp2
                    go_end0
                    exact ⟨rfl, d3, hz3, by rw [HKEY.out, HL3.out, er, mrg_nilR]; simp, S3.out⟩
                · have z1 : ¬ (h : Int) < (en : Int) := by omega
                  have y1 : decide ((h : Int) < (en : Int)) = false := decide_eq_false z1
                  have er : L2 = [] := List.eq_nil_of_length_eq_zero (by omega)
                  clear x1 x2 x3 x4 x5 x6 g1 g2 hh1
                  go_wp2
                  go_end0
                  exact ⟨rfl, d3, hz3, by rw [HKEY.out, HL3.out, er, mrg_nilL]; simp, S3.out⟩

theorem syMer (L : SyL P ρ) (k : Nat) (aE : ∀ w, (isAgg (ρ.t 24)).run P w = .ok true w) (zE : ∀ w, (Go.sizeOf (ρ.t 24)).run P w = .ok k w) (enc : α → List Value) (g : Nat) (cb : Array Value) (blk off cap : Nat) (cf : α → α → Int) (N : Nat) (d0 : Array α) (w0 : World) (R : RowK enc k w0 blk off d0) (hs : d0.size = N) (eg : ∀ args w, (callFunc g args).run P w = .ok (.enter g args) w) (hcmp : CmpLays P g cb enc k cf blk off N w0) (W : Weak (ltOf cf)) (hsz : N < 1000000000) : ∀ (f a m b : Nat) (d : Array α) (w : World) (X L R Z : List α), b - a ≤ f → d.size = N → SWK enc k w0 blk off d w → d.toList = X ++ (L ++ (R ++ Z)) → X.length = a → a + L.length = m → m + R.length = b → a < m → m < b → Ord (ltOf cf) L → Ord (ltOf cf) R → Calls P (ρ.f 79) #[.slice (some ⟨blk, off, none⟩) N cap, .int .i64 a, .int .i64 m, .int .i64 b, .func (.func g) #[] cb] w fun e w' => e = .returned (.tuple #[]) ∧ ∃ d' : Array α, d'.size = N ∧ d'.toList = X ++ (mrg (ltOf cf) L R ++ Z) ∧ SWK enc k w0 blk off d' w' := by
  intro f
  induction f with
  | zero => intros; omega
  | succ f ih =>
    intro a m b d w X L' R' Z hf hN S hd ha hL hR ham hmb oL oR
    by_cases h1 : m = a + 1
    · obtain ⟨x, rfl⟩ : ∃ x, L' = [x] := List.length_eq_one_iff.1 (by omega)
      exact syMerL L k aE zE enc g cb blk off cap cf N d0 w0 R hs eg hcmp W hsz a m b d w hN S X R' Z x hd ha h1.symm hR hmb oR
    · by_cases h2 : b = m + 1
      · obtain ⟨y, rfl⟩ : ∃ x, R' = [x] := List.length_eq_one_iff.1 (by omega)
        exact syMerR L k aE zE enc g cb blk off cap cf N d0 w0 R hs eg hcmp W hsz a m b d w hN S X L' Z y hd ha hL h2.symm (by omega) oL
      · exact syMerG L k aE zE enc g cb blk off cap cf N d0 w0 R hs eg hcmp W hsz a m b d w hN S X L' R' Z hd ha hL hR (by omega) (by omega) oL oR (fun a' m' b' d w X L R Z h => ih a' m' b' d w X L R Z (by omega))

end Go.Proofs.YtcjpemphdgndkaaGreat

/- slices.stableCmpFunc at structs. -/
namespace Go.Proofs.YtcjpemphdgndkaaGreat
open Go.Shelf Go.RowKit Go.Lib Go.Sort
set_option linter.unusedVariables false
set_option linter.unusedSimpArgs false
set_option linter.unusedSectionVars false
section
variable {β : Type} (lt : β → β → Bool)
/-- a row put in order block by block -/
def chs (bs : Nat) (l : List β) : List β := if 0 < bs ∧ bs ≤ l.length then srt lt (l.take bs) ++ chs bs (l.drop bs) else srt lt l
termination_by l.length
decreasing_by rw [List.length_drop]; omega
theorem chs_more {bs : Nat} {l : List β} (h0 : 0 < bs) (h : bs ≤ l.length) : chs lt bs l = srt lt (l.take bs) ++ chs lt bs (l.drop bs) := by rw [chs, if_pos ⟨h0, h⟩]
theorem chs_end {bs : Nat} {l : List β} (h : l.length < bs) : chs lt bs l = srt lt l := by rw [chs, if_neg (by omega)]
theorem chs_one {bs : Nat} {l : List β} (h0 : 0 < bs) (h : l.length ≤ bs) : chs lt bs l = srt lt l := by
  by_cases h1 : l.length < bs
  · exact chs_end lt h1
  · rw [chs_more lt h0 (by omega), chs_end lt (by rw [List.length_drop]; omega), List.take_of_length_le (by omega), List.drop_of_length_le (by omega)]
    simp [srt]
theorem chs_two (W : Weak lt) {bs : Nat} {l : List β} (h0 : 0 < bs) (h : 2 * bs ≤ l.length) : chs lt bs l = srt lt (l.take bs) ++ (srt lt ((l.drop bs).take bs) ++ chs lt bs (l.drop (2 * bs))) ∧ chs lt (2 * bs) l = mrg lt (srt lt (l.take bs)) (srt lt ((l.drop bs).take bs)) ++ chs lt (2 * bs) (l.drop (2 * bs)) := by
  refine ⟨?_, ?_⟩
  · rw [chs_more lt h0 (by omega), chs_more lt h0 (by rw [List.length_drop]; omega), List.drop_drop, show bs + bs = 2 * bs from by omega]
  · rw [chs_more lt (by omega) h, ← srt_blocks lt W, ← List.take_add, show bs + bs = 2 * bs from by omega]
theorem chs_last (W : Weak lt) {bs : Nat} {l : List β} (h0 : 0 < bs) (h : bs < l.length) (h2 : l.length < 2 * bs) : chs lt bs l = srt lt (l.take bs) ++ srt lt (l.drop bs) ∧ chs lt (2 * bs) l = mrg lt (srt lt (l.take bs)) (srt lt (l.drop bs)) := by
  refine ⟨?_, ?_⟩
  · rw [chs_more lt h0 (by omega), chs_end lt (by rw [List.length_drop]; omega)]
  · rw [chs_end lt h2, ← srt_blocks lt W, List.take_append_drop]
end
variable {P : Program} {ρ : Ren} {α : Type} [Inhabited α]
set_option maxHeartbeats 2000000 in
set_option maxRecDepth 1000000 in
theorem syIns (L : SyL P ρ) (k : Nat) (aE : ∀ w, (isAgg (ρ.t 24)).run P w = .ok true w) (zE : ∀ w, (Go.sizeOf (ρ.t 24)).run P w = .ok k w) (enc : α → List Value) (g : Nat) (cb : Array Value) (blk off cap : Nat) (cf : α → α → Int) (N : Nat) (d0 : Array α) (w0 : World) (R : RowK enc k w0 blk off d0) (hs : d0.size = N) (eg : ∀ args w, (callFunc g args).run P w = .ok (.enter g args) w) (hcmp : CmpLays P g cb enc k cf blk off N w0) (W : Weak (ltOf cf)) (hsz : N < 1000000000) (a b : Nat) (d : Array α) (w : World) (hN : d.size = N) (S : SWK enc k w0 blk off d w) (X A Z : List α) (hd : d.toList = X ++ (A ++ Z)) (ha : X.length = a) (hb : a + A.length = b) :
    Calls P (ρ.f 20) #[.slice (some ⟨blk, off, none⟩) N cap, .int .i64 a, .int .i64 b, .func (.func g) #[] cb] w fun e w' => e = .returned (.tuple #[]) ∧ ∃ d' : Array α, d'.size = N ∧ d'.toList = X ++ (srt (ltOf cf) A ++ Z) ∧ SWK enc k w0 blk off d' w' := by
  have hbd : b ≤ d.size := by
    have := congrArg List.length hd
    simp at this
    omega
  have hc : CmpLays P g cb enc k cf blk off d.size w := by
    intro n os dk hk x y
    obtain ⟨n', os', e⟩ := S.on R.hblk n dk os hk
    rw [e]
    exact hcmp n' os' dk (by omega) x y
  have := AnyQ.insertionSortCmpFunc L.l20 k aE zE enc R.hk R.h1 cf g cb blk off cap a b d w eg hc (S.holds R.hblk R.hH (by omega)) (S.lt R.hblk) (by omega) hbd (by omega)
  rw [hN] at this
  refine this.mono ?_
  rintro e w' ⟨rfl, n, os, rfl⟩
  refine ⟨rfl, _, (seg_size (ltOf cf) d a b).trans hN, ?_, S.on R.hblk n _ os (seg_size (ltOf cf) d a b)⟩
  have h2 := seg_sort (ltOf cf) X A Z d b hd (by omega)
  rw [ha] at h2
  exact h2

set_option maxHeartbeats 2000000 in
set_option maxRecDepth 1000000 in
theorem syStb (L : SyL P ρ) (k : Nat) (aE : ∀ w, (isAgg (ρ.t 24)).run P w = .ok true w) (zE : ∀ w, (Go.sizeOf (ρ.t 24)).run P w = .ok k w) (enc : α → List Value) (g : Nat) (cb : Array Value) (blk off cap : Nat) (cf : α → α → Int) (N : Nat) (d0 : Array α) (w0 : World) (R : RowK enc k w0 blk off d0) (hs : d0.size = N) (eg : ∀ args w, (callFunc g args).run P w = .ok (.enter g args) w) (hcmp : CmpLays P g cb enc k cf blk off N w0) (W : Weak (ltOf cf)) (hsz : N < 1000000000) (d : Array α) (w : World) (hN : d.size = N) (S : SWK enc k w0 blk off d w) :
    Calls P (ρ.f 77) #[.slice (some ⟨blk, off, none⟩) N cap, .int .i64 N, .func (.func g) #[] cb] w fun e w' => e = .returned (.tuple #[]) ∧ ∃ d' : Array α, d'.size = N ∧ d'.toList = srt (ltOf cf) d.toList ∧ SWK enc k w0 blk off d' w' := by
  have e79 : ∀ args w, (callFunc (ρ.f 79) args).run P w = .ok (.enter (ρ.f 79) args) w := L.f79.enters rfl
  have e20 : ∀ args w, (callFunc (ρ.f 20) args).run P w = .ok (.enter (ρ.f 20) args) w := (show Bears P (ρ.f 20) _ from L.l20.f20).enters rfl
  have HI : Aside (∀ (a b : Nat) (d : Array α) (w : World) (X A Z : List α), d.size = N → SWK enc k w0 blk off d w → d.toList = X ++ (A ++ Z) → X.length = a → a + A.length = b → Calls P (ρ.f 20) #[.slice (some ⟨blk, off, none⟩) N cap, .int .i64 a, .int .i64 b, .func (.func g) #[] cb] w fun e w' => e = .returned (.tuple #[]) ∧ ∃ d' : Array α, d'.size = N ∧ d'.toList = X ++ (srt (ltOf cf) A ++ Z) ∧ SWK enc k w0 blk off d' w') := fun a b d w X A Z h1 h2 h3 h4 h5 => syIns L k aE zE enc g cb blk off cap cf N d0 w0 R hs eg hcmp W hsz a b d w h1 h2 X A Z h3 h4 h5
  have HMG : Aside (∀ (a m b : Nat) (d : Array α) (w : World) (X L R Z : List α), d.size = N → SWK enc k w0 blk off d w → d.toList = X ++ (L ++ (R ++ Z)) → X.length = a → a + L.length = m → m + R.length = b → a < m → m < b → Ord (ltOf cf) L → Ord (ltOf cf) R → Calls P (ρ.f 79) #[.slice (some ⟨blk, off, none⟩) N cap, .int .i64 a, .int .i64 m, .int .i64 b, .func (.func g) #[] cb] w fun e w' => e = .returned (.tuple #[]) ∧ ∃ d' : Array α, d'.size = N ∧ d'.toList = X ++ (mrg (ltOf cf) L R ++ Z) ∧ SWK enc k w0 blk off d' w') := fun a m b d w X L' R' Z h1 h2 h3 h4 h5 h6 h7 h8 h9 h10 => syMer L k aE zE enc g cb blk off cap cf N d0 w0 R hs eg hcmp W hsz (b - a) a m b d w X L' R' Z (Nat.le_refl _) h1 h2 h3 h4 h5 h6 h7 h8 h9 h10
  have mixed := L.l20.mixed; have t0 := L.l20.t0; have a0 := L.l20.a0; have z0 := L.l20.z0; have v0 := L.l20.v0; have t3 := L.l20.t3; have a3 := L.l20.a3; have z3 := L.l20.z3; have v3 := L.l20.v3; have t4 := L.l20.t4; have a4 := L.l20.a4; have z4 := L.l20.z4; have v4 := L.l20.v4; have t22 := L.l20.t22; have a22 := L.l20.a22; have z22 := L.l20.z22; have v22 := L.l20.v22; have t25 := L.l20.t25; have a25 := L.l20.a25; have z25 := L.l20.z25; have v25 := L.l20.v25
  have t39 := L.t39; have a39 := L.a39; have z39 := L.z39; have v39 := L.v39
  obtain ⟨_, _, FG⟩ := L.f77
  have HW : Hid (Weak (ltOf cf)) := W
  obtain ⟨ls, hls⟩ : ∃ l, d.toList = l := ⟨_, rfl⟩
  have HLS : Hid (d.toList = ls ∧ ls.length = N) := ⟨hls, by rw [← hls]; simpa using hN⟩
  have HT : Hid (d.toList = ls) := hls
  have HN : Hid (d.size = N) := hN
  have S0 : Aside (SWK enc k w0 blk off d w) := S
  clear S hcmp W hN hls
  go_enter FG, syB_stb_ntmps ρ
  go_wp2
  go_loopg [7, 8] N (fun kx s7 s8 wr => ∃ (a b : Nat) (dk : Array α), s7 = .int .i64 a ∧ s8 = .int .i64 b ∧ b = a + 20 ∧ a ≤ N ∧ N - a ≤ kx ∧ dk.size = N ∧ Aside (SWK enc k w0 blk off dk wr) ∧ Hid (∃ X Y, dk.toList = X ++ Y ∧ X.length = a ∧ a + Y.length = N ∧ X ++ chs (ltOf cf) 20 Y = chs (ltOf cf) 20 ls))
  case atStart => exact ⟨0, 20, d, rfl, rfl, rfl, Nat.zero_le _, Nat.le_refl _, HN.out, S0, [], ls, HLS.out.1, rfl, by have := HLS.out.2; omega, rfl⟩
  case round =>
    clear S0
    obtain ⟨a, b, dk, rfl, rfl, hab, haN, hkx, hds, S1, HL⟩ := hrel
    have HAB : Hid (b = a + 20) := hab
    obtain ⟨X, Y, y1, y2, y3, y4⟩ := HL.out
    clear HL
    by_cases hle : b ≤ N
    · have hlez : (b : Int) ≤ (N : Int) := by omega
      have hY : 20 ≤ Y.length := by omega
      have hc := HI.out a b dk wr X (Y.take 20) (Y.drop 20) hds S1.out (by rw [List.take_append_drop]; exact y1) y2 (by rw [List.length_take]; omega)
      have w1 : IntKind.i64.wrap ((b : Int) + 20) = (b : Int) + 20 := by rw [IntKind.wrap_i64]; omega
      have HY : Hid (20 ≤ Y.length ∧ X.length = a ∧ a + Y.length = N ∧ X ++ chs (ltOf cf) 20 Y = chs (ltOf cf) 20 ls) := ⟨hY, y2, y3, y4⟩
      clear y1 y2 y3 y4 hY hab S1
      go_wp2_with (go_at_fn (ρ.f 20); refine hc.mono ?_; rintro e w2 ⟨rfl, d2, hz2, hl2, S2⟩)
      go_roundg (N - b)
      case measure => have := HAB.out; omega
      case rel =>
        obtain ⟨z1, z2, z3, z4⟩ := HY.out
        have := HAB.out
        refine ⟨b, b + 20, d2, rfl, by first | rfl | go_num, rfl, hle, Nat.le_refl _, hz2, S2, (show Hid _ from ⟨X ++ srt (ltOf cf) (Y.take 20), Y.drop 20, by rw [hl2]; simp, ?_, ?_, ?_⟩)⟩
        · rw [List.length_append, srt_len, List.length_take]; omega
        · rw [List.length_drop]; omega
        · rw [← z4, chs_more (ltOf cf) (by omega) z1, List.append_assoc]
    · have hlez : ¬ (b : Int) ≤ (N : Int) := by omega
      have hc := HI.out a N dk wr X Y [] hds S1.out (by simpa using y1) y2 y3
      have HY : Hid (X ++ srt (ltOf cf) Y = chs (ltOf cf) 20 ls) := by
        show _ = _
        rw [← y4, chs_end (ltOf cf) (l := Y) (by omega)]
      clear y1 y2 y3 y4 hab S1
      go_wp2_with (go_at_fn (ρ.f 20); refine hc.mono ?_; rintro e w2 ⟨rfl, d2, hz2, hl2, S2⟩)
      have S2' : Aside (SWK enc k w0 blk off d2 w2) := S2
      have HD2 : Hid (d2.toList = chs (ltOf cf) 20 ls) := by show _ = _; rw [hl2, ← HY.out]; simp
      clear hc S2 hl2 HY
      go_loopg [6] N (fun kx s6 wr => ∃ (bs : Nat) (dk : Array α), s6 = .int .i64 bs ∧ 20 ≤ bs ∧ N - bs ≤ kx ∧ dk.size = N ∧ Aside (SWK enc k w0 blk off dk wr) ∧ Hid (dk.toList = chs (ltOf cf) bs ls))
      case atStart => exact ⟨20, d2, rfl, Nat.le_refl _, by omega, hz2, S2', HD2⟩
      case round =>
        clear S2' HD2
        obtain ⟨bs, dk, rfl, hbs, hkx2, hds, S3, HL3⟩ := hrel
        by_cases hlt : bs < N
        · have hltz : (bs : Int) < (N : Int) := by omega
          obtain ⟨b2, hb2⟩ : ∃ q, q = 2 * bs := ⟨_, rfl⟩
          have q1 : 2 * (bs : Int) = (b2 : Int) := by omega
          have q2 : (bs : Int) * 2 = (b2 : Int) := by omega
          have q3 : IntKind.i64.wrap (b2 : Int) = (b2 : Int) := by rw [IntKind.wrap_i64]; omega
          have HB2 : Hid (b2 = 2 * bs) := hb2
          have l1 : bs < b2 := by omega
          have l2 : b2 ≤ 2 * N := by omega
          clear hb2
          go_wp2
          go_loopg [7, 8] N (fun kx s7 s8 wr => ∃ (a b : Nat) (dk : Array α), s7 = .int .i64 a ∧ s8 = .int .i64 b ∧ b = a + b2 ∧ a ≤ N ∧ N - a ≤ kx ∧ dk.size = N ∧ Aside (SWK enc k w0 blk off dk wr) ∧ Hid (∃ X Y, dk.toList = X ++ chs (ltOf cf) bs Y ∧ X.length = a ∧ a + Y.length = N ∧ X ++ chs (ltOf cf) (2 * bs) Y = chs (ltOf cf) (2 * bs) ls))
          case atStart => exact ⟨0, b2, dk, rfl, rfl, by omega, Nat.zero_le _, Nat.le_refl _, hds, S3, [], ls, HL3.out, rfl, by have := HLS.out.2; omega, rfl⟩
          case round =>
            clear S3
            obtain ⟨a, b, dk, rfl, rfl, hab, haN, hkx3, hds, S4, HL4⟩ := hrel
            have HAB : Hid (b = a + b2) := hab
            obtain ⟨X, Y, y1, y2, y3, y4⟩ := HL4.out
            clear HL4
            obtain ⟨m, hm⟩ : ∃ q, q = a + bs := ⟨_, rfl⟩
            have q4 : (a : Int) + (bs : Int) = (m : Int) := by omega
            have q5 : IntKind.i64.wrap (m : Int) = (m : Int) := by rw [IntKind.wrap_i64]; omega
            have HMM : Hid (m = a + bs) := hm
            have e2 := HB2.out
            by_cases hle : b ≤ N
            · have hlez : (b : Int) ≤ (N : Int) := by omega
              have hY : 2 * bs ≤ Y.length := by omega
              obtain ⟨t1, t2⟩ := chs_two (ltOf cf) HW.out (bs := bs) (l := Y) (by omega) hY
              have hc := HMG.out a m b dk wr X (srt (ltOf cf) (Y.take bs)) (srt (ltOf cf) ((Y.drop bs).take bs)) (chs (ltOf cf) bs (Y.drop (2 * bs))) hds S4.out (by rw [y1, t1]) y2 (by rw [srt_len, List.length_take]; omega) (by rw [srt_len, List.length_take, List.length_drop]; omega) (by omega) (by omega) (srt_is (ltOf cf) HW.out _) (srt_is (ltOf cf) HW.out _)
              have HY : Hid (2 * bs ≤ Y.length ∧ X.length = a ∧ a + Y.length = N ∧ X ++ (mrg (ltOf cf) (srt (ltOf cf) (Y.take bs)) (srt (ltOf cf) ((Y.drop bs).take bs)) ++ chs (ltOf cf) (2 * bs) (Y.drop (2 * bs))) = chs (ltOf cf) (2 * bs) ls) := ⟨hY, y2, y3, by rw [← t2]; exact y4⟩
              have w1 : IntKind.i64.wrap ((b : Int) + (b2 : Int)) = (b : Int) + (b2 : Int) := by rw [IntKind.wrap_i64]; omega
              clear y1 y2 y3 y4 hY t1 t2 hab hm e2 S4
              go_wp2_with (go_at_fn (ρ.f 79); refine hc.mono ?_; rintro e w5 ⟨rfl, d5, hz5, hl5, S5⟩)
              go_roundg (N - b)
              case measure => have := HAB.out; omega
              case rel =>
                obtain ⟨z1, z2, z3, z4⟩ := HY.out
                have := HAB.out
                have := HB2.out
                have e3 : (srt (ltOf cf) (Y.take bs)).length = bs := by rw [srt_len, List.length_take]; omega
                have e4 : (srt (ltOf cf) ((Y.drop bs).take bs)).length = bs := by rw [srt_len, List.length_take, List.length_drop]; omega
                refine ⟨b, b + b2, d5, rfl, by first | rfl | go_num, rfl, hle, Nat.le_refl _, hz5, S5, (show Hid _ from ⟨X ++ mrg (ltOf cf) (srt (ltOf cf) (Y.take bs)) (srt (ltOf cf) ((Y.drop bs).take bs)), Y.drop (2 * bs), by rw [hl5]; simp, ?_, ?_, ?_⟩)⟩
                · rw [List.length_append, mrg_len, e3, e4]; omega
                · rw [List.length_drop]; omega
                · rw [← z4, List.append_assoc]
            · have hlez : ¬ (b : Int) ≤ (N : Int) := by omega
              by_cases hmN : m < N
              · have hmz : (m : Int) < (N : Int) := by omega
                obtain ⟨t1, t2⟩ := chs_last (ltOf cf) HW.out (bs := bs) (l := Y) (by omega) (by omega) (by omega)
                have hc := HMG.out a m N dk wr X (srt (ltOf cf) (Y.take bs)) (srt (ltOf cf) (Y.drop bs)) [] hds S4.out (by rw [y1, t1]; simp) y2 (by rw [srt_len, List.length_take]; omega) (by rw [srt_len, List.length_drop]; omega) (by omega) hmN (srt_is (ltOf cf) HW.out _) (srt_is (ltOf cf) HW.out _)
                have HY : Hid (X ++ mrg (ltOf cf) (srt (ltOf cf) (Y.take bs)) (srt (ltOf cf) (Y.drop bs)) = chs (ltOf cf) (2 * bs) ls) := by show _ = _; rw [← t2]; exact y4
                clear y1 y2 y3 y4 t1 t2 hab hm e2 S4
                go_wp2_with (go_at_fn (ρ.f 79); refine hc.mono ?_; rintro e w5 ⟨rfl, d5, hz5, hl5, S5⟩)
                go_roundg (N - b2)
                case measure => omega
                case rel =>
                  have e5 := HB2.out
                  exact ⟨b2, d5, rfl, by omega, Nat.le_refl _, hz5, S5, (show Hid _ from by show _ = _; rw [hl5, e5, ← HY.out]; simp)⟩
              · have hmz : ¬ (m : Int) < (N : Int) := by omega
                have HY : Hid (dk.toList = chs (ltOf cf) (2 * bs) ls) := by
                  show _ = _
                  rw [← y4, y1, chs_one (ltOf cf) (bs := bs) (l := Y) (by omega) (by omega), chs_end (ltOf cf) (bs := 2 * bs) (l := Y) (by omega)]
                clear y1 y2 y3 y4 hab hm e2
                go_wp2
                go_roundg (N - b2)
                case measure => omega
                case rel =>
                  have e5 := HB2.out
                  exact ⟨b2, dk, rfl, by omega, Nat.le_refl _, hds, S4, (show Hid _ from by show _ = _; rw [e5]; exact HY.out)⟩
        · have hltz : ¬ (bs : Int) < (N : Int) := by omega
          go_wp2
          go_end0
          refine ⟨rfl, dk, hds, ?_, S3.out⟩
          rw [HL3.out, HT.out, chs_one (ltOf cf) (by omega) (by have := HLS.out.2; omega)]

end Go.Proofs.YtcjpemphdgndkaaGreat

/- Cards put in order by the library's stable sort, of any number (up to 1000). -/
namespace Go.Proofs.YtcjpemphdgndkaaGreat
open Go.RowKit
set_option linter.unusedVariables false
set_option linter.unusedSimpArgs false
set_option linter.unusedSectionVars false

def cdSy_ren : Go.Shelf.Ren := ⟨fun | 20 => 184 | 81 => 188 | 80 => 187 | 79 => 185 | 77 => 177 | n => n, fun | 0 => 0 | 3 => 3 | 4 => 4 | 22 => 30 | 25 => 203 | 24 => 37 | 39 => 187 | n => n, fun n => n⟩
theorem cdSy20 : SlLaysF0.n20 Tryz.prog cdSy_ren := { mixed := by kernel_rfl, f20 := ⟨Tryz.f184.name, by decide, Tryz.func184.trans (congrArg some (by kernel_rfl))⟩, t0 := Tryz.underlying0, a0 := Tryz.isAgg0, z0 := Tryz.sizeOf0, v0 := Tryz.zeroValue0, t3 := Tryz.underlying3, a3 := Tryz.isAgg3, z3 := Tryz.sizeOf3, v3 := Tryz.zeroValue3, t4 := Tryz.underlying4, a4 := Tryz.isAgg4, z4 := Tryz.sizeOf4, v4 := Tryz.zeroValue4, t22 := Tryz.underlying30, a22 := Tryz.isAgg30, z22 := Tryz.sizeOf30, v22 := Tryz.zeroValue30, t25 := Tryz.underlying203, a25 := Tryz.isAgg203, z25 := Tryz.sizeOf203, v25 := Tryz.zeroValue203 }
theorem cdSy : SyL Tryz.prog cdSy_ren := { l20 := cdSy20, f81 := ⟨Tryz.f188.name, by decide, Tryz.func188.trans (congrArg some (by kernel_rfl))⟩, f80 := ⟨Tryz.f187.name, by decide, Tryz.func187.trans (congrArg some (by kernel_rfl))⟩, f79 := ⟨Tryz.f185.name, by decide, Tryz.func185.trans (congrArg some (by kernel_rfl))⟩, f77 := ⟨Tryz.f177.name, by decide, Tryz.func177.trans (congrArg some (by kernel_rfl))⟩, t39 := Tryz.underlying187, a39 := Tryz.isAgg187, z39 := Tryz.sizeOf187, v39 := Tryz.zeroValue187 }

set_option maxRecDepth 100000 in
set_option maxHeartbeats 1000000 in
theorem stbAny (base g n c : Nat) (ls : List Cd) (w : World) (h : OwnC base w (.slice (some ⟨g, 0, none⟩) n c) ls) (hn : ls.length = n) (h20 : n ≤ 1000) :
    Calls Tryz.prog 177 #[.slice (some ⟨g, 0, none⟩) n c, .int .i64 n, .func (.func 171) #[] #[]] w fun e w' => e = .returned (.tuple #[]) ∧ OwnC base w' (.slice (some ⟨g, 0, none⟩) n c) (srt klt ls) ∧ Rim g w w' := by
  obtain ⟨hH, hlt⟩ := own_holds h
  have hcon := syStb cdSy 9 Tryz.isAgg37 Tryz.sizeOf37 cc 171 #[] g 0 c kcmp n ls.toArray w ⟨cc_len, cc_one, hH, hlt⟩ (by simpa using hn) (enters_of Tryz.func171 (by kernel_rfl) rfl) (fun m os dk hs x y => sortClosure x y _) klt_weak (by omega) ls.toArray w (by simpa using hn) (SWK.start hH)
  refine Calls.mono hcon ?_
  rintro e w' ⟨rfl, d', hz, hl, q, os, rfl⟩
  exact ⟨rfl, sort_own h hn (by rw [srt_len, hn]) q os d' hl⟩

set_option maxRecDepth 100000 in
set_option maxHeartbeats 1000000 in
theorem ssfAny (base g n c : Nat) (ls : List Cd) (w : World) (h : OwnC base w (.slice (some ⟨g, 0, none⟩) n c) ls) (hn : ls.length = n) (h20 : n ≤ 1000) :
    Calls Tryz.prog 170 #[.slice (some ⟨g, 0, none⟩) n c, .func (.func 171) #[] #[]] w fun e w' => e = .returned (.tuple #[]) ∧ OwnC base w' (.slice (some ⟨g, 0, none⟩) n c) (srt klt ls) ∧ Rim g w w' := by
  go_enter Tryz.func170, Tryz.ntmps170
  go_wp2_with fail
  refine (stbAny base g n c ls _ h hn h20).mono ?_
  rintro e w2 ⟨rfl, ho2, hr2⟩
  go_wp2
  go_end0
  exact ⟨rfl, ho2, hr2⟩

set_option maxRecDepth 100000 in
set_option maxHeartbeats 1000000 in
theorem cardSortAny (a : Option Addr) (n c : Nat) (ls : List Cd) (w : World) (h : CAt w a ls) (hl : ls.length = n) (hn : n ≤ 1000) (hf : (a = none ∧ c = 0) ∨ ∃ b o, a = some ⟨b, o, none⟩) :
    Calls Tryz.prog 154 #[.slice a n c] w fun e w' => ∃ v', e = .returned v' ∧ OwnC w.heap.size w' v' (srt klt ls) ∧ Below w.heap.size w w' := by
  go_enter Tryz.func154, Tryz.ntmps154
  go_wp2_with fail
  refine (cloneC a n c ls _ h hl (by omega) hf).mono ?_
  rintro e w1 ⟨v', rfl, ho, hb⟩
  obtain ⟨a1, c1, rfl, h1, h2, h3, hge, hf1⟩ := ho.read
  rw [hl] at ho h1 ⊢
  rcases hf1 with ⟨rfl, rfl, hnil⟩ | ⟨g, rfl⟩
  · have h0 : n = 0 := by rw [← hl, hnil]; rfl
    subst h0
    go_wp2_with fail
    refine (ssfNil _).mono ?_
    rintro e w2 ⟨rfl, hb2⟩
    go_wp2
    go_ret
    exact ⟨_, rfl, by rw [hnil]; exact OwnR.nil _ _, ext_trans hb hb2⟩
  · have hgw : w.heap.size ≤ g := (hge g 0 rfl).1
    have HB := hb
    go_wp2_with fail
    refine (ssfAny w.heap.size g n c1 ls _ ho hl hn).mono ?_
    rintro e w2 ⟨rfl, ho2, hr2⟩
    go_wp2
    go_ret
    exact ⟨_, rfl, ho2, HB.trans (hr2.below hgw HB.size)⟩

end Go.Proofs.YtcjpemphdgndkaaGreat
