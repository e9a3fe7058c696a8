/- slices.swapRangeCmpFunc, rotateCmpFunc at structs, over any program. -/
import Derived.Test.YtloeabdohgdmkaaSymBZ
import Derived.Test.YtloeabdohgdmkaaSyaZ
import Derived.Shelf.SlSortCmp.KitK
import Derived.Sort.WalkB2
import Derived.Sort.WalkB12
import Derived.Deep.LoopGhost
import Derived.Deep.Cut
namespace Go.Proofs.Ytloeabdohgdmkaa
open Go.Shelf Go.RowKit Go.Lib Go.Sort
set_option linter.unusedVariables false
set_option linter.unusedSimpArgs false
set_option linter.unusedSectionVars false
variable {P : Program} {ρ : Ren} {α : Type} [Inhabited α]
set_option maxHeartbeats 2000000 in
set_option maxRecDepth 1000000 in
theorem sySwap (L : SlLaysF0.n20 P ρ) (FG : Bears P (ρ.f 81) (syB_swp ρ)) (k : Nat) (aE : ∀ w, (isAgg (ρ.t 24)).run P w = .ok true w) (zE : ∀ w, (Go.sizeOf (ρ.t 24)).run P w = .ok k w) (enc : α → List Value) (g : Nat) (cb : Array Value) (blk off cap : Nat) (a b n : Nat) (N : Nat) (d0 d : Array α) (w0 w : World) (R : RowK enc k w0 blk off d0) (hs : d0.size = N) (hN : d.size = N) (S : SWK enc k w0 blk off d w) (X A M B Z : List α) (hd : d.toList = X ++ (A ++ (M ++ (B ++ Z)))) (ha : X.length = a) (hA : A.length = n) (hb : a + n + M.length = b) (hB : B.length = n) (hsz : N < 4611686018427387904) :
    Calls P (ρ.f 81) #[.slice (some ⟨blk, off, none⟩) N cap, .int .i64 a, .int .i64 b, .int .i64 n, .func (.func g) #[] cb] w fun e w' => e = .returned (.tuple #[]) ∧ ∃ d' : Array α, d'.size = N ∧ d'.toList = X ++ (B ++ (M ++ (A ++ Z))) ∧ SWK enc k w0 blk off d' w' := by
  have mixed := L.mixed; have t0 := L.t0; have a0 := L.a0; have z0 := L.z0; have v0 := L.v0; have t3 := L.t3; have a3 := L.a3; have z3 := L.z3; have v3 := L.v3; have t4 := L.t4; have a4 := L.a4; have z4 := L.z4; have v4 := L.v4; have t22 := L.t22; have a22 := L.a22; have z22 := L.z22; have v22 := L.v22; have t25 := L.t25; have a25 := L.a25; have z25 := L.z25; have v25 := L.v25
  obtain ⟨_, _, FG⟩ := FG
  have hbd : b + n ≤ N := by
    have := congrArg List.length hd
    simp at this
    omega
  have HM : Hid (d.toList = X ++ (A ++ (M ++ (B ++ Z))) ∧ X.length = a ∧ A.length = n ∧ a + n + M.length = b ∧ B.length = n) := ⟨hd, ha, hA, hb, hB⟩
  have hab : a + n ≤ b := by omega
  have S0 : Aside (SWK enc k w0 blk off d w) := S
  clear S hd ha hA hb hB
  go_enter FG, syB_swp_ntmps ρ
  go_wp2
  go_loopg [10] n (fun kx s10 wr => ∃ (i : Nat) (dk : Array α), s10 = .int .i64 i ∧ i ≤ n ∧ n - i ≤ kx ∧ dk.size = N ∧ Aside (SWK enc k w0 blk off dk wr) ∧ Hid (∃ A1 A2 B1 B2, A = A1 ++ A2 ∧ B = B1 ++ B2 ∧ A1.length = i ∧ B1.length = i ∧ dk.toList = X ++ (B1 ++ (A2 ++ (M ++ (A1 ++ (B2 ++ Z)))))))
  case atStart => exact ⟨0, d, rfl, by omega, by omega, hN, S0, [], A, [], B, rfl, rfl, rfl, rfl, by simpa using HM.out.1⟩
  case round =>
    clear S0
    obtain ⟨i, dk, rfl, hin, hkx, hds, S1, HL⟩ := hrel
    by_cases hlt : i < n
    · have hltz : (i : Int) < (n : Int) := by omega
      go_wp2_with fail
      have ea44 : ((a : Int) + (i : Int)).toNat = a + i := by omega
      have pa44 : (0 : Int) ≤ (a : Int) + (i : Int) := by omega
      have ba44 : (a : Int) + (i : Int) < (N : Int) := by omega
      have ra44 : IntKind.i64.wrap ((a : Int) + (i : Int)) = (a : Int) + (i : Int) := by rw [IntKind.wrap_i64]; omega
      have ec44 : ((b : Int) + (i : Int)).toNat = b + i := by omega
      have pc44 : (0 : Int) ≤ (b : Int) + (i : Int) := by omega
      have bc44 : (b : Int) + (i : Int) < (N : Int) := by omega
      have rc44 : IntKind.i64.wrap ((b : Int) + (i : Int)) = (b : Int) + (i : Int) := by rw [IntKind.wrap_i64]; omega
      have S2 : Aside (SWK enc k w0 blk off (swp dk (a + i) (b + i)) ((wr.drew.setCells blk (off + (a + i) * k) (enc dk[b + i]!)).setCells blk (off + (b + i) * k) (enc dk[a + i]!))) := S1.out.swapped R (a + i) (b + i) (by omega) (by omega)
      have l44a := S1.out.ld1 R (by omega) P (a + i) (by omega)
      have l44b := S1.out.ld1 R (by omega) P (b + i) (by omega)
      have s44a := S1.out.st1 R (by omega) P (a + i) (by omega) dk[b + i]!
      have s44b := S1.out.st2 R (by omega) P (a + i) (b + i) (by omega) (by omega) dk[b + i]! dk[a + i]!
      have n44a : (enc dk[a + i]!).length = k := R.hk _
      have n44b : (enc dk[b + i]!).length = k := R.hk _
      generalize enc dk[a + i]! = cI44 at S2 l44a s44b n44a
      generalize enc dk[b + i]! = cJ44 at S2 l44b s44a s44b n44b
      clear S1
      go_wp2_with fail
      go_big_region_o
      clear l44a l44b s44a s44b
      generalize (wr.drew.setCells blk (off + (a + i) * k) cJ44).setCells blk (off + (b + i) * k) cI44 = w2 at S2 ⊢
      go_wp2
      go_roundg (n - (i + 1))
      case measure => omega
      case rel =>
        refine ⟨i + 1, swp dk (a + i) (b + i), by first | rfl | go_num | (congr 1; omega), by omega, Nat.le_refl _, by rw [size_swp]; exact hds, S2, (show Hid _ from ?_)⟩
        obtain ⟨A1, A2, B1, B2, rfl, rfl, h1, h2, h3⟩ := HL.out
        obtain ⟨m1, m2, m3, m4, m5⟩ := HM.out
        simp only [List.length_append] at m3 m5
        obtain ⟨x, A2, rfl⟩ : ∃ x l, A2 = x :: l := by cases A2 with | nil => (simp at m3; omega) | cons x l => exact ⟨x, l, rfl⟩
        obtain ⟨y, B2, rfl⟩ : ∃ x l, B2 = x :: l := by cases B2 with | nil => (simp at m5; omega) | cons x l => exact ⟨x, l, rfl⟩
        simp only [List.length_cons] at m3 m5
        refine ⟨A1 ++ [x], A2, B1 ++ [y], B2, by simp, by simp, by simp [h1], by simp [h2], ?_⟩
        have := (sy_swp (d := dk) (X := X ++ B1) (Y := A2 ++ (M ++ A1)) (Z := B2 ++ Z) (x := x) (y := y) (i := a + i) (j := b + i) (by simpa using h3) (by simp; omega) (by simp; omega)).1
        simpa using this
    · have hltz : ¬ (i : Int) < (n : Int) := by omega
      go_wp2
      go_end0
      refine ⟨rfl, dk, hds, ?_, S1.out⟩
      obtain ⟨A1, A2, B1, B2, rfl, rfl, h1, h2, h3⟩ := HL.out
      obtain ⟨m1, m2, m3, m4, m5⟩ := HM.out
      simp only [List.length_append] at m3 m5
      have e1 : A2 = [] := List.eq_nil_of_length_eq_zero (by omega)
      have e2 : B2 = [] := List.eq_nil_of_length_eq_zero (by omega)
      subst e1
      subst e2
      simpa using h3

set_option maxHeartbeats 2000000 in
set_option maxRecDepth 1000000 in
theorem syRot (L : SlLaysF0.n20 P ρ) (F81 : Bears P (ρ.f 81) (syB_swp ρ)) (FG : Bears P (ρ.f 80) (syB_rot ρ)) (k : Nat) (aE : ∀ w, (isAgg (ρ.t 24)).run P w = .ok true w) (zE : ∀ w, (Go.sizeOf (ρ.t 24)).run P w = .ok k w) (enc : α → List Value) (g : Nat) (cb : Array Value) (blk off cap : Nat) (a m b : Nat) (N : Nat) (d0 d : Array α) (w0 w : World) (R : RowK enc k w0 blk off d0) (hs : d0.size = N) (hN : d.size = N) (S : SWK enc k w0 blk off d w) (X U V Z : List α) (hd : d.toList = X ++ (U ++ (V ++ Z))) (ha : X.length = a) (hU : a + U.length = m) (hV : m + V.length = b) (ham : a < m) (hmb : m < b) (hsz : N < 4611686018427387904) :
    Calls P (ρ.f 80) #[.slice (some ⟨blk, off, none⟩) N cap, .int .i64 a, .int .i64 m, .int .i64 b, .func (.func g) #[] cb] w fun e w' => e = .returned (.tuple #[]) ∧ ∃ d' : Array α, d'.size = N ∧ d'.toList = X ++ (V ++ (U ++ Z)) ∧ SWK enc k w0 blk off d' w' := by
  have e81 : ∀ args w, (callFunc (ρ.f 81) args).run P w = .ok (.enter (ρ.f 81) args) w := F81.enters rfl
  have hsw : Aside (∀ (a b n : Nat) (d : Array α) (w : World) (hN : d.size = N) (S : SWK enc k w0 blk off d w) (X A M B Z : List α) (hd : d.toList = X ++ (A ++ (M ++ (B ++ Z)))) (ha : X.length = a) (hA : A.length = n) (hb : a + n + M.length = b) (hB : B.length = n), Calls P (ρ.f 81) #[.slice (some ⟨blk, off, none⟩) N cap, .int .i64 a, .int .i64 b, .int .i64 n, .func (.func g) #[] cb] w fun e w' => e = .returned (.tuple #[]) ∧ ∃ d' : Array α, d'.size = N ∧ d'.toList = X ++ (B ++ (M ++ (A ++ Z))) ∧ SWK enc k w0 blk off d' w') := fun a b n d w hN S X A M B Z hd ha hA hb hB => sySwap L F81 k aE zE enc g cb blk off cap a b n N d0 d w0 w R hs hN S X A M B Z hd ha hA hb hB hsz
  have mixed := L.mixed; have t0 := L.t0; have a0 := L.a0; have z0 := L.z0; have v0 := L.v0; have t3 := L.t3; have a3 := L.a3; have z3 := L.z3; have v3 := L.v3; have t4 := L.t4; have a4 := L.a4; have z4 := L.z4; have v4 := L.v4; have t22 := L.t22; have a22 := L.a22; have z22 := L.z22; have v22 := L.v22; have t25 := L.t25; have a25 := L.a25; have z25 := L.z25; have v25 := L.v25
  obtain ⟨_, _, FG⟩ := FG
  have hbd : b ≤ N := by
    have := congrArg List.length hd
    simp at this
    omega
  obtain ⟨T, hT⟩ : ∃ T, T = X ++ (V ++ (U ++ Z)) := ⟨_, rfl⟩
  obtain ⟨i0, hi0⟩ : ∃ q, q = U.length := ⟨_, rfl⟩
  obtain ⟨j0, hj0⟩ : ∃ q, q = V.length := ⟨_, rfl⟩
  have HM : Hid (∃ X' U' V' Y', d.toList = X' ++ (U' ++ (V' ++ Y')) ∧ T = X' ++ (V' ++ (U' ++ Y')) ∧ U'.length = i0 ∧ V'.length = j0 ∧ X'.length + i0 = m) := ⟨X, U, V, Z, hd, hT, hi0.symm, hj0.symm, by omega⟩
  have S0 : Aside (SWK enc k w0 blk off d w) := S
  rw [← hT]
  have q1 : (m : Int) - (a : Int) = (i0 : Int) := by omega
  have q2 : (b : Int) - (m : Int) = (j0 : Int) := by omega
  have v1 : IntKind.i64.wrap (i0 : Int) = (i0 : Int) := by rw [IntKind.wrap_i64]; omega
  have v2 : IntKind.i64.wrap (j0 : Int) = (j0 : Int) := by rw [IntKind.wrap_i64]; omega
  have p1 : 0 < i0 := by omega
  have p2 : 0 < j0 := by omega
  have p3 : i0 ≤ m := by omega
  have p4 : m + j0 ≤ N := by omega
  clear S hd ha hU hV hT hi0 hj0 ham hmb hbd
  go_enter FG, syB_rot_ntmps ρ
  go_wp2
  clear q1 q2 v1 v2
  go_loopg [10, 11] (i0 + j0) (fun kx s10 s11 wr => ∃ (i j : Nat) (dk : Array α), s10 = .int .i64 i ∧ s11 = .int .i64 j ∧ 0 < i ∧ 0 < j ∧ i ≤ m ∧ m + j ≤ N ∧ i + j ≤ kx ∧ dk.size = N ∧ Aside (SWK enc k w0 blk off dk wr) ∧ Hid (∃ X' U' V' Y', dk.toList = X' ++ (U' ++ (V' ++ Y')) ∧ T = X' ++ (V' ++ (U' ++ Y')) ∧ U'.length = i ∧ V'.length = j ∧ X'.length + i = m))
  case atStart => exact ⟨i0, j0, d, rfl, rfl, p1, p2, p3, p4, Nat.le_refl _, hN, S0, HM⟩
  case round =>
    clear S0 HM p1 p2 p3 p4
    obtain ⟨i, j, dk, rfl, rfl, hi, hj, him, hjm, hkx, hds, S1, HL⟩ := hrel
    obtain ⟨u, hu⟩ : ∃ u, u + i = m := ⟨m - i, by omega⟩
    have q1 : (m : Int) - (i : Int) = (u : Int) := by omega
    have v1 : IntKind.i64.wrap (u : Int) = (u : Int) := by rw [IntKind.wrap_i64]; omega
    by_cases hij : i = j
    · have hne : ((i : Int) == (j : Int)) = true := by simp; omega
      have hne2 : ((i : Int) != (j : Int)) = false := by simp; omega
      obtain ⟨X', U', V', Y', h1, h2, h3, h4, h5⟩ := HL.out
      have hc := hsw.out u m i dk wr hds S1.out X' U' [] V' Y' (by simpa using h1) (by omega) h3 (by simp; omega) (by omega)
      have HT : Hid (T = X' ++ (V' ++ (U' ++ Y'))) := h2
      clear h1 h2 h3 h4 h5 HL hsw
      subst hij
      go_wp2_with (go_at_fn (ρ.f 81); refine hc.mono ?_; rintro e w2 ⟨rfl, d2, hz2, hl2, S2⟩)
      go_end0
      exact ⟨rfl, d2, hz2, by rw [HT.out]; simpa using hl2, S2⟩
    · have hne : ((i : Int) == (j : Int)) = false := by simp; omega
      have hne2 : ((i : Int) != (j : Int)) = true := by simp; omega
      by_cases hgt : j < i
      · have hgtz : (j : Int) < (i : Int) := by omega
        obtain ⟨X', U', V', Y', h1, h2, h3, h4, h5⟩ := HL.out
        obtain ⟨U1, U2, rfl, hU1⟩ : ∃ U1 U2, U' = U1 ++ U2 ∧ U1.length = j := ⟨U'.take j, U'.drop j, (List.take_append_drop _ _).symm, by rw [List.length_take]; omega⟩
        rw [List.length_append] at h3
        have hc := hsw.out u m j dk wr hds S1.out X' U1 U2 V' Y' (by simpa using h1) (by omega) hU1 (by omega) h4
        obtain ⟨i2, hi2⟩ : ∃ q, q + j = i := ⟨i - j, by omega⟩
        have q2 : (i : Int) - (j : Int) = (i2 : Int) := by omega
        have v2 : IntKind.i64.wrap (i2 : Int) = (i2 : Int) := by rw [IntKind.wrap_i64]; omega
        have HT : Hid (T = X' ++ (V' ++ ((U1 ++ U2) ++ Y')) ∧ U1.length = j ∧ U2.length = i2 ∧ V'.length = j ∧ X'.length + i = m) := ⟨h2, hU1, by omega, h4, h5⟩
        clear h1 h2 h3 h4 h5 HL hU1
        go_wp2_with (go_at_fn (ρ.f 81); refine hc.mono ?_; rintro e w2 ⟨rfl, d2, hz2, hl2, S2⟩)
        have S2 : Aside _ := S2
        have HL2 : Hid _ := hl2
        clear hc hl2
        go_roundg (i2 + j)
        case measure => omega
        case rel =>
          obtain ⟨h2, t1, t2, t3, t4⟩ := HT.out
          exact ⟨i2, j, d2, rfl, rfl, by omega, hj, by omega, hjm, Nat.le_refl _, hz2, S2, (show Hid _ from ⟨X' ++ V', U2, U1, Y', by rw [HL2.out]; simp, by rw [h2]; simp, t2, t1, by simp; omega⟩)⟩
      · have hgtz : ¬ (j : Int) < (i : Int) := by omega
        obtain ⟨X', U', V', Y', h1, h2, h3, h4, h5⟩ := HL.out
        obtain ⟨V1, V2, rfl, hV2⟩ : ∃ V1 V2, V' = V1 ++ V2 ∧ V2.length = i := ⟨V'.take (j - i), V'.drop (j - i), (List.take_append_drop _ _).symm, by rw [List.length_drop]; omega⟩
        rw [List.length_append] at h4
        obtain ⟨j2, hj2⟩ : ∃ q, q + i = j := ⟨j - i, by omega⟩
        obtain ⟨y, hy⟩ : ∃ q, q = m + j2 := ⟨_, rfl⟩
        have hc := hsw.out u y i dk wr hds S1.out X' U' V1 V2 Y' (by simpa using h1) (by omega) h3 (by omega) hV2
        have q0 : IntKind.i64.wrap ((m : Int) + (j : Int)) = (m : Int) + (j : Int) := by rw [IntKind.wrap_i64]; omega
        have q3 : (m : Int) + (j : Int) - (i : Int) = (y : Int) := by omega
        have q2 : (j : Int) - (i : Int) = (j2 : Int) := by omega
        have v2 : IntKind.i64.wrap (j2 : Int) = (j2 : Int) := by rw [IntKind.wrap_i64]; omega
        have v3 : IntKind.i64.wrap (y : Int) = (y : Int) := by rw [IntKind.wrap_i64]; omega
        have HY : Hid (y = m + j2) := hy
        clear hy
        have HT : Hid (T = X' ++ ((V1 ++ V2) ++ (U' ++ Y')) ∧ V2.length = i ∧ V1.length = j2 ∧ U'.length = i ∧ X'.length + i = m) := ⟨h2, hV2, by omega, h3, h5⟩
        clear h1 h2 h3 h4 h5 HL hV2
        go_wp2_with (go_at_fn (ρ.f 81); refine hc.mono ?_; rintro e w2 ⟨rfl, d2, hz2, hl2, S2⟩)
        have S2 : Aside _ := S2
        have HL2 : Hid _ := hl2
        clear hc hl2
        go_roundg (i + j2)
        case measure => omega
        case rel =>
          obtain ⟨h2, t1, t2, t3, t4⟩ := HT.out
          exact ⟨i, j2, d2, rfl, rfl, hi, by omega, him, by omega, Nat.le_refl _, hz2, S2, (show Hid _ from ⟨X', V2, V1, U' ++ Y', HL2.out, by rw [h2]; simp, t1, t2, t4⟩)⟩

end Go.Proofs.Ytloeabdohgdmkaa

/- slices.symMergeCmpFunc at structs: one on the left. -/
namespace Go.Proofs.Ytloeabdohgdmkaa
open Go.Shelf Go.RowKit Go.Lib Go.Sort
set_option linter.unusedVariables false
set_option linter.unusedSimpArgs false
set_option linter.unusedSectionVars false
variable {P : Program} {ρ : Ren} {α : Type} [Inhabited α]
structure SyL (P : Program) (ρ : Ren) : Prop where
  l20 : SlLaysF0.n20 P ρ
  f81 : Bears P (ρ.f 81) (syB_swp ρ)
  f80 : Bears P (ρ.f 80) (syB_rot ρ)
  f79 : Bears P (ρ.f 79) (syB_mer ρ)
  f77 : Bears P (ρ.f 77) (syB_stb ρ)
  t39 : P.underlying (ρ.t 39) = some (TypeDesc.int IntKind.u64)
  a39 : ∀ w, (isAgg (ρ.t 39)).run P w = .ok false w
  z39 : ∀ w, (Go.sizeOf (ρ.t 39)).run P w = .ok 1 w
  v39 : ∀ w, (zeroValue (ρ.t 39)).run P w = .ok (Value.int IntKind.u64 0) w
set_option maxHeartbeats 2000000 in
set_option maxRecDepth 1000000 in
theorem syMerL (L : SyL P ρ) (k : Nat) (aE : ∀ w, (isAgg (ρ.t 24)).run P w = .ok true w) (zE : ∀ w, (Go.sizeOf (ρ.t 24)).run P w = .ok k w) (enc : α → List Value) (g : Nat) (cb : Array Value) (blk off cap : Nat) (cf : α → α → Int) (N : Nat) (d0 : Array α) (w0 : World) (R : RowK enc k w0 blk off d0) (hs : d0.size = N) (eg : ∀ args w, (callFunc g args).run P w = .ok (.enter g args) w) (hcmp : CmpLays P g cb enc k cf blk off N w0) (W : Weak (ltOf cf)) (hsz : N < 1000000000) (a m b : Nat) (d : Array α) (w : World) (hN : d.size = N) (S : SWK enc k w0 blk off d w) (X Rt Z : List α) (x : α) (hd : d.toList = X ++ ([x] ++ (Rt ++ Z))) (ha : X.length = a) (hL : a + 1 = m) (hR : m + Rt.length = b) (hmb : m < b) (oR : Ord (ltOf cf) Rt) :
    Calls P (ρ.f 79) #[.slice (some ⟨blk, off, none⟩) N cap, .int .i64 a, .int .i64 m, .int .i64 b, .func (.func g) #[] cb] w fun e w' => e = .returned (.tuple #[]) ∧ ∃ d' : Array α, d'.size = N ∧ d'.toList = X ++ (mrg (ltOf cf) [x] Rt ++ Z) ∧ SWK enc k w0 blk off d' w' := by
  have mixed := L.l20.mixed; have t0 := L.l20.t0; have a0 := L.l20.a0; have z0 := L.l20.z0; have v0 := L.l20.v0; have t3 := L.l20.t3; have a3 := L.l20.a3; have z3 := L.l20.z3; have v3 := L.l20.v3; have t4 := L.l20.t4; have a4 := L.l20.a4; have z4 := L.l20.z4; have v4 := L.l20.v4; have t22 := L.l20.t22; have a22 := L.l20.a22; have z22 := L.l20.z22; have v22 := L.l20.v22; have t25 := L.l20.t25; have a25 := L.l20.a25; have z25 := L.l20.z25; have v25 := L.l20.v25
  have t39 := L.t39; have a39 := L.a39; have z39 := L.z39; have v39 := L.v39
  obtain ⟨_, _, FG⟩ := L.f79
  have hbd : b ≤ N := by
    have := congrArg List.length hd
    simp at this
    omega
  have HC : Aside _ := hcmp
  have hx : d[a]! = x := at_of hd ha
  have hO : Hid (∀ s t, m ≤ s → s ≤ t → t < b → ltOf cf d[t]! d[s]! = false) := ord_at (ltOf cf) W (X := X ++ [x]) (Y := Rt) (Z := Z) (by simpa using hd) oR (by simp; omega) hR
  have HX : Hid (d[a]! = x) := hx
  have HM : Hid (d.toList = X ++ ([x] ++ (Rt ++ Z)) ∧ X.length = a ∧ a + 1 = m ∧ m + Rt.length = b) := ⟨hd, ha, hL, hR⟩
  have HW : Hid (Weak (ltOf cf)) := W
  have HN : Hid (d.size = N) := hN
  have S0 : Aside (SWK enc k w0 blk off d w) := S
  have q1 : (m : Int) - (a : Int) = 1 := by omega
  have am : a < m := by omega
  clear S hd ha hL hR oR hcmp hx W
  go_enter FG, syB_mer_ntmps ρ
  go_wp2
  go_loopg [10, 11] (b - m) (fun kx s10 s11 wr => ∃ i j : Nat, s10 = .int .i64 i ∧ s11 = .int .i64 j ∧ m ≤ i ∧ i ≤ j ∧ j ≤ b ∧ j - i ≤ kx ∧ Aside (SWK enc k w0 blk off d wr) ∧ Hid (∀ t, m ≤ t → t < i → ltOf cf d[t]! d[a]! = true) ∧ Hid (∀ t, j ≤ t → t < b → ltOf cf d[t]! d[a]! = false))
  case atStart => exact ⟨m, b, rfl, rfl, Nat.le_refl _, by omega, Nat.le_refl _, Nat.le_refl _, S0, fun t h1 h2 => by omega, fun t h1 h2 => by omega⟩
  case round =>
    clear S0
    obtain ⟨i, j, rfl, rfl, h1, h2, h3, hkx, S1, H1, H2⟩ := hrel
    by_cases hlt : i < j
    · have hltz : (i : Int) < (j : Int) := by omega
      obtain ⟨h, hh⟩ : ∃ q, q = (i + j) / 2 := ⟨_, rfl⟩
      have wa1 : IntKind.i64.wrap ((i : Int) + (j : Int)) = (i : Int) + (j : Int) := by rw [IntKind.wrap_i64]; omega
      have wb1 : IntKind.u64.wrap ((i : Int) + (j : Int)) = (i : Int) + (j : Int) := by unfold IntKind.wrap; simp [IntKind.signed, IntKind.bits]; omega
      have wc1 : ((i : Int) + (j : Int)) / 2 = (h : Int) := by omega
      have wd1 : IntKind.u64.wrap (h : Int) = (h : Int) := by unfold IntKind.wrap; simp [IntKind.signed, IntKind.bits]; omega
      have we1 : IntKind.i64.wrap (h : Int) = (h : Int) := by rw [IntKind.wrap_i64]; omega
      have HH : Hid (h = (i + j) / 2) := hh
      have m1 : i ≤ h := by omega
      have m2 : h < j := by omega
      clear hh
      go_upto_region 5 with fail
      cases hlv : (ltOf cf) d[h]! d[a]! with
      | true =>
        have ea44 : ((h : Int)).toNat = h := by omega
        have pa44 : (0 : Int) ≤ (h : Int) := by omega
        have ba44 : (h : Int) < (N : Int) := by omega
        have ra44 : IntKind.i64.wrap ((h : Int)) = (h : Int) := by rw [IntKind.wrap_i64]; omega
        have ec44 : ((a : Int)).toNat = a := by omega
        have pc44 : (0 : Int) ≤ (a : Int) := by omega
        have bc44 : (a : Int) < (N : Int) := by omega
        have rc44 : IntKind.i64.wrap ((a : Int)) = (a : Int) := by rw [IntKind.wrap_i64]; omega
        obtain ⟨x44, hx44⟩ : ∃ x, x = d[h]! := ⟨_, rfl⟩
        obtain ⟨y44, hy44⟩ : ∃ x, x = d[a]! := ⟨_, rfl⟩
        have l44a := S1.out.ld R (by omega) P (h) (by omega)
        have l44b := S1.out.ld R (by omega) P (a) (by omega)
        rw [← hx44] at l44a
        rw [← hy44] at l44b
        have hc44 := S1.out.cmp HC.out (by omega) x44 y44
        have hv44 : cf x44 y44 < 0 := by rw [hx44, hy44]; exact of_decide_eq_true hlv
        have hd44 : decide (cf x44 y44 < 0) = true := decide_eq_true hv44
        clear hx44 hy44
        go_wp2_with fail
        go_quiet_grown (first | (go_at_fn g; refine Calls.grown_of (hc44 _ _)))
        have S2 : Aside (SWK enc k w0 blk off d (grow (wr.drewN nq) osq)) := S1.out.grown nq osq
        clear l44a l44b hc44 S1
        generalize grow (wr.drewN nq) osq = w2 at S2 ⊢
        clear nq osq
        go_wp2
        go_roundg (j - (h + 1))
        case measure => omega
        case rel =>
          refine ⟨h + 1, j, by first | rfl | go_num, rfl, by omega, by omega, h3, Nat.le_refl _, S2, (show Hid _ from ?_), H2⟩
          intro t t1 t2
          cases hc : ltOf cf d[t]! d[a]! with
          | true => rfl
          | false =>
            have := HW.out.ntr _ _ _ hc (hO.out t h t1 (by omega) (by omega))
            rw [this] at hlv
            cases hlv
      | false =>
        have ea45 : ((h : Int)).toNat = h := by omega
        have pa45 : (0 : Int) ≤ (h : Int) := by omega
        have ba45 : (h : Int) < (N : Int) := by omega
        have ra45 : IntKind.i64.wrap ((h : Int)) = (h : Int) := by rw [IntKind.wrap_i64]; omega
        have ec45 : ((a : Int)).toNat = a := by omega
        have pc45 : (0 : Int) ≤ (a : Int) := by omega
        have bc45 : (a : Int) < (N : Int) := by omega
        have rc45 : IntKind.i64.wrap ((a : Int)) = (a : Int) := by rw [IntKind.wrap_i64]; omega
        obtain ⟨x45, hx45⟩ : ∃ x, x = d[h]! := ⟨_, rfl⟩
        obtain ⟨y45, hy45⟩ : ∃ x, x = d[a]! := ⟨_, rfl⟩
        have l45a := S1.out.ld R (by omega) P (h) (by omega)
        have l45b := S1.out.ld R (by omega) P (a) (by omega)
        rw [← hx45] at l45a
        rw [← hy45] at l45b
        have hc45 := S1.out.cmp HC.out (by omega) x45 y45
        have hv45 : ¬ cf x45 y45 < 0 := by rw [hx45, hy45]; exact of_decide_eq_false hlv
        have hd45 : decide (cf x45 y45 < 0) = false := decide_eq_false hv45
        clear hx45 hy45
        go_wp2_with fail
        go_quiet_grown (first | (go_at_fn g; refine Calls.grown_of (hc45 _ _)))
        have S2 : Aside (SWK enc k w0 blk off d (grow (wr.drewN nq) osq)) := S1.out.grown nq osq
        clear l45a l45b hc45 S1
        generalize grow (wr.drewN nq) osq = w2 at S2 ⊢
        clear nq osq
        go_wp2
        go_roundg (h - i)
        case measure => omega
        case rel =>
          refine ⟨i, h, rfl, by first | rfl | go_num, h1, m1, by omega, Nat.le_refl _, S2, H1, (show Hid _ from ?_)⟩
          intro t t1 t2
          exact HW.out.ntr _ _ _ hlv (hO.out h t (by omega) t1 t2)
    · have hltz : ¬ (i : Int) < (j : Int) := by omega
      have e : j = i := by omega
      subst e
      obtain ⟨ip, hip⟩ : ∃ q, q + 1 = j := ⟨j - 1, by omega⟩
      have q2 : (j : Int) - 1 = (ip : Int) := by omega
      have q3 : IntKind.i64.wrap (ip : Int) = (ip : Int) := by rw [IntKind.wrap_i64]; omega
      go_wp2
      go_loopg [13] (ip - a) (fun kx s13 wr => ∃ (kk : Nat) (dk : Array α), s13 = .int .i64 kk ∧ a ≤ kk ∧ kk ≤ ip ∧ ip - kk ≤ kx ∧ dk.size = N ∧ Aside (SWK enc k w0 blk off dk wr) ∧ Hid (∃ R1 R2, Rt = R1 ++ R2 ∧ R1.length = kk - a ∧ dk.toList = X ++ (R1 ++ (x :: (R2 ++ Z)))))
      case atStart => exact ⟨a, d, rfl, Nat.le_refl _, by omega, Nat.le_refl _, HN.out, S1, [], Rt, rfl, by simp, by simpa using HM.out.1⟩
      case round =>
        obtain ⟨kk, dk, rfl, k1, k2, kkx, hds, S2, HL⟩ := hrel
        by_cases hkl : kk < ip
        · have hklz : (kk : Int) < (ip : Int) := by omega
          go_wp2_with fail
          have ea46 : ((kk : Int)).toNat = kk := by omega
          have pa46 : (0 : Int) ≤ (kk : Int) := by omega
          have ba46 : (kk : Int) < (N : Int) := by omega
          have ra46 : IntKind.i64.wrap ((kk : Int)) = (kk : Int) := by rw [IntKind.wrap_i64]; omega
          have ec46 : ((kk : Int) + 1).toNat = kk + 1 := by omega
          have pc46 : (0 : Int) ≤ (kk : Int) + 1 := by omega
          have bc46 : (kk : Int) + 1 < (N : Int) := by omega
          have rc46 : IntKind.i64.wrap ((kk : Int) + 1) = (kk : Int) + 1 := by rw [IntKind.wrap_i64]; omega
          have S3 : Aside (SWK enc k w0 blk off (swp dk (kk) (kk + 1)) ((wr.drew.setCells blk (off + (kk) * k) (enc dk[kk + 1]!)).setCells blk (off + (kk + 1) * k) (enc dk[kk]!))) := S2.out.swapped R (kk) (kk + 1) (by omega) (by omega)
          have l46a := S2.out.ld1 R (by omega) P (kk) (by omega)
          have l46b := S2.out.ld1 R (by omega) P (kk + 1) (by omega)
          have s46a := S2.out.st1 R (by omega) P (kk) (by omega) dk[kk + 1]!
          have s46b := S2.out.st2 R (by omega) P (kk) (kk + 1) (by omega) (by omega) dk[kk + 1]! dk[kk]!
          have n46a : (enc dk[kk]!).length = k := R.hk _
          have n46b : (enc dk[kk + 1]!).length = k := R.hk _
          generalize enc dk[kk]! = cI46 at S3 l46a s46b n46a
          generalize enc dk[kk + 1]! = cJ46 at S3 l46b s46a s46b n46b
          clear S2
          go_wp2_with fail
          go_big_region_o
          clear l46a l46b s46a s46b
          generalize (wr.drew.setCells blk (off + (kk) * k) cJ46).setCells blk (off + (kk + 1) * k) cI46 = w3 at S3 ⊢
          go_wp2
          go_roundg (ip - (kk + 1))
          case measure => omega
          case rel =>
            refine ⟨kk + 1, swp dk kk (kk + 1), by first | rfl | go_num, by omega, by omega, Nat.le_refl _, by rw [size_swp]; exact hds, S3, (show Hid _ from ?_)⟩
            obtain ⟨R1, R2, rfl, r2, r3⟩ := HL.out
            obtain ⟨n1, n2, n3, n4⟩ := HM.out
            simp only [List.length_append] at n4
            obtain ⟨y, R2, rfl⟩ : ∃ y l, R2 = y :: l := by cases R2 with | nil => (simp at n4; omega) | cons y l => exact ⟨y, l, rfl⟩
            refine ⟨R1 ++ [y], R2, by simp, by simp; omega, ?_⟩
            have := (sy_swp (d := dk) (X := X ++ R1) (Y := []) (Z := R2 ++ Z) (x := x) (y := y) (i := kk) (j := kk + 1) (by simpa using r3) (by simp; omega) (by simp; omega)).1
            simpa using this
        · have hklz : ¬ (kk : Int) < (ip : Int) := by omega
          go_wp2
          refine bodyPost_ret (results_none rfl _ _ _) rfl ?_
          refine ⟨rfl, dk, hds, ?_, S2.out⟩
          obtain ⟨R1, R2, r1, r2, r3⟩ := HL.out
          obtain ⟨n1, n2, n3, n4⟩ := HM.out
          have e1 := mer_left (ltOf cf) (d := d) (X := X ++ [x]) (R := Rt) (Z := Z) (x := x) (m := m) (b := b) (i := j) (by simpa using n1) (by simp; omega) n4 h1 (fun t t1 t2 => by rw [← HX.out]; exact H1.out t t1 t2) (fun t t1 t2 => by rw [← HX.out]; exact H2.out t t1 t2)
          have e2 : j - m = R1.length := by omega
          rw [e1, r3, r1, e2]
          simp

end Go.Proofs.Ytloeabdohgdmkaa

/- slices.symMergeCmpFunc at structs: one on the right. -/
namespace Go.Proofs.Ytloeabdohgdmkaa
open Go.Shelf Go.RowKit Go.Lib Go.Sort
set_option linter.unusedVariables false
set_option linter.unusedSimpArgs false
set_option linter.unusedSectionVars false
variable {P : Program} {ρ : Ren} {α : Type} [Inhabited α]
set_option maxHeartbeats 2000000 in
set_option maxRecDepth 1000000 in
theorem syMerR (L : SyL P ρ) (k : Nat) (aE : ∀ w, (isAgg (ρ.t 24)).run P w = .ok true w) (zE : ∀ w, (Go.sizeOf (ρ.t 24)).run P w = .ok k w) (enc : α → List Value) (g : Nat) (cb : Array Value) (blk off cap : Nat) (cf : α → α → Int) (N : Nat) (d0 : Array α) (w0 : World) (R : RowK enc k w0 blk off d0) (hs : d0.size = N) (eg : ∀ args w, (callFunc g args).run P w = .ok (.enter g args) w) (hcmp : CmpLays P g cb enc k cf blk off N w0) (W : Weak (ltOf cf)) (hsz : N < 1000000000) (a m b : Nat) (d : Array α) (w : World) (hN : d.size = N) (S : SWK enc k w0 blk off d w) (X Lf Z : List α) (y : α) (hd : d.toList = X ++ (Lf ++ ([y] ++ Z))) (ha : X.length = a) (hL : a + Lf.length = m) (hR : m + 1 = b) (ham : a + 1 < m) (oL : Ord (ltOf cf) Lf) :
    Calls P (ρ.f 79) #[.slice (some ⟨blk, off, none⟩) N cap, .int .i64 a, .int .i64 m, .int .i64 b, .func (.func g) #[] cb] w fun e w' => e = .returned (.tuple #[]) ∧ ∃ d' : Array α, d'.size = N ∧ d'.toList = X ++ (mrg (ltOf cf) Lf [y] ++ Z) ∧ SWK enc k w0 blk off d' w' := by
  have mixed := L.l20.mixed; have t0 := L.l20.t0; have a0 := L.l20.a0; have z0 := L.l20.z0; have v0 := L.l20.v0; have t3 := L.l20.t3; have a3 := L.l20.a3; have z3 := L.l20.z3; have v3 := L.l20.v3; have t4 := L.l20.t4; have a4 := L.l20.a4; have z4 := L.l20.z4; have v4 := L.l20.v4; have t22 := L.l20.t22; have a22 := L.l20.a22; have z22 := L.l20.z22; have v22 := L.l20.v22; have t25 := L.l20.t25; have a25 := L.l20.a25; have z25 := L.l20.z25; have v25 := L.l20.v25
  have t39 := L.t39; have a39 := L.a39; have z39 := L.z39; have v39 := L.v39
  obtain ⟨_, _, FG⟩ := L.f79
  have hbd : b ≤ N := by
    have := congrArg List.length hd
    simp at this
    omega
  have HC : Aside _ := hcmp
  have hx : d[m]! = y := at_of (pre := X ++ Lf) (post := Z) (by simpa using hd) (by simp; omega)
  have hO : Hid (∀ s t, a ≤ s → s ≤ t → t < m → ltOf cf d[t]! d[s]! = false) := ord_at (ltOf cf) W (X := X) (Y := Lf) (Z := [y] ++ Z) hd oL ha hL
  have HX : Hid (d[m]! = y) := hx
  have HM : Hid (d.toList = X ++ (Lf ++ ([y] ++ Z)) ∧ X.length = a ∧ a + Lf.length = m ∧ m + 1 = b) := ⟨hd, ha, hL, hR⟩
  have HW : Hid (Weak (ltOf cf)) := W
  have HN : Hid (d.size = N) := hN
  have S0 : Aside (SWK enc k w0 blk off d w) := S
  have q1 : (b : Int) - (m : Int) = 1 := by omega
  have am : a < m := by omega
  obtain ⟨ml, hml⟩ : ∃ q, q + a = m := ⟨m - a, by omega⟩
  have q0 : (m : Int) - (a : Int) = (ml : Int) := by omega
  have q4 : IntKind.i64.wrap (ml : Int) = (ml : Int) := by rw [IntKind.wrap_i64]; omega
  have q5 : ((ml : Int) == 1) = false := beq_eq_false_iff_ne.2 (by omega)
  clear S hd ha hL hR oL hcmp hx W
  go_enter FG, syB_mer_ntmps ρ
  go_wp2
  go_loopg [14, 15] (m - a) (fun kx s10 s11 wr => ∃ i j : Nat, s10 = .int .i64 i ∧ s11 = .int .i64 j ∧ a ≤ i ∧ i ≤ j ∧ j ≤ m ∧ j - i ≤ kx ∧ Aside (SWK enc k w0 blk off d wr) ∧ Hid (∀ t, a ≤ t → t < i → ltOf cf d[m]! d[t]! = false) ∧ Hid (∀ t, j ≤ t → t < m → ltOf cf d[m]! d[t]! = true))
  case atStart => exact ⟨a, m, rfl, rfl, Nat.le_refl _, by omega, Nat.le_refl _, Nat.le_refl _, S0, fun t h1 h2 => by omega, fun t h1 h2 => by omega⟩
  case round =>
    clear S0
    obtain ⟨i, j, rfl, rfl, h1, h2, h3, hkx, S1, H1, H2⟩ := hrel
    by_cases hlt : i < j
    · have hltz : (i : Int) < (j : Int) := by omega
      obtain ⟨h, hh⟩ : ∃ q, q = (i + j) / 2 := ⟨_, rfl⟩
      have wa1 : IntKind.i64.wrap ((i : Int) + (j : Int)) = (i : Int) + (j : Int) := by rw [IntKind.wrap_i64]; omega
      have wb1 : IntKind.u64.wrap ((i : Int) + (j : Int)) = (i : Int) + (j : Int) := by unfold IntKind.wrap; simp [IntKind.signed, IntKind.bits]; omega
      have wc1 : ((i : Int) + (j : Int)) / 2 = (h : Int) := by omega
      have wd1 : IntKind.u64.wrap (h : Int) = (h : Int) := by unfold IntKind.wrap; simp [IntKind.signed, IntKind.bits]; omega
      have we1 : IntKind.i64.wrap (h : Int) = (h : Int) := by rw [IntKind.wrap_i64]; omega
      have HH : Hid (h = (i + j) / 2) := hh
      have m1 : i ≤ h := by omega
      have m2 : h < j := by omega
      clear hh
      go_upto_region 17 with fail
      cases hlv : (ltOf cf) d[m]! d[h]! with
      | true =>
        have ea44 : ((m : Int)).toNat = m := by omega
        have pa44 : (0 : Int) ≤ (m : Int) := by omega
        have ba44 : (m : Int) < (N : Int) := by omega
        have ra44 : IntKind.i64.wrap ((m : Int)) = (m : Int) := by rw [IntKind.wrap_i64]; omega
        have ec44 : ((h : Int)).toNat = h := by omega
        have pc44 : (0 : Int) ≤ (h : Int) := by omega
        have bc44 : (h : Int) < (N : Int) := by omega
        have rc44 : IntKind.i64.wrap ((h : Int)) = (h : Int) := by rw [IntKind.wrap_i64]; omega
        obtain ⟨x44, hx44⟩ : ∃ x, x = d[m]! := ⟨_, rfl⟩
        obtain ⟨y44, hy44⟩ : ∃ x, x = d[h]! := ⟨_, rfl⟩
        have l44a := S1.out.ld R (by omega) P (m) (by omega)
        have l44b := S1.out.ld R (by omega) P (h) (by omega)
        rw [← hx44] at l44a
        rw [← hy44] at l44b
        have hc44 := S1.out.cmp HC.out (by omega) x44 y44
        have hv44 : cf x44 y44 < 0 := by rw [hx44, hy44]; exact of_decide_eq_true hlv
        have hd44 : decide (cf x44 y44 < 0) = true := decide_eq_true hv44
        clear hx44 hy44
        go_wp2_with fail
        go_quiet_grown (first | (go_at_fn g; refine Calls.grown_of (hc44 _ _)))
        have S2 : Aside (SWK enc k w0 blk off d (grow (wr.drewN nq) osq)) := S1.out.grown nq osq
        clear l44a l44b hc44 S1
        generalize grow (wr.drewN nq) osq = w2 at S2 ⊢
        clear nq osq
        go_wp2
        go_roundg (h - i)
        case measure => omega
        case rel =>
          refine ⟨i, h, rfl, by first | rfl | go_num, h1, m1, by omega, Nat.le_refl _, S2, H1, (show Hid _ from ?_)⟩
          intro t t1 t2
          cases hc : ltOf cf d[m]! d[t]! with
          | true => rfl
          | false =>
            have := HW.out.ntr _ _ _ (hO.out h t (by omega) t1 t2) hc
            rw [this] at hlv
            cases hlv
      | false =>
        have ea45 : ((m : Int)).toNat = m := by omega
        have pa45 : (0 : Int) ≤ (m : Int) := by omega
        have ba45 : (m : Int) < (N : Int) := by omega
        have ra45 : IntKind.i64.wrap ((m : Int)) = (m : Int) := by rw [IntKind.wrap_i64]; omega
        have ec45 : ((h : Int)).toNat = h := by omega
        have pc45 : (0 : Int) ≤ (h : Int) := by omega
        have bc45 : (h : Int) < (N : Int) := by omega
        have rc45 : IntKind.i64.wrap ((h : Int)) = (h : Int) := by rw [IntKind.wrap_i64]; omega
        obtain ⟨x45, hx45⟩ : ∃ x, x = d[m]! := ⟨_, rfl⟩
        obtain ⟨y45, hy45⟩ : ∃ x, x = d[h]! := ⟨_, rfl⟩
        have l45a := S1.out.ld R (by omega) P (m) (by omega)
        have l45b := S1.out.ld R (by omega) P (h) (by omega)
        rw [← hx45] at l45a
        rw [← hy45] at l45b
        have hc45 := S1.out.cmp HC.out (by omega) x45 y45
        have hv45 : ¬ cf x45 y45 < 0 := by rw [hx45, hy45]; exact of_decide_eq_false hlv
        have hd45 : decide (cf x45 y45 < 0) = false := decide_eq_false hv45
        clear hx45 hy45
        go_wp2_with fail
        go_quiet_grown (first | (go_at_fn g; refine Calls.grown_of (hc45 _ _)))
        have S2 : Aside (SWK enc k w0 blk off d (grow (wr.drewN nq) osq)) := S1.out.grown nq osq
        clear l45a l45b hc45 S1
        generalize grow (wr.drewN nq) osq = w2 at S2 ⊢
        clear nq osq
        go_wp2
        go_roundg (j - (h + 1))
        case measure => omega
        case rel =>
          refine ⟨h + 1, j, by first | rfl | go_num, rfl, by omega, by omega, h3, Nat.le_refl _, S2, (show Hid _ from ?_), H2⟩
          intro t t1 t2
          exact HW.out.ntr _ _ _ (hO.out t h t1 (by omega) (by omega)) hlv
    · have hltz : ¬ (i : Int) < (j : Int) := by omega
      have e : j = i := by omega
      subst e
      go_wp2
      go_loopg [17] (m - j) (fun kx s13 wr => ∃ (kk : Nat) (dk : Array α), s13 = .int .i64 kk ∧ j ≤ kk ∧ kk ≤ m ∧ kk - j ≤ kx ∧ dk.size = N ∧ Aside (SWK enc k w0 blk off dk wr) ∧ Hid (∃ L1 L2, Lf = L1 ++ L2 ∧ L1.length = kk - a ∧ dk.toList = X ++ (L1 ++ (y :: (L2 ++ Z)))))
      case atStart => exact ⟨m, d, rfl, by omega, Nat.le_refl _, Nat.le_refl _, HN.out, S1, Lf, [], by simp, by have := HM.out; omega, by simpa using HM.out.1⟩
      case round =>
        obtain ⟨kk, dk, rfl, k1, k2, kkx, hds, S2, HL⟩ := hrel
        by_cases hkl : j < kk
        · obtain ⟨kp, rfl⟩ : ∃ q, kk = q + 1 := ⟨kk - 1, by omega⟩
          have hklz : (j : Int) < (kp : Int) + 1 := by omega
          go_wp2_with fail
          have ea46 : ((kp : Int) + 1).toNat = kp + 1 := by omega
          have pa46 : (0 : Int) ≤ (kp : Int) + 1 := by omega
          have ba46 : (kp : Int) + 1 < (N : Int) := by omega
          have ra46 : IntKind.i64.wrap ((kp : Int) + 1) = (kp : Int) + 1 := by rw [IntKind.wrap_i64]; omega
          have ec46 : ((kp : Int)).toNat = kp := by omega
          have pc46 : (0 : Int) ≤ (kp : Int) := by omega
          have bc46 : (kp : Int) < (N : Int) := by omega
          have rc46 : IntKind.i64.wrap ((kp : Int)) = (kp : Int) := by rw [IntKind.wrap_i64]; omega
          have S3 : Aside (SWK enc k w0 blk off (swp dk (kp + 1) (kp)) ((wr.drew.setCells blk (off + (kp + 1) * k) (enc dk[kp]!)).setCells blk (off + (kp) * k) (enc dk[kp + 1]!))) := S2.out.swapped R (kp + 1) (kp) (by omega) (by omega)
          have l46a := S2.out.ld1 R (by omega) P (kp + 1) (by omega)
          have l46b := S2.out.ld1 R (by omega) P (kp) (by omega)
          have s46a := S2.out.st1 R (by omega) P (kp + 1) (by omega) dk[kp]!
          have s46b := S2.out.st2 R (by omega) P (kp + 1) (kp) (by omega) (by omega) dk[kp]! dk[kp + 1]!
          have n46a : (enc dk[kp + 1]!).length = k := R.hk _
          have n46b : (enc dk[kp]!).length = k := R.hk _
          generalize enc dk[kp + 1]! = cI46 at S3 l46a s46b n46a
          generalize enc dk[kp]! = cJ46 at S3 l46b s46a s46b n46b
          clear S2
          go_wp2_with fail
          go_big_region_o
          clear l46a l46b s46a s46b
          generalize (wr.drew.setCells blk (off + (kp + 1) * k) cJ46).setCells blk (off + (kp) * k) cI46 = w3 at S3 ⊢
          go_wp2
          go_roundg (kp - j)
          case measure => omega
          case rel =>
            refine ⟨kp, swp dk (kp + 1) kp, by first | rfl | go_num, by omega, by omega, Nat.le_refl _, by rw [size_swp]; exact hds, S3, (show Hid _ from ?_)⟩
            obtain ⟨L1, L2, rfl, r2, r3⟩ := HL.out
            obtain ⟨n1, n2, n3, n4⟩ := HM.out
            obtain ⟨L1, z, rfl⟩ : ∃ l z, L1 = l ++ [z] := by
              rcases List.eq_nil_or_concat L1 with rfl | ⟨l, z, rfl⟩
              · simp at r2; omega
              · exact ⟨l, z, by simp⟩
            simp only [List.length_append, List.length_cons, List.length_nil] at r2
            refine ⟨L1, z :: L2, by simp, by omega, ?_⟩
            have := (sy_swp (d := dk) (X := X ++ L1) (Y := []) (Z := L2 ++ Z) (x := z) (y := y) (i := kp) (j := kp + 1) (by simpa using r3) (by simp; omega) (by simp; omega)).2
            simpa using this
        · have hklz : ¬ (j : Int) < (kk : Int) := by omega
          go_wp2
          refine bodyPost_ret (results_none rfl _ _ _) rfl ?_
          refine ⟨rfl, dk, hds, ?_, S2.out⟩
          obtain ⟨L1, L2, r1, r2, r3⟩ := HL.out
          obtain ⟨n1, n2, n3, n4⟩ := HM.out
          have e1 := mer_right (ltOf cf) (d := d) (X := X) (L := Lf) (Z := [y] ++ Z) (y := y) (a := a) (m := m) (i := j) n1 n2 n3 h1 (fun t t1 t2 => by rw [← HX.out]; exact H1.out t t1 t2) (fun t t1 t2 => by rw [← HX.out]; exact H2.out t t1 t2)
          have e2 : j - a = L1.length := by omega
          rw [e1, r3, r1, e2]
          simp

end Go.Proofs.Ytloeabdohgdmkaa
