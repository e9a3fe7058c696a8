/- slices.swapRangeCmpFunc, rotateCmpFunc at structs, over any program. -/
import Derived.Test.YtkhmaaalmlnblaaSymB
import Derived.Test.YtkhmaaalmlnblaaSymL
import Derived.Shelf.SlSortCmp.KitK
import Derived.Sort.WalkB2
import Derived.Sort.WalkB12
import Derived.Deep.LoopGhost
namespace Go.Proofs.Ytkhmaaalmlnblaa
open Go.Shelf Go.RowKit Go.Lib Go.Sort
set_option linter.unusedVariables false
set_option linter.unusedSimpArgs false
set_option linter.unusedSectionVars false
variable {P : Program} {ρ : Ren} {α : Type} [Inhabited α]
set_option maxHeartbeats 2000000 in
set_option maxRecDepth 1000000 in
theorem sySwap (L : SlLaysF0.n20 P ρ) (FG : Bears P (ρ.f 81) (syB_swp ρ)) (k : Nat) (aE : ∀ w, (isAgg (ρ.t 24)).run P w = .ok true w) (zE : ∀ w, (Go.sizeOf (ρ.t 24)).run P w = .ok k w) (enc : α → List Value) (g : Nat) (cb : Array Value) (blk off cap : Nat) (a b n : Nat) (N : Nat) (d0 d : Array α) (w0 w : World) (R : RowK enc k w0 blk off d0) (hs : d0.size = N) (hN : d.size = N) (S : SWK enc k w0 blk off d w) (X A M B Z : List α) (hd : d.toList = X ++ (A ++ (M ++ (B ++ Z)))) (ha : X.length = a) (hA : A.length = n) (hb : a + n + M.length = b) (hB : B.length = n) (hsz : N < 4611686018427387904) :
    Calls P (ρ.f 81) #[.slice (some ⟨blk, off, none⟩) N cap, .int .i64 a, .int .i64 b, .int .i64 n, .func (.func g) #[] cb] w fun e w' => e = .returned (.tuple #[]) ∧ ∃ d' : Array α, d'.size = N ∧ d'.toList = X ++ (B ++ (M ++ (A ++ Z))) ∧ SWK enc k w0 blk off d' w' := by
  have mixed := L.mixed; have t0 := L.t0; have a0 := L.a0; have z0 := L.z0; have v0 := L.v0; have t3 := L.t3; have a3 := L.a3; have z3 := L.z3; have v3 := L.v3; have t4 := L.t4; have a4 := L.a4; have z4 := L.z4; have v4 := L.v4; have t22 := L.t22; have a22 := L.a22; have z22 := L.z22; have v22 := L.v22; have t25 := L.t25; have a25 := L.a25; have z25 := L.z25; have v25 := L.v25
  obtain ⟨_, _, FG⟩ := FG
  have hbd : b + n ≤ N := by
    have := congrArg List.length hd
    simp at this
    omega
  have HM : Hid (d.toList = X ++ (A ++ (M ++ (B ++ Z))) ∧ X.length = a ∧ A.length = n ∧ a + n + M.length = b ∧ B.length = n) := ⟨hd, ha, hA, hb, hB⟩
  have hab : a + n ≤ b := by omega
  have S0 : Aside (SWK enc k w0 blk off d w) := S
  clear S hd ha hA hb hB
  go_enter FG, syB_swp_ntmps ρ
  go_wp2
  go_loopg [10] n (fun kx s10 wr => ∃ (i : Nat) (dk : Array α), s10 = .int .i64 i ∧ i ≤ n ∧ n - i ≤ kx ∧ dk.size = N ∧ Aside (SWK enc k w0 blk off dk wr) ∧ Hid (∃ A1 A2 B1 B2, A = A1 ++ A2 ∧ B = B1 ++ B2 ∧ A1.length = i ∧ B1.length = i ∧ dk.toList = X ++ (B1 ++ (A2 ++ (M ++ (A1 ++ (B2 ++ Z)))))))
  case atStart => exact ⟨0, d, rfl, by omega, by omega, hN, S0, [], A, [], B, rfl, rfl, rfl, rfl, by simpa using HM.out.1⟩
  case round =>
    clear S0
    obtain ⟨i, dk, rfl, hin, hkx, hds, S1, HL⟩ := hrel
    by_cases hlt : i < n
    · have hltz : (i : Int) < (n : Int) := by omega
      go_wp2_with fail
      have ea44 : ((a : Int) + (i : Int)).toNat = a + i := by omega
      have pa44 : (0 : Int) ≤ (a : Int) + (i : Int) := by omega
      have ba44 : (a : Int) + (i : Int) < (N : Int) := by omega
      have ra44 : IntKind.i64.wrap ((a : Int) + (i : Int)) = (a : Int) + (i : Int) := by rw [IntKind.wrap_i64]; omega
      have ec44 : ((b : Int) + (i : Int)).toNat = b + i := by omega
      have pc44 : (0 : Int) ≤ (b : Int) + (i : Int) := by omega
      have bc44 : (b : Int) + (i : Int) < (N : Int) := by omega
      have rc44 : IntKind.i64.wrap ((b : Int) + (i : Int)) = (b : Int) + (i : Int) := by rw [IntKind.wrap_i64]; omega
      have S2 : Aside (SWK enc k w0 blk off (swp dk (a + i) (b + i)) ((wr.drew.setCells blk (off + (a + i) * k) (enc dk[b + i]!)).setCells blk (off + (b + i) * k) (enc dk[a + i]!))) := S1.out.swapped R (a + i) (b + i) (by omega) (by omega)
      have l44a := S1.out.ld1 R (by omega) P (a + i) (by omega)
      have l44b := S1.out.ld1 R (by omega) P (b + i) (by omega)
      have s44a := S1.out.st1 R (by omega) P (a + i) (by omega) dk[b + i]!
      have s44b := S1.out.st2 R (by omega) P (a + i) (b + i) (by omega) (by omega) dk[b + i]! dk[a + i]!
      have n44a : (enc dk[a + i]!).length = k := R.hk _
      have n44b : (enc dk[b + i]!).length = k := R.hk _
      generalize enc dk[a + i]! = cI44 at S2 l44a s44b n44a
      generalize enc dk[b + i]! = cJ44 at S2 l44b s44a s44b n44b
      clear S1
      go_wp2_with fail
      go_big_region_o
      clear l44a l44b s44a s44b
      generalize (wr.drew.setCells blk (off + (a + i) * k) cJ44).setCells blk (off + (b + i) * k) cI44 = w2 at S2 ⊢
      go_wp2
      go_roundg (n - (i + 1))
      case measure => omega
      case rel =>
        refine ⟨i + 1, swp dk (a + i) (b + i), by first | rfl | go_num | (congr 1; omega), by omega, Nat.le_refl _, by rw [size_swp]; exact hds, S2, (show Hid _ from ?_)⟩
        obtain ⟨A1, A2, B1, B2, rfl, rfl, h1, h2, h3⟩ := HL.out
        obtain ⟨m1, m2, m3, m4, m5⟩ := HM.out
        simp only [List.length_append] at m3 m5
        obtain ⟨x, A2, rfl⟩ : ∃ x l, A2 = x :: l := by cases A2 with | nil => (simp at m3; omega) | cons x l => exact ⟨x, l, rfl⟩
        obtain ⟨y, B2, rfl⟩ : ∃ x l, B2 = x :: l := by cases B2 with | nil => (simp at m5; omega) | cons x l => exact ⟨x, l, rfl⟩
        simp only [List.length_cons] at m3 m5
        refine ⟨A1 ++ [x], A2, B1 ++ [y], B2, by simp, by simp, by simp [h1], by simp [h2], ?_⟩
        have := (sy_swp (d := dk) (X := X ++ B1) (Y := A2 ++ (M ++ A1)) (Z := B2 ++ Z) (x := x) (y := y) (i := a + i) (j := b + i) (by simpa using h3) (by simp; omega) (by simp; omega)).1
        simpa using this
    · have hltz : ¬ (i : Int) < (n : Int) := by omega
      go_wp2
      go_end0
      refine ⟨rfl, dk, hds, ?_, S1.out⟩
      obtain ⟨A1, A2, B1, B2, rfl, rfl, h1, h2, h3⟩ := HL.out
      obtain ⟨m1, m2, m3, m4, m5⟩ := HM.out
      simp only [List.length_append] at m3 m5
      have e1 : A2 = [] := List.eq_nil_of_length_eq_zero (by omega)
      have e2 : B2 = [] := List.eq_nil_of_length_eq_zero (by omega)
      subst e1
      subst e2
      simpa using h3

set_option maxHeartbeats 2000000 in
set_option maxRecDepth 1000000 in
theorem syRot (L : SlLaysF0.n20 P ρ) (F81 : Bears P (ρ.f 81) (syB_swp ρ)) (FG : Bears P (ρ.f 80) (syB_rot ρ)) (k : Nat) (aE : ∀ w, (isAgg (ρ.t 24)).run P w = .ok true w) (zE : ∀ w, (Go.sizeOf (ρ.t 24)).run P w = .ok k w) (enc : α → List Value) (g : Nat) (cb : Array Value) (blk off cap : Nat) (a m b : Nat) (N : Nat) (d0 d : Array α) (w0 w : World) (R : RowK enc k w0 blk off d0) (hs : d0.size = N) (hN : d.size = N) (S : SWK enc k w0 blk off d w) (X U V Z : List α) (hd : d.toList = X ++ (U ++ (V ++ Z))) (ha : X.length = a) (hU : a + U.length = m) (hV : m + V.length = b) (ham : a < m) (hmb : m < b) (hsz : N < 4611686018427387904) :
    Calls P (ρ.f 80) #[.slice (some ⟨blk, off, none⟩) N cap, .int .i64 a, .int .i64 m, .int .i64 b, .func (.func g) #[] cb] w fun e w' => e = .returned (.tuple #[]) ∧ ∃ d' : Array α, d'.size = N ∧ d'.toList = X ++ (V ++ (U ++ Z)) ∧ SWK enc k w0 blk off d' w' := by
  have e81 : ∀ args w, (callFunc (ρ.f 81) args).run P w = .ok (.enter (ρ.f 81) args) w := F81.enters rfl
  have hsw : Aside (∀ (a b n : Nat) (d : Array α) (w : World) (hN : d.size = N) (S : SWK enc k w0 blk off d w) (X A M B Z : List α) (hd : d.toList = X ++ (A ++ (M ++ (B ++ Z)))) (ha : X.length = a) (hA : A.length = n) (hb : a + n + M.length = b) (hB : B.length = n), Calls P (ρ.f 81) #[.slice (some ⟨blk, off, none⟩) N cap, .int .i64 a, .int .i64 b, .int .i64 n, .func (.func g) #[] cb] w fun e w' => e = .returned (.tuple #[]) ∧ ∃ d' : Array α, d'.size = N ∧ d'.toList = X ++ (B ++ (M ++ (A ++ Z))) ∧ SWK enc k w0 blk off d' w') := fun a b n d w hN S X A M B Z hd ha hA hb hB => sySwap L F81 k aE zE enc g cb blk off cap a b n N d0 d w0 w R hs hN S X A M B Z hd ha hA hb hB hsz
  have mixed := L.mixed; have t0 := L.t0; have a0 := L.a0; have z0 := L.z0; have v0 := L.v0; have t3 := L.t3; have a3 := L.a3; have z3 := L.z3; have v3 := L.v3; have t4 := L.t4; have a4 := L.a4; have z4 := L.z4; have v4 := L.v4; have t22 := L.t22; have a22 := L.a22; have z22 := L.z22; have v22 := L.v22; have t25 := L.t25; have a25 := L.a25; have z25 := L.z25; have v25 := L.v25
  obtain ⟨_, _, FG⟩ := FG
  have hbd : b ≤ N := by
    have := congrArg List.length hd
    simp at this
    omega
  obtain ⟨T, hT⟩ : ∃ T, T = X ++ (V ++ (U ++ Z)) := ⟨_, rfl⟩
  obtain ⟨i0, hi0⟩ : ∃ q, q = U.length := ⟨_, rfl⟩
  obtain ⟨j0, hj0⟩ : ∃ q, q = V.length := ⟨_, rfl⟩
  have HM : Hid (∃ X' U' V' Y', d.toList = X' ++ (U' ++ (V' ++ Y')) ∧ T = X' ++ (V' ++ (U' ++ Y')) ∧ U'.length = i0 ∧ V'.length = j0 ∧ X'.length + i0 = m) := ⟨X, U, V, Z, hd, hT, hi0.symm, hj0.symm, by omega⟩
  have S0 : Aside (SWK enc k w0 blk off d w) := S
  rw [← hT]
  have q1 : (m : Int) - (a : Int) = (i0 : Int) := by omega
  have q2 : (b : Int) - (m : Int) = (j0 : Int) := by omega
  have v1 : IntKind.i64.wrap (i0 : Int) = (i0 : Int) := by rw [IntKind.wrap_i64]; omega
  have v2 : IntKind.i64.wrap (j0 : Int) = (j0 : Int) := by rw [IntKind.wrap_i64]; omega
  have p1 : 0 < i0 := by omega
  have p2 : 0 < j0 := by omega
  have p3 : i0 ≤ m := by omega
  have p4 : m + j0 ≤ N := by omega
  clear S hd ha hU hV hT hi0 hj0 ham hmb hbd
  go_enter FG, syB_rot_ntmps ρ
  go_wp2
  clear q1 q2 v1 v2
  go_loopg [10, 11] (i0 + j0) (fun kx s10 s11 wr => ∃ (i j : Nat) (dk : Array α), s10 = .int .i64 i ∧ s11 = .int .i64 j ∧ 0 < i ∧ 0 < j ∧ i ≤ m ∧ m + j ≤ N ∧ i + j ≤ kx ∧ dk.size = N ∧ Aside (SWK enc k w0 blk off dk wr) ∧ Hid (∃ X' U' V' Y', dk.toList = X' ++ (U' ++ (V' ++ Y')) ∧ T = X' ++ (V' ++ (U' ++ Y')) ∧ U'.length = i ∧ V'.length = j ∧ X'.length + i = m))
  case atStart => exact ⟨i0, j0, d, rfl, rfl, p1, p2, p3, p4, Nat.le_refl _, hN, S0, HM⟩
  case round =>
    clear S0 HM p1 p2 p3 p4
    obtain ⟨i, j, dk, rfl, rfl, hi, hj, him, hjm, hkx, hds, S1, HL⟩ := hrel
    obtain ⟨u, hu⟩ : ∃ u, u + i = m := ⟨m - i, by omega⟩
    have q1 : (m : Int) - (i : Int) = (u : Int) := by omega
    have v1 : IntKind.i64.wrap (u : Int) = (u : Int) := by rw [IntKind.wrap_i64]; omega
    by_cases hij : i = j
    · have hne : ((i : Int) == (j : Int)) = true := by simp; omega
      have hne2 : ((i : Int) != (j : Int)) = false := by simp; omega
      obtain ⟨X', U', V', Y', h1, h2, h3, h4, h5⟩ := HL.out
      have hc := hsw.out u m i dk wr hds S1.out X' U' [] V' Y' (by simpa using h1) (by omega) h3 (by simp; omega) (by omega)
      have HT : Hid (T = X' ++ (V' ++ (U' ++ Y'))) := h2
      clear h1 h2 h3 h4 h5 HL hsw
      subst hij
      go_wp2_with (go_at_fn (ρ.f 81); refine hc.mono ?_; rintro e w2 ⟨rfl, d2, hz2, hl2, S2⟩)
      go_end0
      exact ⟨rfl, d2, hz2, by rw [HT.out]; simpa using hl2, S2⟩
    · have hne : ((i : Int) == (j : Int)) = false := by simp; omega
      have hne2 : ((i : Int) != (j : Int)) = true := by simp; omega
      by_cases hgt : j < i
      · have hgtz : (j : Int) < (i : Int) := by omega
        obtain ⟨X', U', V', Y', h1, h2, h3, h4, h5⟩ := HL.out
        obtain ⟨U1, U2, rfl, hU1⟩ : ∃ U1 U2, U' = U1 ++ U2 ∧ U1.length = j := ⟨U'.take j, U'.drop j, (List.take_append_drop _ _).symm, by rw [List.length_take]; omega⟩
        rw [List.length_append] at h3
        have hc := hsw.out u m j dk wr hds S1.out X' U1 U2 V' Y' (by simpa using h1) (by omega) hU1 (by omega) h4
        obtain ⟨i2, hi2⟩ : ∃ q, q + j = i := ⟨i - j, by omega⟩
        have q2 : (i : Int) - (j : Int) = (i2 : Int) := by omega
        have v2 : IntKind.i64.wrap (i2 : Int) = (i2 : Int) := by rw [IntKind.wrap_i64]; omega
        have HT : Hid (T = X' ++ (V' ++ ((U1 ++ U2) ++ Y')) ∧ U1.length = j ∧ U2.length = i2 ∧ V'.length = j ∧ X'.length + i = m) := ⟨h2, hU1, by omega, h4, h5⟩
        clear h1 h2 h3 h4 h5 HL hU1
        go_wp2_with (go_at_fn (ρ.f 81); refine hc.mono ?_; rintro e w2 ⟨rfl, d2, hz2, hl2, S2⟩)
        have S2 : Aside _ := S2
        have HL2 : Hid _ := hl2
        clear hc hl2
        go_roundg (i2 + j)
        case measure => omega
        case rel =>
          obtain ⟨h2, t1, t2, t3, t4⟩ := HT.out
          exact ⟨i2, j, d2, rfl, rfl, by omega, hj, by omega, hjm, Nat.le_refl _, hz2, S2, (show Hid _ from ⟨X' ++ V', U2, U1, Y', by rw [HL2.out]; simp, by rw [h2]; simp, t2, t1, by simp; omega⟩)⟩
      · have hgtz : ¬ (j : Int) < (i : Int) := by omega
        obtain ⟨X', U', V', Y', h1, h2, h3, h4, h5⟩ := HL.out
        obtain ⟨V1, V2, rfl, hV2⟩ : ∃ V1 V2, V' = V1 ++ V2 ∧ V2.length = i := ⟨V'.take (j - i), V'.drop (j - i), (List.take_append_drop _ _).symm, by rw [List.length_drop]; omega⟩
        rw [List.length_append] at h4
        obtain ⟨j2, hj2⟩ : ∃ q, q + i = j := ⟨j - i, by omega⟩
        obtain ⟨y, hy⟩ : ∃ q, q = m + j2 := ⟨_, rfl⟩
        have hc := hsw.out u y i dk wr hds S1.out X' U' V1 V2 Y' (by simpa using h1) (by omega) h3 (by omega) hV2
        have q0 : IntKind.i64.wrap ((m : Int) + (j : Int)) = (m : Int) + (j : Int) := by rw [IntKind.wrap_i64]; omega
        have q3 : (m : Int) + (j : Int) - (i : Int) = (y : Int) := by omega
        have q2 : (j : Int) - (i : Int) = (j2 : Int) := by omega
        have v2 : IntKind.i64.wrap (j2 : Int) = (j2 : Int) := by rw [IntKind.wrap_i64]; omega
        have v3 : IntKind.i64.wrap (y : Int) = (y : Int) := by rw [IntKind.wrap_i64]; omega
        have HY : Hid (y = m + j2) := hy
        clear hy
        have HT : Hid (T = X' ++ ((V1 ++ V2) ++ (U' ++ Y')) ∧ V2.length = i ∧ V1.length = j2 ∧ U'.length = i ∧ X'.length + i = m) := ⟨h2, hV2, by omega, h3, h5⟩
        clear h1 h2 h3 h4 h5 HL hV2
        go_wp2_with (go_at_fn (ρ.f 81); refine hc.mono ?_; rintro e w2 ⟨rfl, d2, hz2, hl2, S2⟩)
        have S2 : Aside _ := S2
        have HL2 : Hid _ := hl2
        clear hc hl2
        go_roundg (i + j2)
        case measure => omega
        case rel =>
          obtain ⟨h2, t1, t2, t3, t4⟩ := HT.out
          exact ⟨i, j2, d2, rfl, rfl, hi, by omega, him, by omega, Nat.le_refl _, hz2, S2, (show Hid _ from ⟨X', V2, V1, U' ++ Y', HL2.out, by rw [h2]; simp, t1, t2, t4⟩)⟩

end Go.Proofs.Ytkhmaaalmlnblaa
