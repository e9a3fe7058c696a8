/- slices.symMergeCmpFunc at structs. -/
import Derived.Test.YtloeabdohgdmkaaSybZ
import Derived.Deep.CutRange
namespace Go.Proofs.Ytloeabdohgdmkaa
open Go.Shelf Go.RowKit Go.Lib Go.Sort
set_option linter.unusedVariables false
set_option linter.unusedSimpArgs false
set_option linter.unusedSectionVars false
section
variable {β : Type} [Inhabited β] (lt : β → β → Bool)
/-- what the search for the cut has found -/
theorem mer_found (W : Weak lt) {d : Array β} {X L R Z : List β} {a m b h n p s0 r0 s : Nat} (hd : d.toList = X ++ (L ++ (R ++ Z))) (ha : X.length = a) (hL : a + L.length = m) (hR : m + R.length = b) (oL : Ord lt L) (oR : Ord lt R) (hn : n = h + m) (hp : p + 1 = n) (b0 : a ≤ s0) (b1 : s0 ≤ s) (b2 : s ≤ r0) (b3 : r0 ≤ m) (b4 : r0 ≤ h) (b5 : n ≤ s0 + b) (b6 : s0 = a ∨ n = s0 + b) (b7 : r0 = m ∨ r0 = h)
    (H1 : ∀ t, s0 ≤ t → t < s → lt d[p - t]! d[t]! = false) (H2 : ∀ t, s ≤ t → t < r0 → lt d[p - t]! d[t]! = true) : mrg lt L R = mrg lt (L.take (s - a)) (R.take (n - s - m)) ++ mrg lt (L.drop (s - a)) (R.drop (n - s - m)) := by
  have gL : ∀ t (ht : t < L.length), d[a + t]! = L[t] := fun t ht => by rw [← ha]; exact sy_get hd t ht
  have gR : ∀ t (ht : t < R.length), d[m + t]! = R[t] := fun t ht => by
    have := sy_get (d := d) (X := X ++ L) (Y := R) (Z := Z) (by simpa using hd) t ht
    rw [← this]
    congr 1
    simp
    omega
  refine mer_halves lt W oL oR _ _ ?_ ?_ (by omega) (by omega)
  · intro i j hi hj e1 e2
    have := H1 (s - 1) (by omega) (by omega)
    rw [← gR j hj, ← gL i hi, show m + j = p - (s - 1) from by omega, show a + i = s - 1 from by omega]
    exact this
  · intro i j hi hj e1 e2
    have := H2 s (by omega) (by omega)
    rw [← gR j hj, ← gL i hi, show m + j = p - s from by omega, show a + i = s from by omega]
    exact this
theorem mer_down (W : Weak lt) {d : Array β} {a m b p s0 r0 : Nat} (hOL : ∀ s t, a ≤ s → s ≤ t → t < m → lt d[t]! d[s]! = false) (hOR : ∀ s t, m ≤ s → s ≤ t → t < b → lt d[t]! d[s]! = false) (b0 : a ≤ s0) (b3 : r0 ≤ m) (c1 : ∀ t, t < r0 → m ≤ p - t) (c2 : ∀ t, s0 ≤ t → p - t < b) (t u : Nat) (h1 : s0 ≤ t) (h2 : t ≤ u) (h3 : u < r0) (h : lt d[p - u]! d[u]! = false) : lt d[p - t]! d[t]! = false :=
  W.ntr _ _ _ (W.ntr _ _ _ (hOL t u (by omega) h2 (by omega)) h) (hOR (p - u) (p - t) (c1 u h3) (by omega) (c2 t h1))
end
variable {P : Program} {ρ : Ren} {α : Type} [Inhabited α]
set_option maxHeartbeats 2000000 in
set_option maxRecDepth 1000000 in
theorem syMerG (L : SyL P ρ) (k : Nat) (aE : ∀ w, (isAgg (ρ.t 24)).run P w = .ok true w) (zE : ∀ w, (Go.sizeOf (ρ.t 24)).run P w = .ok k w) (enc : α → List Value) (g : Nat) (cb : Array Value) (blk off cap : Nat) (cf : α → α → Int) (N : Nat) (d0 : Array α) (w0 : World) (R : RowK enc k w0 blk off d0) (hs : d0.size = N) (eg : ∀ args w, (callFunc g args).run P w = .ok (.enter g args) w) (hcmp : CmpLays P g cb enc k cf blk off N w0) (W : Weak (ltOf cf)) (hsz : N < 1000000000) (a m b : Nat) (d : Array α) (w : World) (hN : d.size = N) (S : SWK enc k w0 blk off d w) (X Lf Rt Z : List α) (hd : d.toList = X ++ (Lf ++ (Rt ++ Z))) (ha : X.length = a) (hL : a + Lf.length = m) (hR : m + Rt.length = b) (ham : a + 1 < m) (hmb : m + 1 < b) (oL : Ord (ltOf cf) Lf) (oR : Ord (ltOf cf) Rt)
    (IH : ∀ (a' m' b' : Nat) (d : Array α) (w : World) (X L R Z : List α), b' - a' < b - a → d.size = N → SWK enc k w0 blk off d w → d.toList = X ++ (L ++ (R ++ Z)) → X.length = a' → a' + L.length = m' → m' + R.length = b' → a' < m' → m' < b' → Ord (ltOf cf) L → Ord (ltOf cf) R → Calls P (ρ.f 79) #[.slice (some ⟨blk, off, none⟩) N cap, .int .i64 a', .int .i64 m', .int .i64 b', .func (.func g) #[] cb] w fun e w' => e = .returned (.tuple #[]) ∧ ∃ d' : Array α, d'.size = N ∧ d'.toList = X ++ (mrg (ltOf cf) L R ++ Z) ∧ SWK enc k w0 blk off d' w') :
    Calls P (ρ.f 79) #[.slice (some ⟨blk, off, none⟩) N cap, .int .i64 a, .int .i64 m, .int .i64 b, .func (.func g) #[] cb] w fun e w' => e = .returned (.tuple #[]) ∧ ∃ d' : Array α, d'.size = N ∧ d'.toList = X ++ (mrg (ltOf cf) Lf Rt ++ Z) ∧ SWK enc k w0 blk off d' w' := by
  have e80 : ∀ args w, (callFunc (ρ.f 80) args).run P w = .ok (.enter (ρ.f 80) args) w := L.f80.enters rfl
  have e79 : ∀ args w, (callFunc (ρ.f 79) args).run P w = .ok (.enter (ρ.f 79) args) w := L.f79.enters rfl
  have HROT : Aside (∀ (a m b : Nat) (d : Array α) (w : World) (hN : d.size = N) (S : SWK enc k w0 blk off d w) (X U V Z : List α) (hd : d.toList = X ++ (U ++ (V ++ Z))) (ha : X.length = a) (hU : a + U.length = m) (hV : m + V.length = b) (ham : a < m) (hmb : m < b), Calls P (ρ.f 80) #[.slice (some ⟨blk, off, none⟩) N cap, .int .i64 a, .int .i64 m, .int .i64 b, .func (.func g) #[] cb] w fun e w' => e = .returned (.tuple #[]) ∧ ∃ d' : Array α, d'.size = N ∧ d'.toList = X ++ (V ++ (U ++ Z)) ∧ SWK enc k w0 blk off d' w') := fun a m b d w hN S X U V Z hd ha hU hV ham hmb => syRot L.l20 L.f81 L.f80 k aE zE enc g cb blk off cap a m b N d0 d w0 w R hs hN S X U V Z hd ha hU hV ham hmb (by omega)
  have HIH : Aside (∀ (a' m' b' : Nat) (d : Array α) (w : World) (X L R Z : List α), b' - a' < b - a → d.size = N → SWK enc k w0 blk off d w → d.toList = X ++ (L ++ (R ++ Z)) → X.length = a' → a' + L.length = m' → m' + R.length = b' → a' < m' → m' < b' → Ord (ltOf cf) L → Ord (ltOf cf) R → Calls P (ρ.f 79) #[.slice (some ⟨blk, off, none⟩) N cap, .int .i64 a', .int .i64 m', .int .i64 b', .func (.func g) #[] cb] w fun e w' => e = .returned (.tuple #[]) ∧ ∃ d' : Array α, d'.size = N ∧ d'.toList = X ++ (mrg (ltOf cf) L R ++ Z) ∧ SWK enc k w0 blk off d' w') := IH
  have mixed := L.l20.mixed; have t0 := L.l20.t0; have a0 := L.l20.a0; have z0 := L.l20.z0; have v0 := L.l20.v0; have t3 := L.l20.t3; have a3 := L.l20.a3; have z3 := L.l20.z3; have v3 := L.l20.v3; have t4 := L.l20.t4; have a4 := L.l20.a4; have z4 := L.l20.z4; have v4 := L.l20.v4; have t22 := L.l20.t22; have a22 := L.l20.a22; have z22 := L.l20.z22; have v22 := L.l20.v22; have t25 := L.l20.t25; have a25 := L.l20.a25; have z25 := L.l20.z25; have v25 := L.l20.v25
  have t39 := L.t39; have a39 := L.a39; have z39 := L.z39; have v39 := L.v39
  obtain ⟨_, _, FG⟩ := L.f79
  have hbd : b ≤ N := by
    have := congrArg List.length hd
    simp at this
    omega
  have HC : Aside _ := hcmp
  have hOL : Hid (∀ s t, a ≤ s → s ≤ t → t < m → ltOf cf d[t]! d[s]! = false) := ord_at (ltOf cf) W (X := X) (Y := Lf) (Z := Rt ++ Z) hd oL ha hL
  have hOR : Hid (∀ s t, m ≤ s → s ≤ t → t < b → ltOf cf d[t]! d[s]! = false) := ord_at (ltOf cf) W (X := X ++ Lf) (Y := Rt) (Z := Z) (by simpa using hd) oR (by simp; omega) hR
  have HM : Hid (d.toList = X ++ (Lf ++ (Rt ++ Z)) ∧ X.length = a ∧ a + Lf.length = m ∧ m + Rt.length = b) := ⟨hd, ha, hL, hR⟩
  have HO : Hid (Ord (ltOf cf) Lf ∧ Ord (ltOf cf) Rt) := ⟨oL, oR⟩
  have HW : Hid (Weak (ltOf cf)) := W
  have HN : Hid (d.size = N) := hN
  have S0 : Aside (SWK enc k w0 blk off d w) := S
  obtain ⟨ml, hml⟩ : ∃ q, q + a = m := ⟨m - a, by omega⟩
  have q0 : (m : Int) - (a : Int) = (ml : Int) := by omega
  have q4 : IntKind.i64.wrap (ml : Int) = (ml : Int) := by rw [IntKind.wrap_i64]; omega
  have q5 : ((ml : Int) == 1) = false := beq_eq_false_iff_ne.2 (by omega)
  obtain ⟨bm, hbm⟩ : ∃ q, q + m = b := ⟨b - m, by omega⟩
  have q1 : (b : Int) - (m : Int) = (bm : Int) := by omega
  have q6 : IntKind.i64.wrap (bm : Int) = (bm : Int) := by rw [IntKind.wrap_i64]; omega
  have q7 : ((bm : Int) == 1) = false := beq_eq_false_iff_ne.2 (by omega)
  obtain ⟨h, hh⟩ : ∃ q, q = (a + b) / 2 := ⟨_, rfl⟩
  have wa1 : IntKind.i64.wrap ((a : Int) + (b : Int)) = (a : Int) + (b : Int) := by rw [IntKind.wrap_i64]; omega
  have wb1 : IntKind.u64.wrap ((a : Int) + (b : Int)) = (a : Int) + (b : Int) := by unfold IntKind.wrap; simp [IntKind.signed, IntKind.bits]; omega
  have wc1 : ((a : Int) + (b : Int)) / 2 = (h : Int) := by omega
  have wd1 : IntKind.u64.wrap (h : Int) = (h : Int) := by unfold IntKind.wrap; simp [IntKind.signed, IntKind.bits]; omega
  have we1 : IntKind.i64.wrap (h : Int) = (h : Int) := by rw [IntKind.wrap_i64]; omega
  have HH : Hid (h = (a + b) / 2) := hh
  obtain ⟨n, hn⟩ : ∃ q, q = h + m := ⟨_, rfl⟩
  have HNN : Hid (n = h + m) := hn
  have n1 : (h : Int) + (m : Int) = (n : Int) := by omega
  have n2 : IntKind.i64.wrap (n : Int) = (n : Int) := by rw [IntKind.wrap_i64]; omega
  obtain ⟨p, hp⟩ : ∃ q, q + 1 = n := ⟨n - 1, by omega⟩
  have p1 : (n : Int) - 1 = (p : Int) := by omega
  have p2 : IntKind.i64.wrap (p : Int) = (p : Int) := by rw [IntKind.wrap_i64]; omega
  have HP : Hid (p + 1 = n) := hp
  have hah : a < h := by omega
  have hhb : h < b := by omega
  have hgen : h < m → b ≤ n ∧ n ≤ h + b := by omega
  have hgn2 : ¬ h < m → n ≤ a + b ∧ a ≤ m ∧ m ≤ h := by omega
  have HG : Hid ((h < m → b ≤ n ∧ n ≤ h + b ∧ a + b ≤ n) ∧ (¬ h < m → n ≤ a + b ∧ a ≤ m ∧ m ≤ h)) := ⟨by omega, by omega⟩
  have nN : n ≤ 2 * N := by omega
  clear S hd ha hL hR oL oR hcmp W IH hh hn hp hgen hgn2 hml hbm
  go_enter FG, syB_mer_ntmps ρ
  go_upto_if 140 with fail
  clear q0 q4 q5 q1 q6 q7 wa1 wb1 wc1 wd1 we1 n1 n2
  go_cut [20, 21] from 138 to 146 (fun s20 s21 wx => ∃ s0 r0 : Nat, s20 = .int .i64 s0 ∧ s21 = .int .i64 r0 ∧ Hid (a ≤ s0 ∧ s0 ≤ r0 ∧ r0 ≤ m ∧ r0 ≤ h ∧ n ≤ s0 + b ∧ (s0 = a ∨ n = s0 + b) ∧ (r0 = m ∨ r0 = h)) ∧ wx = w)
  case first =>
    clear S0 p1 p2
    by_cases hg : h < m
    · have hgz : (h : Int) < (m : Int) := by omega
      have hgd : decide ((h : Int) < (m : Int)) = true := decide_eq_true hgz
      obtain ⟨g1, g2, g3⟩ := HG.out.1 hg
      obtain ⟨s0, hs0⟩ : ∃ q, q + b = n := ⟨n - b, by omega⟩
      have q1 : (n : Int) - (b : Int) = (s0 : Int) := by omega
      have q2 : IntKind.i64.wrap (s0 : Int) = (s0 : Int) := by rw [IntKind.wrap_i64]; omega
      have HS : Hid (s0 + b = n) := hs0
      clear hs0
      go_wp2
      go_meet
      case rel => exact ⟨s0, h, rfl, rfl, (show Hid _ from by have := HS.out; show _ ∧ _; omega), rfl⟩
    · have hgz : ¬ (h : Int) < (m : Int) := by omega
      have hgd : decide ((h : Int) < (m : Int)) = false := decide_eq_false hgz
      obtain ⟨g1, g2, g3⟩ := HG.out.2 hg
      go_wp2
      go_meet
      case rel => exact ⟨a, m, rfl, rfl, (show Hid _ from by show _ ∧ _; omega), rfl⟩
  case rest =>
    obtain ⟨s0, r0, rfl, rfl, HB, hwc⟩ := hcut
    subst hwc
    have HD : Hid (∀ t u, s0 ≤ t → t ≤ u → u < r0 → ltOf cf d[p - u]! d[u]! = false → ltOf cf d[p - t]! d[t]! = false) := by
      obtain ⟨b0, b1, b3, b4, b5, b6, b7⟩ := HB.out
      have e1 := HP.out
      have e2 := HNN.out
      exact fun t u h1 h2 h3 h4 => mer_down (ltOf cf) HW.out (a := a) (m := m) (b := b) (p := p) (s0 := s0) (r0 := r0) hOL.out hOR.out b0 b3 (fun t ht => by omega) (fun t ht => by omega) t u h1 h2 h3 h4
    go_wp2
    clear p1 p2
    go_loopg [20, 21] (r0 - s0) (fun kx s10 s11 wr => ∃ s r : Nat, s10 = .int .i64 s ∧ s11 = .int .i64 r ∧ s0 ≤ s ∧ s ≤ r ∧ r ≤ r0 ∧ r - s ≤ kx ∧ Aside (SWK enc k w0 blk off d wr) ∧ Hid (∀ t, s0 ≤ t → t < s → ltOf cf d[p - t]! d[t]! = false) ∧ Hid (∀ t, r ≤ t → t < r0 → ltOf cf d[p - t]! d[t]! = true))
    case atStart => exact ⟨s0, r0, rfl, rfl, Nat.le_refl _, HB.out.2.1, Nat.le_refl _, Nat.le_refl _, S0, fun t h1 h2 => by omega, fun t h1 h2 => by omega⟩
    case round =>
      clear S0
      obtain ⟨s, r, rfl, rfl, h1, h2, h3, hkx, S1, H1, H2⟩ := hrel
      by_cases hlt : s < r
      · have hltz : (s : Int) < (r : Int) := by omega
        obtain ⟨b0, b1, b3, b4, b5, -, -⟩ := HB.out
        have e1 := HP.out
        have e2 := HNN.out
        obtain ⟨c, hc⟩ : ∃ q, q = (s + r) / 2 := ⟨_, rfl⟩
        have wa2 : IntKind.i64.wrap ((s : Int) + (r : Int)) = (s : Int) + (r : Int) := by rw [IntKind.wrap_i64]; omega
        have wb2 : IntKind.u64.wrap ((s : Int) + (r : Int)) = (s : Int) + (r : Int) := by unfold IntKind.wrap; simp [IntKind.signed, IntKind.bits]; omega
        have wc2 : ((s : Int) + (r : Int)) / 2 = (c : Int) := by omega
        have wd2 : IntKind.u64.wrap (c : Int) = (c : Int) := by unfold IntKind.wrap; simp [IntKind.signed, IntKind.bits]; omega
        have we2 : IntKind.i64.wrap (c : Int) = (c : Int) := by rw [IntKind.wrap_i64]; omega
        have HCC : Hid (c = (s + r) / 2) := hc
        have m1 : s ≤ c := by omega
        have m2 : c < r := by omega
        obtain ⟨e, he⟩ : ∃ q, q + c = p := ⟨p - c, by omega⟩
        have v1 : (p : Int) - (c : Int) = (e : Int) := by omega
        have v2 : IntKind.i64.wrap (e : Int) = (e : Int) := by rw [IntKind.wrap_i64]; omega
        have eN : e < N := by omega
        have cN : c < N := by omega
        have HE : Hid (p - c = e) := by show _ = _; omega
        clear hc he e1 e2 b0 b1 b3 b4 b5
        go_upto_region 35 with fail
        cases hlv : (ltOf cf) d[e]! d[c]! with
        | true =>
          have ea44 : ((e : Int)).toNat = e := by omega
          have pa44 : (0 : Int) ≤ (e : Int) := by omega
          have ba44 : (e : Int) < (N : Int) := by omega
          have ra44 : IntKind.i64.wrap ((e : Int)) = (e : Int) := by rw [IntKind.wrap_i64]; omega
          have ec44 : ((c : Int)).toNat = c := by omega
          have pc44 : (0 : Int) ≤ (c : Int) := by omega
          have bc44 : (c : Int) < (N : Int) := by omega
          have rc44 : IntKind.i64.wrap ((c : Int)) = (c : Int) := by rw [IntKind.wrap_i64]; omega
          obtain ⟨x44, hx44⟩ : ∃ x, x = d[e]! := ⟨_, rfl⟩
          obtain ⟨y44, hy44⟩ : ∃ x, x = d[c]! := ⟨_, rfl⟩
          have l44a := S1.out.ld R (by omega) P (e) (by omega)
          have l44b := S1.out.ld R (by omega) P (c) (by omega)
          rw [← hx44] at l44a
          rw [← hy44] at l44b
          have hc44 := S1.out.cmp HC.out (by omega) x44 y44
          have hv44 : cf x44 y44 < 0 := by rw [hx44, hy44]; exact of_decide_eq_true hlv
          have hd44 : decide (cf x44 y44 < 0) = true := decide_eq_true hv44
          clear hx44 hy44
          go_wp2_with fail
          go_quiet_grown (first | (go_at_fn g; refine Calls.grown_of (hc44 _ _)))
          have S2 : Aside (SWK enc k w0 blk off d (grow (wr.drewN nq) osq)) := S1.out.grown nq osq
          clear l44a l44b hc44 S1
          generalize grow (wr.drewN nq) osq = w2 at S2 ⊢
          clear nq osq
          go_wp2
          go_roundg (c - s)
          case measure => omega
          case rel =>
            refine ⟨s, c, rfl, by first | rfl | go_num, h1, m1, by omega, Nat.le_refl _, S2, H1, (show Hid _ from ?_)⟩
            intro t t1 t2
            cases hq : ltOf cf d[p - t]! d[t]! with
            | true => rfl
            | false =>
              have := HD.out c t (by omega) t1 t2 hq
              rw [HE.out, hlv] at this
              cases this
        | false =>
          have ea45 : ((e : Int)).toNat = e := by omega
          have pa45 : (0 : Int) ≤ (e : Int) := by omega
          have ba45 : (e : Int) < (N : Int) := by omega
          have ra45 : IntKind.i64.wrap ((e : Int)) = (e : Int) := by rw [IntKind.wrap_i64]; omega
          have ec45 : ((c : Int)).toNat = c := by omega
          have pc45 : (0 : Int) ≤ (c : Int) := by omega
          have bc45 : (c : Int) < (N : Int) := by omega
          have rc45 : IntKind.i64.wrap ((c : Int)) = (c : Int) := by rw [IntKind.wrap_i64]; omega
          obtain ⟨x45, hx45⟩ : ∃ x, x = d[e]! := ⟨_, rfl⟩
          obtain ⟨y45, hy45⟩ : ∃ x, x = d[c]! := ⟨_, rfl⟩
          have l45a := S1.out.ld R (by omega) P (e) (by omega)
          have l45b := S1.out.ld R (by omega) P (c) (by omega)
          rw [← hx45] at l45a
          rw [← hy45] at l45b
          have hc45 := S1.out.cmp HC.out (by omega) x45 y45
          have hv45 : ¬ cf x45 y45 < 0 := by rw [hx45, hy45]; exact of_decide_eq_false hlv
          have hd45 : decide (cf x45 y45 < 0) = false := decide_eq_false hv45
          clear hx45 hy45
          go_wp2_with fail
          go_quiet_grown (first | (go_at_fn g; refine Calls.grown_of (hc45 _ _)))
          have S2 : Aside (SWK enc k w0 blk off d (grow (wr.drewN nq) osq)) := S1.out.grown nq osq
          clear l45a l45b hc45 S1
          generalize grow (wr.drewN nq) osq = w2 at S2 ⊢
          clear nq osq
          go_wp2
          go_roundg (r - (c + 1))
          case measure => omega
          case rel =>
            refine ⟨c + 1, r, by first | rfl | go_num, rfl, by omega, by omega, h3, Nat.le_refl _, S2, (show Hid _ from ?_), H2⟩
            intro t t1 t2
            exact HD.out t c t1 (by omega) (by omega) (by rw [HE.out]; exact hlv)
      · have hltz : ¬ (s : Int) < (r : Int) := by omega
        have e : r = s := by omega
        subst e
        obtain ⟨b0, b1, b3, b4, b5, b6, b7⟩ := HB.out
        have e1 := HP.out
        have e2 := HNN.out
        obtain ⟨m1, m2, m3, m4⟩ := HM.out
        have key := mer_found (ltOf cf) HW.out m1 m2 m3 m4 HO.out.1 HO.out.2 e2 e1 b0 h1 h3 b3 b4 b5 b6 b7 H1.out H2.out
        obtain ⟨en, hen⟩ : ∃ q, q + r = n := ⟨n - r, by omega⟩
        obtain ⟨L1, hL1⟩ : ∃ l, Lf.take (r - a) = l := ⟨_, rfl⟩
        obtain ⟨L2, hL2⟩ : ∃ l, Lf.drop (r - a) = l := ⟨_, rfl⟩
        obtain ⟨R1, hR1⟩ : ∃ l, Rt.take (n - r - m) = l := ⟨_, rfl⟩
        obtain ⟨R2, hR2⟩ : ∃ l, Rt.drop (n - r - m) = l := ⟨_, rfl⟩
        have jL : Lf = L1 ++ L2 := by rw [← hL1, ← hL2, List.take_append_drop]
        have jR : Rt = R1 ++ R2 := by rw [← hR1, ← hR2, List.take_append_drop]
        have k1 : a + L1.length = r := by rw [← hL1, List.length_take]; omega
        have k2 : r + L2.length = m := by rw [← hL2, List.length_drop]; omega
        have k3 : m + R1.length = en := by rw [← hR1, List.length_take]; omega
        have k4 : en + R2.length = b := by rw [← hR2, List.length_drop]; omega
        rw [hL1, hL2, hR1, hR2] at key
        have HKEY : Hid _ := key
        have o1 : Ord (ltOf cf) L1 := by rw [← hL1]; exact HO.out.1.sublist (List.take_sublist _ _)
        have o2 : Ord (ltOf cf) L2 := by rw [← hL2]; exact HO.out.1.sublist (List.drop_sublist _ _)
        have o3 : Ord (ltOf cf) R1 := by rw [← hR1]; exact HO.out.2.sublist (List.take_sublist _ _)
        have o4 : Ord (ltOf cf) R2 := by rw [← hR2]; exact HO.out.2.sublist (List.drop_sublist _ _)
        have HL : Hid (d.toList = X ++ (L1 ++ (L2 ++ (R1 ++ (R2 ++ Z)))) ∧ X.length = a ∧ a + L1.length = r ∧ r + L2.length = m ∧ m + R1.length = en ∧ en + R2.length = b) := ⟨by rw [m1, jL, jR]; simp, m2, k1, k2, k3, k4⟩
        have HOO : Hid (Ord (ltOf cf) L1 ∧ Ord (ltOf cf) L2 ∧ Ord (ltOf cf) R1 ∧ Ord (ltOf cf) R2) := ⟨o1, o2, o3, o4⟩
        have v1 : (n : Int) - (r : Int) = (en : Int) := by omega
        have v2 : IntKind.i64.wrap (en : Int) = (en : Int) := by rw [IntKind.wrap_i64]; omega
        have HEN : Hid (en + r = n ∧ n = h + m) := ⟨hen, e2⟩
        have hmen : m ≤ en := by omega
        have hrh : r ≤ h := by omega
        have har : a ≤ r := by omega
        clear b0 b1 b3 b4 b5 b6 b7 e1 e2 m1 m2 m3 m4 key hen hL1 hL2 hR1 hR2 jL jR k1 k2 k3 k4 o1 o2 o3 o4 HM HO HD H1 H2 hOL hOR
        go_upto_region 39 with fail
        clear v1 v2
        go_cut [185] from 178 to 185 (fun s185 wx => ∃ B : Bool, s185 = .bool B ∧ Hid (B = decide (r < m ∧ m < en)) ∧ wx = wr)
        case first =>
          by_cases c1 : r < m
          · have z1 : (r : Int) < (m : Int) := by omega
            have y1 : decide ((r : Int) < (m : Int)) = true := decide_eq_true z1
            by_cases c2 : m < en
            · have z2 : (m : Int) < (en : Int) := by omega
              have y2 : decide ((m : Int) < (en : Int)) = true := decide_eq_true z2
              go_wp2
              go_meet
              case rel => exact ⟨true, rfl, (show Hid _ from by show _ = _; simp; omega), rfl⟩
            · have z2 : ¬ (m : Int) < (en : Int) := by omega
              have y2 : decide ((m : Int) < (en : Int)) = false := decide_eq_false z2
              go_wp2
              go_meet
              case rel => exact ⟨false, rfl, (show Hid _ from by show _ = _; simp; omega), rfl⟩
          · have z1 : ¬ (r : Int) < (m : Int) := by omega
            have y1 : decide ((r : Int) < (m : Int)) = false := decide_eq_false z1
            go_wp2
            go_meet
            case rel => exact ⟨false, rfl, (show Hid _ from by show _ = _; simp; omega), rfl⟩
        case rest =>
          obtain ⟨B, rfl, HBB, hwc⟩ := hcut
          subst hwc
          go_upto_if 185 with fail
          go_cut [] from 178 to 191 (fun wx => ∃ d2 : Array α, d2.size = N ∧ Hid (d2.toList = X ++ (L1 ++ (R1 ++ (L2 ++ (R2 ++ Z))))) ∧ Aside (SWK enc k w0 blk off d2 wx))
          case first =>
            obtain ⟨x1, x2, x3, x4, x5, x6⟩ := HL.out
            cases B with
            | true =>
              have hc := of_decide_eq_true HBB.out.symm
              have hrot := HROT.out r m en d wc HN.out S1.out (X ++ L1) L2 R1 (R2 ++ Z) (by simpa using x1) (by simp; omega) x4 x5 (by omega) (by omega)
              clear x1 x2 x3 x4 x5 x6
              go_wp2_with (go_at_fn (ρ.f 80); refine hrot.mono ?_; rintro e w4 ⟨rfl, d2, hz2, hl2, S2⟩)
              go_meet
              case rel => exact ⟨d2, hz2, (show Hid _ from by show _ = _; simpa using hl2), S2⟩
            | false =>
              have hc := of_decide_eq_false HBB.out.symm
              have hl2 : L2 = [] ∨ R1 = [] := by
                by_cases c1 : r < m
                · right; exact List.eq_nil_of_length_eq_zero (by omega)
                · left; exact List.eq_nil_of_length_eq_zero (by omega)
              have hq : L2 ++ (R1 ++ (R2 ++ Z)) = R1 ++ (L2 ++ (R2 ++ Z)) := by
                rcases hl2 with e | e
                · rw [e]; simp
                · rw [e]; simp
              have HQ : Hid (d.toList = X ++ (L1 ++ (R1 ++ (L2 ++ (R2 ++ Z))))) := by show _ = _; rw [x1, hq]
              clear x1 x2 x3 x4 x5 x6 hl2 hq
              go_wp2
              go_meet
              case rel => exact ⟨d, HN.out, HQ, S1⟩
          case rest =>
            clear S1
            obtain ⟨d2, hz2, HL2, S2⟩ := hcut
            obtain ⟨w5, hw5⟩ : ∃ y : World, y = wc := ⟨_, rfl⟩
            rw [← hw5] at S2 ⊢
            clear hw5
            go_upto_region 41 with fail
            go_cut [199] from 192 to 199 (fun s185 wx => ∃ B : Bool, s185 = .bool B ∧ Hid (B = decide (a < r ∧ r < h)) ∧ wx = w5)
            case first =>
              by_cases c1 : a < r
              · have z1 : (a : Int) < (r : Int) := by omega
                have y1 : decide ((a : Int) < (r : Int)) = true := decide_eq_true z1
                by_cases c2 : r < h
                · have z2 : (r : Int) < (h : Int) := by omega
                  have y2 : decide ((r : Int) < (h : Int)) = true := decide_eq_true z2
                  go_wp2
                  go_meet
                  case rel => exact ⟨true, rfl, (show Hid _ from by show _ = _; simp; omega), rfl⟩
                · have z2 : ¬ (r : Int) < (h : Int) := by omega
                  have y2 : decide ((r : Int) < (h : Int)) = false := decide_eq_false z2
                  go_wp2
                  go_meet
                  case rel => exact ⟨false, rfl, (show Hid _ from by show _ = _; simp; omega), rfl⟩
              · have z1 : ¬ (a : Int) < (r : Int) := by omega
                have y1 : decide ((a : Int) < (r : Int)) = false := decide_eq_false z1
                go_wp2
                go_meet
                case rel => exact ⟨false, rfl, (show Hid _ from by show _ = _; simp; omega), rfl⟩
            case rest =>
              obtain ⟨B2, rfl, HBB2, hwc⟩ := hcut
              subst hwc
              go_upto_if 199 with fail
              go_cut [] from 192 to 205 (fun wx => ∃ d3 : Array α, d3.size = N ∧ Hid (d3.toList = X ++ (mrg (ltOf cf) L1 R1 ++ (L2 ++ (R2 ++ Z)))) ∧ Aside (SWK enc k w0 blk off d3 wx))
              case first =>
                obtain ⟨x1, x2, x3, x4, x5, x6⟩ := HL.out
                obtain ⟨g1, g2⟩ := HEN.out
                cases B2 with
                | true =>
                  have hc := of_decide_eq_true HBB2.out.symm
                  have hrec := HIH.out a r h d2 wc X L1 R1 (L2 ++ (R2 ++ Z)) (by omega) hz2 S2.out HL2.out x2 x3 (by omega) hc.1 hc.2 HOO.out.1 HOO.out.2.2.1
                  clear x1 x2 x3 x4 x5 x6 g1 g2
                  go_wp2_with (go_at_fn (ρ.f 79); refine hrec.mono ?_; rintro e w6 ⟨rfl, d3, hz3, hl3, S3⟩)
                  go_meet
                  case rel => exact ⟨d3, hz3, hl3, S3⟩
                | false =>
                  have hc := of_decide_eq_false HBB2.out.symm
                  have hl2 : L1 = [] ∨ R1 = [] := by
                    by_cases c1 : a < r
                    · right; exact List.eq_nil_of_length_eq_zero (by omega)
                    · left; exact List.eq_nil_of_length_eq_zero (by omega)
                  have hq : mrg (ltOf cf) L1 R1 = L1 ++ R1 := by
                    rcases hl2 with e | e
                    · rw [e, mrg_nilL]; rfl
                    · rw [e, mrg_nilR]; simp
                  have HQ : Hid (d2.toList = X ++ (mrg (ltOf cf) L1 R1 ++ (L2 ++ (R2 ++ Z)))) := by show _ = _; rw [HL2.out, hq]; simp
                  clear x1 x2 x3 x4 x5 x6 hl2 hq g1 g2
                  go_wp2
                  go_meet
                  case rel => exact ⟨d2, hz2, HQ, S2⟩
              case rest =>
                clear S2
                obtain ⟨d3, hz3, HL3, S3⟩ := hcut
                obtain ⟨w7, hw7⟩ : ∃ y : World, y = wc := ⟨_, rfl⟩
                rw [← hw7] at S3 ⊢
                clear hw7
                obtain ⟨x1, x2, x3, x4, x5, x6⟩ := HL.out
                obtain ⟨g1, g2⟩ := HEN.out
                have hh1 := mrg_len (ltOf cf) L1 R1
                by_cases c1 : h < en
                · have z1 : (h : Int) < (en : Int) := by omega
                  have y1 : decide ((h : Int) < (en : Int)) = true := decide_eq_true z1
                  by_cases c2 : en < b
                  · have z2 : (en : Int) < (b : Int) := by omega
                    have y2 : decide ((en : Int) < (b : Int)) = true := decide_eq_true z2
                    have hrec := HIH.out h en b d3 w7 (X ++ mrg (ltOf cf) L1 R1) L2 R2 Z (by omega) hz3 S3.out (by rw [HL3.out]; simp) (by simp; omega) (by omega) x6 c1 c2 HOO.out.2.1 HOO.out.2.2.2
                    clear x1 x2 x3 x4 x5 x6 g1 g2 hh1
                    go_wp2_with (go_at_fn (ρ.f 79); refine hrec.mono ?_; rintro e w8 ⟨rfl, d4, hz4, hl4, S4⟩)
                    go_end0
                    exact ⟨rfl, d4, hz4, by rw [HKEY.out, hl4]; simp, S4⟩
                  · have z2 : ¬ (en : Int) < (b : Int) := by omega
                    have y2 : decide ((en : Int) < (b : Int)) = false := decide_eq_false z2
                    have er : R2 = [] := List.eq_nil_of_length_eq_zero (by omega)
                    clear x1 x2 x3 x4 x5 x6 g1 g2 hh1
                    go_wp2
                    go_end0
                    exact ⟨rfl, d3, hz3, by rw [HKEY.out, HL3.out, er, mrg_nilR]; simp, S3.out⟩
                · have z1 : ¬ (h : Int) < (en : Int) := by omega
                  have y1 : decide ((h : Int) < (en : Int)) = false := decide_eq_false z1
                  have er : L2 = [] := List.eq_nil_of_length_eq_zero (by omega)
                  clear x1 x2 x3 x4 x5 x6 g1 g2 hh1
                  go_wp2
                  go_end0
                  exact ⟨rfl, d3, hz3, by rw [HKEY.out, HL3.out, er, mrg_nilL]; simp, S3.out⟩

theorem syMer (L : SyL P ρ) (k : Nat) (aE : ∀ w, (isAgg (ρ.t 24)).run P w = .ok true w) (zE : ∀ w, (Go.sizeOf (ρ.t 24)).run P w = .ok k w) (enc : α → List Value) (g : Nat) (cb : Array Value) (blk off cap : Nat) (cf : α → α → Int) (N : Nat) (d0 : Array α) (w0 : World) (R : RowK enc k w0 blk off d0) (hs : d0.size = N) (eg : ∀ args w, (callFunc g args).run P w = .ok (.enter g args) w) (hcmp : CmpLays P g cb enc k cf blk off N w0) (W : Weak (ltOf cf)) (hsz : N < 1000000000) : ∀ (f a m b : Nat) (d : Array α) (w : World) (X L R Z : List α), b - a ≤ f → d.size = N → SWK enc k w0 blk off d w → d.toList = X ++ (L ++ (R ++ Z)) → X.length = a → a + L.length = m → m + R.length = b → a < m → m < b → Ord (ltOf cf) L → Ord (ltOf cf) R → Calls P (ρ.f 79) #[.slice (some ⟨blk, off, none⟩) N cap, .int .i64 a, .int .i64 m, .int .i64 b, .func (.func g) #[] cb] w fun e w' => e = .returned (.tuple #[]) ∧ ∃ d' : Array α, d'.size = N ∧ d'.toList = X ++ (mrg (ltOf cf) L R ++ Z) ∧ SWK enc k w0 blk off d' w' := by
  intro f
  induction f with
  | zero => intros; omega
  | succ f ih =>
    intro a m b d w X L' R' Z hf hN S hd ha hL hR ham hmb oL oR
    by_cases h1 : m = a + 1
    · obtain ⟨x, rfl⟩ : ∃ x, L' = [x] := List.length_eq_one_iff.1 (by omega)
      exact syMerL L k aE zE enc g cb blk off cap cf N d0 w0 R hs eg hcmp W hsz a m b d w hN S X R' Z x hd ha h1.symm hR hmb oR
    · by_cases h2 : b = m + 1
      · obtain ⟨y, rfl⟩ : ∃ x, R' = [x] := List.length_eq_one_iff.1 (by omega)
        exact syMerR L k aE zE enc g cb blk off cap cf N d0 w0 R hs eg hcmp W hsz a m b d w hN S X L' Z y hd ha hL h2.symm (by omega) oL
      · exact syMerG L k aE zE enc g cb blk off cap cf N d0 w0 R hs eg hcmp W hsz a m b d w hN S X L' R' Z hd ha hL hR (by omega) (by omega) oL oR (fun a' m' b' d w X L R Z h => ih a' m' b' d w X L R Z (by omega))

end Go.Proofs.Ytloeabdohgdmkaa
