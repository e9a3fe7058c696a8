/- slices.stableCmpFunc at structs. -/
import Derived.Test.YtloeabdohgdmkaaSymGZ
import Derived.Deep.CutRange
import Derived.Test.YtloeabdohgdmkaaBsZ
import Derived.Test.YtloeabdohgdmkaaBeZ
namespace Go.Proofs.Ytloeabdohgdmkaa
open Go.Shelf Go.RowKit Go.Lib Go.Sort
set_option linter.unusedVariables false
set_option linter.unusedSimpArgs false
set_option linter.unusedSectionVars false
section
variable {β : Type} (lt : β → β → Bool)
/-- a row put in order block by block -/
def chs (bs : Nat) (l : List β) : List β := if 0 < bs ∧ bs ≤ l.length then srt lt (l.take bs) ++ chs bs (l.drop bs) else srt lt l
termination_by l.length
decreasing_by rw [List.length_drop]; omega
theorem chs_more {bs : Nat} {l : List β} (h0 : 0 < bs) (h : bs ≤ l.length) : chs lt bs l = srt lt (l.take bs) ++ chs lt bs (l.drop bs) := by rw [chs, if_pos ⟨h0, h⟩]
theorem chs_end {bs : Nat} {l : List β} (h : l.length < bs) : chs lt bs l = srt lt l := by rw [chs, if_neg (by omega)]
theorem chs_one {bs : Nat} {l : List β} (h0 : 0 < bs) (h : l.length ≤ bs) : chs lt bs l = srt lt l := by
  by_cases h1 : l.length < bs
  · exact chs_end lt h1
  · rw [chs_more lt h0 (by omega), chs_end lt (by rw [List.length_drop]; omega), List.take_of_length_le (by omega), List.drop_of_length_le (by omega)]
    simp [srt]
theorem chs_two (W : Weak lt) {bs : Nat} {l : List β} (h0 : 0 < bs) (h : 2 * bs ≤ l.length) : chs lt bs l = srt lt (l.take bs) ++ (srt lt ((l.drop bs).take bs) ++ chs lt bs (l.drop (2 * bs))) ∧ chs lt (2 * bs) l = mrg lt (srt lt (l.take bs)) (srt lt ((l.drop bs).take bs)) ++ chs lt (2 * bs) (l.drop (2 * bs)) := by
  refine ⟨?_, ?_⟩
  · rw [chs_more lt h0 (by omega), chs_more lt h0 (by rw [List.length_drop]; omega), List.drop_drop, show bs + bs = 2 * bs from by omega]
  · rw [chs_more lt (by omega) h, ← srt_blocks lt W, ← List.take_add, show bs + bs = 2 * bs from by omega]
theorem chs_last (W : Weak lt) {bs : Nat} {l : List β} (h0 : 0 < bs) (h : bs < l.length) (h2 : l.length < 2 * bs) : chs lt bs l = srt lt (l.take bs) ++ srt lt (l.drop bs) ∧ chs lt (2 * bs) l = mrg lt (srt lt (l.take bs)) (srt lt (l.drop bs)) := by
  refine ⟨?_, ?_⟩
  · rw [chs_more lt h0 (by omega), chs_end lt (by rw [List.length_drop]; omega)]
  · rw [chs_end lt h2, ← srt_blocks lt W, List.take_append_drop]
end
variable {P : Program} {ρ : Ren} {α : Type} [Inhabited α]
set_option maxHeartbeats 2000000 in
set_option maxRecDepth 1000000 in
theorem syIns (L : SyL P ρ) (k : Nat) (aE : ∀ w, (isAgg (ρ.t 24)).run P w = .ok true w) (zE : ∀ w, (Go.sizeOf (ρ.t 24)).run P w = .ok k w) (enc : α → List Value) (g : Nat) (cb : Array Value) (blk off cap : Nat) (cf : α → α → Int) (N : Nat) (d0 : Array α) (w0 : World) (R : RowK enc k w0 blk off d0) (hs : d0.size = N) (eg : ∀ args w, (callFunc g args).run P w = .ok (.enter g args) w) (hcmp : CmpLays P g cb enc k cf blk off N w0) (W : Weak (ltOf cf)) (hsz : N < 1000000000) (a b : Nat) (d : Array α) (w : World) (hN : d.size = N) (S : SWK enc k w0 blk off d w) (X A Z : List α) (hd : d.toList = X ++ (A ++ Z)) (ha : X.length = a) (hb : a + A.length = b) :
    Calls P (ρ.f 20) #[.slice (some ⟨blk, off, none⟩) N cap, .int .i64 a, .int .i64 b, .func (.func g) #[] cb] w fun e w' => e = .returned (.tuple #[]) ∧ ∃ d' : Array α, d'.size = N ∧ d'.toList = X ++ (srt (ltOf cf) A ++ Z) ∧ SWK enc k w0 blk off d' w' := by
  have hbd : b ≤ d.size := by
    have := congrArg List.length hd
    simp at this
    omega
  have hc : CmpLays P g cb enc k cf blk off d.size w := by
    intro n os dk hk x y
    obtain ⟨n', os', e⟩ := S.on R.hblk n dk os hk
    rw [e]
    exact hcmp n' os' dk (by omega) x y
  have := AnyQ.insertionSortCmpFunc L.l20 k aE zE enc R.hk R.h1 cf g cb blk off cap a b d w eg hc (S.holds R.hblk R.hH (by omega)) (S.lt R.hblk) (by omega) hbd (by omega)
  rw [hN] at this
  refine this.mono ?_
  rintro e w' ⟨rfl, n, os, rfl⟩
  refine ⟨rfl, _, (seg_size (ltOf cf) d a b).trans hN, ?_, S.on R.hblk n _ os (seg_size (ltOf cf) d a b)⟩
  have h2 := seg_sort (ltOf cf) X A Z d b hd (by omega)
  rw [ha] at h2
  exact h2

set_option maxHeartbeats 2000000 in
set_option maxRecDepth 1000000 in
theorem syStb (L : SyL P ρ) (k : Nat) (aE : ∀ w, (isAgg (ρ.t 24)).run P w = .ok true w) (zE : ∀ w, (Go.sizeOf (ρ.t 24)).run P w = .ok k w) (enc : α → List Value) (g : Nat) (cb : Array Value) (blk off cap : Nat) (cf : α → α → Int) (N : Nat) (d0 : Array α) (w0 : World) (R : RowK enc k w0 blk off d0) (hs : d0.size = N) (eg : ∀ args w, (callFunc g args).run P w = .ok (.enter g args) w) (hcmp : CmpLays P g cb enc k cf blk off N w0) (W : Weak (ltOf cf)) (hsz : N < 1000000000) (d : Array α) (w : World) (hN : d.size = N) (S : SWK enc k w0 blk off d w) :
    Calls P (ρ.f 77) #[.slice (some ⟨blk, off, none⟩) N cap, .int .i64 N, .func (.func g) #[] cb] w fun e w' => e = .returned (.tuple #[]) ∧ ∃ d' : Array α, d'.size = N ∧ d'.toList = srt (ltOf cf) d.toList ∧ SWK enc k w0 blk off d' w' := by
  have e79 : ∀ args w, (callFunc (ρ.f 79) args).run P w = .ok (.enter (ρ.f 79) args) w := L.f79.enters rfl
  have e20 : ∀ args w, (callFunc (ρ.f 20) args).run P w = .ok (.enter (ρ.f 20) args) w := (show Bears P (ρ.f 20) _ from L.l20.f20).enters rfl
  have HI : Aside (∀ (a b : Nat) (d : Array α) (w : World) (X A Z : List α), d.size = N → SWK enc k w0 blk off d w → d.toList = X ++ (A ++ Z) → X.length = a → a + A.length = b → Calls P (ρ.f 20) #[.slice (some ⟨blk, off, none⟩) N cap, .int .i64 a, .int .i64 b, .func (.func g) #[] cb] w fun e w' => e = .returned (.tuple #[]) ∧ ∃ d' : Array α, d'.size = N ∧ d'.toList = X ++ (srt (ltOf cf) A ++ Z) ∧ SWK enc k w0 blk off d' w') := fun a b d w X A Z h1 h2 h3 h4 h5 => syIns L k aE zE enc g cb blk off cap cf N d0 w0 R hs eg hcmp W hsz a b d w h1 h2 X A Z h3 h4 h5
  have HMG : Aside (∀ (a m b : Nat) (d : Array α) (w : World) (X L R Z : List α), d.size = N → SWK enc k w0 blk off d w → d.toList = X ++ (L ++ (R ++ Z)) → X.length = a → a + L.length = m → m + R.length = b → a < m → m < b → Ord (ltOf cf) L → Ord (ltOf cf) R → Calls P (ρ.f 79) #[.slice (some ⟨blk, off, none⟩) N cap, .int .i64 a, .int .i64 m, .int .i64 b, .func (.func g) #[] cb] w fun e w' => e = .returned (.tuple #[]) ∧ ∃ d' : Array α, d'.size = N ∧ d'.toList = X ++ (mrg (ltOf cf) L R ++ Z) ∧ SWK enc k w0 blk off d' w') := fun a m b d w X L' R' Z h1 h2 h3 h4 h5 h6 h7 h8 h9 h10 => syMer L k aE zE enc g cb blk off cap cf N d0 w0 R hs eg hcmp W hsz (b - a) a m b d w X L' R' Z (Nat.le_refl _) h1 h2 h3 h4 h5 h6 h7 h8 h9 h10
  have mixed := L.l20.mixed; have t0 := L.l20.t0; have a0 := L.l20.a0; have z0 := L.l20.z0; have v0 := L.l20.v0; have t3 := L.l20.t3; have a3 := L.l20.a3; have z3 := L.l20.z3; have v3 := L.l20.v3; have t4 := L.l20.t4; have a4 := L.l20.a4; have z4 := L.l20.z4; have v4 := L.l20.v4; have t22 := L.l20.t22; have a22 := L.l20.a22; have z22 := L.l20.z22; have v22 := L.l20.v22; have t25 := L.l20.t25; have a25 := L.l20.a25; have z25 := L.l20.z25; have v25 := L.l20.v25
  have t39 := L.t39; have a39 := L.a39; have z39 := L.z39; have v39 := L.v39
  obtain ⟨_, _, FG⟩ := L.f77
  have HW : Hid (Weak (ltOf cf)) := W
  obtain ⟨ls, hls⟩ : ∃ l, d.toList = l := ⟨_, rfl⟩
  have HLS : Hid (d.toList = ls ∧ ls.length = N) := ⟨hls, by rw [← hls]; simpa using hN⟩
  have HT : Hid (d.toList = ls) := hls
  have HN : Hid (d.size = N) := hN
  have S0 : Aside (SWK enc k w0 blk off d w) := S
  clear S hcmp W hN hls
  go_enter FG, syB_stb_ntmps ρ
  go_wp2
  go_loopg [7, 8] N (fun kx s7 s8 wr => ∃ (a b : Nat) (dk : Array α), s7 = .int .i64 a ∧ s8 = .int .i64 b ∧ b = a + 20 ∧ a ≤ N ∧ N - a ≤ kx ∧ dk.size = N ∧ Aside (SWK enc k w0 blk off dk wr) ∧ Hid (∃ X Y, dk.toList = X ++ Y ∧ X.length = a ∧ a + Y.length = N ∧ X ++ chs (ltOf cf) 20 Y = chs (ltOf cf) 20 ls))
  case atStart => exact ⟨0, 20, d, rfl, rfl, rfl, Nat.zero_le _, Nat.le_refl _, HN.out, S0, [], ls, HLS.out.1, rfl, by have := HLS.out.2; omega, rfl⟩
  case round =>
    clear S0
    obtain ⟨a, b, dk, rfl, rfl, hab, haN, hkx, hds, S1, HL⟩ := hrel
    have HAB : Hid (b = a + 20) := hab
    obtain ⟨X, Y, y1, y2, y3, y4⟩ := HL.out
    clear HL
    by_cases hle : b ≤ N
    · have hlez : (b : Int) ≤ (N : Int) := by omega
      have hY : 20 ≤ Y.length := by omega
      have hc := HI.out a b dk wr X (Y.take 20) (Y.drop 20) hds S1.out (by rw [List.take_append_drop]; exact y1) y2 (by rw [List.length_take]; omega)
      have w1 : IntKind.i64.wrap ((b : Int) + 20) = (b : Int) + 20 := by rw [IntKind.wrap_i64]; omega
      have HY : Hid (20 ≤ Y.length ∧ X.length = a ∧ a + Y.length = N ∧ X ++ chs (ltOf cf) 20 Y = chs (ltOf cf) 20 ls) := ⟨hY, y2, y3, y4⟩
      clear y1 y2 y3 y4 hY hab S1
      go_wp2_with (go_at_fn (ρ.f 20); refine hc.mono ?_; rintro e w2 ⟨rfl, d2, hz2, hl2, S2⟩)
      go_roundg (N - b)
      case measure => have := HAB.out; omega
      case rel =>
        obtain ⟨z1, z2, z3, z4⟩ := HY.out
        have := HAB.out
        refine ⟨b, b + 20, d2, rfl, by first | rfl | go_num, rfl, hle, Nat.le_refl _, hz2, S2, (show Hid _ from ⟨X ++ srt (ltOf cf) (Y.take 20), Y.drop 20, by rw [hl2]; simp, ?_, ?_, ?_⟩)⟩
        · rw [List.length_append, srt_len, List.length_take]; omega
        · rw [List.length_drop]; omega
        · rw [← z4, chs_more (ltOf cf) (by omega) z1, List.append_assoc]
    · have hlez : ¬ (b : Int) ≤ (N : Int) := by omega
      have hc := HI.out a N dk wr X Y [] hds S1.out (by simpa using y1) y2 y3
      have HY : Hid (X ++ srt (ltOf cf) Y = chs (ltOf cf) 20 ls) := by
        show _ = _
        rw [← y4, chs_end (ltOf cf) (l := Y) (by omega)]
      clear y1 y2 y3 y4 hab S1
      go_wp2_with (go_at_fn (ρ.f 20); refine hc.mono ?_; rintro e w2 ⟨rfl, d2, hz2, hl2, S2⟩)
      have S2' : Aside (SWK enc k w0 blk off d2 w2) := S2
      have HD2 : Hid (d2.toList = chs (ltOf cf) 20 ls) := by show _ = _; rw [hl2, ← HY.out]; simp
      clear hc S2 hl2 HY
      go_loopg [6] N (fun kx s6 wr => ∃ (bs : Nat) (dk : Array α), s6 = .int .i64 bs ∧ 20 ≤ bs ∧ N - bs ≤ kx ∧ dk.size = N ∧ Aside (SWK enc k w0 blk off dk wr) ∧ Hid (dk.toList = chs (ltOf cf) bs ls))
      case atStart => exact ⟨20, d2, rfl, Nat.le_refl _, by omega, hz2, S2', HD2⟩
      case round =>
        clear S2' HD2
        obtain ⟨bs, dk, rfl, hbs, hkx2, hds, S3, HL3⟩ := hrel
        by_cases hlt : bs < N
        · have hltz : (bs : Int) < (N : Int) := by omega
          obtain ⟨b2, hb2⟩ : ∃ q, q = 2 * bs := ⟨_, rfl⟩
          have q1 : 2 * (bs : Int) = (b2 : Int) := by omega
          have q2 : (bs : Int) * 2 = (b2 : Int) := by omega
          have q3 : IntKind.i64.wrap (b2 : Int) = (b2 : Int) := by rw [IntKind.wrap_i64]; omega
          have HB2 : Hid (b2 = 2 * bs) := hb2
          have l1 : bs < b2 := by omega
          have l2 : b2 ≤ 2 * N := by omega
          clear hb2
          go_wp2
          go_loopg [7, 8] N (fun kx s7 s8 wr => ∃ (a b : Nat) (dk : Array α), s7 = .int .i64 a ∧ s8 = .int .i64 b ∧ b = a + b2 ∧ a ≤ N ∧ N - a ≤ kx ∧ dk.size = N ∧ Aside (SWK enc k w0 blk off dk wr) ∧ Hid (∃ X Y, dk.toList = X ++ chs (ltOf cf) bs Y ∧ X.length = a ∧ a + Y.length = N ∧ X ++ chs (ltOf cf) (2 * bs) Y = chs (ltOf cf) (2 * bs) ls))
          case atStart => exact ⟨0, b2, dk, rfl, rfl, by omega, Nat.zero_le _, Nat.le_refl _, hds, S3, [], ls, HL3.out, rfl, by have := HLS.out.2; omega, rfl⟩
          case round =>
            clear S3
            obtain ⟨a, b, dk, rfl, rfl, hab, haN, hkx3, hds, S4, HL4⟩ := hrel
            have HAB : Hid (b = a + b2) := hab
            obtain ⟨X, Y, y1, y2, y3, y4⟩ := HL4.out
            clear HL4
            obtain ⟨m, hm⟩ : ∃ q, q = a + bs := ⟨_, rfl⟩
            have q4 : (a : Int) + (bs : Int) = (m : Int) := by omega
            have q5 : IntKind.i64.wrap (m : Int) = (m : Int) := by rw [IntKind.wrap_i64]; omega
            have HMM : Hid (m = a + bs) := hm
            have e2 := HB2.out
            by_cases hle : b ≤ N
            · have hlez : (b : Int) ≤ (N : Int) := by omega
              have hY : 2 * bs ≤ Y.length := by omega
              obtain ⟨t1, t2⟩ := chs_two (ltOf cf) HW.out (bs := bs) (l := Y) (by omega) hY
              have hc := HMG.out a m b dk wr X (srt (ltOf cf) (Y.take bs)) (srt (ltOf cf) ((Y.drop bs).take bs)) (chs (ltOf cf) bs (Y.drop (2 * bs))) hds S4.out (by rw [y1, t1]) y2 (by rw [srt_len, List.length_take]; omega) (by rw [srt_len, List.length_take, List.length_drop]; omega) (by omega) (by omega) (srt_is (ltOf cf) HW.out _) (srt_is (ltOf cf) HW.out _)
              have HY : Hid (2 * bs ≤ Y.length ∧ X.length = a ∧ a + Y.length = N ∧ X ++ (mrg (ltOf cf) (srt (ltOf cf) (Y.take bs)) (srt (ltOf cf) ((Y.drop bs).take bs)) ++ chs (ltOf cf) (2 * bs) (Y.drop (2 * bs))) = chs (ltOf cf) (2 * bs) ls) := ⟨hY, y2, y3, by rw [← t2]; exact y4⟩
              have w1 : IntKind.i64.wrap ((b : Int) + (b2 : Int)) = (b : Int) + (b2 : Int) := by rw [IntKind.wrap_i64]; omega
              clear y1 y2 y3 y4 hY t1 t2 hab hm e2 S4
              go_wp2_with (go_at_fn (ρ.f 79); refine hc.mono ?_; rintro e w5 ⟨rfl, d5, hz5, hl5, S5⟩)
              go_roundg (N - b)
              case measure => have := HAB.out; omega
              case rel =>
                obtain ⟨z1, z2, z3, z4⟩ := HY.out
                have := HAB.out
                have := HB2.out
                have e3 : (srt (ltOf cf) (Y.take bs)).length = bs := by rw [srt_len, List.length_take]; omega
                have e4 : (srt (ltOf cf) ((Y.drop bs).take bs)).length = bs := by rw [srt_len, List.length_take, List.length_drop]; omega
                refine ⟨b, b + b2, d5, rfl, by first | rfl | go_num, rfl, hle, Nat.le_refl _, hz5, S5, (show Hid _ from ⟨X ++ mrg (ltOf cf) (srt (ltOf cf) (Y.take bs)) (srt (ltOf cf) ((Y.drop bs).take bs)), Y.drop (2 * bs), by rw [hl5]; simp, ?_, ?_, ?_⟩)⟩
                · rw [List.length_append, mrg_len, e3, e4]; omega
                · rw [List.length_drop]; omega
                · rw [← z4, List.append_assoc]
            · have hlez : ¬ (b : Int) ≤ (N : Int) := by omega
              by_cases hmN : m < N
              · have hmz : (m : Int) < (N : Int) := by omega
                obtain ⟨t1, t2⟩ := chs_last (ltOf cf) HW.out (bs := bs) (l := Y) (by omega) (by omega) (by omega)
                have hc := HMG.out a m N dk wr X (srt (ltOf cf) (Y.take bs)) (srt (ltOf cf) (Y.drop bs)) [] hds S4.out (by rw [y1, t1]; simp) y2 (by rw [srt_len, List.length_take]; omega) (by rw [srt_len, List.length_drop]; omega) (by omega) hmN (srt_is (ltOf cf) HW.out _) (srt_is (ltOf cf) HW.out _)
                have HY : Hid (X ++ mrg (ltOf cf) (srt (ltOf cf) (Y.take bs)) (srt (ltOf cf) (Y.drop bs)) = chs (ltOf cf) (2 * bs) ls) := by show _ = _; rw [← t2]; exact y4
                clear y1 y2 y3 y4 t1 t2 hab hm e2 S4
                go_wp2_with (go_at_fn (ρ.f 79); refine hc.mono ?_; rintro e w5 ⟨rfl, d5, hz5, hl5, S5⟩)
                go_roundg (N - b2)
                case measure => omega
                case rel =>
                  have e5 := HB2.out
                  exact ⟨b2, d5, rfl, by omega, Nat.le_refl _, hz5, S5, (show Hid _ from by show _ = _; rw [hl5, e5, ← HY.out]; simp)⟩
              · have hmz : ¬ (m : Int) < (N : Int) := by omega
                have HY : Hid (dk.toList = chs (ltOf cf) (2 * bs) ls) := by
                  show _ = _
                  rw [← y4, y1, chs_one (ltOf cf) (bs := bs) (l := Y) (by omega) (by omega), chs_end (ltOf cf) (bs := 2 * bs) (l := Y) (by omega)]
                clear y1 y2 y3 y4 hab hm e2
                go_wp2
                go_roundg (N - b2)
                case measure => omega
                case rel =>
                  have e5 := HB2.out
                  exact ⟨b2, dk, rfl, by omega, Nat.le_refl _, hds, S4, (show Hid _ from by show _ = _; rw [e5]; exact HY.out)⟩
        · have hltz : ¬ (bs : Int) < (N : Int) := by omega
          go_wp2
          go_end0
          refine ⟨rfl, dk, hds, ?_, S3.out⟩
          rw [HL3.out, HT.out, chs_one (ltOf cf) (by omega) (by have := HLS.out.2; omega)]

end Go.Proofs.Ytloeabdohgdmkaa

/- Cards put in order by the library's stable sort, of any number (up to 1000). -/
namespace Go.Proofs.Ytloeabdohgdmkaa
open Go.RowKit
set_option linter.unusedVariables false
set_option linter.unusedSimpArgs false
set_option linter.unusedSectionVars false

def cdSy_ren : Go.Shelf.Ren := ⟨fun | 20 => 81 | 81 => 88 | 80 => 85 | 79 => 82 | 77 => 75 | n => n, fun | 0 => 0 | 3 => 3 | 4 => 4 | 22 => 28 | 25 => 113 | 24 => 34 | 39 => 133 | n => n, fun n => n⟩
theorem cdSy20 : SlLaysF0.n20 Try.prog cdSy_ren := { mixed := by kernel_rfl, f20 := ⟨Try.f81.name, by decide, Try.func81.trans (congrArg some (by kernel_rfl))⟩, t0 := Try.underlying0, a0 := Try.isAgg0, z0 := Try.sizeOf0, v0 := Try.zeroValue0, t3 := Try.underlying3, a3 := Try.isAgg3, z3 := Try.sizeOf3, v3 := Try.zeroValue3, t4 := Try.underlying4, a4 := Try.isAgg4, z4 := Try.sizeOf4, v4 := Try.zeroValue4, t22 := Try.underlying28, a22 := Try.isAgg28, z22 := Try.sizeOf28, v22 := Try.zeroValue28, t25 := Try.underlying113, a25 := Try.isAgg113, z25 := Try.sizeOf113, v25 := Try.zeroValue113 }
theorem cdSy : SyL Try.prog cdSy_ren := { l20 := cdSy20, f81 := ⟨Try.f88.name, by decide, Try.func88.trans (congrArg some (by kernel_rfl))⟩, f80 := ⟨Try.f85.name, by decide, Try.func85.trans (congrArg some (by kernel_rfl))⟩, f79 := ⟨Try.f82.name, by decide, Try.func82.trans (congrArg some (by kernel_rfl))⟩, f77 := ⟨Try.f75.name, by decide, Try.func75.trans (congrArg some (by kernel_rfl))⟩, t39 := Try.underlying133, a39 := Try.isAgg133, z39 := Try.sizeOf133, v39 := Try.zeroValue133 }

set_option maxRecDepth 100000 in
set_option maxHeartbeats 1000000 in
theorem stbAny (base g n c : Nat) (ls : List Cd) (w : World) (h : OwnC base w (.slice (some ⟨g, 0, none⟩) n c) ls) (hn : ls.length = n) (h20 : n ≤ 1000) :
    Calls Try.prog 75 #[.slice (some ⟨g, 0, none⟩) n c, .int .i64 n, .func (.func 53) #[] #[]] w fun e w' => e = .returned (.tuple #[]) ∧ OwnC base w' (.slice (some ⟨g, 0, none⟩) n c) (srt klt ls) ∧ Rim g w w' := by
  obtain ⟨hH, hlt⟩ := own_holds h
  have hcon := syStb cdSy 9 Try.isAgg34 Try.sizeOf34 cc 53 #[] g 0 c kcmp n ls.toArray w ⟨cc_len, cc_one, hH, hlt⟩ (by simpa using hn) (enters_of Try.func53 (by kernel_rfl) rfl) (fun m os dk hs x y => sortClosure x y _) klt_weak (by omega) ls.toArray w (by simpa using hn) (SWK.start hH)
  refine Calls.mono hcon ?_
  rintro e w' ⟨rfl, d', hz, hl, q, os, rfl⟩
  exact ⟨rfl, sort_own h hn (by rw [srt_len, hn]) q os d' hl⟩

set_option maxRecDepth 100000 in
set_option maxHeartbeats 1000000 in
theorem ssfAny (base g n c : Nat) (ls : List Cd) (w : World) (h : OwnC base w (.slice (some ⟨g, 0, none⟩) n c) ls) (hn : ls.length = n) (h20 : n ≤ 1000) :
    Calls Try.prog 52 #[.slice (some ⟨g, 0, none⟩) n c, .func (.func 53) #[] #[]] w fun e w' => e = .returned (.tuple #[]) ∧ OwnC base w' (.slice (some ⟨g, 0, none⟩) n c) (srt klt ls) ∧ Rim g w w' := by
  go_enter Try.func52, Try.ntmps52
  go_wp2_with fail
  refine (stbAny base g n c ls _ h hn h20).mono ?_
  rintro e w2 ⟨rfl, ho2, hr2⟩
  go_wp2
  go_end0
  exact ⟨rfl, ho2, hr2⟩

set_option maxRecDepth 100000 in
set_option maxHeartbeats 1000000 in
theorem cardSortAny (a : Option Addr) (n c : Nat) (ls : List Cd) (w : World) (h : CAt w a ls) (hl : ls.length = n) (hn : n ≤ 1000) (hf : (a = none ∧ c = 0) ∨ ∃ b o, a = some ⟨b, o, none⟩) :
    Calls Try.prog 27 #[.slice a n c] w fun e w' => ∃ v', e = .returned v' ∧ OwnC w.heap.size w' v' (srt klt ls) ∧ Below w.heap.size w w' := by
  go_enter Try.func27, Try.ntmps27
  go_wp2_with fail
  refine (cloneC a n c ls _ h hl (by omega) hf).mono ?_
  rintro e w1 ⟨v', rfl, ho, hb⟩
  obtain ⟨a1, c1, rfl, h1, h2, h3, hge, hf1⟩ := ho.read
  rw [hl] at ho h1 ⊢
  rcases hf1 with ⟨rfl, rfl, hnil⟩ | ⟨g, rfl⟩
  · have h0 : n = 0 := by rw [← hl, hnil]; rfl
    subst h0
    go_wp2_with fail
    refine (ssfNil _).mono ?_
    rintro e w2 ⟨rfl, hb2⟩
    go_wp2
    go_ret
    exact ⟨_, rfl, by rw [hnil]; exact OwnR.nil _ _, ext_trans hb hb2⟩
  · have hgw : w.heap.size ≤ g := (hge g 0 rfl).1
    have HB := hb
    go_wp2_with fail
    refine (ssfAny w.heap.size g n c1 ls _ ho hl hn).mono ?_
    rintro e w2 ⟨rfl, ho2, hr2⟩
    go_wp2
    go_ret
    exact ⟨_, rfl, ho2, HB.trans (hr2.below hgw HB.size)⟩

end Go.Proofs.Ytloeabdohgdmkaa
