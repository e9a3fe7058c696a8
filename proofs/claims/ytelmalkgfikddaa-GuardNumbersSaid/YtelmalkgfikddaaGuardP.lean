/- Layer 11: 'play', walked: guard and the document's guard go on alike. -/
import Derived.Test.YtelmalkgfikddaaGuardK
namespace Go.Proofs.Ytelmalkgfikddaa
open Go.RowKit
set_option linter.unusedVariables false

theorem guardRenewK (b : Nat) (g l t : Int) (w : World) (hs : GIs b g l t w) (h0 : 0 ≤ t) (h1 : t ≤ 1048576) :
    Calls Try.prog 11 #[.pointer (some ⟨b, 0, none⟩)] w fun e w' => ∃ t', e = .returned (.tuple #[]) ∧ Kept b w w' ∧ GIs b g l t' w' ∧ t' = (if t + 1 ≤ 1048576 then t + 1 else 1048576) :=
  (guardRenew b t w hs.c2 hs.f2 h0 h1).mono fun e w' ⟨he, hw⟩ => ⟨_, he, by rw [hw]; exact (Kept.refl _ _).setCell _ _, by rw [hw]; exact hs.set _, rfl⟩
theorem refRenewK (b : Nat) (g l t : Int) (w : World) (hs : GIs b g l t w) (h0 : 0 ≤ t) (h1 : t ≤ 1048576) :
    Calls Try.prog 19 #[.pointer (some ⟨b, 0, none⟩)] w fun e w' => ∃ t', e = .returned (.tuple #[]) ∧ Kept b w w' ∧ GIs b g l t' w' ∧ t' = (if t + 1 ≤ 1048576 then t + 1 else 1048576) :=
  (refRenew b t w hs.c2 hs.f2 h0 h1).mono fun e w' ⟨he, hw⟩ => ⟨_, he, by rw [hw]; exact (Kept.refl _ _).setCell _ _, by rw [hw]; exact hs.set _, rfl⟩
theorem gT_60 (g l t : Int) : gT g l t (g + 60) = (g + 60, t, 0) := by
  have h : g + 60 - g = 60 := by omega
  unfold gT
  rw [h]
  simp
theorem getD_mem {zs : List Int} {j : Nat} (h : j < zs.length) : zs.getD j 0 ∈ zs := by
  simp [List.getD, h]

theorem gT_wf {g l t now g2 l2 t2 : Int} (h : gT g l t now = (g2, l2, t2)) (hg : (Lit.int .i64 g).wf = true) (hn : (Lit.int .i64 now).wf = true) (h0 : 0 ≤ t) (h1 : t ≤ 1048576) : (Lit.int .i64 g2).wf = true ∧ 0 ≤ t2 ∧ t2 ≤ 1048576 := by
  have b1 := bounds_i64 hg
  have b2 := bounds_i64 hn
  unfold gT at h
  split at h
  · simp only [Prod.mk.injEq] at h
    obtain ⟨rfl, rfl, rfl⟩ := h
    exact ⟨hg, h0, h1⟩
  · simp only [Prod.mk.injEq] at h
    obtain ⟨rfl, rfl, rfl⟩ := h
    exact ⟨WalkArith.wf_i64 (by omega), by omega, by omega⟩

set_option maxRecDepth 100000 in
set_option maxHeartbeats 4000000 in
theorem law11play (now : Int) (a1 : Option Addr) (len1 cap1 : Nat) (zs1 : List Int) (a2 : Option Addr) (len2 cap2 : Nat) (zs2 : List Int) (w : World) (hnow : (Lit.int .i64 now).wf = true) (h1 : IsRow .i64 w a1 len1 cap1 zs1) (h2 : IsRow .i64 w a2 len2 cap2 zs2) :
    Calls Try.prog 9 #[.int .i64 now, .slice a1 len1 cap1, .slice a2 len2 cap2] w fun e w' => e = .returned (.bool true) ∧ Below w.heap.size w w' := by
  obtain ⟨hlc1, hcm1, hzl1, hwz1, hcell1⟩ := h1
  obtain ⟨hlc2, hcm2, hzl2, hwz2, hcell2⟩ := h2
  unfold maxLen at hcm1 hcm2
  go_enter Try.func9, Try.ntmps9
  go_wp2_with fail
  refine (guardNew _ _).mono ?_
  rintro e u0 ⟨rfl, rfl⟩
  have hsG := GIs.made now w 39
  have B0 : Below w.heap.size w ((w.alloc (.cells #[.int .i64 now, .int .i64 0, .int .i64 0] 39)).alloc (.cells #[.int .i64 now, .int .i64 0, .int .i64 0] 37)) := by go_grown
  have hsR := GIs.made now (w.alloc (.cells #[.int .i64 now, .int .i64 0, .int .i64 0] 39)) 37
  have hsG2 := hsG.ext (w' := (w.alloc (.cells #[.int .i64 now, .int .i64 0, .int .i64 0] 39)).alloc (.cells #[.int .i64 now, .int .i64 0, .int .i64 0] 37)) (by go_grown)
  have hsR2 : GIs (w.heap.size + 1) now 0 0 ((w.alloc (.cells #[.int .i64 now, .int .i64 0, .int .i64 0] 39)).alloc (.cells #[.int .i64 now, .int .i64 0, .int .i64 0] 37)) := by simpa using hsR
  clear hsG hsR
  go_wp2_with fail
  go_loopw [9] (fun i wr => ∃ (j : Nat) (g l t : Int), j ≤ len1 ∧ j ≤ len2 ∧ j ≤ 80 ∧ i = .int .i64 j ∧ Below w.heap.size w wr ∧ GIs w.heap.size g l t wr ∧ GIs (w.heap.size + 1) g l t wr ∧ (Lit.int .i64 g).wf = true ∧ 0 ≤ t ∧ t ≤ 1048576) (fun i _ => 80 - (intOf i).toNat)
  case atStart => exact ⟨0, now, 0, 0, by omega, by omega, by omega, rfl, B0, hsG2, hsR2, hnow, by omega, by omega⟩
  case round =>
    clear hsG2 hsR2 B0
    obtain ⟨j, g, l, t, hj1, hj2, hj80, rfl, B, hsG, hsR, hgw, ht0, ht1⟩ := hrel
    by_cases hlt1 : j < len1
    · by_cases hlt2 : j < len2
      · by_cases h80 : j < 80
        · obtain ⟨b1, o1, rfl, hc1⟩ := hcell1.resolve_left (by omega)
          obtain ⟨b2, o2, rfl, hc2⟩ := hcell2.resolve_left (by omega)
          have hk := hc1 j hlt1
          have hx := hc2 j hlt2
          have hxw : (Lit.int .i64 (zs2.getD j 0)).wf = true := hwz2 _ (getD_mem (by omega))
          clear hc1 hc2 hcell1 hcell2
          generalize zs1.getD j 0 = y at hk
          generalize zs2.getD j 0 = x at hx hxw
          have hkw := ext_cell B hk
          have hxr := ext_cell B hx
          have hlt := hsR.lt
          have hbx : b2 < w.heap.size := cell_lt hx
          go_wp2_with fail
          refine (bookWithin _ _ _ _ (by omega) (by omega) (by omega)).mono ?_
          rintro e u1 ⟨rfl, rfl⟩
          by_cases h4 : within y 0 4 = 4
          · go_wp2_with fail
            refine (guardTick _ _ _ _ _ _ hsG hgw hxw).mono ?_
            rintro e u2 ⟨rfl, hk1, hsG1⟩
            have hsR1 := hsR.kept hk1 (by omega)
            have hx1 := hk1.cell (by omega) hxr
            have B1 := B.trans (hk1.below (Nat.le_refl _))
            go_wp2_with fail
            refine (refTick _ _ _ _ _ _ hsR1 hgw hxw).mono ?_
            rintro e W ⟨rfl, hk2, hsR2⟩
            have hsG2 := hsG1.kept hk2 (by omega)
            have hx2 := hk2.cell (by omega) hx1
            have BW := B1.trans (hk2.below (by omega))
            generalize hq : gT g l t x = q at *
            obtain ⟨g2, l2, t2⟩ := q
            have ⟨hgw2, ht02, ht12⟩ := gT_wf hq hgw hxw ht0 ht1
            have hsG := hsG2
            have hsR := hsR2
            have hgw := hgw2
            have ht0 := ht02
            have ht1 := ht12
            clear hsG1 hsR1 hx1 B1 hk1 hk2 hq hsG2 hsR2 hgw2 ht02 ht12 hkw hxr B
            have k1 := hsG.c1
            have k2 := hsG.c2
            have k3 := hsR.c1
            have k4 := hsR.c2
            go_wp2_with fail
            have HS : ∀ u', Below W.heap.size W u' → Below W.heap.size W u' ∧ u'.cell? ⟨w.heap.size, 1, none⟩ = some (.int .i64 l2) ∧ u'.cell? ⟨w.heap.size, 2, none⟩ = some (.int .i64 t2) ∧ u'.cell? ⟨w.heap.size + 1, 1, none⟩ = some (.int .i64 l2) ∧ u'.cell? ⟨w.heap.size + 1, 2, none⟩ = some (.int .i64 t2) ∧ u'.cell? ⟨b2, o2 + j, none⟩ = some (.int .i64 x) := fun u' h => ⟨h, ext_cell h (b := w.heap.size) (o := 1) (v := .int .i64 l2) (by first | (with_reducible assumption) | (with_reducible (refine ext_cell ((Below.refl _ _).alloc (Nat.le_refl _) _) ?_; assumption)) | (go_cell; done) | (go_keep; done)), ext_cell h (b := w.heap.size) (o := 2) (v := .int .i64 t2) (by first | (with_reducible assumption) | (with_reducible (refine ext_cell ((Below.refl _ _).alloc (Nat.le_refl _) _) ?_; assumption)) | (go_cell; done) | (go_keep; done)), ext_cell h (b := w.heap.size + 1) (o := 1) (v := .int .i64 l2) (by first | (with_reducible assumption) | (with_reducible (refine ext_cell ((Below.refl _ _).alloc (Nat.le_refl _) _) ?_; assumption)) | (go_cell; done) | (go_keep; done)), ext_cell h (b := w.heap.size + 1) (o := 2) (v := .int .i64 t2) (by first | (with_reducible assumption) | (with_reducible (refine ext_cell ((Below.refl _ _).alloc (Nat.le_refl _) _) ?_; assumption)) | (go_cell; done) | (go_keep; done)), ext_cell h (b := b2) (o := o2 + j) (v := .int .i64 x) (by first | (with_reducible assumption) | (with_reducible (refine ext_cell ((Below.refl _ _).alloc (Nat.le_refl _) _) ?_; assumption)) | (go_cell; done) | (go_keep; done))⟩
            go_region_held3 (fun u' => Below W.heap.size W u' ∧ u'.cell? ⟨w.heap.size, 1, none⟩ = some (.int .i64 l2) ∧ u'.cell? ⟨w.heap.size, 2, none⟩ = some (.int .i64 t2) ∧ u'.cell? ⟨w.heap.size + 1, 1, none⟩ = some (.int .i64 l2) ∧ u'.cell? ⟨w.heap.size + 1, 2, none⟩ = some (.int .i64 t2) ∧ u'.cell? ⟨b2, o2 + j, none⟩ = some (.int .i64 x)) (first | exact HS _ (by go_grown) | exact HS _ (And.left ‹Below W.heap.size W _ ∧ _›))
              (first | (go_at_call 17; refine (guardLast _ l2 _ (by go_split_ands; assumption)).mono ?_; rintro e u1 ⟨rfl, rfl⟩) | (go_at_call 12; refine (guardThis _ t2 _ (by go_split_ands; assumption)).mono ?_; rintro e u1 ⟨rfl, rfl⟩) | (go_at_call 16; refine (guardProtects _ _ _ _ _ _ (hsG.ext (by go_split_ands; assumption))).mono ?_; rintro e u1 ⟨rfl, hb⟩; have hB1 := ext_trans (a := W) (And.left (by assumption)) hb) | (go_at_call 7; refine (guardNeed _ _).mono ?_; rintro e u1 ⟨rfl, rfl⟩) | (go_at_call 8; refine (refNeed _ _).mono ?_; rintro e u1 ⟨rfl, rfl⟩))
            have hB2 := ext_trans BW hB1
            have hG2 := hsG.ext hB1
            have hR2 := hsR.ext hB1
            clear k1 k2 k3 k4 hsG hsR HS
            go_wp2
            go_roundw
            case rel => exact ⟨j + 1, g2, l2, t2, by omega, by omega, by omega, by go_num, hB2, hG2, hR2, hgw, ht0, ht1⟩
            case measure => simp [intOf]; omega
          · go_wp2_with fail
            refine (guardRenewK _ _ _ _ _ hsG ht0 ht1).mono ?_
            rintro e u2 ⟨t2, rfl, hk1, hsG1, ht2⟩
            have hsR1 := hsR.kept hk1 (by omega)
            have hx1 := hk1.cell (by omega) hxr
            have B1 := B.trans (hk1.below (Nat.le_refl _))
            go_wp2_with fail
            refine (refRenewK _ _ _ _ _ hsR1 ht0 ht1).mono ?_
            rintro e W ⟨t3, rfl, hk2, hsR2, ht3⟩
            rw [← ht2] at ht3
            subst ht3
            have hsG2 := hsG1.kept hk2 (by omega)
            have hx2 := hk2.cell (by omega) hx1
            have BW := B1.trans (hk2.below (by omega))
            have ht02 : 0 ≤ t3 := by rw [ht2]; split <;> omega
            have ht12 : t3 ≤ 1048576 := by rw [ht2]; split <;> omega
            clear ht2
            obtain ⟨g2, hg2⟩ : ∃ g2, g2 = g := ⟨_, rfl⟩
            obtain ⟨l2, hl2⟩ : ∃ l2, l2 = l := ⟨_, rfl⟩
            obtain ⟨t2, hq2⟩ : ∃ t2, t2 = t3 := ⟨_, rfl⟩
            rw [← hg2, ← hl2, ← hq2] at hsG2 hsR2
            rw [← hg2] at hgw
            rw [← hq2] at ht02 ht12
            have hsG := hsG2
            have hsR := hsR2
            have ht0 := ht02
            have ht1 := ht12
            clear hsG1 hsR1 hx1 B1 hk1 hk2 hsG2 hsR2 ht02 ht12 hkw hxr B hg2 hl2 hq2
            have k1 := hsG.c1
            have k2 := hsG.c2
            have k3 := hsR.c1
            have k4 := hsR.c2
            go_wp2_with fail
            have HS : ∀ u', Below W.heap.size W u' → Below W.heap.size W u' ∧ u'.cell? ⟨w.heap.size, 1, none⟩ = some (.int .i64 l2) ∧ u'.cell? ⟨w.heap.size, 2, none⟩ = some (.int .i64 t2) ∧ u'.cell? ⟨w.heap.size + 1, 1, none⟩ = some (.int .i64 l2) ∧ u'.cell? ⟨w.heap.size + 1, 2, none⟩ = some (.int .i64 t2) ∧ u'.cell? ⟨b2, o2 + j, none⟩ = some (.int .i64 x) := fun u' h => ⟨h, ext_cell h (b := w.heap.size) (o := 1) (v := .int .i64 l2) (by first | (with_reducible assumption) | (with_reducible (refine ext_cell ((Below.refl _ _).alloc (Nat.le_refl _) _) ?_; assumption)) | (go_cell; done) | (go_keep; done)), ext_cell h (b := w.heap.size) (o := 2) (v := .int .i64 t2) (by first | (with_reducible assumption) | (with_reducible (refine ext_cell ((Below.refl _ _).alloc (Nat.le_refl _) _) ?_; assumption)) | (go_cell; done) | (go_keep; done)), ext_cell h (b := w.heap.size + 1) (o := 1) (v := .int .i64 l2) (by first | (with_reducible assumption) | (with_reducible (refine ext_cell ((Below.refl _ _).alloc (Nat.le_refl _) _) ?_; assumption)) | (go_cell; done) | (go_keep; done)), ext_cell h (b := w.heap.size + 1) (o := 2) (v := .int .i64 t2) (by first | (with_reducible assumption) | (with_reducible (refine ext_cell ((Below.refl _ _).alloc (Nat.le_refl _) _) ?_; assumption)) | (go_cell; done) | (go_keep; done)), ext_cell h (b := b2) (o := o2 + j) (v := .int .i64 x) (by first | (with_reducible assumption) | (with_reducible (refine ext_cell ((Below.refl _ _).alloc (Nat.le_refl _) _) ?_; assumption)) | (go_cell; done) | (go_keep; done))⟩
            go_region_held3 (fun u' => Below W.heap.size W u' ∧ u'.cell? ⟨w.heap.size, 1, none⟩ = some (.int .i64 l2) ∧ u'.cell? ⟨w.heap.size, 2, none⟩ = some (.int .i64 t2) ∧ u'.cell? ⟨w.heap.size + 1, 1, none⟩ = some (.int .i64 l2) ∧ u'.cell? ⟨w.heap.size + 1, 2, none⟩ = some (.int .i64 t2) ∧ u'.cell? ⟨b2, o2 + j, none⟩ = some (.int .i64 x)) (first | exact HS _ (by go_grown) | exact HS _ (And.left ‹Below W.heap.size W _ ∧ _›))
              (first | (go_at_call 17; refine (guardLast _ l2 _ (by go_split_ands; assumption)).mono ?_; rintro e u1 ⟨rfl, rfl⟩) | (go_at_call 12; refine (guardThis _ t2 _ (by go_split_ands; assumption)).mono ?_; rintro e u1 ⟨rfl, rfl⟩) | (go_at_call 16; refine (guardProtects _ _ _ _ _ _ (hsG.ext (by go_split_ands; assumption))).mono ?_; rintro e u1 ⟨rfl, hb⟩; have hB1 := ext_trans (a := W) (And.left (by assumption)) hb) | (go_at_call 7; refine (guardNeed _ _).mono ?_; rintro e u1 ⟨rfl, rfl⟩) | (go_at_call 8; refine (refNeed _ _).mono ?_; rintro e u1 ⟨rfl, rfl⟩))
            have hB2 := ext_trans BW hB1
            have hG2 := hsG.ext hB1
            have hR2 := hsR.ext hB1
            clear k1 k2 k3 k4 hsG hsR HS
            go_wp2
            go_roundw
            case rel => exact ⟨j + 1, g2, l2, t2, by omega, by omega, by omega, by go_num, hB2, hG2, hR2, hgw, ht0, ht1⟩
            case measure => simp [intOf]; omega
        · go_wp2
          go_ret
          exact ⟨rfl, B⟩
      · go_wp2
        go_ret
        exact ⟨rfl, B⟩
    · go_wp2
      go_ret
      exact ⟨rfl, B⟩

end Go.Proofs.Ytelmalkgfikddaa
