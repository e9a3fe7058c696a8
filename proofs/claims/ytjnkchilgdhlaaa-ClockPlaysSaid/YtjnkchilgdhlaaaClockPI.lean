/- Layer 7: 'play', walked: the road of clocks that are there. -/
import Derived.Test.YtjnkchilgdhlaaaClockP
namespace Go.Proofs.Ytjnkchilgdhlaaa
open Go.RowKit
set_option linter.unusedVariables false

set_option maxRecDepth 100000 in
set_option maxHeartbeats 20000000 in
theorem law7play_in (n : Int) (a1 : Option Addr) (len1 cap1 : Nat) (zs1 : List Int) (a2 : Option Addr) (len2 cap2 : Nat) (zs2 : List Int) (w : World) (hn1 : 1 ≤ n) (hn6 : n ≤ 6) (h1 : IsRow .i64 w a1 len1 cap1 zs1) (h2 : IsRow .i64 w a2 len2 cap2 zs2) :
    Calls Try.prog 7 #[.int .i64 n, .slice a1 len1 cap1, .slice a2 len2 cap2] w fun e w' => e = .returned (.bool true) ∧ Below w.heap.size w w' := by
  obtain ⟨hlc1, hcm1, hzl1, hwz1, hcell1⟩ := h1
  obtain ⟨hlc2, hcm2, hzl2, hwz2, hcell2⟩ := h2
  unfold maxLen at hcm1 hcm2
  go_enter Try.func7, Try.ntmps7
  go_wp2_with fail
  refine (clockNew _ _ hn1 hn6).mono ?_
  rintro e u1 ⟨rfl, B1, c1⟩
  have hs := B1.size
  have hlt : w.heap.size < u1.heap.size := cell_lt c1.c
  go_wp2_with fail
  have c2 : CIs w.heap.size n [0, 0, 0, 0, 0, 0] (u1.alloc (.cells #[.int .i64 0, .int .i64 0, .int .i64 0, .int .i64 0, .int .i64 0, .int .i64 0] 36)) := c1.ext (by go_grown)
  have s2 : SJs u1.heap.size [0, 0, 0, 0, 0, 0] (u1.alloc (.cells #[.int .i64 0, .int .i64 0, .int .i64 0, .int .i64 0, .int .i64 0, .int .i64 0] 36)) := by
    refine ⟨?_, ?_⟩
    · intro k hk
      match k, hk with
      | 0, _ => go_cell
      | 1, _ => go_cell
      | 2, _ => go_cell
      | 3, _ => go_cell
      | 4, _ => go_cell
      | 5, _ => go_cell
    · intro k hk
      match k, hk with
      | 0, _ => go_cell
      | 1, _ => go_cell
      | 2, _ => go_cell
      | 3, _ => go_cell
      | 4, _ => go_cell
      | 5, _ => go_cell
  have B2 : Below w.heap.size w (u1.alloc (.cells #[.int .i64 0, .int .i64 0, .int .i64 0, .int .i64 0, .int .i64 0, .int .i64 0] 36)) := by go_grown
  clear c1 B1
  go_loopw [9] (fun i wr => ∃ (j : Nat) (xs : List Int), j ≤ len1 ∧ j ≤ len2 ∧ j ≤ 60 ∧ i = .int .i64 j ∧ Below w.heap.size w wr ∧ CIs w.heap.size n xs wr ∧ SJs u1.heap.size xs wr ∧ ∀ k, xs.getD k 0 ≤ 1024 * j) (fun i _ => 60 - (intOf i).toNat)
  case atStart => exact ⟨0, [0, 0, 0, 0, 0, 0], by omega, by omega, by omega, rfl, B2, c2, s2, by
    intro k; match k with
    | 0 => decide
    | 1 => decide
    | 2 => decide
    | 3 => decide
    | 4 => decide
    | 5 => decide
    | _ + 6 => simp⟩
  case round =>
    clear c2 s2 B2
    obtain ⟨j, xs, hj1, hj2, hj60, rfl, B, hc, hs1, hb⟩ := hrel
    by_cases hlt1 : j < len1
    · by_cases hlt2 : j < len2
      · by_cases h60 : j < 60
        · obtain ⟨b1, o1, rfl, hc1⟩ := hcell1.resolve_left (by omega)
          obtain ⟨b2, o2, rfl, hc2⟩ := hcell2.resolve_left (by omega)
          have hy0 := hc1 j hlt1
          have hx0 := hc2 j hlt2
          clear hc1 hc2 hcell1 hcell2
          generalize zs1.getD j 0 = y at hy0
          generalize zs2.getD j 0 = x at hx0
          have hyr := ext_cell B hy0
          have hxr := ext_cell B hx0
          have Hb := Lib.hid hb
          clear hb
          have ways : y < 0 ∨ (0 ≤ y ∧ n ≤ y) ∨ (0 ≤ y ∧ y < n ∧ x < 1) ∨ (0 ≤ y ∧ y < n ∧ 1 ≤ x ∧ 1024 < x) ∨ (0 ≤ y ∧ y < n ∧ 1 ≤ x ∧ x ≤ 1024) := by omega
          rcases ways with q1 | ⟨q1, q2⟩ | ⟨q1, q2, q3⟩ | ⟨q1, q2, q3, q4⟩ | ⟨q1, q2, q3, q4⟩
          · skip
            have Hb2 : Hid (∀ m, xs.getD m 0 ≤ 1024 * ((j + 1 : Nat) : Int)) := fun m => by have := Hb.out m; omega
            go_wp2_with fail
            have HS2 : ∀ u', Below w.heap.size w u' → Below w.heap.size w u' ∧ u'.cell? ⟨b2, o2 + j, none⟩ = some (.int .i64 x) ∧ u'.cell? ⟨b1, o1 + j, none⟩ = some (.int .i64 y) := fun u' h => ⟨h, ext_cell h (b := b2) (o := o2 + j) (v := .int .i64 x) (by with_reducible assumption), ext_cell h (b := b1) (o := o1 + j) (v := .int .i64 y) (by with_reducible assumption)⟩
            go_region_held3 (fun u' => Below w.heap.size w u' ∧ u'.cell? ⟨b2, o2 + j, none⟩ = some (.int .i64 x) ∧ u'.cell? ⟨b1, o1 + j, none⟩ = some (.int .i64 y)) (exact HS2 _ (by first | (with_reducible assumption) | (go_grown; done)))
              (first | (go_at_call 11; refine (clockTick_no _ _ _ _ _ _ (hc.ext (Below.refl _ _).drew) (by omega)).mono ?_; rintro e u3 ⟨rfl, rfl⟩))
            obtain ⟨W, hW⟩ : ∃ W : World, W = wr.drew := ⟨_, rfl⟩
            rw [← hW]
            have B2 : Below w.heap.size w W := by rw [hW]; exact B.drew
            have hc2 : CIs w.heap.size n xs W := by rw [hW]; exact hc.ext (Below.refl _ _).drew
            have hs2 : SJs u1.heap.size xs W := by rw [hW]; exact hs1.ext (Below.refl _ _).drew
            clear hW HS2 B hc hs1 Hb
            have t0 := hs2.x 0 (by omega)
            go_wp2
            go_region
            clear t0
            go_wp2
            go_loopw [11, 12, 13] (fun lo hi i wq => ∃ k : Nat, (k : Int) ≤ n ∧ i = .int .i64 k ∧ lo = .int .i64 (mnTo xs (k - 1)) ∧ hi = .int .i64 (mxTo xs (k - 1)) ∧ Below W.heap.size W wq) (fun _ _ i _ => (n - intOf i).toNat)
            case atStart => exact ⟨0, by omega, rfl, rfl, rfl, (Below.refl _ _).drew⟩
            case round =>
              obtain ⟨wq, rfl⟩ : ∃ wq : World, wq = wr := ⟨_, rfl⟩
              obtain ⟨k, hkn, rfl, rfl, rfl, D⟩ := hrel
              have hcq := hc2.ext D
              have hsq := hs2.ext D
              have hmm := mx_mn (zs := xs) (k := k - 1) (fun j => ⟨hc2.lo j, hc2.hi j⟩)
              by_cases hk : (k : Int) < n
              · have sx := hsq.x k (by omega)
                have hkn' := hk
                have hk6 : (k : Int) < 6 := by omega
                have hk60 : (0 : Int) ≤ k := by omega
                have hst1 := mn_step xs k
                have hst2 := mx_step xs k
                generalize hv : xs.getD k 0 = v at sx hst1 hst2
                generalize mnTo xs (k - 1) = lo at *
                generalize mxTo xs (k - 1) = hi at *
                have Hv := Lib.hid hv
                have H1 := Lib.hid hst1
                have H2 := Lib.hid hst2
                clear hv hst1 hst2
                go_wp2
                go_region
                all_goals
                  obtain ⟨Wq, hWq⟩ : ∃ Wq : World, Wq = wq.drew := ⟨_, rfl⟩
                  rw [← hWq]
                  have D2 : Below W.heap.size W Wq := by rw [hWq]; exact D.drew
                  have hcq := hc2.ext D2
                  have sx := (hs2.ext D2).x k (by omega)
                  rw [Hv.out] at sx
                  clear hWq
                  go_wp2
                  all_goals
                    have HS3 : ∀ u', Below Wq.heap.size Wq u' → Below Wq.heap.size Wq u' ∧ u'.cell? ⟨u1.heap.size, k, none⟩ = some (.int .i64 v) := fun u' h => ⟨h, ext_cell h (b := u1.heap.size) (o := k) (v := .int .i64 v) (by first | (with_reducible assumption) | (with_reducible (refine ext_cell ((Below.refl _ _).alloc (Nat.le_refl _) _) ?_; assumption)) | (go_cell; done) | (go_keep; done))⟩
                    go_region_held3 (fun u' => Below Wq.heap.size Wq u' ∧ u'.cell? ⟨u1.heap.size, k, none⟩ = some (.int .i64 v)) (first | exact HS3 _ (by go_grown) | exact HS3 _ (And.left ‹Below Wq.heap.size Wq _ ∧ _›))
                      (first | (go_at_call 12; refine (clockNow_in _ _ k _ _ (hcq.ext (by go_split_ands; assumption)) hkn').mono ?_; rintro e u7 ⟨rfl, rfl⟩; rw [Hv.out]))
                    have hD3 := ext_trans D2 (And.left ‹Below Wq.heap.size Wq _ ∧ _›)
                    clear HS3 sx hcq D D2
                    go_wp2
                    go_roundw
                    case rel => exact ⟨k + 1, by omega, by go_num, by rw [H1.out]; split <;> first | rfl | (exfalso; omega) | (congr 1; omega), by rw [H2.out]; split <;> first | rfl | (exfalso; omega) | (congr 1; omega), hD3⟩
                    case measure => simp [intOf]; omega
              · have hnk : n = k := by omega
                subst hnk
                go_wp2_with fail
                refine (clockApart _ _ _ _ hcq).mono ?_
                rintro e u7 ⟨rfl, hb⟩
                have hcr := hcq.ext hb
                have hsr := hsq.ext hb
                have hBr := ext_trans (ext_trans B2 D) hb
                have hap : mxTo (xs.take (Int.toNat k)) (Int.toNat k - 1) - mnTo (xs.take (Int.toNat k)) (Int.toNat k - 1) = mxTo xs (k - 1) - mnTo xs (k - 1) := by
                  simp only [Int.toNat_natCast]
                  rw [mxTo_take (by omega), mnTo_take (by omega)]
                rw [hap]
                clear hap hb hcq hsq D hc2 hs2 B2
                generalize mnTo xs (k - 1) = lo at *
                generalize mxTo xs (k - 1) = hi at *
                go_wp2_with fail
                refine (clockNow _ _ _ _ _ hcr).mono ?_
                rintro e u8 ⟨rfl, rfl⟩
                rw [if_neg (by omega)]
                go_wp2
                go_roundw
                case rel => exact ⟨j + 1, xs, by omega, by omega, by omega, by go_num, hBr, hcr, hsr, Hb2.out⟩
                case measure => simp [intOf]; omega
          · skip
            have Hb2 : Hid (∀ m, xs.getD m 0 ≤ 1024 * ((j + 1 : Nat) : Int)) := fun m => by have := Hb.out m; omega
            go_wp2_with fail
            have HS2 : ∀ u', Below w.heap.size w u' → Below w.heap.size w u' ∧ u'.cell? ⟨b2, o2 + j, none⟩ = some (.int .i64 x) ∧ u'.cell? ⟨b1, o1 + j, none⟩ = some (.int .i64 y) := fun u' h => ⟨h, ext_cell h (b := b2) (o := o2 + j) (v := .int .i64 x) (by with_reducible assumption), ext_cell h (b := b1) (o := o1 + j) (v := .int .i64 y) (by with_reducible assumption)⟩
            go_region_held3 (fun u' => Below w.heap.size w u' ∧ u'.cell? ⟨b2, o2 + j, none⟩ = some (.int .i64 x) ∧ u'.cell? ⟨b1, o1 + j, none⟩ = some (.int .i64 y)) (exact HS2 _ (by first | (with_reducible assumption) | (go_grown; done)))
              (first | (go_at_call 11; refine (clockTick_no _ _ _ _ _ _ (hc.ext (Below.refl _ _).drew) (by omega)).mono ?_; rintro e u3 ⟨rfl, rfl⟩))
            obtain ⟨W, hW⟩ : ∃ W : World, W = wr.drew := ⟨_, rfl⟩
            rw [← hW]
            have B2 : Below w.heap.size w W := by rw [hW]; exact B.drew
            have hc2 : CIs w.heap.size n xs W := by rw [hW]; exact hc.ext (Below.refl _ _).drew
            have hs2 : SJs u1.heap.size xs W := by rw [hW]; exact hs1.ext (Below.refl _ _).drew
            clear hW HS2 B hc hs1 Hb
            have t0 := hs2.x 0 (by omega)
            go_wp2
            go_region
            clear t0
            go_wp2
            go_loopw [11, 12, 13] (fun lo hi i wq => ∃ k : Nat, (k : Int) ≤ n ∧ i = .int .i64 k ∧ lo = .int .i64 (mnTo xs (k - 1)) ∧ hi = .int .i64 (mxTo xs (k - 1)) ∧ Below W.heap.size W wq) (fun _ _ i _ => (n - intOf i).toNat)
            case atStart => exact ⟨0, by omega, rfl, rfl, rfl, (Below.refl _ _).drew⟩
            case round =>
              obtain ⟨wq, rfl⟩ : ∃ wq : World, wq = wr := ⟨_, rfl⟩
              obtain ⟨k, hkn, rfl, rfl, rfl, D⟩ := hrel
              have hcq := hc2.ext D
              have hsq := hs2.ext D
              have hmm := mx_mn (zs := xs) (k := k - 1) (fun j => ⟨hc2.lo j, hc2.hi j⟩)
              by_cases hk : (k : Int) < n
              · have sx := hsq.x k (by omega)
                have hkn' := hk
                have hk6 : (k : Int) < 6 := by omega
                have hk60 : (0 : Int) ≤ k := by omega
                have hst1 := mn_step xs k
                have hst2 := mx_step xs k
                generalize hv : xs.getD k 0 = v at sx hst1 hst2
                generalize mnTo xs (k - 1) = lo at *
                generalize mxTo xs (k - 1) = hi at *
                have Hv := Lib.hid hv
                have H1 := Lib.hid hst1
                have H2 := Lib.hid hst2
                clear hv hst1 hst2
                go_wp2
                go_region
                all_goals
                  obtain ⟨Wq, hWq⟩ : ∃ Wq : World, Wq = wq.drew := ⟨_, rfl⟩
                  rw [← hWq]
                  have D2 : Below W.heap.size W Wq := by rw [hWq]; exact D.drew
                  have hcq := hc2.ext D2
                  have sx := (hs2.ext D2).x k (by omega)
                  rw [Hv.out] at sx
                  clear hWq
                  go_wp2
                  all_goals
                    have HS3 : ∀ u', Below Wq.heap.size Wq u' → Below Wq.heap.size Wq u' ∧ u'.cell? ⟨u1.heap.size, k, none⟩ = some (.int .i64 v) := fun u' h => ⟨h, ext_cell h (b := u1.heap.size) (o := k) (v := .int .i64 v) (by first | (with_reducible assumption) | (with_reducible (refine ext_cell ((Below.refl _ _).alloc (Nat.le_refl _) _) ?_; assumption)) | (go_cell; done) | (go_keep; done))⟩
                    go_region_held3 (fun u' => Below Wq.heap.size Wq u' ∧ u'.cell? ⟨u1.heap.size, k, none⟩ = some (.int .i64 v)) (first | exact HS3 _ (by go_grown) | exact HS3 _ (And.left ‹Below Wq.heap.size Wq _ ∧ _›))
                      (first | (go_at_call 12; refine (clockNow_in _ _ k _ _ (hcq.ext (by go_split_ands; assumption)) hkn').mono ?_; rintro e u7 ⟨rfl, rfl⟩; rw [Hv.out]))
                    have hD3 := ext_trans D2 (And.left ‹Below Wq.heap.size Wq _ ∧ _›)
                    clear HS3 sx hcq D D2
                    go_wp2
                    go_roundw
                    case rel => exact ⟨k + 1, by omega, by go_num, by rw [H1.out]; split <;> first | rfl | (exfalso; omega) | (congr 1; omega), by rw [H2.out]; split <;> first | rfl | (exfalso; omega) | (congr 1; omega), hD3⟩
                    case measure => simp [intOf]; omega
              · have hnk : n = k := by omega
                subst hnk
                go_wp2_with fail
                refine (clockApart _ _ _ _ hcq).mono ?_
                rintro e u7 ⟨rfl, hb⟩
                have hcr := hcq.ext hb
                have hsr := hsq.ext hb
                have hBr := ext_trans (ext_trans B2 D) hb
                have hap : mxTo (xs.take (Int.toNat k)) (Int.toNat k - 1) - mnTo (xs.take (Int.toNat k)) (Int.toNat k - 1) = mxTo xs (k - 1) - mnTo xs (k - 1) := by
                  simp only [Int.toNat_natCast]
                  rw [mxTo_take (by omega), mnTo_take (by omega)]
                rw [hap]
                clear hap hb hcq hsq D hc2 hs2 B2
                generalize mnTo xs (k - 1) = lo at *
                generalize mxTo xs (k - 1) = hi at *
                go_wp2_with fail
                refine (clockNow _ _ _ _ _ hcr).mono ?_
                rintro e u8 ⟨rfl, rfl⟩
                rw [if_neg (by omega)]
                go_wp2
                go_roundw
                case rel => exact ⟨j + 1, xs, by omega, by omega, by omega, by go_num, hBr, hcr, hsr, Hb2.out⟩
                case measure => simp [intOf]; omega
          · skip
            have Hb2 : Hid (∀ m, xs.getD m 0 ≤ 1024 * ((j + 1 : Nat) : Int)) := fun m => by have := Hb.out m; omega
            go_wp2_with fail
            have HS2 : ∀ u', Below w.heap.size w u' → Below w.heap.size w u' ∧ u'.cell? ⟨b2, o2 + j, none⟩ = some (.int .i64 x) ∧ u'.cell? ⟨b1, o1 + j, none⟩ = some (.int .i64 y) := fun u' h => ⟨h, ext_cell h (b := b2) (o := o2 + j) (v := .int .i64 x) (by with_reducible assumption), ext_cell h (b := b1) (o := o1 + j) (v := .int .i64 y) (by with_reducible assumption)⟩
            go_region_held3 (fun u' => Below w.heap.size w u' ∧ u'.cell? ⟨b2, o2 + j, none⟩ = some (.int .i64 x) ∧ u'.cell? ⟨b1, o1 + j, none⟩ = some (.int .i64 y)) (exact HS2 _ (by first | (with_reducible assumption) | (go_grown; done)))
              (first | (go_at_call 11; refine (clockTick_arg _ _ _ _ _ _ (hc.ext (Below.refl _ _).drew) (by omega) (by omega)).mono ?_; rintro e u3 ⟨rfl, rfl⟩))
            obtain ⟨W, hW⟩ : ∃ W : World, W = wr.drew := ⟨_, rfl⟩
            rw [← hW]
            have B2 : Below w.heap.size w W := by rw [hW]; exact B.drew
            have hc2 : CIs w.heap.size n xs W := by rw [hW]; exact hc.ext (Below.refl _ _).drew
            have hs2 : SJs u1.heap.size xs W := by rw [hW]; exact hs1.ext (Below.refl _ _).drew
            clear hW HS2 B hc hs1 Hb
            have t0 := hs2.x 0 (by omega)
            go_wp2
            go_region
            clear t0
            go_wp2
            go_loopw [11, 12, 13] (fun lo hi i wq => ∃ k : Nat, (k : Int) ≤ n ∧ i = .int .i64 k ∧ lo = .int .i64 (mnTo xs (k - 1)) ∧ hi = .int .i64 (mxTo xs (k - 1)) ∧ Below W.heap.size W wq) (fun _ _ i _ => (n - intOf i).toNat)
            case atStart => exact ⟨0, by omega, rfl, rfl, rfl, (Below.refl _ _).drew⟩
            case round =>
              obtain ⟨wq, rfl⟩ : ∃ wq : World, wq = wr := ⟨_, rfl⟩
              obtain ⟨k, hkn, rfl, rfl, rfl, D⟩ := hrel
              have hcq := hc2.ext D
              have hsq := hs2.ext D
              have hmm := mx_mn (zs := xs) (k := k - 1) (fun j => ⟨hc2.lo j, hc2.hi j⟩)
              by_cases hk : (k : Int) < n
              · have sx := hsq.x k (by omega)
                have hkn' := hk
                have hk6 : (k : Int) < 6 := by omega
                have hk60 : (0 : Int) ≤ k := by omega
                have hst1 := mn_step xs k
                have hst2 := mx_step xs k
                generalize hv : xs.getD k 0 = v at sx hst1 hst2
                generalize mnTo xs (k - 1) = lo at *
                generalize mxTo xs (k - 1) = hi at *
                have Hv := Lib.hid hv
                have H1 := Lib.hid hst1
                have H2 := Lib.hid hst2
                clear hv hst1 hst2
                go_wp2
                go_region
                all_goals
                  obtain ⟨Wq, hWq⟩ : ∃ Wq : World, Wq = wq.drew := ⟨_, rfl⟩
                  rw [← hWq]
                  have D2 : Below W.heap.size W Wq := by rw [hWq]; exact D.drew
                  have hcq := hc2.ext D2
                  have sx := (hs2.ext D2).x k (by omega)
                  rw [Hv.out] at sx
                  clear hWq
                  go_wp2
                  all_goals
                    have HS3 : ∀ u', Below Wq.heap.size Wq u' → Below Wq.heap.size Wq u' ∧ u'.cell? ⟨u1.heap.size, k, none⟩ = some (.int .i64 v) := fun u' h => ⟨h, ext_cell h (b := u1.heap.size) (o := k) (v := .int .i64 v) (by first | (with_reducible assumption) | (with_reducible (refine ext_cell ((Below.refl _ _).alloc (Nat.le_refl _) _) ?_; assumption)) | (go_cell; done) | (go_keep; done))⟩
                    go_region_held3 (fun u' => Below Wq.heap.size Wq u' ∧ u'.cell? ⟨u1.heap.size, k, none⟩ = some (.int .i64 v)) (first | exact HS3 _ (by go_grown) | exact HS3 _ (And.left ‹Below Wq.heap.size Wq _ ∧ _›))
                      (first | (go_at_call 12; refine (clockNow_in _ _ k _ _ (hcq.ext (by go_split_ands; assumption)) hkn').mono ?_; rintro e u7 ⟨rfl, rfl⟩; rw [Hv.out]))
                    have hD3 := ext_trans D2 (And.left ‹Below Wq.heap.size Wq _ ∧ _›)
                    clear HS3 sx hcq D D2
                    go_wp2
                    go_roundw
                    case rel => exact ⟨k + 1, by omega, by go_num, by rw [H1.out]; split <;> first | rfl | (exfalso; omega) | (congr 1; omega), by rw [H2.out]; split <;> first | rfl | (exfalso; omega) | (congr 1; omega), hD3⟩
                    case measure => simp [intOf]; omega
              · have hnk : n = k := by omega
                subst hnk
                go_wp2_with fail
                refine (clockApart _ _ _ _ hcq).mono ?_
                rintro e u7 ⟨rfl, hb⟩
                have hcr := hcq.ext hb
                have hsr := hsq.ext hb
                have hBr := ext_trans (ext_trans B2 D) hb
                have hap : mxTo (xs.take (Int.toNat k)) (Int.toNat k - 1) - mnTo (xs.take (Int.toNat k)) (Int.toNat k - 1) = mxTo xs (k - 1) - mnTo xs (k - 1) := by
                  simp only [Int.toNat_natCast]
                  rw [mxTo_take (by omega), mnTo_take (by omega)]
                rw [hap]
                clear hap hb hcq hsq D hc2 hs2 B2
                generalize mnTo xs (k - 1) = lo at *
                generalize mxTo xs (k - 1) = hi at *
                go_wp2_with fail
                refine (clockNow _ _ _ _ _ hcr).mono ?_
                rintro e u8 ⟨rfl, rfl⟩
                rw [if_neg (by omega)]
                go_wp2
                go_roundw
                case rel => exact ⟨j + 1, xs, by omega, by omega, by omega, by go_num, hBr, hcr, hsr, Hb2.out⟩
                case measure => simp [intOf]; omega
          · skip
            have Hb2 : Hid (∀ m, xs.getD m 0 ≤ 1024 * ((j + 1 : Nat) : Int)) := fun m => by have := Hb.out m; omega
            go_wp2_with fail
            have HS2 : ∀ u', Below w.heap.size w u' → Below w.heap.size w u' ∧ u'.cell? ⟨b2, o2 + j, none⟩ = some (.int .i64 x) ∧ u'.cell? ⟨b1, o1 + j, none⟩ = some (.int .i64 y) := fun u' h => ⟨h, ext_cell h (b := b2) (o := o2 + j) (v := .int .i64 x) (by with_reducible assumption), ext_cell h (b := b1) (o := o1 + j) (v := .int .i64 y) (by with_reducible assumption)⟩
            go_region_held3 (fun u' => Below w.heap.size w u' ∧ u'.cell? ⟨b2, o2 + j, none⟩ = some (.int .i64 x) ∧ u'.cell? ⟨b1, o1 + j, none⟩ = some (.int .i64 y)) (exact HS2 _ (by first | (with_reducible assumption) | (go_grown; done)))
              (first | (go_at_call 11; refine (clockTick_arg _ _ _ _ _ _ (hc.ext (Below.refl _ _).drew) (by omega) (by omega)).mono ?_; rintro e u3 ⟨rfl, rfl⟩))
            obtain ⟨W, hW⟩ : ∃ W : World, W = wr.drew := ⟨_, rfl⟩
            rw [← hW]
            have B2 : Below w.heap.size w W := by rw [hW]; exact B.drew
            have hc2 : CIs w.heap.size n xs W := by rw [hW]; exact hc.ext (Below.refl _ _).drew
            have hs2 : SJs u1.heap.size xs W := by rw [hW]; exact hs1.ext (Below.refl _ _).drew
            clear hW HS2 B hc hs1 Hb
            have t0 := hs2.x 0 (by omega)
            go_wp2
            go_region
            clear t0
            go_wp2
            go_loopw [11, 12, 13] (fun lo hi i wq => ∃ k : Nat, (k : Int) ≤ n ∧ i = .int .i64 k ∧ lo = .int .i64 (mnTo xs (k - 1)) ∧ hi = .int .i64 (mxTo xs (k - 1)) ∧ Below W.heap.size W wq) (fun _ _ i _ => (n - intOf i).toNat)
            case atStart => exact ⟨0, by omega, rfl, rfl, rfl, (Below.refl _ _).drew⟩
            case round =>
              obtain ⟨wq, rfl⟩ : ∃ wq : World, wq = wr := ⟨_, rfl⟩
              obtain ⟨k, hkn, rfl, rfl, rfl, D⟩ := hrel
              have hcq := hc2.ext D
              have hsq := hs2.ext D
              have hmm := mx_mn (zs := xs) (k := k - 1) (fun j => ⟨hc2.lo j, hc2.hi j⟩)
              by_cases hk : (k : Int) < n
              · have sx := hsq.x k (by omega)
                have hkn' := hk
                have hk6 : (k : Int) < 6 := by omega
                have hk60 : (0 : Int) ≤ k := by omega
                have hst1 := mn_step xs k
                have hst2 := mx_step xs k
                generalize hv : xs.getD k 0 = v at sx hst1 hst2
                generalize mnTo xs (k - 1) = lo at *
                generalize mxTo xs (k - 1) = hi at *
                have Hv := Lib.hid hv
                have H1 := Lib.hid hst1
                have H2 := Lib.hid hst2
                clear hv hst1 hst2
                go_wp2
                go_region
                all_goals
                  obtain ⟨Wq, hWq⟩ : ∃ Wq : World, Wq = wq.drew := ⟨_, rfl⟩
                  rw [← hWq]
                  have D2 : Below W.heap.size W Wq := by rw [hWq]; exact D.drew
                  have hcq := hc2.ext D2
                  have sx := (hs2.ext D2).x k (by omega)
                  rw [Hv.out] at sx
                  clear hWq
                  go_wp2
                  all_goals
                    have HS3 : ∀ u', Below Wq.heap.size Wq u' → Below Wq.heap.size Wq u' ∧ u'.cell? ⟨u1.heap.size, k, none⟩ = some (.int .i64 v) := fun u' h => ⟨h, ext_cell h (b := u1.heap.size) (o := k) (v := .int .i64 v) (by first | (with_reducible assumption) | (with_reducible (refine ext_cell ((Below.refl _ _).alloc (Nat.le_refl _) _) ?_; assumption)) | (go_cell; done) | (go_keep; done))⟩
                    go_region_held3 (fun u' => Below Wq.heap.size Wq u' ∧ u'.cell? ⟨u1.heap.size, k, none⟩ = some (.int .i64 v)) (first | exact HS3 _ (by go_grown) | exact HS3 _ (And.left ‹Below Wq.heap.size Wq _ ∧ _›))
                      (first | (go_at_call 12; refine (clockNow_in _ _ k _ _ (hcq.ext (by go_split_ands; assumption)) hkn').mono ?_; rintro e u7 ⟨rfl, rfl⟩; rw [Hv.out]))
                    have hD3 := ext_trans D2 (And.left ‹Below Wq.heap.size Wq _ ∧ _›)
                    clear HS3 sx hcq D D2
                    go_wp2
                    go_roundw
                    case rel => exact ⟨k + 1, by omega, by go_num, by rw [H1.out]; split <;> first | rfl | (exfalso; omega) | (congr 1; omega), by rw [H2.out]; split <;> first | rfl | (exfalso; omega) | (congr 1; omega), hD3⟩
                    case measure => simp [intOf]; omega
              · have hnk : n = k := by omega
                subst hnk
                go_wp2_with fail
                refine (clockApart _ _ _ _ hcq).mono ?_
                rintro e u7 ⟨rfl, hb⟩
                have hcr := hcq.ext hb
                have hsr := hsq.ext hb
                have hBr := ext_trans (ext_trans B2 D) hb
                have hap : mxTo (xs.take (Int.toNat k)) (Int.toNat k - 1) - mnTo (xs.take (Int.toNat k)) (Int.toNat k - 1) = mxTo xs (k - 1) - mnTo xs (k - 1) := by
                  simp only [Int.toNat_natCast]
                  rw [mxTo_take (by omega), mnTo_take (by omega)]
                rw [hap]
                clear hap hb hcq hsq D hc2 hs2 B2
                generalize mnTo xs (k - 1) = lo at *
                generalize mxTo xs (k - 1) = hi at *
                go_wp2_with fail
                refine (clockNow _ _ _ _ _ hcr).mono ?_
                rintro e u8 ⟨rfl, rfl⟩
                rw [if_neg (by omega)]
                go_wp2
                go_roundw
                case rel => exact ⟨j + 1, xs, by omega, by omega, by omega, by go_num, hBr, hcr, hsr, Hb2.out⟩
                case measure => simp [intOf]; omega
          · skip
            obtain ⟨m, rfl⟩ := Int.eq_ofNat_of_zero_le q1
            have hm6 : m < 6 := by omega
            have sx := hs1.x m hm6
            have sf := hs1.f m hm6
            have hroom := Hb.out m
            have hv0 := hc.lo m
            have hxl := hc.len
            have Hl := Lib.hid hxl
            generalize hv : xs.getD m 0 = v at sx hroom hv0
            have Hv := Lib.hid hv
            clear hv hxl
            go_wp2
            go_region
            obtain ⟨W1, hW1⟩ : ∃ W1 : World, W1 = (wr.setCell ⟨u1.heap.size, m, none⟩ (.int .i64 (v + x))).drew := ⟨_, rfl⟩
            rw [← hW1]
            have BW1 : Below w.heap.size w W1 := by rw [hW1]; exact (B.setCell (show w.heap.size ≤ u1.heap.size by omega) _).drew
            have hcW : CIs w.heap.size n xs W1 := by rw [hW1]; exact (hc.ext' (cell_lt hc.c) (by omega)).ext (Below.refl _ _).drew
            have hsW : SJs u1.heap.size (xs.set m (v + x)) W1 := by rw [hW1]; exact (hs1.set (by have := Hl.out; omega) hm6 _).ext (Below.refl _ _).drew
            have Hb2 : Hid (∀ i, (xs.set m (v + x)).getD i 0 ≤ 1024 * ((j + 1 : Nat) : Int)) := fun i => by
              rw [getD_set (by have := Hl.out; omega)]
              have := Hb.out i
              split <;> omega
            clear hW1 sx sf B hc hs1 Hb
            go_wp2_with fail
            have HS2 : ∀ u', Below w.heap.size w u' → Below w.heap.size w u' ∧ u'.cell? ⟨b2, o2 + j, none⟩ = some (.int .i64 x) ∧ u'.cell? ⟨b1, o1 + j, none⟩ = some (.int .i64 m) := fun u' h => ⟨h, ext_cell h (b := b2) (o := o2 + j) (v := .int .i64 x) (by with_reducible assumption), ext_cell h (b := b1) (o := o1 + j) (v := .int .i64 m) (by with_reducible assumption)⟩
            go_region_held3 (fun u' => Below w.heap.size w u' ∧ u'.cell? ⟨b2, o2 + j, none⟩ = some (.int .i64 x) ∧ u'.cell? ⟨b1, o1 + j, none⟩ = some (.int .i64 m)) (exact HS2 _ (by first | (with_reducible assumption) | (go_grown; done)))
              (first | (go_at_call 11; refine (clockTick _ _ _ _ _ _ (hcW.ext (Below.refl _ _).drew) (by omega) (by omega) (by omega) (by omega) (by simp only [Int.toNat_natCast]; rw [Hv.out]; omega)).mono ?_; rintro e W ⟨rfl, k3, h3⟩; have hB1 := (BW1.drew).trans (k3.below (Nat.le_refl _))))
            simp only [Int.toNat_natCast] at h3
            rw [Hv.out] at h3
            have hs2 := (hsW.ext (Below.refl _ _).drew).kept k3 (by omega)
            have hc2 := h3
            have B2 := hB1
            clear HS2 hcW hsW h3 k3 hB1 BW1
            generalize xs.set m (v + x) = xs2 at *
            clear Hv Hl
            clear hv0 hroom
            obtain ⟨xs, rfl⟩ : ∃ xs : List Int, xs = xs2 := ⟨_, rfl⟩
            have t0 := hs2.x 0 (by omega)
            go_wp2
            go_region
            clear t0
            go_wp2
            go_loopw [11, 12, 13] (fun lo hi i wq => ∃ k : Nat, (k : Int) ≤ n ∧ i = .int .i64 k ∧ lo = .int .i64 (mnTo xs (k - 1)) ∧ hi = .int .i64 (mxTo xs (k - 1)) ∧ Below W.heap.size W wq) (fun _ _ i _ => (n - intOf i).toNat)
            case atStart => exact ⟨0, by omega, rfl, rfl, rfl, (Below.refl _ _).drew⟩
            case round =>
              obtain ⟨wq, rfl⟩ : ∃ wq : World, wq = wr := ⟨_, rfl⟩
              obtain ⟨k, hkn, rfl, rfl, rfl, D⟩ := hrel
              have hcq := hc2.ext D
              have hsq := hs2.ext D
              have hmm := mx_mn (zs := xs) (k := k - 1) (fun j => ⟨hc2.lo j, hc2.hi j⟩)
              by_cases hk : (k : Int) < n
              · have sx := hsq.x k (by omega)
                have hkn' := hk
                have hk6 : (k : Int) < 6 := by omega
                have hk60 : (0 : Int) ≤ k := by omega
                have hst1 := mn_step xs k
                have hst2 := mx_step xs k
                generalize hv : xs.getD k 0 = v at sx hst1 hst2
                generalize mnTo xs (k - 1) = lo at *
                generalize mxTo xs (k - 1) = hi at *
                have Hv := Lib.hid hv
                have H1 := Lib.hid hst1
                have H2 := Lib.hid hst2
                clear hv hst1 hst2
                go_wp2
                go_region
                all_goals
                  obtain ⟨Wq, hWq⟩ : ∃ Wq : World, Wq = wq.drew := ⟨_, rfl⟩
                  rw [← hWq]
                  have D2 : Below W.heap.size W Wq := by rw [hWq]; exact D.drew
                  have hcq := hc2.ext D2
                  have sx := (hs2.ext D2).x k (by omega)
                  rw [Hv.out] at sx
                  clear hWq
                  go_wp2
                  all_goals
                    have HS3 : ∀ u', Below Wq.heap.size Wq u' → Below Wq.heap.size Wq u' ∧ u'.cell? ⟨u1.heap.size, k, none⟩ = some (.int .i64 v) := fun u' h => ⟨h, ext_cell h (b := u1.heap.size) (o := k) (v := .int .i64 v) (by first | (with_reducible assumption) | (with_reducible (refine ext_cell ((Below.refl _ _).alloc (Nat.le_refl _) _) ?_; assumption)) | (go_cell; done) | (go_keep; done))⟩
                    go_region_held3 (fun u' => Below Wq.heap.size Wq u' ∧ u'.cell? ⟨u1.heap.size, k, none⟩ = some (.int .i64 v)) (first | exact HS3 _ (by go_grown) | exact HS3 _ (And.left ‹Below Wq.heap.size Wq _ ∧ _›))
                      (first | (go_at_call 12; refine (clockNow_in _ _ k _ _ (hcq.ext (by go_split_ands; assumption)) hkn').mono ?_; rintro e u7 ⟨rfl, rfl⟩; rw [Hv.out]))
                    have hD3 := ext_trans D2 (And.left ‹Below Wq.heap.size Wq _ ∧ _›)
                    clear HS3 sx hcq D D2
                    go_wp2
                    go_roundw
                    case rel => exact ⟨k + 1, by omega, by go_num, by rw [H1.out]; split <;> first | rfl | (exfalso; omega) | (congr 1; omega), by rw [H2.out]; split <;> first | rfl | (exfalso; omega) | (congr 1; omega), hD3⟩
                    case measure => simp [intOf]; omega
              · have hnk : n = k := by omega
                subst hnk
                go_wp2_with fail
                refine (clockApart _ _ _ _ hcq).mono ?_
                rintro e u7 ⟨rfl, hb⟩
                have hcr := hcq.ext hb
                have hsr := hsq.ext hb
                have hBr := ext_trans (ext_trans B2 D) hb
                have hap : mxTo (xs.take (Int.toNat k)) (Int.toNat k - 1) - mnTo (xs.take (Int.toNat k)) (Int.toNat k - 1) = mxTo xs (k - 1) - mnTo xs (k - 1) := by
                  simp only [Int.toNat_natCast]
                  rw [mxTo_take (by omega), mnTo_take (by omega)]
                rw [hap]
                clear hap hb hcq hsq D hc2 hs2 B2
                generalize mnTo xs (k - 1) = lo at *
                generalize mxTo xs (k - 1) = hi at *
                go_wp2_with fail
                refine (clockNow _ _ _ _ _ hcr).mono ?_
                rintro e u8 ⟨rfl, rfl⟩
                rw [if_neg (by omega)]
                go_wp2
                go_roundw
                case rel => exact ⟨j + 1, xs, by omega, by omega, by omega, by go_num, hBr, hcr, hsr, Hb2.out⟩
                case measure => simp [intOf]; omega
        · go_wp2
          go_ret
          exact ⟨rfl, B⟩
      · go_wp2
        go_ret
        exact ⟨rfl, B⟩
    · go_wp2
      go_ret
      exact ⟨rfl, B⟩

end Go.Proofs.Ytjnkchilgdhlaaa
