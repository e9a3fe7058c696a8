/- Package sweep beside the document's own: what is short. -/
import Derived.Test.YtohiimfojlcomaaTdP
namespace Go.Proofs.Ytohiimfojlcomaa
open Go.RowKit
set_option linter.unusedVariables false
set_option linter.unusedSimpArgs false

abbrev RE9 (w : World) (a : Option Addr) (ls : List En) : Prop := SAt ec 10 65 w a ls
abbrev OwnR9 (base : Nat) (w : World) (v : Value) (ls : List En) : Prop := OwnR ec 10 65 base w v ls
theorem RE9.at {w : World} {b o i : Nat} {ls : List En} {x : En} (h : RE9 w (some ⟨b, o, none⟩) ls) (hi : ls[i]? = some x) :
    w.cell? ⟨b, o + i * 10, none⟩ = some (.string x.c.a) ∧ w.cell? ⟨b, o + i * 10 + 1, none⟩ = some (.string x.c.i) ∧ w.cell? ⟨b, o + i * 10 + 2, none⟩ = some (.int .i64 x.c.s) ∧ w.cell? ⟨b, o + i * 10 + 3, none⟩ = some (.int .i64 x.c.o) ∧ w.cell? ⟨b, o + i * 10 + 4, none⟩ = some (.int .i64 x.c.l) ∧ w.cell? ⟨b, o + i * 10 + 5, none⟩ = some (.int .i64 x.c.t) ∧ w.cell? ⟨b, o + i * 10 + 6, none⟩ = some (.int .i64 x.c.k) ∧ w.cell? ⟨b, o + i * 10 + 7, none⟩ = some (.int .i64 x.c.n) ∧ w.cell? ⟨b, o + i * 10 + 8, none⟩ = some (.bool x.c.g) ∧ w.cell? ⟨b, o + i * 10 + 9, none⟩ = some (.int .i64 x.seen) :=
  ⟨h.get ec_len hi 0 _ rfl, h.get ec_len hi 1 _ rfl, h.get ec_len hi 2 _ rfl, h.get ec_len hi 3 _ rfl, h.get ec_len hi 4 _ rfl, h.get ec_len hi 5 _ rfl, h.get ec_len hi 6 _ rfl, h.get ec_len hi 7 _ rfl, h.get ec_len hi 8 _ rfl, h.get ec_len hi 9 _ rfl⟩
theorem info_r9 : (Try.prog.info? 65).map (fun i => (i.zero, i.size, i.bytes)) = some (some En.zero.v, 10, 96) := by kernel_rfl
def mostI (n : Int) : Int := (if n < 0 then 99 else if 1048576 < n then 15728739 else n * 15 + 99) / 100
theorem mostI_nat (n : Nat) (h : n ≤ 1000) : mostI n = (mostN n : Nat) := by
  unfold mostI mostN
  rw [if_neg (by omega), if_neg (by omega)]
  omega

set_option maxRecDepth 100000 in
set_option maxHeartbeats 2000000 in
theorem refDead (a : Option Addr) (n c : Nat) (l : List En) (now : Int) (w : World) (h : RE9 w a l) (hl : l.length = n) (hn : n ≤ 1000) (hnc : n ≤ c) :
    Calls Try.prog 22 #[.slice a n c, .int .i64 now] w fun e w' => ∃ v', e = .returned v' ∧ OwnK w.heap.size w' v' (deadL l now) ∧ Below w.heap.size w w' := by
  obtain ⟨i0, hi, hz0, hz1, hz2⟩ := info_parts' info_ky
  have HA := Lib.hid h
  have HN := Lib.hid hl
  clear h hl
  go_enter Try.func22, Try.ntmps22
  go_wp2_with fail
  go_loopw [5, 10] (fun g j wr => ∃ J : Nat, J ≤ n ∧ j = .int .i64 (J : Int) ∧ OwnK w.heap.size wr g (deadL (l.take J) now) ∧ Below w.heap.size w wr) (fun g j _ => n - (intOf j).toNat)
  case atStart => exact ⟨0, by omega, rfl, OwnR.nil _ _, Below.refl _ _⟩
  case round =>
    obtain ⟨w2, rfl⟩ : ∃ y : World, y = wr := ⟨_, rfl⟩
    obtain ⟨J, hJ, rfl, ho2, hb2⟩ := hrel
    by_cases hlt : J < n
    · obtain ⟨x, hx⟩ : ∃ x, l[J]? = some x := ⟨_, List.getElem?_eq_getElem (by have := HN.out; omega)⟩
      obtain ⟨S, hS⟩ : ∃ S, deadL (l.take J) now = S := ⟨_, rfl⟩
      have HST := Lib.hid (take_snoc hx)
      have HS := Lib.hid hS
      rw [hS] at ho2
      obtain ⟨m, hm⟩ : ∃ m, S.length = m := ⟨_, rfl⟩
      have hm1 : m ≤ 1000 := by have := dead_len (l.take J) now; rw [hS, List.length_take, hm] at this; omega
      obtain ⟨tb, tof, rfl⟩ : ∃ b o, a = some ⟨b, o, none⟩ := by
        rcases HA.out with h | ⟨b, o, e, _⟩
        · rw [h] at hx; simp at hx
        · exact ⟨b, o, e⟩
      obtain ⟨x0, x1, x2, x3, x4, x5, x6, x7, x8, x9⟩ := RE9.at (HA.out.ext hb2) hx
      obtain ⟨ga, gc, hgv, hgc, hgm, -, -, -⟩ := ho2.read ky_len
      rw [hm] at hgc hgv
      subst hgv
      have D0 : Below w2.heap.size w2 (w2.alloc (.cells #[.string x.c.a, .string x.c.i, .int .i64 x.c.s, .int .i64 x.c.o, .int .i64 x.c.l, .int .i64 x.c.t, .int .i64 x.c.k, .int .i64 x.c.n, .bool x.c.g, .int .i64 x.seen] 65)) := (Below.refl _ _).alloc (Nat.le_refl _) _
      have HX := Lib.hid (blk_new w2 #[.string x.c.a, .string x.c.i, .int .i64 x.c.s, .int .i64 x.c.o, .int .i64 x.c.l, .int .i64 x.c.t, .int .i64 x.c.k, .int .i64 x.c.n, .bool x.c.g, .int .i64 x.seen] 65)
      have HO3 := Lib.hid (ho2.ext D0)
      have HB3 := Lib.hid (ext_trans hb2 D0)
      have HM := Lib.hid hm
      unfold maxLen at hgm
      clear ho2 hb2 hx hS hm D0
      go_upto_region 5 with (fail)
      obtain ⟨r, hr⟩ : ∃ r, w2.heap.size = r := ⟨_, rfl⟩
      rw [hr] at HX ⊢
      clear hr
      generalize (w2.alloc (.cells #[.string x.c.a, .string x.c.i, .int .i64 x.c.s, .int .i64 x.c.o, .int .i64 x.c.l, .int .i64 x.c.t, .int .i64 x.c.k, .int .i64 x.c.n, .bool x.c.g, .int .i64 x.seen] 65)) = w4 at *
      clear x0 x1 x2 x3 x4 x5 x6 x7 x8 x9
      have b1 := hd_lo now
      have b2 := hd_lo x.seen
      have c1 := hd_hi now
      have c2 := hd_hi x.seen
      cases hg : x.c.g
      · have HG := Lib.hid hg
        have HD := Lib.hid (show isDead now x = false from by unfold isDead; rw [hg]; rfl)
        clear hg
        haveI hIq : Nonempty (Of w4) := of_some _
        have k8 : w4.cell? ⟨r, 8, none⟩ = some (.bool false) := by rw [blk_cell HX.out, ← HG.out]; rfl
        have hF8 := of_cell k8
        first | (refine wp_region_stay w4 (by kernel_rfl) (by kernel_rfl) (by go_grown) ?_) | (refine wp_region_stay_seq w4 (by go_grown) ?_)
        repeat (go_big_quiet_step ((go_at_call 33; refine stay_same (refHold _ _))))
        refine wpQuiet_nil ?_
        intro w5 hb5
        clear hIq hF8 k8
        have HO5 := Lib.hid (HO3.out.ext hb5)
        have HX5 := Lib.hid (blk_ext hb5 HX.out)
        have HB5 := Lib.hid (ext_trans HB3.out hb5)
        have Z5 := HB5.out.size
        have hk5 := blk_cell HX5.out
        have hl5 := blk_lt HX5.out
        clear hb5 HO3 HX HB3
        go_wp2
        go_roundw
        case rel => exact ⟨J + 1, by omega, by go_num, by rw [HST.out, dead_no HD.out, HS.out]; exact HO5.out, HB5.out⟩
        case measure => simp [intOf]; omega
      · have HG := Lib.hid hg
        by_cases h4 : 400 < hd now - hd x.seen
        · have HD := Lib.hid (show isDead now x = true from by unfold isDead; rw [hg]; simp [h4])
          have hd4 : decide (400 < hd now - hd x.seen) = true := decide_eq_true h4
          clear hg h4
          haveI hIq : Nonempty (Of w4) := of_some _
          have k8 : w4.cell? ⟨r, 8, none⟩ = some (.bool true) := by rw [blk_cell HX.out, ← HG.out]; rfl
          have hF8 := of_cell k8
          have k9 : w4.cell? ⟨r, 9, none⟩ = some (.int .i64 x.seen) := by rw [blk_cell HX.out]; rfl
          have hF9 := of_cell k9
          first | (refine wp_region_stay w4 (by kernel_rfl) (by kernel_rfl) (by go_grown) ?_) | (refine wp_region_stay_seq w4 (by go_grown) ?_)
          repeat (go_big_quiet_step ((go_at_call 33; refine stay_same (refHold _ _))))
          refine wpQuiet_nil ?_
          intro w5 hb5
          clear hIq hF8 k8 hF9 k9
          have HO5 := Lib.hid (HO3.out.ext hb5)
          have HX5 := Lib.hid (blk_ext hb5 HX.out)
          have HB5 := Lib.hid (ext_trans HB3.out hb5)
          have Z5 := HB5.out.size
          have hk5 := blk_cell HX5.out
          have hl5 := blk_lt HX5.out
          clear hb5 HO3 HX HB3
          have HO5' := Lib.hid (show w5.ownsRow w.heap.size 30 2 (.slice ga m gc) m (flat ky S) from by have := HO5.out; unfold OwnR at this; rw [HM.out] at this; exact this)
          go_wp2_with (at_builtin; refine wpList_append_own _ rfl _ _ 39 rfl (w.heap.size) 30 i0 (.agg #[.string ⟨#[]⟩, .string ⟨#[]⟩]) 2 32 Try.underlying39 hi hz0 hz1 hz2 rfl (by decide) _ m (flat ky S) rfl (HO5'.out.alloc (.cells #[.string x.c.a, .string x.c.i] 30)) ⟨w5.heap.size, 0, none⟩ 1 1 (ky (x.c.a, x.c.i)) rfl rfl ?c1 ?c2 ?c3 ?c4 ?c5 ?_)
          case c1 =>
            intro j u hj
            rw [add_off, Nat.zero_add, blk_cell (blk_new w5 #[.string x.c.a, .string x.c.i] 30)]
            simpa [ky] using hj
          case c2 => exact ky_one _
          case c3 => unfold maxLen; omega
          case c4 => omega
          case c5 => simp; omega
          intro v7 w7 ho7 hg7 _
          have HB7 := Lib.hid ((HB5.out.alloc Z5 (.cells #[.string x.c.a, .string x.c.i] 30)).grown hg7 (by simp; omega) (fun q hq => own_ge HO5'.out hq))
          have HO7 := Lib.hid (show OwnK w.heap.size w7 v7 (S ++ [(x.c.a, x.c.i)]) by unfold OwnK OwnR; rw [flat_snoc, List.length_append, HM.out]; exact ho7)
          clear ho7 hg7 HO5 HO5' HX5 HB5 hk5 hl5
          go_wp2
          go_roundw
          case rel => exact ⟨J + 1, by omega, by go_num, by rw [HST.out, dead_yes HD.out, HS.out]; exact HO7.out, HB7.out⟩
          case measure => simp [intOf]; omega
        · have HD := Lib.hid (show isDead now x = false from by unfold isDead; rw [hg]; simp [h4])
          have hd4 : decide (400 < hd now - hd x.seen) = false := decide_eq_false h4
          clear hg h4
          haveI hIq : Nonempty (Of w4) := of_some _
          have k8 : w4.cell? ⟨r, 8, none⟩ = some (.bool true) := by rw [blk_cell HX.out, ← HG.out]; rfl
          have hF8 := of_cell k8
          have k9 : w4.cell? ⟨r, 9, none⟩ = some (.int .i64 x.seen) := by rw [blk_cell HX.out]; rfl
          have hF9 := of_cell k9
          first | (refine wp_region_stay w4 (by kernel_rfl) (by kernel_rfl) (by go_grown) ?_) | (refine wp_region_stay_seq w4 (by go_grown) ?_)
          repeat (go_big_quiet_step ((go_at_call 33; refine stay_same (refHold _ _))))
          refine wpQuiet_nil ?_
          intro w5 hb5
          clear hIq hF8 k8 hF9 k9
          have HO5 := Lib.hid (HO3.out.ext hb5)
          have HX5 := Lib.hid (blk_ext hb5 HX.out)
          have HB5 := Lib.hid (ext_trans HB3.out hb5)
          have Z5 := HB5.out.size
          have hk5 := blk_cell HX5.out
          have hl5 := blk_lt HX5.out
          clear hb5 HO3 HX HB3
          go_wp2
          go_roundw
          case rel => exact ⟨J + 1, by omega, by go_num, by rw [HST.out, dead_no HD.out, HS.out]; exact HO5.out, HB5.out⟩
          case measure => simp [intOf]; omega
    · obtain rfl : J = n := by omega
      go_wp2
      go_ret
      exact ⟨_, rfl, by rw [List.take_of_length_le (by have := HN.out; omega)] at ho2; exact ho2, hb2⟩

set_option maxRecDepth 100000 in
set_option maxHeartbeats 1000000 in
theorem sweepMostI (n : Int) (w : World) :
    Calls Try.prog 8 #[.int .i64 n] w fun e w' => e = .returned (.int .i64 (mostI n)) ∧ w = w' := by
  by_cases h1 : n < 0
  · have h3 : ¬ 1048576 < n := by omega
    have e : mostI n = 0 := by unfold mostI; rw [if_pos h1]; rfl
    rw [e]
    go_enter Try.func8, Try.ntmps8
    go_wp2
    all_goals (go_ret; refine ⟨?_, rfl⟩; simp; try omega)
  · by_cases h2 : 1048576 < n
    · have e : mostI n = 157287 := by unfold mostI; rw [if_neg h1, if_pos h2]; rfl
      rw [e]
      go_enter Try.func8, Try.ntmps8
      go_wp2
      all_goals (go_ret; refine ⟨?_, rfl⟩; simp; try omega)
    · have HE := Lib.hid (show mostI n = (n * 15 + 99) / 100 from by unfold mostI; rw [if_neg h1, if_neg h2])
      go_enter Try.func8, Try.ntmps8
      go_wp2
      all_goals (go_ret; refine ⟨?_, rfl⟩; rw [HE.out]; simp; try omega)

set_option maxRecDepth 100000 in
set_option maxHeartbeats 1000000 in
theorem refPartI (n : Int) (w : World) :
    Calls Try.prog 9 #[.int .i64 n] w fun e w' => e = .returned (.int .i64 (mostI n)) ∧ w = w' := by
  by_cases h1 : n < 0
  · have h3 : ¬ 1048576 < n := by omega
    have e : mostI n = 0 := by unfold mostI; rw [if_pos h1]; rfl
    rw [e]
    go_enter Try.func9, Try.ntmps9
    go_wp2
    all_goals (go_ret; refine ⟨?_, rfl⟩; simp; try omega)
  · by_cases h2 : 1048576 < n
    · have e : mostI n = 157287 := by unfold mostI; rw [if_neg h1, if_pos h2]; rfl
      rw [e]
      go_enter Try.func9, Try.ntmps9
      go_wp2
      all_goals (go_ret; refine ⟨?_, rfl⟩; simp; try omega)
    · have HE := Lib.hid (show mostI n = (n * 15 + 99) / 100 from by unfold mostI; rw [if_neg h1, if_neg h2])
      go_enter Try.func9, Try.ntmps9
      go_wp2
      all_goals (go_ret; refine ⟨?_, rfl⟩; rw [HE.out]; simp; try omega)

set_option maxRecDepth 100000 in
set_option maxHeartbeats 4000000 in
theorem sweepPickN (a : Option Addr) (n c : Nat) (l : List En) (now lt : Int) (w : World) (h : EAt w a l) (hl : l.length = n) (hn : n ≤ 40) (hnc : n ≤ c) (h0 : lt < 0) :
    Calls Try.prog 14 #[.slice a n c, .int .i64 now, .int .i64 lt] w fun e w' => ∃ v', e = .returned v' ∧ OwnK w.heap.size w' v' (pickL l now 0) ∧ Below w.heap.size w w' := by
  obtain ⟨i0, hi, hz0, hz1, hz2⟩ := info_parts' info_td
  obtain ⟨j0, gi, gz0, gz1, gz2⟩ := info_parts' info_ky
  have HA := Lib.hid h
  have HN := Lib.hid hl
  clear h hl
  go_enter Try.func14, Try.ntmps14
  go_wp2_with fail
  go_loopw [7, 8, 17] (fun lv g j wr => ∃ J : Nat, J ≤ n ∧ j = .int .i64 (J : Int) ∧ lv = .int .i64 ((lives (l.take J) : Nat) : Int) ∧ OwnT w.heap.size wr g (tars (l.take J) now 0) ∧ Below w.heap.size w wr) (fun lv g j _ => n - (intOf j).toNat)
  case atStart => exact ⟨0, by omega, rfl, rfl, OwnR.nil _ _, Below.refl _ _⟩
  case round =>
    obtain ⟨w2, rfl⟩ : ∃ y : World, y = wr := ⟨_, rfl⟩
    obtain ⟨J, hJ, rfl, rfl, ho2, hb2⟩ := hrel
    obtain ⟨LV, hLV⟩ : ∃ q, lives (l.take J) = q := ⟨_, rfl⟩
    have hlv : LV ≤ 40 := by rw [← hLV]; have := lives_len (l.take J); rw [List.length_take] at this; omega
    rw [hLV]
    by_cases hlt : J < n
    · obtain ⟨x, hx⟩ : ∃ x, l[J]? = some x := ⟨_, List.getElem?_eq_getElem (by have := HN.out; omega)⟩
      obtain ⟨S, hS⟩ : ∃ S, tars (l.take J) now 0 = S := ⟨_, rfl⟩
      have HST := Lib.hid (take_snoc hx)
      have HT := Lib.hid hS
      have HLV := Lib.hid hLV
      rw [hS] at ho2
      obtain ⟨q, hm⟩ : ∃ m, S.length = m := ⟨_, rfl⟩
      have hm1 : q ≤ 1000 := by have := tars_len (l.take J) now 0; rw [hS, List.length_take, hm] at this; omega
      obtain ⟨tb, tof, rfl⟩ : ∃ b o, a = some ⟨b, o, none⟩ := by
        rcases HA.out with h | ⟨b, o, e, _⟩
        · rw [h] at hx; simp at hx
        · exact ⟨b, o, e⟩
      obtain ⟨x0, x1, x2, x3, x4, x5, x6, x7, x8, x9⟩ := EAt.at (HA.out.ext hb2) hx
      obtain ⟨ga, gc, hgv, hgc, hgm, -, -, -⟩ := ho2.read tc_len
      rw [hm] at hgc hgv
      subst hgv
      have D0 : Below w2.heap.size w2 (w2.alloc (.cells #[.string x.c.a, .string x.c.i, .int .i64 x.c.s, .int .i64 x.c.o, .int .i64 x.c.l, .int .i64 x.c.t, .int .i64 x.c.k, .int .i64 x.c.n, .bool x.c.g, .int .i64 x.seen] 36)) := (Below.refl _ _).alloc (Nat.le_refl _) _
      have HX := Lib.hid (blk_new w2 #[.string x.c.a, .string x.c.i, .int .i64 x.c.s, .int .i64 x.c.o, .int .i64 x.c.l, .int .i64 x.c.t, .int .i64 x.c.k, .int .i64 x.c.n, .bool x.c.g, .int .i64 x.seen] 36)
      have HO3 := Lib.hid (ho2.ext D0)
      have HB3 := Lib.hid (ext_trans hb2 D0)
      have HM := Lib.hid hm
      unfold maxLen at hgm
      clear ho2 hb2 hx hS hm D0 hLV
      go_upto_region 6 with (fail)
      obtain ⟨r, hr⟩ : ∃ r, w2.heap.size = r := ⟨_, rfl⟩
      rw [hr] at HX ⊢
      clear hr
      generalize (w2.alloc (.cells #[.string x.c.a, .string x.c.i, .int .i64 x.c.s, .int .i64 x.c.o, .int .i64 x.c.l, .int .i64 x.c.t, .int .i64 x.c.k, .int .i64 x.c.n, .bool x.c.g, .int .i64 x.seen] 36)) = w4 at *
      clear x0 x1 x2 x3 x4 x5 x6 x7 x8 x9
      cases hg : x.c.g
      · have HLV1 := Lib.hid (show lives (l.take (J + 1)) = LV + 1 from by rw [HST.out, lives_yes hg, HLV.out])
        have HXg := Lib.hid (show w4.heap[r]? = some (.cells #[.string x.c.a, .string x.c.i, .int .i64 x.c.s, .int .i64 x.c.o, .int .i64 x.c.l, .int .i64 x.c.t, .int .i64 x.c.k, .int .i64 x.c.n, .bool false, .int .i64 x.seen] 36 (0, 0)) from by have := HX.out; rw [hg] at this; exact this)
        have hk4 := blk_cell HXg.out
        have HG := Lib.hid hg
        clear hg HX
        go_wp2_with fail
        refine (leaseLate ⟨{ x.c with g := false }, x.seen⟩ now _).mono ?_
        rintro e w5 ⟨rfl, hb5⟩
        rw [lateg x _ HG.out]
        obtain ⟨Lx, hL⟩ : ∃ q, late x now = q := ⟨_, rfl⟩
        have HLL := Lib.hid hL
        rw [hL]
        have HO5 := Lib.hid (HO3.out.ext hb5)
        have HX5 := Lib.hid (blk_ext hb5 HXg.out)
        have HB5 := Lib.hid (ext_trans HB3.out hb5)
        have Z5 := HB5.out.size
        have hk5 := blk_cell HX5.out
        have hl5 := blk_lt HX5.out
        clear hb5 HO3 HXg HB3 hk4 hL
        by_cases h4 : 0 < Lx
        · have HTN := Lib.hid (show tars (l.take (J + 1)) now 0 = S ++ [⟨x.c.a, x.c.i, Lx⟩] from by rw [HST.out, tars_yes (by rw [HLL.out]; exact h4), HT.out, HLL.out])
          have hd4 : decide (0 < Lx) = true := decide_eq_true h4
          have HO5' := Lib.hid (show w5.ownsRow w.heap.size 59 3 (.slice ga q gc) q (flat tc S) from by have := HO5.out; unfold OwnR at this; rw [HM.out] at this; exact this)
          go_wp2_with (at_builtin; refine wpList_append_own _ rfl _ _ 56 rfl (w.heap.size) 59 i0 (.agg #[.string ⟨#[]⟩, .string ⟨#[]⟩, .int .i64 0]) 3 40 Try.underlying56 hi hz0 hz1 hz2 rfl (by decide) _ q (flat tc S) rfl (HO5'.out.alloc (.cells #[.string x.c.a, .string x.c.i, .int .i64 Lx] 59)) ⟨w5.heap.size, 0, none⟩ 1 1 (tc ⟨x.c.a, x.c.i, Lx⟩) rfl rfl ?c1 ?c2 ?c3 ?c4 ?c5 ?_)
          case c1 =>
            intro j u hj
            rw [add_off, Nat.zero_add, blk_cell (blk_new w5 #[.string x.c.a, .string x.c.i, .int .i64 Lx] 59)]
            simpa [tc] using hj
          case c2 => exact tc_one _
          case c3 => unfold maxLen; omega
          case c4 => omega
          case c5 => simp; omega
          intro v7 w7 ho7 hg7 _
          have HB7 := Lib.hid ((HB5.out.alloc Z5 (.cells #[.string x.c.a, .string x.c.i, .int .i64 Lx] 59)).grown hg7 (by simp; omega) (fun q hq => own_ge HO5'.out hq))
          have HO7 := Lib.hid (show OwnT w.heap.size w7 v7 (S ++ [⟨x.c.a, x.c.i, Lx⟩]) by unfold OwnT OwnR; rw [flat_snoc, List.length_append, HM.out]; exact ho7)
          clear ho7 hg7 HO5 HO5' HX5 HB5 hk5 hl5
          go_wp2
          go_roundw
          case rel => exact ⟨J + 1, by omega, by go_num, by rw [HLV1.out]; go_num, by rw [HTN.out]; exact HO7.out, HB7.out⟩
          case measure => simp [intOf]; omega
        · have HTN := Lib.hid (show tars (l.take (J + 1)) now 0 = S from by rw [HST.out, tars_no (by rw [HLL.out]; exact h4), HT.out])
          have hd4 : decide (0 < Lx) = false := decide_eq_false h4
          go_wp2
          go_roundw
          case rel => exact ⟨J + 1, by omega, by go_num, by rw [HLV1.out]; go_num, by rw [HTN.out]; exact HO5.out, HB5.out⟩
          case measure => simp [intOf]; omega
      · have HLV1 := Lib.hid (show lives (l.take (J + 1)) = LV from by rw [HST.out, lives_no hg, HLV.out])
        have HXg := Lib.hid (show w4.heap[r]? = some (.cells #[.string x.c.a, .string x.c.i, .int .i64 x.c.s, .int .i64 x.c.o, .int .i64 x.c.l, .int .i64 x.c.t, .int .i64 x.c.k, .int .i64 x.c.n, .bool true, .int .i64 x.seen] 36 (0, 0)) from by have := HX.out; rw [hg] at this; exact this)
        have hk4 := blk_cell HXg.out
        have HG := Lib.hid hg
        clear hg HX
        go_wp2_with fail
        refine (leaseLate ⟨{ x.c with g := true }, x.seen⟩ now _).mono ?_
        rintro e w5 ⟨rfl, hb5⟩
        rw [lateg x _ HG.out]
        obtain ⟨Lx, hL⟩ : ∃ q, late x now = q := ⟨_, rfl⟩
        have HLL := Lib.hid hL
        rw [hL]
        have HO5 := Lib.hid (HO3.out.ext hb5)
        have HX5 := Lib.hid (blk_ext hb5 HXg.out)
        have HB5 := Lib.hid (ext_trans HB3.out hb5)
        have Z5 := HB5.out.size
        have hk5 := blk_cell HX5.out
        have hl5 := blk_lt HX5.out
        clear hb5 HO3 HXg HB3 hk4 hL
        by_cases h4 : 0 < Lx
        · have HTN := Lib.hid (show tars (l.take (J + 1)) now 0 = S ++ [⟨x.c.a, x.c.i, Lx⟩] from by rw [HST.out, tars_yes (by rw [HLL.out]; exact h4), HT.out, HLL.out])
          have hd4 : decide (0 < Lx) = true := decide_eq_true h4
          have HO5' := Lib.hid (show w5.ownsRow w.heap.size 59 3 (.slice ga q gc) q (flat tc S) from by have := HO5.out; unfold OwnR at this; rw [HM.out] at this; exact this)
          go_wp2_with (at_builtin; refine wpList_append_own _ rfl _ _ 56 rfl (w.heap.size) 59 i0 (.agg #[.string ⟨#[]⟩, .string ⟨#[]⟩, .int .i64 0]) 3 40 Try.underlying56 hi hz0 hz1 hz2 rfl (by decide) _ q (flat tc S) rfl (HO5'.out.alloc (.cells #[.string x.c.a, .string x.c.i, .int .i64 Lx] 59)) ⟨w5.heap.size, 0, none⟩ 1 1 (tc ⟨x.c.a, x.c.i, Lx⟩) rfl rfl ?c1 ?c2 ?c3 ?c4 ?c5 ?_)
          case c1 =>
            intro j u hj
            rw [add_off, Nat.zero_add, blk_cell (blk_new w5 #[.string x.c.a, .string x.c.i, .int .i64 Lx] 59)]
            simpa [tc] using hj
          case c2 => exact tc_one _
          case c3 => unfold maxLen; omega
          case c4 => omega
          case c5 => simp; omega
          intro v7 w7 ho7 hg7 _
          have HB7 := Lib.hid ((HB5.out.alloc Z5 (.cells #[.string x.c.a, .string x.c.i, .int .i64 Lx] 59)).grown hg7 (by simp; omega) (fun q hq => own_ge HO5'.out hq))
          have HO7 := Lib.hid (show OwnT w.heap.size w7 v7 (S ++ [⟨x.c.a, x.c.i, Lx⟩]) by unfold OwnT OwnR; rw [flat_snoc, List.length_append, HM.out]; exact ho7)
          clear ho7 hg7 HO5 HO5' HX5 HB5 hk5 hl5
          go_wp2
          go_roundw
          case rel => exact ⟨J + 1, by omega, by go_num, by rw [HLV1.out], by rw [HTN.out]; exact HO7.out, HB7.out⟩
          case measure => simp [intOf]; omega
        · have HTN := Lib.hid (show tars (l.take (J + 1)) now 0 = S from by rw [HST.out, tars_no (by rw [HLL.out]; exact h4), HT.out])
          have hd4 : decide (0 < Lx) = false := decide_eq_false h4
          go_wp2
          go_roundw
          case rel => exact ⟨J + 1, by omega, by go_num, by rw [HLV1.out], by rw [HTN.out]; exact HO5.out, HB5.out⟩
          case measure => simp [intOf]; omega
    · obtain rfl : J = n := by omega
      have htk : l.take J = l := List.take_of_length_le (by have := HN.out; omega)
      rw [htk] at hLV ho2
      obtain ⟨T, hT⟩ : ∃ T, tars l now 0 = T := ⟨_, rfl⟩
      have HT := Lib.hid hT
      have HLV := Lib.hid hLV
      rw [hT] at ho2
      obtain ⟨q, hq⟩ : ∃ q, T.length = q := ⟨_, rfl⟩
      have hq19 : q ≤ 40 := by rw [← hq, ← hT]; have := tars_len l now 0; have := HN.out; omega
      obtain ⟨M, hM⟩ : ∃ M, mostN LV = M := ⟨_, rfl⟩
      have HMM := Lib.hid hM
      have hM3 : M ≤ 10 := by rw [← hM]; exact mostN_le hlv
      obtain ⟨a1, c1, hgv, h1c, h1m, -, hge, hf1⟩ := ho2.read tc_len
      rw [hq] at hgv h1c
      unfold maxLen at h1m
      subst hgv
      have HQ := Lib.hid hq
      clear hT hLV htk hM hq
      rcases hf1 with ⟨rfl, rfl, hnil⟩ | ⟨g, rfl⟩
      · obtain rfl : q = 0 := by rw [← HQ.out, hnil]; rfl
        have HB2 := Lib.hid hb2
        have HFIN := Lib.hid (show pickL l now 0 = [] from by unfold pickL; rw [HT.out, hnil]; simp [srt])
        clear hb2 ho2 hge hnil
        go_wp2_with fail
        refine (ssfNil _).mono ?_
        rintro e w3 ⟨rfl, hb3⟩
        have HB3 := Lib.hid (ext_trans HB2.out hb3)
        clear hb3
        go_wp2_with fail
        refine (sweepMost LV _ (by omega)).mono ?_
        rintro e w3' ⟨rfl, rfl⟩
        rw [HMM.out]
        have hmn : ¬ ((M : Int) < 0) := by omega
        go_wp2_with fail
        go_loopw [12, 53] (fun g j wr => g = .slice none 0 0 ∧ j = .int .i64 0 ∧ wr = w3) (fun g j _ => 0)
        case atStart => exact ⟨rfl, rfl, rfl⟩
        case round =>
          obtain ⟨rfl, rfl, rfl⟩ := hrel
          go_wp2
          go_ret
          exact ⟨_, rfl, by rw [HFIN.out]; exact OwnR.nil _ _, HB3.out⟩
      · have hgw : w.heap.size ≤ g := (hge g 0 rfl).1
        have HB2 := Lib.hid hb2
        have HO2 := Lib.hid ho2
        clear hb2 ho2 hge
        go_wp2_with fail
        refine (ssfSome w.heap.size g q c1 T _ HO2.out HQ.out (by omega)).mono ?_
        rintro e w3 ⟨rfl, ho3, hr3⟩
        have HB30 := Lib.hid (HB2.out.trans (hr3.below hgw HB2.out.size))
        have HZ3 := Lib.hid HB30.out.size
        obtain ⟨U, hUU⟩ : ∃ U, srt tlt T = U := ⟨_, rfl⟩
        have HUU := Lib.hid hUU
        have HU := Lib.hid (show U.length = q from by rw [← hUU, srt_len, HQ.out])
        rw [hUU] at ho3
        have HUA := Lib.hid (OwnR.sat tc_len ho3)
        clear ho3 hr3 hUU HO2 HB2
        go_wp2_with fail
        refine (sweepMost LV _ (by omega)).mono ?_
        rintro e w3' ⟨rfl, rfl⟩
        rw [HMM.out]
        by_cases hmin : M < q
        · have hmn : ¬ ((q : Int) < (M : Int)) := by omega
          have HFIN := Lib.hid (show pickL l now 0 = (U.take M).map (fun t => (t.a, t.i)) from by unfold pickL; rw [HT.out, HLV.out, HMM.out, HUU.out])
          go_wp2_with fail
          go_loopw [12, 53] (fun g j wr => ∃ J : Nat, J ≤ M ∧ j = .int .i64 (J : Int) ∧ OwnK w3.heap.size wr g ((U.take J).map (fun t => (t.a, t.i))) ∧ Below w3.heap.size w3 wr) (fun g j _ => M - (intOf j).toNat)
          case atStart => exact ⟨0, by omega, rfl, OwnR.nil _ _, Below.refl _ _⟩
          case round =>
            obtain ⟨w4, rfl⟩ : ∃ z : World, z = wr := ⟨_, rfl⟩
            obtain ⟨J, hJ, rfl, ho4, hb4⟩ := hrel
            obtain ⟨S, hS⟩ : ∃ S, (U.take J).map (fun t => (t.a, t.i)) = S := ⟨_, rfl⟩
            rw [hS] at ho4
            obtain ⟨m, hm⟩ : ∃ m, S.length = m := ⟨_, rfl⟩
            have hm1 : m ≤ 1000 := by rw [← hm, ← hS, List.length_map, List.length_take]; omega
            by_cases hlt : J < M
            · obtain ⟨y, hy⟩ : ∃ y, U[J]? = some y := ⟨_, List.getElem?_eq_getElem (by have := HU.out; omega)⟩
              have HSN := Lib.hid (show (U.take (J + 1)).map (fun t => (t.a, t.i)) = S ++ [(y.a, y.i)] from by rw [take_snoc hy, map_snoc, hS])
              obtain ⟨y0, y1, y2⟩ := TAt.at (HUA.out.ext hb4) hy
              simp only [Nat.zero_add] at y0 y1 y2
              obtain ⟨ga, gc, hgv, hgc, hgm, -, -, -⟩ := ho4.read ky_len
              rw [hm] at hgc hgv
              subst hgv
              have D0 : Below w4.heap.size w4 (w4.alloc (.cells #[.string y.a, .string y.i, .int .i64 y.by_] 59)) := (Below.refl _ _).alloc (Nat.le_refl _) _
              have HX5 := Lib.hid (blk_new w4 #[.string y.a, .string y.i, .int .i64 y.by_] 59)
              have HO5 := Lib.hid (ho4.ext D0)
              have HB5 := Lib.hid (ext_trans hb4 D0)
              have HM := Lib.hid hm
              unfold maxLen at hgm
              clear ho4 hb4 hS hm D0 hy
              go_upto_region 17 with (fail)
              obtain ⟨r, hr⟩ : ∃ r, w4.heap.size = r := ⟨_, rfl⟩
              rw [hr] at HX5 ⊢
              clear hr
              generalize (w4.alloc (.cells #[.string y.a, .string y.i, .int .i64 y.by_] 59)) = w5 at *
              clear y0 y1 y2
              have hk5 := blk_cell HX5.out
              have hl5 := blk_lt HX5.out
              have Z5 := HB5.out.size
              have HO5' := Lib.hid (show w5.ownsRow w3.heap.size 30 2 (.slice ga m gc) m (flat ky S) from by have := HO5.out; unfold OwnR at this; rw [HM.out] at this; exact this)
              go_wp2_with (at_builtin; refine wpList_append_own _ rfl _ _ 39 rfl (w3.heap.size) 30 j0 (.agg #[.string ⟨#[]⟩, .string ⟨#[]⟩]) 2 32 Try.underlying39 gi gz0 gz1 gz2 rfl (by decide) _ m (flat ky S) rfl (HO5'.out.alloc (.cells #[.string y.a, .string y.i] 30)) ⟨w5.heap.size, 0, none⟩ 1 1 (ky (y.a, y.i)) rfl rfl ?c1 ?c2 ?c3 ?c4 ?c5 ?_)
              case c1 =>
                intro j u hj
                rw [add_off, Nat.zero_add, blk_cell (blk_new w5 #[.string y.a, .string y.i] 30)]
                simpa [ky] using hj
              case c2 => exact ky_one _
              case c3 => unfold maxLen; omega
              case c4 => omega
              case c5 => simp; omega
              intro v7 w7 ho7 hg7 _
              have HB7 := Lib.hid ((HB5.out.alloc Z5 (.cells #[.string y.a, .string y.i] 30)).grown hg7 (by simp; omega) (fun q hq => own_ge HO5'.out hq))
              have HO7 := Lib.hid (show OwnK w3.heap.size w7 v7 (S ++ [(y.a, y.i)]) by unfold OwnK OwnR; rw [flat_snoc, List.length_append, HM.out]; exact ho7)
              clear ho7 hg7 HO5 HO5' HX5 HB5 hk5 hl5
              go_wp2
              go_roundw
              case rel => exact ⟨J + 1, by omega, by go_num, by rw [HSN.out]; exact HO7.out, HB7.out⟩
              case measure => simp [intOf]; omega
            · obtain rfl : J = M := by omega
              go_wp2
              go_ret
              exact ⟨_, rfl, by rw [HFIN.out, hS]; exact ho4.base HZ3.out, ext_trans HB30.out hb4⟩
        · have hmn : ¬ ((M : Int) < (q : Int)) := by omega
          have HFIN := Lib.hid (show pickL l now 0 = (U.take q).map (fun t => (t.a, t.i)) from by unfold pickL; rw [HT.out, HLV.out, HMM.out, HUU.out, List.take_of_length_le (by have := HU.out; omega), List.take_of_length_le (by have := HU.out; omega)])
          go_wp2_with fail
          go_loopw [12, 53] (fun g j wr => ∃ J : Nat, J ≤ q ∧ j = .int .i64 (J : Int) ∧ OwnK w3.heap.size wr g ((U.take J).map (fun t => (t.a, t.i))) ∧ Below w3.heap.size w3 wr) (fun g j _ => q - (intOf j).toNat)
          case atStart => exact ⟨0, by omega, rfl, OwnR.nil _ _, Below.refl _ _⟩
          case round =>
            obtain ⟨w4, rfl⟩ : ∃ z : World, z = wr := ⟨_, rfl⟩
            obtain ⟨J, hJ, rfl, ho4, hb4⟩ := hrel
            obtain ⟨S, hS⟩ : ∃ S, (U.take J).map (fun t => (t.a, t.i)) = S := ⟨_, rfl⟩
            rw [hS] at ho4
            obtain ⟨m, hm⟩ : ∃ m, S.length = m := ⟨_, rfl⟩
            have hm1 : m ≤ 1000 := by rw [← hm, ← hS, List.length_map, List.length_take]; omega
            by_cases hlt : J < q
            · obtain ⟨y, hy⟩ : ∃ y, U[J]? = some y := ⟨_, List.getElem?_eq_getElem (by have := HU.out; omega)⟩
              have HSN := Lib.hid (show (U.take (J + 1)).map (fun t => (t.a, t.i)) = S ++ [(y.a, y.i)] from by rw [take_snoc hy, map_snoc, hS])
              obtain ⟨y0, y1, y2⟩ := TAt.at (HUA.out.ext hb4) hy
              simp only [Nat.zero_add] at y0 y1 y2
              obtain ⟨ga, gc, hgv, hgc, hgm, -, -, -⟩ := ho4.read ky_len
              rw [hm] at hgc hgv
              subst hgv
              have D0 : Below w4.heap.size w4 (w4.alloc (.cells #[.string y.a, .string y.i, .int .i64 y.by_] 59)) := (Below.refl _ _).alloc (Nat.le_refl _) _
              have HX5 := Lib.hid (blk_new w4 #[.string y.a, .string y.i, .int .i64 y.by_] 59)
              have HO5 := Lib.hid (ho4.ext D0)
              have HB5 := Lib.hid (ext_trans hb4 D0)
              have HM := Lib.hid hm
              unfold maxLen at hgm
              clear ho4 hb4 hS hm D0 hy
              go_upto_region 17 with (fail)
              obtain ⟨r, hr⟩ : ∃ r, w4.heap.size = r := ⟨_, rfl⟩
              rw [hr] at HX5 ⊢
              clear hr
              generalize (w4.alloc (.cells #[.string y.a, .string y.i, .int .i64 y.by_] 59)) = w5 at *
              clear y0 y1 y2
              have hk5 := blk_cell HX5.out
              have hl5 := blk_lt HX5.out
              have Z5 := HB5.out.size
              have HO5' := Lib.hid (show w5.ownsRow w3.heap.size 30 2 (.slice ga m gc) m (flat ky S) from by have := HO5.out; unfold OwnR at this; rw [HM.out] at this; exact this)
              go_wp2_with (at_builtin; refine wpList_append_own _ rfl _ _ 39 rfl (w3.heap.size) 30 j0 (.agg #[.string ⟨#[]⟩, .string ⟨#[]⟩]) 2 32 Try.underlying39 gi gz0 gz1 gz2 rfl (by decide) _ m (flat ky S) rfl (HO5'.out.alloc (.cells #[.string y.a, .string y.i] 30)) ⟨w5.heap.size, 0, none⟩ 1 1 (ky (y.a, y.i)) rfl rfl ?c1 ?c2 ?c3 ?c4 ?c5 ?_)
              case c1 =>
                intro j u hj
                rw [add_off, Nat.zero_add, blk_cell (blk_new w5 #[.string y.a, .string y.i] 30)]
                simpa [ky] using hj
              case c2 => exact ky_one _
              case c3 => unfold maxLen; omega
              case c4 => omega
              case c5 => simp; omega
              intro v7 w7 ho7 hg7 _
              have HB7 := Lib.hid ((HB5.out.alloc Z5 (.cells #[.string y.a, .string y.i] 30)).grown hg7 (by simp; omega) (fun q hq => own_ge HO5'.out hq))
              have HO7 := Lib.hid (show OwnK w3.heap.size w7 v7 (S ++ [(y.a, y.i)]) by unfold OwnK OwnR; rw [flat_snoc, List.length_append, HM.out]; exact ho7)
              clear ho7 hg7 HO5 HO5' HX5 HB5 hk5 hl5
              go_wp2
              go_roundw
              case rel => exact ⟨J + 1, by omega, by go_num, by rw [HSN.out]; exact HO7.out, HB7.out⟩
              case measure => simp [intOf]; omega
            · obtain rfl : J = q := by omega
              go_wp2
              go_ret
              exact ⟨_, rfl, by rw [HFIN.out, hS]; exact ho4.base HZ3.out, ext_trans HB30.out hb4⟩

set_option maxRecDepth 100000 in
set_option maxHeartbeats 1000000 in
theorem refLive (a : Option Addr) (n c : Nat) (l : List En) (w : World) (h : RE9 w a l) (hl : l.length = n) (hn : n ≤ 1000) (hnc : n ≤ c) :
    Calls Try.prog 32 #[.slice a n c] w fun e w' => e = .returned (.int .i64 (lives l : Nat)) ∧ Below w.heap.size w w' := by
  have HA := Lib.hid h
  have HN := Lib.hid hl
  clear h hl
  go_enter Try.func32, Try.ntmps32
  go_wp2_with fail
  go_loopw [3, 8] (fun lv j wr => ∃ J : Nat, J ≤ n ∧ j = .int .i64 (J : Int) ∧ lv = .int .i64 ((lives (l.take J) : Nat) : Int) ∧ Below w.heap.size w wr) (fun lv j _ => n - (intOf j).toNat)
  case atStart => exact ⟨0, by omega, rfl, rfl, Below.refl _ _⟩
  case round =>
    obtain ⟨w2, rfl⟩ : ∃ y : World, y = wr := ⟨_, rfl⟩
    obtain ⟨J, hJ, rfl, rfl, hb2⟩ := hrel
    obtain ⟨LV, hLV⟩ : ∃ q, lives (l.take J) = q := ⟨_, rfl⟩
    have HLV := Lib.hid hLV
    have hlv : LV ≤ 1000 := by rw [← hLV]; have := lives_len (l.take J); rw [List.length_take] at this; omega
    rw [hLV]
    clear hLV
    by_cases hlt : J < n
    · obtain ⟨x, hx⟩ : ∃ x, l[J]? = some x := ⟨_, List.getElem?_eq_getElem (by have := HN.out; omega)⟩
      have HST := Lib.hid (take_snoc hx)
      obtain ⟨tb, tof, rfl⟩ : ∃ b o, a = some ⟨b, o, none⟩ := by
        rcases HA.out with h | ⟨b, o, e, _⟩
        · rw [h] at hx; simp at hx
        · exact ⟨b, o, e⟩
      obtain ⟨x0, x1, x2, x3, x4, x5, x6, x7, x8, x9⟩ := RE9.at (HA.out.ext hb2) hx
      have D0 : Below w2.heap.size w2 (w2.alloc (.cells #[.string x.c.a, .string x.c.i, .int .i64 x.c.s, .int .i64 x.c.o, .int .i64 x.c.l, .int .i64 x.c.t, .int .i64 x.c.k, .int .i64 x.c.n, .bool x.c.g, .int .i64 x.seen] 65)) := (Below.refl _ _).alloc (Nat.le_refl _) _
      have HX := Lib.hid (blk_new w2 #[.string x.c.a, .string x.c.i, .int .i64 x.c.s, .int .i64 x.c.o, .int .i64 x.c.l, .int .i64 x.c.t, .int .i64 x.c.k, .int .i64 x.c.n, .bool x.c.g, .int .i64 x.seen] 65)
      have HB3 := Lib.hid (ext_trans hb2 D0)
      skip
      clear hb2 hx D0
      go_upto_region 5 with (fail)
      obtain ⟨r, hr⟩ : ∃ r, w2.heap.size = r := ⟨_, rfl⟩
      rw [hr] at HX ⊢
      clear hr
      generalize (w2.alloc (.cells #[.string x.c.a, .string x.c.i, .int .i64 x.c.s, .int .i64 x.c.o, .int .i64 x.c.l, .int .i64 x.c.t, .int .i64 x.c.k, .int .i64 x.c.n, .bool x.c.g, .int .i64 x.seen] 65)) = w4 at *
      clear x0 x1 x2 x3 x4 x5 x6 x7 x8 x9
      cases hg : x.c.g
      · have HXg := Lib.hid (show w4.heap[r]? = some (.cells #[.string x.c.a, .string x.c.i, .int .i64 x.c.s, .int .i64 x.c.o, .int .i64 x.c.l, .int .i64 x.c.t, .int .i64 x.c.k, .int .i64 x.c.n, .bool false, .int .i64 x.seen] 65 (0, 0)) from by have := HX.out; rw [hg] at this; exact this)
        have hk4 := blk_cell HXg.out
        have HLN := Lib.hid (show lives (l.take (J + 1)) = LV + 1 from by rw [HST.out, lives_yes hg, HLV.out])
        clear hg HX
        go_wp2
        go_roundw
        case rel => exact ⟨J + 1, by omega, by go_num, by rw [HLN.out]; go_num, HB3.out⟩
        case measure => simp [intOf]; omega
      · have HXg := Lib.hid (show w4.heap[r]? = some (.cells #[.string x.c.a, .string x.c.i, .int .i64 x.c.s, .int .i64 x.c.o, .int .i64 x.c.l, .int .i64 x.c.t, .int .i64 x.c.k, .int .i64 x.c.n, .bool true, .int .i64 x.seen] 65 (0, 0)) from by have := HX.out; rw [hg] at this; exact this)
        have hk4 := blk_cell HXg.out
        have HLN := Lib.hid (show lives (l.take (J + 1)) = LV from by rw [HST.out, lives_no hg, HLV.out])
        clear hg HX
        go_wp2
        go_roundw
        case rel => exact ⟨J + 1, by omega, by go_num, by rw [HLN.out], HB3.out⟩
        case measure => simp [intOf]; omega
    · obtain rfl : J = n := by omega
      have HF := Lib.hid (show lives l = LV from by rw [← HLV.out, List.take_of_length_le (by have := HN.out; omega)])
      go_wp2
      go_ret
      exact ⟨by rw [HF.out]; rfl, hb2⟩

set_option maxRecDepth 100000 in
set_option maxHeartbeats 2000000 in
theorem law12plain (a : Option Addr) (n c : Nat) (l : List En) (w : World) (h : EAt w a l) (hl : l.length = n) (hn : n ≤ 1000) (hnc : n ≤ c) :
    Calls Try.prog 21 #[.slice a n c] w fun e w' => ∃ v', e = .returned v' ∧ OwnR9 w.heap.size w' v' l ∧ Below w.heap.size w w' := by
  obtain ⟨i0, hi, hz0, hz1, hz2⟩ := info_parts' info_r9
  have HA := Lib.hid h
  have HN := Lib.hid hl
  clear h hl
  go_enter Try.func21, Try.ntmps21
  go_wp2_with fail
  go_loopw [3, 8] (fun g j wr => ∃ J : Nat, J ≤ n ∧ j = .int .i64 (J : Int) ∧ OwnR9 w.heap.size wr g (l.take J) ∧ Below w.heap.size w wr) (fun g j _ => n - (intOf j).toNat)
  case atStart => exact ⟨0, by omega, rfl, OwnR.nil _ _, Below.refl _ _⟩
  case round =>
    obtain ⟨w2, rfl⟩ : ∃ y : World, y = wr := ⟨_, rfl⟩
    obtain ⟨J, hJ, rfl, ho2, hb2⟩ := hrel
    obtain ⟨S, hS⟩ : ∃ S, l.take J = S := ⟨_, rfl⟩
    have HS := Lib.hid hS
    rw [hS] at ho2
    obtain ⟨q, hm⟩ : ∃ m, S.length = m := ⟨_, rfl⟩
    have hm1 : q ≤ 1000 := by rw [← hm, ← hS, List.length_take]; omega
    clear hS
    obtain ⟨ga, gc, hgv, hgc, hgm, -, -, -⟩ := ho2.read ec_len
    rw [hm] at hgc hgv
    subst hgv
    have HM := Lib.hid hm
    unfold maxLen at hgm
    by_cases hlt : J < n
    · obtain ⟨x, hx⟩ : ∃ x, l[J]? = some x := ⟨_, List.getElem?_eq_getElem (by have := HN.out; omega)⟩
      have HST := Lib.hid (take_snoc hx)
      obtain ⟨tb, tof, rfl⟩ : ∃ b o, a = some ⟨b, o, none⟩ := by
        rcases HA.out with h | ⟨b, o, e, _⟩
        · rw [h] at hx; simp at hx
        · exact ⟨b, o, e⟩
      obtain ⟨x0, x1, x2, x3, x4, x5, x6, x7, x8, x9⟩ := EAt.at (HA.out.ext hb2) hx
      have D0 : Below w2.heap.size w2 (w2.alloc (.cells #[.string x.c.a, .string x.c.i, .int .i64 x.c.s, .int .i64 x.c.o, .int .i64 x.c.l, .int .i64 x.c.t, .int .i64 x.c.k, .int .i64 x.c.n, .bool x.c.g, .int .i64 x.seen] 36)) := (Below.refl _ _).alloc (Nat.le_refl _) _
      have HX := Lib.hid (blk_new w2 #[.string x.c.a, .string x.c.i, .int .i64 x.c.s, .int .i64 x.c.o, .int .i64 x.c.l, .int .i64 x.c.t, .int .i64 x.c.k, .int .i64 x.c.n, .bool x.c.g, .int .i64 x.seen] 36)
      have HB3 := Lib.hid (ext_trans hb2 D0)
      have HO3 := Lib.hid (ho2.ext D0)
      clear ho2 hm
      clear hb2 hx D0
      go_upto_region 5 with (fail)
      obtain ⟨r, hr⟩ : ∃ r, w2.heap.size = r := ⟨_, rfl⟩
      rw [hr] at HX ⊢
      clear hr
      generalize (w2.alloc (.cells #[.string x.c.a, .string x.c.i, .int .i64 x.c.s, .int .i64 x.c.o, .int .i64 x.c.l, .int .i64 x.c.t, .int .i64 x.c.k, .int .i64 x.c.n, .bool x.c.g, .int .i64 x.seen] 36)) = w4 at *
      clear x0 x1 x2 x3 x4 x5 x6 x7 x8 x9
      have hk4 := blk_cell HX.out
      have hl4 := blk_lt HX.out
      have Z3 := HB3.out.size
      have HO5' := Lib.hid (show w4.ownsRow w.heap.size 65 10 (.slice ga q gc) q (flat ec S) from by have := HO3.out; unfold OwnR at this; rw [HM.out] at this; exact this)
      go_wp2_with (at_builtin; refine wpList_append_own _ rfl _ _ 53 rfl (w.heap.size) 65 i0 En.zero.v 10 96 Try.underlying53 hi hz0 hz1 hz2 rfl (by decide) _ q (flat ec S) rfl (HO5'.out.alloc (.cells #[.string x.c.a, .string x.c.i, .int .i64 x.c.s, .int .i64 x.c.o, .int .i64 x.c.l, .int .i64 x.c.t, .int .i64 x.c.k, .int .i64 x.c.n, .bool x.c.g, .int .i64 x.seen] 65)) ⟨w4.heap.size, 0, none⟩ 1 1 (ec x) rfl rfl ?c1 ?c2 ?c3 ?c4 ?c5 ?_)
      case c1 =>
        intro j u hj
        rw [add_off, Nat.zero_add, blk_cell (blk_new w4 #[.string x.c.a, .string x.c.i, .int .i64 x.c.s, .int .i64 x.c.o, .int .i64 x.c.l, .int .i64 x.c.t, .int .i64 x.c.k, .int .i64 x.c.n, .bool x.c.g, .int .i64 x.seen] 65)]
        simpa [ec] using hj
      case c2 => exact ec_one _
      case c3 => unfold maxLen; omega
      case c4 => omega
      case c5 => simp; omega
      intro v7 w7 ho7 hg7 _
      have HB7 := Lib.hid ((HB3.out.alloc Z3 (.cells #[.string x.c.a, .string x.c.i, .int .i64 x.c.s, .int .i64 x.c.o, .int .i64 x.c.l, .int .i64 x.c.t, .int .i64 x.c.k, .int .i64 x.c.n, .bool x.c.g, .int .i64 x.seen] 65)).grown hg7 (by simp; omega) (fun q hq => own_ge HO5'.out hq))
      have HO7 := Lib.hid (show OwnR9 w.heap.size w7 v7 (S ++ [x]) by unfold OwnR9 OwnR; rw [flat_snoc, List.length_append, HM.out]; exact ho7)
      clear ho7 hg7 HO3 HO5' HX hk4 hl4
      go_wp2
      go_roundw
      case rel => exact ⟨J + 1, by omega, by go_num, by rw [HST.out, HS.out]; exact HO7.out, HB7.out⟩
      case measure => simp [intOf]; omega
    · obtain rfl : J = n := by omega
      go_wp2
      go_ret
      have h9 := HS.out
      rw [List.take_of_length_le (by have := HN.out; omega)] at h9
      exact ⟨_, rfl, by rw [h9]; exact ho2, hb2⟩

end Go.Proofs.Ytohiimfojlcomaa
