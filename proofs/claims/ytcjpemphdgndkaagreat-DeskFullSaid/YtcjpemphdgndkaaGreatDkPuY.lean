/- A desk: Purge. -/
import Derived.Test.YtcjpemphdgndkaaGreatDkZY
namespace Go.Proofs.YtcjpemphdgndkaaGreat
open Go.RowKit
set_option linter.unusedVariables false
set_option linter.unusedSimpArgs false

def isDead (now : Int) (e : En) : Bool := e.c.g && decide (400 < hd now - hd e.seen)
def deadL (l : List En) (now : Int) : List Ky := (l.filter (isDead now)).map (fun e => (e.c.a, e.c.i))
theorem take_snoc {α : Type} {l : List α} {J : Nat} {x : α} (h : l[J]? = some x) : l.take (J + 1) = l.take J ++ [x] := by rw [List.take_add_one, h]; rfl
theorem filter_yes {α : Type} (p : α → Bool) (l : List α) (x : α) (h : p x = true) : (l ++ [x]).filter p = l.filter p ++ [x] := by simp [h]
theorem filter_not {α : Type} (p : α → Bool) (l : List α) (x : α) (h : p x = false) : (l ++ [x]).filter p = l.filter p := by simp [h]
theorem dead_yes {l : List En} {now : Int} {x : En} (h : isDead now x = true) : deadL (l ++ [x]) now = deadL l now ++ [(x.c.a, x.c.i)] := by unfold deadL; rw [filter_yes _ _ _ h, List.map_append]; rfl
theorem dead_no {l : List En} {now : Int} {x : En} (h : isDead now x = false) : deadL (l ++ [x]) now = deadL l now := by unfold deadL; rw [filter_not _ _ _ h]
theorem dead_len (l : List En) (now : Int) : (deadL l now).length ≤ l.length := by unfold deadL; rw [List.length_map]; exact List.length_filter_le _ _
set_option maxHeartbeats 400000 in
theorem sweepHeld (n : Int) (w : World) :
    Calls Tryz.prog 105 #[.int .i64 n] w fun r w' => r = .returned (.int .i64 (hd n)) ∧ w = w' := by
  go_enter Tryz.func105, Tryz.ntmps105
  go_wp2
  all_goals (go_ret; refine ⟨?_, rfl⟩; simp [hd]; (repeat' split) <;> omega)
set_option maxRecDepth 100000 in
set_option maxHeartbeats 2000000 in
theorem sweepDead (a : Option Addr) (n c : Nat) (l : List En) (now : Int) (w : World) (h : EAt w a l) (hl : l.length = n) (hn : n ≤ 1000) (hnc : n ≤ c) :
    Calls Tryz.prog 56 #[.slice a n c, .int .i64 now] w fun e w' => ∃ v', e = .returned v' ∧ OwnK w.heap.size w' v' (deadL l now) ∧ Below w.heap.size w w' := by
  obtain ⟨i0, hi, hz0, hz1, hz2⟩ := info_parts' info_ky
  have HA := Lib.hid h
  have HN := Lib.hid hl
  clear h hl
  go_enter Tryz.func56, Tryz.ntmps56
  go_wp2_with fail
  go_loopw [5, 10] (fun g j wr => ∃ J : Nat, J ≤ n ∧ j = .int .i64 (J : Int) ∧ OwnK w.heap.size wr g (deadL (l.take J) now) ∧ Below w.heap.size w wr) (fun g j _ => n - (intOf j).toNat)
  case atStart => exact ⟨0, by omega, rfl, OwnR.nil _ _, Below.refl _ _⟩
  case round =>
    obtain ⟨w2, rfl⟩ : ∃ y : World, y = wr := ⟨_, rfl⟩
    obtain ⟨J, hJ, rfl, ho2, hb2⟩ := hrel
    by_cases hlt : J < n
    · obtain ⟨x, hx⟩ : ∃ x, l[J]? = some x := ⟨_, List.getElem?_eq_getElem (by have := HN.out; omega)⟩
      obtain ⟨S, hS⟩ : ∃ S, deadL (l.take J) now = S := ⟨_, rfl⟩
      have HST := Lib.hid (take_snoc hx)
      have HS := Lib.hid hS
      rw [hS] at ho2
      obtain ⟨m, hm⟩ : ∃ m, S.length = m := ⟨_, rfl⟩
      have hm1 : m ≤ 1000 := by have := dead_len (l.take J) now; rw [hS, List.length_take, hm] at this; omega
      obtain ⟨tb, tof, rfl⟩ : ∃ b o, a = some ⟨b, o, none⟩ := by
        rcases HA.out with h | ⟨b, o, e, _⟩
        · rw [h] at hx; simp at hx
        · exact ⟨b, o, e⟩
      obtain ⟨x0, x1, x2, x3, x4, x5, x6, x7, x8, x9⟩ := EAt.at (HA.out.ext hb2) hx
      obtain ⟨ga, gc, hgv, hgc, hgm, -, -, -⟩ := ho2.read ky_len
      rw [hm] at hgc hgv
      subst hgv
      have D0 : Below w2.heap.size w2 (w2.alloc (.cells #[.string x.c.a, .string x.c.i, .int .i64 x.c.s, .int .i64 x.c.o, .int .i64 x.c.l, .int .i64 x.c.t, .int .i64 x.c.k, .int .i64 x.c.n, .bool x.c.g, .int .i64 x.seen] 58)) := (Below.refl _ _).alloc (Nat.le_refl _) _
      have HX := Lib.hid (blk_new w2 #[.string x.c.a, .string x.c.i, .int .i64 x.c.s, .int .i64 x.c.o, .int .i64 x.c.l, .int .i64 x.c.t, .int .i64 x.c.k, .int .i64 x.c.n, .bool x.c.g, .int .i64 x.seen] 58)
      have HO3 := Lib.hid (ho2.ext D0)
      have HB3 := Lib.hid (ext_trans hb2 D0)
      have HM := Lib.hid hm
      unfold maxLen at hgm
      clear ho2 hb2 hx hS hm D0
      go_upto_region 5 with (fail)
      obtain ⟨r, hr⟩ : ∃ r, w2.heap.size = r := ⟨_, rfl⟩
      rw [hr] at HX ⊢
      clear hr
      generalize (w2.alloc (.cells #[.string x.c.a, .string x.c.i, .int .i64 x.c.s, .int .i64 x.c.o, .int .i64 x.c.l, .int .i64 x.c.t, .int .i64 x.c.k, .int .i64 x.c.n, .bool x.c.g, .int .i64 x.seen] 58)) = w4 at *
      clear x0 x1 x2 x3 x4 x5 x6 x7 x8 x9
      have b1 := hd_lo now
      have b2 := hd_lo x.seen
      have c1 := hd_hi now
      have c2 := hd_hi x.seen
      cases hg : x.c.g
      · have HG := Lib.hid hg
        have HD := Lib.hid (show isDead now x = false from by unfold isDead; rw [hg]; rfl)
        clear hg
        haveI hIq : Nonempty (Of w4) := of_some _
        have k8 : w4.cell? ⟨r, 8, none⟩ = some (.bool false) := by rw [blk_cell HX.out, ← HG.out]; rfl
        have hF8 := of_cell k8
        first | (refine wp_region_stay w4 (by kernel_rfl) (by kernel_rfl) (by go_grown) ?_) | (refine wp_region_stay_seq w4 (by go_grown) ?_)
        repeat (go_big_quiet_step ((go_at_call 105; refine stay_same (sweepHeld _ _))))
        refine wpQuiet_nil ?_
        intro w5 hb5
        clear hIq hF8 k8
        have HO5 := Lib.hid (HO3.out.ext hb5)
        have HX5 := Lib.hid (blk_ext hb5 HX.out)
        have HB5 := Lib.hid (ext_trans HB3.out hb5)
        have Z5 := HB5.out.size
        have hk5 := blk_cell HX5.out
        have hl5 := blk_lt HX5.out
        clear hb5 HO3 HX HB3
        go_wp2
        go_roundw
        case rel => exact ⟨J + 1, by omega, by go_num, by rw [HST.out, dead_no HD.out, HS.out]; exact HO5.out, HB5.out⟩
        case measure => simp [intOf]; omega
      · have HG := Lib.hid hg
        by_cases h4 : 400 < hd now - hd x.seen
        · have HD := Lib.hid (show isDead now x = true from by unfold isDead; rw [hg]; simp [h4])
          have hd4 : decide (400 < hd now - hd x.seen) = true := decide_eq_true h4
          clear hg h4
          haveI hIq : Nonempty (Of w4) := of_some _
          have k8 : w4.cell? ⟨r, 8, none⟩ = some (.bool true) := by rw [blk_cell HX.out, ← HG.out]; rfl
          have hF8 := of_cell k8
          have k9 : w4.cell? ⟨r, 9, none⟩ = some (.int .i64 x.seen) := by rw [blk_cell HX.out]; rfl
          have hF9 := of_cell k9
          first | (refine wp_region_stay w4 (by kernel_rfl) (by kernel_rfl) (by go_grown) ?_) | (refine wp_region_stay_seq w4 (by go_grown) ?_)
          repeat (go_big_quiet_step ((go_at_call 105; refine stay_same (sweepHeld _ _))))
          refine wpQuiet_nil ?_
          intro w5 hb5
          clear hIq hF8 k8 hF9 k9
          have HO5 := Lib.hid (HO3.out.ext hb5)
          have HX5 := Lib.hid (blk_ext hb5 HX.out)
          have HB5 := Lib.hid (ext_trans HB3.out hb5)
          have Z5 := HB5.out.size
          have hk5 := blk_cell HX5.out
          have hl5 := blk_lt HX5.out
          clear hb5 HO3 HX HB3
          have HO5' := Lib.hid (show w5.ownsRow w.heap.size 28 2 (.slice ga m gc) m (flat ky S) from by have := HO5.out; unfold OwnR at this; rw [HM.out] at this; exact this)
          go_wp2_with (at_builtin; refine wpList_append_own _ rfl _ _ 31 rfl (w.heap.size) 28 i0 (.agg #[.string ⟨#[]⟩, .string ⟨#[]⟩]) 2 32 Tryz.underlying31 hi hz0 hz1 hz2 rfl (by decide) _ m (flat ky S) rfl (HO5'.out.alloc (.cells #[.string x.c.a, .string x.c.i] 28)) ⟨w5.heap.size, 0, none⟩ 1 1 (ky (x.c.a, x.c.i)) rfl rfl ?c1 ?c2 ?c3 ?c4 ?c5 ?_)
          case c1 =>
            intro j u hj
            rw [add_off, Nat.zero_add, blk_cell (blk_new w5 #[.string x.c.a, .string x.c.i] 28)]
            simpa [ky] using hj
          case c2 => exact ky_one _
          case c3 => unfold maxLen; omega
          case c4 => omega
          case c5 => simp; omega
          intro v7 w7 ho7 hg7 _
          have HB7 := Lib.hid ((HB5.out.alloc Z5 (.cells #[.string x.c.a, .string x.c.i] 28)).grown hg7 (by simp; omega) (fun q hq => own_ge HO5'.out hq))
          have HO7 := Lib.hid (show OwnK w.heap.size w7 v7 (S ++ [(x.c.a, x.c.i)]) by unfold OwnK OwnR; rw [flat_snoc, List.length_append, HM.out]; exact ho7)
          clear ho7 hg7 HO5 HO5' HX5 HB5 hk5 hl5
          go_wp2
          go_roundw
          case rel => exact ⟨J + 1, by omega, by go_num, by rw [HST.out, dead_yes HD.out, HS.out]; exact HO7.out, HB7.out⟩
          case measure => simp [intOf]; omega
        · have HD := Lib.hid (show isDead now x = false from by unfold isDead; rw [hg]; simp [h4])
          have hd4 : decide (400 < hd now - hd x.seen) = false := decide_eq_false h4
          clear hg h4
          haveI hIq : Nonempty (Of w4) := of_some _
          have k8 : w4.cell? ⟨r, 8, none⟩ = some (.bool true) := by rw [blk_cell HX.out, ← HG.out]; rfl
          have hF8 := of_cell k8
          have k9 : w4.cell? ⟨r, 9, none⟩ = some (.int .i64 x.seen) := by rw [blk_cell HX.out]; rfl
          have hF9 := of_cell k9
          first | (refine wp_region_stay w4 (by kernel_rfl) (by kernel_rfl) (by go_grown) ?_) | (refine wp_region_stay_seq w4 (by go_grown) ?_)
          repeat (go_big_quiet_step ((go_at_call 105; refine stay_same (sweepHeld _ _))))
          refine wpQuiet_nil ?_
          intro w5 hb5
          clear hIq hF8 k8 hF9 k9
          have HO5 := Lib.hid (HO3.out.ext hb5)
          have HX5 := Lib.hid (blk_ext hb5 HX.out)
          have HB5 := Lib.hid (ext_trans HB3.out hb5)
          have Z5 := HB5.out.size
          have hk5 := blk_cell HX5.out
          have hl5 := blk_lt HX5.out
          clear hb5 HO3 HX HB3
          go_wp2
          go_roundw
          case rel => exact ⟨J + 1, by omega, by go_num, by rw [HST.out, dead_no HD.out, HS.out]; exact HO5.out, HB5.out⟩
          case measure => simp [intOf]; omega
    · obtain rfl : J = n := by omega
      go_wp2
      go_ret
      exact ⟨_, rfl, by rw [List.take_of_length_le (by have := HN.out; omega)] at ho2; exact ho2, hb2⟩
/-- a row without the entry of a key -/
def drp (es : List En) (k : Ky) : List En := if isIn k es = true then delAt es (low k es) else es
theorem drp_asc {es : List En} {k : Ky} (h : Asc es) : Asc (drp es k) := by
  unfold drp
  by_cases hi : isIn k es = true
  · rw [if_pos hi]; exact asc_del h _
  · rw [if_neg hi]; exact h
theorem drp_mem {es : List En} {k : Ky} {x : En} (hs : Asc es) : x ∈ drp es k ↔ x ∈ es ∧ enK x ≠ k := by
  unfold drp
  by_cases hi : isIn k es = true
  · rw [if_pos hi]; exact mem_del hs hi
  · rw [if_neg hi]
    exact ⟨fun h => ⟨h, isIn_none hs (by simpa using hi) h⟩, fun h => h.1⟩
theorem drp_len (es : List En) (k : Ky) : (drp es k).length ≤ es.length := by
  unfold drp
  split
  · unfold delAt
    simp
    omega
  · exact Nat.le_refl _
def drps (es : List En) (ks : List Ky) : List En := ks.foldl drp es
theorem drps_snoc (es : List En) (ks : List Ky) (k : Ky) : drps es (ks ++ [k]) = drp (drps es ks) k := by simp [drps]
theorem drps_asc {es : List En} (h : Asc es) (ks : List Ky) : Asc (drps es ks) := by
  induction ks generalizing es with
  | nil => exact h
  | cons k ks ih => exact ih (drp_asc h)
theorem drps_len (es : List En) (ks : List Ky) : (drps es ks).length ≤ es.length := by
  induction ks generalizing es with
  | nil => exact Nat.le_refl _
  | cons k ks ih => exact Nat.le_trans (ih (drp es k)) (drp_len _ _)
theorem deskDrop (db : Nat) (nd t0 k0 n0 : Int) (es : List En) (g l tt : Int) (ks : List Ky) (k : Ky) (w : World) (h : DkP w db nd t0 k0 n0 es g l tt ks) (hs : Asc es) (hn : es.length ≤ 900) :
    Calls Tryz.prog 57 #[.pointer (some ⟨db, 4, none⟩), .agg #[.string k.1, .string k.2]] w fun r w' => ∃ b, r = .returned (.bool b) ∧ DkP w' db nd t0 k0 n0 (drp es k) g l tt ks ∧ Rim db w w' := by
  obtain ⟨Dk0, h1, h2⟩ := h.s
  by_cases hi : isIn k es = true
  · refine (dkDropYes Dk0 db 32 es k w h1 hs hn hi).mono fun r w' ⟨h3, h4, h5⟩ => ⟨_, h3, ?_, h5⟩
    unfold drp
    rw [if_pos hi]
    exact h2 w' _ h4 h5
  · refine (dkDropNo Dk0 db 32 es k w h1 hs hn (by simpa using hi)).mono fun r w' ⟨h3, h4⟩ => ⟨_, h3, ?_, Rim.of h4⟩
    unfold drp
    rw [if_neg hi]
    exact h.ext h4
set_option maxRecDepth 100000 in
set_option maxHeartbeats 4000000 in
theorem deskPurge (db : Nat) (nd t0 k0 n0 : Int) (es : List En) (g l tt : Int) (ks : List Ky) (now : Int) (w : World) (h : DkP w db nd t0 k0 n0 es g l tt ks) (hs : Asc es) (hn : es.length ≤ 900) (h0 : 0 ≤ now) (h1 : now ≤ 1099511627776) :
    Calls Tryz.prog 25 #[.pointer (some ⟨db, 0, none⟩), .int .i64 now] w fun r w' => r = .returned (.int .i64 (deadL es now).length) ∧ DkP w' db nd t0 k0 n0 (drps es (deadL es now)) g l tt ks ∧ Rim db w w' := by
  have HP := Lib.hid h
  have HAS := Lib.hid hs
  have hlt := h.lt
  clear h hs
  go_enter Tryz.func25, Tryz.ntmps25
  go_wp2_with fail
  refine (deskAll db nd t0 k0 n0 es g l tt ks w HP.out hn).mono ?_
  rintro r w1 ⟨v, rfl, ho, hb1⟩
  obtain ⟨a, c, rfl, hc, hcm, hat, -, -⟩ := OwnR.read ec_len ho
  have HA1 := Lib.hid (show EAt w1 a es from hat)
  have HP1 := Lib.hid (HP.out.ext hb1)
  have HB1 := Lib.hid hb1
  clear ho hat hb1 HP
  go_wp2_with fail
  refine (deskHeld now w1 h0 h1).mono ?_
  rintro r x ⟨rfl, hx⟩
  obtain rfl := hx.symm
  go_wp2_with fail
  refine (sweepDead a es.length c es now w1 HA1.out rfl (by omega) hc).mono ?_
  rintro r w2 ⟨v, rfl, ho, hb2⟩
  obtain ⟨ka, kc, rfl, hkc, hkm, hkat, -, -⟩ := OwnR.read ky_len ho
  obtain ⟨ds, hds⟩ : ∃ ds, deadL es now = ds := ⟨_, rfl⟩
  obtain ⟨m, hm⟩ : ∃ m, ds.length = m := ⟨_, rfl⟩
  rw [hds] at hkc hkat ho ⊢
  rw [hm] at hkc ⊢
  have hm9 : m ≤ 900 := by rw [← hm, ← hds]; have := dead_len es now; omega
  have HM := Lib.hid hm
  have HK2 := Lib.hid (show KyAt w2 ka ds from hkat)
  have HP2 := Lib.hid (HP1.out.ext hb2)
  have HR2 := Lib.hid (Rim.of (b := db) (ext_trans HB1.out hb2))
  unfold maxLen at hkm
  have HDS := Lib.hid hds
  clear ho hkat hb2 hm HP1 HB1 HA1 hds
  go_wp2_with fail
  go_loopw [17] (fun j wr => ∃ J : Nat, J ≤ m ∧ j = .int .i64 (J : Int) ∧ DkP wr db nd t0 k0 n0 (drps es (ds.take J)) g l tt ks ∧ KyAt wr ka ds ∧ Rim db w wr) (fun j _ => m - (intOf j).toNat)
  case atStart => exact ⟨0, by omega, rfl, HP2.out, HK2.out, HR2.out⟩
  case round =>
    obtain ⟨w3, rfl⟩ : ∃ y : World, y = wr := ⟨_, rfl⟩
    obtain ⟨J, hJ, rfl, hp3, hk3, hr3⟩ := hrel
    clear HP2 HK2 HR2
    by_cases hlJ : J < m
    · have hdJ : decide ((J : Int) < (m : Int)) = true := by simp; omega
      obtain ⟨x, hx⟩ : ∃ x, ds[J]? = some x := ⟨_, List.getElem?_eq_getElem (by have := HM.out; omega)⟩
      obtain ⟨kb, ko, rfl⟩ : ∃ b o, ka = some ⟨b, o, none⟩ := by
        rcases hk3 with h | ⟨b, o, e, _⟩
        · rw [h] at hx; simp at hx
        · exact ⟨b, o, e⟩
      obtain ⟨y0, y1⟩ := KyAt.at hk3 hx
      have HST := Lib.hid (show drps es (ds.take (J + 1)) = drp (drps es (ds.take J)) x from by rw [take_snoc hx, drps_snoc])
      obtain ⟨E, hE⟩ : ∃ E, drps es (ds.take J) = E := ⟨_, rfl⟩
      rw [hE] at hp3
      have HE := Lib.hid hE
      have D4 := (Below.refl w3.heap.size w3).alloc (Nat.le_refl _) (.cells #[.string x.1, .string x.2] 28)
      have HX := Lib.hid (blk_new w3 #[.string x.1, .string x.2] 28)
      have HP4 := Lib.hid (hp3.ext D4)
      have HK4 := Lib.hid (show KyAt _ (some ⟨kb, ko, none⟩) ds from SAt.ext hk3 D4)
      have HR4 := Lib.hid (hr3.trans (Rim.of D4))
      clear hp3 hk3 hr3 D4 hx hE
      go_upto_region 5 with (fail)
      obtain ⟨p, hp⟩ : ∃ p, w3.heap.size = p := ⟨_, rfl⟩
      rw [hp] at HX
      try rw [hp]
      have hpd : p ≠ db := by rintro rfl; obtain ⟨_, _, _, _, h9, _⟩ := HP4.out; have h8 := HX.out; rw [h9] at h8; simp at h8
      clear hp y0 y1
      generalize (w3.alloc (.cells #[.string x.1, .string x.2] 28)) = w4 at *
      have HX4 := Lib.hid (blk_drew HX.out)
      haveI hI1 : Nonempty (In (fun W : World => W.heap[p]? = some (.cells #[.string x.1, .string x.2] 28 (0, 0)))) := ⟨⟨_, HX4.out⟩⟩
      have hL1 : ∀ g : In (fun W : World => W.heap[p]? = some (.cells #[.string x.1, .string x.2] 28 (0, 0))), p < g.w.heap.size := fun g => blk_lt g.h
      have hB0 : ∀ g : In (fun W : World => W.heap[p]? = some (.cells #[.string x.1, .string x.2] 28 (0, 0))), g.w.cell? ⟨p, 0, none⟩ = some (.string x.1) := fun g => by rw [blk_cell g.h]; rfl
      have hB1 : ∀ g : In (fun W : World => W.heap[p]? = some (.cells #[.string x.1, .string x.2] 28 (0, 0))), g.w.cell? ⟨p, 1, none⟩ = some (.string x.2) := fun g => by rw [blk_cell g.h]; rfl
      refine Hist.wp_region_hist (fun W : World => W.heap[p]? = some (.cells #[.string x.1, .string x.2] 28 (0, 0))) (by kernel_rfl) (by kernel_rfl) (by kernel_rfl) (show (fun W : World => W.heap[p]? = some (.cells #[.string x.1, .string x.2] 28 (0, 0))) w4.drew from HX4.out) ?_
      have D5 := (Below.refl w4.heap.size w4).drew
      have HP5 := Lib.hid (HP4.out.ext D5)
      have HK5 := Lib.hid (show KyAt _ (some ⟨kb, ko, none⟩) ds from SAt.ext HK4.out D5)
      have HR5 := Lib.hid (HR4.out.trans (Rim.of D5))
      clear HX HP4 HK4 HR4 D5
      generalize w4.drew = w5 at *
      repeat (first | (refine Hist.wpG_plain 0 _ (by decide +kernel) rfl (by rfl) (by rfl) (fun K hK => ?_); go_big_quiet_op; refine hK _ ?_; clear hK K))
      refine Hist.wpG_call (by rfl) (by rfl) (fun K hK => ?_)
      go_big_op
      refine (deskDrop db nd t0 k0 n0 E g l tt ks x w5 HP5.out (by rw [← HE.out]; exact drps_asc HAS.out _) (by rw [← HE.out]; exact Nat.le_trans (drps_len _ _) hn)).mono ?_
      rintro r w6 ⟨b, rfl, hp6, hr6⟩
      have HX6 := Lib.hid ((hr6.block p hpd (blk_lt HX4.out)).trans HX4.out)
      have HP6 := Lib.hid hp6
      have HK6 := Lib.hid (show KyAt w6 (some ⟨kb, ko, none⟩) ds from HP5.out.sat hr6 (by decide) HK5.out)
      have HR6 := Lib.hid (HR5.out.trans hr6)
      refine hK _ _ ⟨(fun W : World => W.heap[p]? = some (.cells #[.string x.1, .string x.2] 28 (0, 0))), (by simp only [List.cons_append, List.nil_append, List.forall_mem_cons]; repeat' (first | exact HX6.out | (intro _ h; cases h; done) | (exact trivial) | constructor)), ?_⟩
      clear hK K hp6 hr6 HX4 HP5 HK5 HR5
      refine Hist.wpG_nil ?_
      clear hI1 hL1 hB0 hB1
      go_wp2
      go_roundw
      case rel => exact ⟨J + 1, by omega, by go_num, by rw [HST.out, HE.out]; exact HP6.out, HK6.out, HR6.out⟩
      case measure => simp [intOf]; omega
    · have hdJ : decide ((J : Int) < (m : Int)) = false := by simp; omega
      have hJm : J = m := by omega
      have HP3 := Lib.hid (show DkP w3 db nd t0 k0 n0 (drps es ds) g l tt ks from by rw [← List.take_of_length_le (l := ds) (i := J) (by have := HM.out; omega)]; exact hp3)
      have HR3 := Lib.hid hr3
      clear hp3 hk3 hr3 hJm
      go_wp2
      go_ret
      exact ⟨by rw [HDS.out, HM.out]; rfl, by rw [HDS.out]; exact HP3.out, HR3.out⟩


end Go.Proofs.YtcjpemphdgndkaaGreat
