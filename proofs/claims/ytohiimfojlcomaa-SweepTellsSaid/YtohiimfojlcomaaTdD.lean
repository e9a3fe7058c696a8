/- Package sweep: who is long gone. -/
import Derived.Test.YtohiimfojlcomaaTdS
namespace Go.Proofs.Ytohiimfojlcomaa
open Go.RowKit
set_option linter.unusedVariables false
set_option linter.unusedSimpArgs false

def mostN (n : Nat) : Nat := (n * 15 + 99) / 100
def lives (l : List En) : Nat := (l.filter (fun e => !e.c.g)).length
def tars (l : List En) (now m : Int) : List Td := (l.filter (fun e => decide (m < late e now))).map (fun e => ⟨e.c.a, e.c.i, late e now⟩)
def pickL (l : List En) (now m : Int) : List Ky := ((srt tlt (tars l now m)).take (mostN (lives l))).map (fun t => (t.a, t.i))
def isDead (now : Int) (e : En) : Bool := e.c.g && decide (400 < hd now - hd e.seen)
def deadL (l : List En) (now : Int) : List Ky := (l.filter (isDead now)).map (fun e => (e.c.a, e.c.i))
theorem take_snoc {α : Type} {l : List α} {J : Nat} {x : α} (h : l[J]? = some x) : l.take (J + 1) = l.take J ++ [x] := by rw [List.take_add_one, h]; rfl
theorem filter_yes {α : Type} (p : α → Bool) (l : List α) (x : α) (h : p x = true) : (l ++ [x]).filter p = l.filter p ++ [x] := by simp [h]
theorem filter_not {α : Type} (p : α → Bool) (l : List α) (x : α) (h : p x = false) : (l ++ [x]).filter p = l.filter p := by simp [h]
theorem dead_yes {l : List En} {now : Int} {x : En} (h : isDead now x = true) : deadL (l ++ [x]) now = deadL l now ++ [(x.c.a, x.c.i)] := by unfold deadL; rw [filter_yes _ _ _ h, List.map_append]; rfl
theorem dead_no {l : List En} {now : Int} {x : En} (h : isDead now x = false) : deadL (l ++ [x]) now = deadL l now := by unfold deadL; rw [filter_not _ _ _ h]
theorem dead_len (l : List En) (now : Int) : (deadL l now).length ≤ l.length := by unfold deadL; rw [List.length_map]; exact List.length_filter_le _ _
theorem lives_len (l : List En) : lives l ≤ l.length := List.length_filter_le _ _
theorem tars_len (l : List En) (now m : Int) : (tars l now m).length ≤ l.length := by unfold tars; rw [List.length_map]; exact List.length_filter_le _ _

set_option maxRecDepth 100000 in
set_option maxHeartbeats 1000000 in
theorem sweepMost (n : Nat) (w : World) (h : n ≤ 1000) :
    Calls Try.prog 8 #[.int .i64 n] w fun e w' => e = .returned (.int .i64 (mostN n : Nat)) ∧ w = w' := by
  have h0 : ¬ ((n : Int) < 0) := by omega
  go_enter Try.func8, Try.ntmps8
  go_wp2
  all_goals (go_ret; refine ⟨?_, rfl⟩; simp [mostN]; try omega)

set_option maxRecDepth 100000 in
set_option maxHeartbeats 2000000 in
theorem sweepDead (a : Option Addr) (n c : Nat) (l : List En) (now : Int) (w : World) (h : EAt w a l) (hl : l.length = n) (hn : n ≤ 1000) (hnc : n ≤ c) :
    Calls Try.prog 15 #[.slice a n c, .int .i64 now] w fun e w' => ∃ v', e = .returned v' ∧ OwnK w.heap.size w' v' (deadL l now) ∧ Below w.heap.size w w' := by
  obtain ⟨i0, hi, hz0, hz1, hz2⟩ := info_parts' info_ky
  have HA := Lib.hid h
  have HN := Lib.hid hl
  clear h hl
  go_enter Try.func15, Try.ntmps15
  go_wp2_with fail
  go_loopw [5, 10] (fun g j wr => ∃ J : Nat, J ≤ n ∧ j = .int .i64 (J : Int) ∧ OwnK w.heap.size wr g (deadL (l.take J) now) ∧ Below w.heap.size w wr) (fun g j _ => n - (intOf j).toNat)
  case atStart => exact ⟨0, by omega, rfl, OwnR.nil _ _, Below.refl _ _⟩
  case round =>
    obtain ⟨w2, rfl⟩ : ∃ y : World, y = wr := ⟨_, rfl⟩
    obtain ⟨J, hJ, rfl, ho2, hb2⟩ := hrel
    by_cases hlt : J < n
    · obtain ⟨x, hx⟩ : ∃ x, l[J]? = some x := ⟨_, List.getElem?_eq_getElem (by have := HN.out; omega)⟩
      obtain ⟨S, hS⟩ : ∃ S, deadL (l.take J) now = S := ⟨_, rfl⟩
      have HST := Lib.hid (take_snoc hx)
      have HS := Lib.hid hS
      rw [hS] at ho2
      obtain ⟨m, hm⟩ : ∃ m, S.length = m := ⟨_, rfl⟩
      have hm1 : m ≤ 1000 := by have := dead_len (l.take J) now; rw [hS, List.length_take, hm] at this; omega
      obtain ⟨tb, tof, rfl⟩ : ∃ b o, a = some ⟨b, o, none⟩ := by
        rcases HA.out with h | ⟨b, o, e, _⟩
        · rw [h] at hx; simp at hx
        · exact ⟨b, o, e⟩
      obtain ⟨x0, x1, x2, x3, x4, x5, x6, x7, x8, x9⟩ := EAt.at (HA.out.ext hb2) hx
      obtain ⟨ga, gc, hgv, hgc, hgm, -, -, -⟩ := ho2.read ky_len
      rw [hm] at hgc hgv
      subst hgv
      have D0 : Below w2.heap.size w2 (w2.alloc (.cells #[.string x.c.a, .string x.c.i, .int .i64 x.c.s, .int .i64 x.c.o, .int .i64 x.c.l, .int .i64 x.c.t, .int .i64 x.c.k, .int .i64 x.c.n, .bool x.c.g, .int .i64 x.seen] 36)) := (Below.refl _ _).alloc (Nat.le_refl _) _
      have HX := Lib.hid (blk_new w2 #[.string x.c.a, .string x.c.i, .int .i64 x.c.s, .int .i64 x.c.o, .int .i64 x.c.l, .int .i64 x.c.t, .int .i64 x.c.k, .int .i64 x.c.n, .bool x.c.g, .int .i64 x.seen] 36)
      have HO3 := Lib.hid (ho2.ext D0)
      have HB3 := Lib.hid (ext_trans hb2 D0)
      have HM := Lib.hid hm
      unfold maxLen at hgm
      clear ho2 hb2 hx hS hm D0
      go_upto_region 5 with (fail)
      obtain ⟨r, hr⟩ : ∃ r, w2.heap.size = r := ⟨_, rfl⟩
      rw [hr] at HX ⊢
      clear hr
      generalize (w2.alloc (.cells #[.string x.c.a, .string x.c.i, .int .i64 x.c.s, .int .i64 x.c.o, .int .i64 x.c.l, .int .i64 x.c.t, .int .i64 x.c.k, .int .i64 x.c.n, .bool x.c.g, .int .i64 x.seen] 36)) = w4 at *
      clear x0 x1 x2 x3 x4 x5 x6 x7 x8 x9
      have b1 := hd_lo now
      have b2 := hd_lo x.seen
      have c1 := hd_hi now
      have c2 := hd_hi x.seen
      cases hg : x.c.g
      · have HG := Lib.hid hg
        have HD := Lib.hid (show isDead now x = false from by unfold isDead; rw [hg]; rfl)
        clear hg
        haveI hIq : Nonempty (Of w4) := of_some _
        have k8 : w4.cell? ⟨r, 8, none⟩ = some (.bool false) := by rw [blk_cell HX.out, ← HG.out]; rfl
        have hF8 := of_cell k8
        first | (refine wp_region_stay w4 (by kernel_rfl) (by kernel_rfl) (by go_grown) ?_) | (refine wp_region_stay_seq w4 (by go_grown) ?_)
        repeat (go_big_quiet_step ((go_at_call 26; refine stay_same (sweepHeld _ _))))
        refine wpQuiet_nil ?_
        intro w5 hb5
        clear hIq hF8 k8
        have HO5 := Lib.hid (HO3.out.ext hb5)
        have HX5 := Lib.hid (blk_ext hb5 HX.out)
        have HB5 := Lib.hid (ext_trans HB3.out hb5)
        have Z5 := HB5.out.size
        have hk5 := blk_cell HX5.out
        have hl5 := blk_lt HX5.out
        clear hb5 HO3 HX HB3
        go_wp2
        go_roundw
        case rel => exact ⟨J + 1, by omega, by go_num, by rw [HST.out, dead_no HD.out, HS.out]; exact HO5.out, HB5.out⟩
        case measure => simp [intOf]; omega
      · have HG := Lib.hid hg
        by_cases h4 : 400 < hd now - hd x.seen
        · have HD := Lib.hid (show isDead now x = true from by unfold isDead; rw [hg]; simp [h4])
          have hd4 : decide (400 < hd now - hd x.seen) = true := decide_eq_true h4
          clear hg h4
          haveI hIq : Nonempty (Of w4) := of_some _
          have k8 : w4.cell? ⟨r, 8, none⟩ = some (.bool true) := by rw [blk_cell HX.out, ← HG.out]; rfl
          have hF8 := of_cell k8
          have k9 : w4.cell? ⟨r, 9, none⟩ = some (.int .i64 x.seen) := by rw [blk_cell HX.out]; rfl
          have hF9 := of_cell k9
          first | (refine wp_region_stay w4 (by kernel_rfl) (by kernel_rfl) (by go_grown) ?_) | (refine wp_region_stay_seq w4 (by go_grown) ?_)
          repeat (go_big_quiet_step ((go_at_call 26; refine stay_same (sweepHeld _ _))))
          refine wpQuiet_nil ?_
          intro w5 hb5
          clear hIq hF8 k8 hF9 k9
          have HO5 := Lib.hid (HO3.out.ext hb5)
          have HX5 := Lib.hid (blk_ext hb5 HX.out)
          have HB5 := Lib.hid (ext_trans HB3.out hb5)
          have Z5 := HB5.out.size
          have hk5 := blk_cell HX5.out
          have hl5 := blk_lt HX5.out
          clear hb5 HO3 HX HB3
          have HO5' := Lib.hid (show w5.ownsRow w.heap.size 30 2 (.slice ga m gc) m (flat ky S) from by have := HO5.out; unfold OwnR at this; rw [HM.out] at this; exact this)
          go_wp2_with (at_builtin; refine wpList_append_own _ rfl _ _ 39 rfl (w.heap.size) 30 i0 (.agg #[.string ⟨#[]⟩, .string ⟨#[]⟩]) 2 32 Try.underlying39 hi hz0 hz1 hz2 rfl (by decide) _ m (flat ky S) rfl (HO5'.out.alloc (.cells #[.string x.c.a, .string x.c.i] 30)) ⟨w5.heap.size, 0, none⟩ 1 1 (ky (x.c.a, x.c.i)) rfl rfl ?c1 ?c2 ?c3 ?c4 ?c5 ?_)
          case c1 =>
            intro j u hj
            rw [add_off, Nat.zero_add, blk_cell (blk_new w5 #[.string x.c.a, .string x.c.i] 30)]
            simpa [ky] using hj
          case c2 => exact ky_one _
          case c3 => unfold maxLen; omega
          case c4 => omega
          case c5 => simp; omega
          intro v7 w7 ho7 hg7 _
          have HB7 := Lib.hid ((HB5.out.alloc Z5 (.cells #[.string x.c.a, .string x.c.i] 30)).grown hg7 (by simp; omega) (fun q hq => own_ge HO5'.out hq))
          have HO7 := Lib.hid (show OwnK w.heap.size w7 v7 (S ++ [(x.c.a, x.c.i)]) by unfold OwnK OwnR; rw [flat_snoc, List.length_append, HM.out]; exact ho7)
          clear ho7 hg7 HO5 HO5' HX5 HB5 hk5 hl5
          go_wp2
          go_roundw
          case rel => exact ⟨J + 1, by omega, by go_num, by rw [HST.out, dead_yes HD.out, HS.out]; exact HO7.out, HB7.out⟩
          case measure => simp [intOf]; omega
        · have HD := Lib.hid (show isDead now x = false from by unfold isDead; rw [hg]; simp [h4])
          have hd4 : decide (400 < hd now - hd x.seen) = false := decide_eq_false h4
          clear hg h4
          haveI hIq : Nonempty (Of w4) := of_some _
          have k8 : w4.cell? ⟨r, 8, none⟩ = some (.bool true) := by rw [blk_cell HX.out, ← HG.out]; rfl
          have hF8 := of_cell k8
          have k9 : w4.cell? ⟨r, 9, none⟩ = some (.int .i64 x.seen) := by rw [blk_cell HX.out]; rfl
          have hF9 := of_cell k9
          first | (refine wp_region_stay w4 (by kernel_rfl) (by kernel_rfl) (by go_grown) ?_) | (refine wp_region_stay_seq w4 (by go_grown) ?_)
          repeat (go_big_quiet_step ((go_at_call 26; refine stay_same (sweepHeld _ _))))
          refine wpQuiet_nil ?_
          intro w5 hb5
          clear hIq hF8 k8 hF9 k9
          have HO5 := Lib.hid (HO3.out.ext hb5)
          have HX5 := Lib.hid (blk_ext hb5 HX.out)
          have HB5 := Lib.hid (ext_trans HB3.out hb5)
          have Z5 := HB5.out.size
          have hk5 := blk_cell HX5.out
          have hl5 := blk_lt HX5.out
          clear hb5 HO3 HX HB3
          go_wp2
          go_roundw
          case rel => exact ⟨J + 1, by omega, by go_num, by rw [HST.out, dead_no HD.out, HS.out]; exact HO5.out, HB5.out⟩
          case measure => simp [intOf]; omega
    · obtain rfl : J = n := by omega
      go_wp2
      go_ret
      exact ⟨_, rfl, by rw [List.take_of_length_le (by have := HN.out; omega)] at ho2; exact ho2, hb2⟩

end Go.Proofs.Ytohiimfojlcomaa
