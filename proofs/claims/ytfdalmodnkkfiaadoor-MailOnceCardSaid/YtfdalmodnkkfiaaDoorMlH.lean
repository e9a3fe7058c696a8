/- Messages are read: rows of cards, of keys; the head. -/
import Derived.Test.YtfdalmodnkkfiaaDoorMlC
import Derived.Test.YtfdalmodnkkfiaaDoorBe
namespace Go.Proofs.YtfdalmodnkkfiaaDoor
open Go.RowKit
set_option linter.unusedVariables false
set_option linter.unusedSimpArgs false

set_option maxRecDepth 100000 in
set_option maxHeartbeats 4000000 in
theorem mailCards (p rb : Nat) (s : Rw) (w : World) (h : RwAt w p rb s) :
    Calls Tryd.prog 53 #[.pointer (some ⟨p, 0, none⟩)] w fun r w' => ∃ v, r = .returned v ∧ OwnC w.heap.size w' v (rCs s).1 ∧ RwAt w' p rb (rCs s).2 ∧ Rq p rb w w' := by
  obtain ⟨i0, hi, hz0, hz1, hz2⟩ := info_parts' info_card
  have hin := h.in
  obtain ⟨z, s0, hE⟩ : ∃ a b, rB s = (a, b) := ⟨_, _, rfl⟩
  have HE := Lib.hid hE
  have hz : 0 ≤ z ∧ z < 256 := by rw [hE] at hin; exact hin
  obtain ⟨N, rfl⟩ : ∃ N : Nat, z = (N : Int) := ⟨z.toNat, by omega⟩
  have HR0 := Lib.hid h
  have hc : ∀ n, w.cell? ⟨p, n, none⟩ = (#[.pointer (some ⟨rb, 0, none⟩), .bool s.2] : Array Value)[n]? := blk_cell h.1
  have hl := h.lt
  clear h hin hE
  go_enter Tryd.func53, Tryd.ntmps53
  go_wp2_with fail
  refine (rdByte p rb s s0 w HR0.out _ HE.out).mono ?_
  rintro e w1 ⟨rfl, hr, hk⟩
  have HR1 := Lib.hid hr
  have HK1 := Lib.hid hk
  clear hc hl hr hk
  go_wp2_with fail
  go_loopw [3, 9] (fun g j wr => ∃ J : Nat, J ≤ N ∧ j = .int .i64 (J : Int) ∧ OwnC w.heap.size wr g (rMany rC J s0).1 ∧ RwAt wr p rb (rMany rC J s0).2 ∧ Rq p rb w wr) (fun g j _ => N - (intOf j).toNat)
  case atStart => exact ⟨0, by omega, rfl, OwnR.nil _ _, HR1.out, HK1.out⟩
  case round =>
    obtain ⟨w2, rfl⟩ : ∃ y : World, y = wr := ⟨_, rfl⟩
    obtain ⟨J, hJ, rfl, ho2, hr2, hk2⟩ := hrel
    obtain ⟨L, hL⟩ : ∃ L, (rMany rC J s0).1 = L := ⟨_, rfl⟩
    obtain ⟨s1, hs1⟩ : ∃ s, (rMany rC J s0).2 = s := ⟨_, rfl⟩
    have hLl : L.length = J := by rw [← hL]; exact rMany_len _ _ _
    have HLL := Lib.hid hLl
    have HL := Lib.hid hL
    have HS1 := Lib.hid hs1
    rw [hL] at ho2
    rw [hs1] at hr2
    obtain ⟨ga, gc, rfl, hgc, hgm, -, -, -⟩ := ho2.read
    rw [hLl] at hgc ⊢
    have HO2 := Lib.hid ho2
    have HR2 := Lib.hid hr2
    have HK2 := Lib.hid hk2
    unfold maxLen at hgm
    clear ho2 hr2 hk2 hL hs1 hLl
    by_cases hlt : J < N
    · have hlt2 : (J : Int) < (N : Int) := by omega
      obtain ⟨w3, rfl⟩ : ∃ y : World, y = w2 := ⟨_, rfl⟩
      go_wp2_with fail
      refine (mailCard p rb s1 w3 HR2.out).mono ?_
      rintro e w4 ⟨rfl, hr, hk⟩
      have HO4 := Lib.hid (show OwnC w.heap.size w4 (.slice ga J gc) L from by have := HR2.out.own hk (by decide) (by decide) HO2.out; unfold OwnC OwnR; rw [HLL.out] at this ⊢; exact this)
      have HR4 := Lib.hid hr
      have HK4 := Lib.hid (HK2.out.trans hk)
      obtain ⟨x, hx⟩ : ∃ x, (rC s1).1 = x := ⟨_, rfl⟩
      have HXX := Lib.hid (show rMany rC (J + 1) s0 = (L ++ [x], (rC s1).2) from by rw [rMany_succ, HL.out, HS1.out, hx])
      have Z4 := HK4.out.size
      rw [hx]
      clear hr hk hx HO2 HR2 HK2
      go_wp2_with (at_builtin; refine wpList_append_own _ rfl _ _ 26 rfl (w.heap.size) 50 i0 (Cd.zero.v) 9 88 Tryd.underlying26 hi hz0 hz1 hz2 rfl (by decide) _ J (flat cc L) rfl (by have := HO4.out.alloc (.cells #[.string x.a, .string x.i, .int .i64 x.s, .int .i64 x.o, .int .i64 x.l, .int .i64 x.t, .int .i64 x.k, .int .i64 x.n, .bool x.g] 50); rw [HLL.out] at this; exact this) ⟨w4.heap.size, 0, none⟩ 1 1 (cc x) rfl rfl ?c1 ?c2 ?c3 ?c4 ?c5 ?_)
      case c1 =>
        intro j u hj
        rw [add_off, Nat.zero_add, blk_cell (blk_new w4 #[.string x.a, .string x.i, .int .i64 x.s, .int .i64 x.o, .int .i64 x.l, .int .i64 x.t, .int .i64 x.k, .int .i64 x.n, .bool x.g] 50)]
        simpa [cc] using hj
      case c2 => exact cc_one x
      case c3 => unfold maxLen; omega
      case c4 => omega
      case c5 => simp; omega
      intro v5 w5 ho5 hg5 _
      have HK5 := Lib.hid (HK4.out.alloc.grown hg5 (fun q hq => own_ge HO4.out hq))
      have HR5 := Lib.hid ((HR4.out.ext ((Below.refl _ _).alloc (Nat.le_refl _) (.cells #[.string x.a, .string x.i, .int .i64 x.s, .int .i64 x.o, .int .i64 x.l, .int .i64 x.t, .int .i64 x.k, .int .i64 x.n, .bool x.g] 50))).blocks (w' := w5) fun k cs T hc hT => hg5.block k (blk_lt hc) (own_ne (HO4.out.alloc (.cells #[.string x.a, .string x.i, .int .i64 x.s, .int .i64 x.o, .int .i64 x.l, .int .i64 x.t, .int .i64 x.k, .int .i64 x.n, .bool x.g] 50)) hc (by rcases hT with rfl | rfl | rfl <;> decide)))
      have HO5 := Lib.hid (show OwnC w.heap.size w5 v5 (L ++ [x]) by unfold OwnC OwnR; rw [flat_snoc, List.length_append, HLL.out]; exact ho5)
      clear ho5 hg5 HO4 HR4 HK4
      go_wp2
      go_roundw
      case rel => exact ⟨J + 1, by omega, by go_num, by rw [HXX.out]; exact HO5.out, by rw [HXX.out]; exact HR5.out, HK5.out⟩
      case measure => simp [intOf]; omega
    · obtain rfl : J = N := by omega
      have hlt2 : decide ((J : Int) < (J : Int)) = false := by simp
      have HF := Lib.hid (show rCs s = (L, s1) from by unfold rCs; rw [HE.out]; simp only [Int.toNat_natCast]; rw [← HL.out, ← HS1.out])
      go_wp2
      go_ret
      exact ⟨_, rfl, by rw [HF.out]; have := HO2.out; unfold OwnC OwnR at this ⊢; rw [HLL.out] at this ⊢; exact this, by rw [HF.out]; exact HR2.out, HK2.out⟩

set_option maxRecDepth 100000 in
set_option maxHeartbeats 4000000 in
theorem mailKeys (p rb : Nat) (s : Rw) (w : World) (h : RwAt w p rb s) :
    Calls Tryd.prog 54 #[.pointer (some ⟨p, 0, none⟩)] w fun r w' => ∃ v, r = .returned v ∧ OwnK w.heap.size w' v (rKs s).1 ∧ RwAt w' p rb (rKs s).2 ∧ Rq p rb w w' := by
  obtain ⟨i0, hi, hz0, hz1, hz2⟩ := info_parts' info_ky
  have hin := h.in
  obtain ⟨z, s0, hE⟩ : ∃ a b, rB s = (a, b) := ⟨_, _, rfl⟩
  have HE := Lib.hid hE
  have hz : 0 ≤ z ∧ z < 256 := by rw [hE] at hin; exact hin
  obtain ⟨N, rfl⟩ : ∃ N : Nat, z = (N : Int) := ⟨z.toNat, by omega⟩
  have HR0 := Lib.hid h
  have hc : ∀ n, w.cell? ⟨p, n, none⟩ = (#[.pointer (some ⟨rb, 0, none⟩), .bool s.2] : Array Value)[n]? := blk_cell h.1
  have hl := h.lt
  clear h hin hE
  go_enter Tryd.func54, Tryd.ntmps54
  go_wp2_with fail
  refine (rdByte p rb s s0 w HR0.out _ HE.out).mono ?_
  rintro e w1 ⟨rfl, hr, hk⟩
  have HR1 := Lib.hid hr
  have HK1 := Lib.hid hk
  clear hc hl hr hk
  go_wp2_with fail
  go_loopw [3, 9] (fun g j wr => ∃ J : Nat, J ≤ N ∧ j = .int .i64 (J : Int) ∧ OwnK w.heap.size wr g (rMany rK J s0).1 ∧ RwAt wr p rb (rMany rK J s0).2 ∧ Rq p rb w wr) (fun g j _ => N - (intOf j).toNat)
  case atStart => exact ⟨0, by omega, rfl, OwnR.nil _ _, HR1.out, HK1.out⟩
  case round =>
    obtain ⟨w2, rfl⟩ : ∃ y : World, y = wr := ⟨_, rfl⟩
    obtain ⟨J, hJ, rfl, ho2, hr2, hk2⟩ := hrel
    obtain ⟨L, hL⟩ : ∃ L, (rMany rK J s0).1 = L := ⟨_, rfl⟩
    obtain ⟨s1, hs1⟩ : ∃ s, (rMany rK J s0).2 = s := ⟨_, rfl⟩
    have hLl : L.length = J := by rw [← hL]; exact rMany_len _ _ _
    have HLL := Lib.hid hLl
    have HL := Lib.hid hL
    have HS1 := Lib.hid hs1
    rw [hL] at ho2
    rw [hs1] at hr2
    obtain ⟨ga, gc, rfl, hgc, hgm, -, -, -⟩ := OwnR.read ky_len ho2
    rw [hLl] at hgc ⊢
    have HO2 := Lib.hid ho2
    have HR2 := Lib.hid hr2
    have HK2 := Lib.hid hk2
    unfold maxLen at hgm
    clear ho2 hr2 hk2 hL hs1 hLl
    by_cases hlt : J < N
    · have hlt2 : (J : Int) < (N : Int) := by omega
      obtain ⟨w3, rfl⟩ : ∃ y : World, y = w2 := ⟨_, rfl⟩
      go_wp2_with fail
      refine (mailKey p rb s1 w3 HR2.out).mono ?_
      rintro e w4 ⟨rfl, hr, hk⟩
      have HO4 := Lib.hid (show OwnK w.heap.size w4 (.slice ga J gc) L from by have := HR2.out.own hk (by decide) (by decide) HO2.out; unfold OwnK OwnR; rw [HLL.out] at this ⊢; exact this)
      have HR4 := Lib.hid hr
      have HK4 := Lib.hid (HK2.out.trans hk)
      obtain ⟨x, hx⟩ : ∃ x, (rK s1).1 = x := ⟨_, rfl⟩
      have HXX := Lib.hid (show rMany rK (J + 1) s0 = (L ++ [x], (rK s1).2) from by rw [rMany_succ, HL.out, HS1.out, hx])
      have Z4 := HK4.out.size
      rw [hx]
      clear hr hk hx HO2 HR2 HK2
      go_wp2_with (at_builtin; refine wpList_append_own _ rfl _ _ 27 rfl (w.heap.size) 24 i0 (.agg #[.string ⟨#[]⟩, .string ⟨#[]⟩]) 2 32 Tryd.underlying27 hi hz0 hz1 hz2 rfl (by decide) _ J (flat ky L) rfl (by have := HO4.out.alloc (.cells #[.string x.1, .string x.2] 24); rw [HLL.out] at this; exact this) ⟨w4.heap.size, 0, none⟩ 1 1 (ky x) rfl rfl ?c1 ?c2 ?c3 ?c4 ?c5 ?_)
      case c1 =>
        intro j u hj
        rw [add_off, Nat.zero_add, blk_cell (blk_new w4 #[.string x.1, .string x.2] 24)]
        simpa [ky] using hj
      case c2 => exact ky_one x
      case c3 => unfold maxLen; omega
      case c4 => omega
      case c5 => simp; omega
      intro v5 w5 ho5 hg5 _
      have HK5 := Lib.hid (HK4.out.alloc.grown hg5 (fun q hq => own_ge HO4.out hq))
      have HR5 := Lib.hid ((HR4.out.ext ((Below.refl _ _).alloc (Nat.le_refl _) (.cells #[.string x.1, .string x.2] 24))).blocks (w' := w5) fun k cs T hc hT => hg5.block k (blk_lt hc) (own_ne (HO4.out.alloc (.cells #[.string x.1, .string x.2] 24)) hc (by rcases hT with rfl | rfl | rfl <;> decide)))
      have HO5 := Lib.hid (show OwnK w.heap.size w5 v5 (L ++ [x]) by unfold OwnK OwnR; rw [flat_snoc, List.length_append, HLL.out]; exact ho5)
      clear ho5 hg5 HO4 HR4 HK4
      go_wp2
      go_roundw
      case rel => exact ⟨J + 1, by omega, by go_num, by rw [HXX.out]; exact HO5.out, by rw [HXX.out]; exact HR5.out, HK5.out⟩
      case measure => simp [intOf]; omega
    · obtain rfl : J = N := by omega
      have hlt2 : decide ((J : Int) < (J : Int)) = false := by simp
      have HF := Lib.hid (show rKs s = (L, s1) from by unfold rKs; rw [HE.out]; simp only [Int.toNat_natCast]; rw [← HL.out, ← HS1.out])
      go_wp2
      go_ret
      exact ⟨_, rfl, by rw [HF.out]; have := HO2.out; unfold OwnK OwnR at this ⊢; rw [HLL.out] at this ⊢; exact this, by rw [HF.out]; exact HR2.out, HK2.out⟩

end Go.Proofs.YtfdalmodnkkfiaaDoor
