/- Asks off a tape. -/
import Derived.Test.YtnmpjagdkbaidaaAsk
namespace Go.Proofs.Ytnmpjagdkbaidaa
open Go.RowKit
set_option linter.unusedVariables false
set_option linter.unusedSimpArgs false

abbrev OwnA (base : Nat) (w : World) (v : Value) (ls : List Ak) : Prop := OwnR ea 11 33 base w v ls

set_option maxRecDepth 100000 in
set_option maxHeartbeats 4000000 in
theorem law10asks (ra : Option Addr) (rlen rcap : Nat) (rz : List Int) (K : Nat) (w : World) (hr : IsRow .i64 w ra rlen rcap rz) (hr8 : rlen * 8 ≤ 140737488351232) (hK : K ≤ 1000) :
    Calls Try.prog 8 #[.slice ra rlen rcap, .int .i64 (K : Int)] w fun r w' => ∃ v ls, r = .returned v ∧ OwnA w.heap.size w' v ls ∧ ls.length ≤ K ∧ Below w.heap.size w w' := by
  have D0 : Below w.heap.size w (w.alloc (.cells #[.slice ra rlen rcap, .int .i64 0] 39)) := (Below.refl _ _).alloc (Nat.le_refl _) _
  have HT0 := Lib.hid (tapeK_new (a := ra) (len := rlen) (cap := rcap) w)
  have HR0 := Lib.hid (rowOk_new hr (.cells #[.slice ra rlen rcap, .int .i64 0] 39))
  have HD0 := Lib.hid D0
  clear hr D0
  obtain ⟨i0, hi, hz0, hz1, hz2⟩ := info_parts' info_ak
  go_enter Try.func8, Try.ntmps8
  go_upto_region 2 with (fail)
  obtain ⟨tb, htb⟩ : ∃ tb, w.heap.size = tb := ⟨_, rfl⟩
  have HTB := Lib.hid htb
  rw [htb] at HT0 HR0 ⊢
  clear htb
  generalize (w.alloc (.cells #[.slice ra rlen rcap, .int .i64 0] 39)) = w0 at *
  go_wp2_with fail
  go_loopw [6] (fun l wr => ∃ ls : List Ak, OwnA w0.heap.size wr l ls ∧ ls.length ≤ K ∧ TapeK ra rlen rcap wr tb ∧ Bar tb w0 wr) (fun l _ => K - (match l with | .slice _ n _ => n | _ => 0))
  case atStart => exact ⟨[], OwnR.nil _ _, by simp, HT0.out, Bar.refl _ _⟩
  case round =>
    obtain ⟨w1, rfl⟩ : ∃ y : World, y = wr := ⟨_, rfl⟩
    obtain ⟨ls, ho, hlk, ht1, hb1⟩ := hrel
    obtain ⟨a, c, rfl, hnc, hcm, -, -, -⟩ := OwnR.read ea_len ho
    obtain ⟨q, hq1, hq2⟩ := ht1
    have HT1 := Lib.hid (show TapeK ra rlen rcap w1 tb from ⟨q, hq1, hq2⟩)
    have HB1 := Lib.hid hb1
    obtain ⟨n, hn⟩ : ∃ n, ls.length = n := ⟨_, rfl⟩
    have HN := Lib.hid hn
    have HO1 := Lib.hid (show OwnA w0.heap.size w1 (.slice a n c) ls from by rw [← hn]; exact ho)
    rw [hn] at hnc hlk ⊢
    unfold maxLen at hcm
    have hk := blk_cell hq1 1
    simp only [List.getElem?_toArray, List.getElem?_cons_zero, List.getElem?_cons_succ] at hk
    have hkl := blk_lt hq1
    clear ho hb1 hn hq1
    have HEND := Lib.hid (show OwnA w.heap.size w1 (.slice a n c) ls ∧ Below w.heap.size w w1 from by
      have hz := HD0.out.size
      refine ⟨⟨by have := HO1.out.1; exact this, ?_⟩, HD0.out.trans (HB1.out.below (by have := HTB.out; omega) (by have := HTB.out; omega))⟩
      rcases HO1.out.2 with h | ⟨b, cp, cr, e, h1, h2⟩
      · exact .inl h
      · exact .inr ⟨b, cp, cr, e, by omega, h2⟩)
    by_cases hlt : n < K ∧ q < rlen
    · obtain ⟨hlt, hq⟩ := hlt
      have hd1 : decide ((n : Int) < (K : Int)) = true := by simp; omega
      have hd2 : decide ((q : Int) < (rlen : Int)) = true := by simp; omega
      go_wp2_with fail
      refine (tapeNextK ra rlen rcap rz tb 4 _ HT1.out (HR0.out.bar HB1.out) (by omega) (by omega)).mono ?_
      rintro e w2 ⟨v1, rfl, v1lo, v1hi, ht, hb⟩
      have HO2 := Lib.hid (show OwnA w0.heap.size w2 (.slice a n c) ls from by have := HT1.out.own hb (by decide) HO1.out; unfold OwnA OwnR; rw [HN.out] at this ⊢; exact this)
      have HT2 := Lib.hid ht
      have HB2 := Lib.hid (HB1.out.trans hb)
      clear ht hb HO1 HT1 HB1 hk hkl
      go_wp2_with fail
      refine (tapeNextK ra rlen rcap rz tb 99 _ HT2.out (HR0.out.bar HB2.out) (by omega) (by omega)).mono ?_
      rintro e w3 ⟨v2, rfl, v2lo, v2hi, ht, hb⟩
      have HO3 := Lib.hid (show OwnA w0.heap.size w3 (.slice a n c) ls from by have := HT2.out.own hb (by decide) HO2.out; unfold OwnA OwnR; rw [HN.out] at this ⊢; exact this)
      have HT3 := Lib.hid ht
      have HB3 := Lib.hid (HB2.out.trans hb)
      clear ht hb HO2 HT2 HB2
      go_wp2_with fail
      refine (tapeCardK ra rlen rcap rz tb _ HT3.out (HR0.out.bar HB3.out)).mono ?_
      rintro e w4 ⟨x, rfl, hx, ht, hb⟩
      have HO4 := Lib.hid (show OwnA w0.heap.size w4 (.slice a n c) ls from by have := HT3.out.own hb (by decide) HO3.out; unfold OwnA OwnR; rw [HN.out] at this ⊢; exact this)
      have HT4 := Lib.hid ht
      have HB4 := Lib.hid (HB3.out.trans hb)
      have Z4 := HB4.out.size
      clear ht hb hx HO3 HT3 HB3
      go_wp2_with (at_builtin; refine wpList_append_own _ rfl _ _ 24 rfl (w0.heap.size) 33 i0 _ 11 104 Try.underlying24 hi hz0 hz1 hz2 rfl (by decide) _ n (flat ea ls) rfl (by have := OwnR.ext HO4.out ((Below.refl _ _).alloc (Nat.le_refl _) (.cells #[.int .i64 v1, .string x.a, .string x.i, .int .i64 x.s, .int .i64 x.o, .int .i64 x.l, .int .i64 x.t, .int .i64 x.k, .int .i64 x.n, .bool x.g, .int .i64 v2] 33)); unfold OwnR at this; rw [HN.out] at this; exact this) ⟨w4.heap.size, 0, none⟩ 1 1 (ea ⟨v1, x, v2⟩) rfl rfl ?c1 ?c2 ?c3 ?c4 ?c5 ?_)
      case c1 =>
        intro j u hj
        rw [add_off, Nat.zero_add, blk_cell (blk_new w4 #[.int .i64 v1, .string x.a, .string x.i, .int .i64 x.s, .int .i64 x.o, .int .i64 x.l, .int .i64 x.t, .int .i64 x.k, .int .i64 x.n, .bool x.g, .int .i64 v2] 33)]
        simpa [ea] using hj
      case c2 => exact ea_one _
      case c3 => unfold maxLen; omega
      case c4 => omega
      case c5 => simp; omega
      intro v4 w5 ho5 hg5 _
      have HO5 := Lib.hid (show OwnA w0.heap.size w5 v4 (ls ++ [⟨v1, x, v2⟩]) by unfold OwnA OwnR; rw [flat_snoc, List.length_append, HN.out]; exact ho5)
      have B5 := Lib.hid ((HB4.out.trans (Bar.of ((Below.refl _ _).alloc (Nat.le_refl _) (.cells #[.int .i64 v1, .string x.a, .string x.i, .int .i64 x.s, .int .i64 x.o, .int .i64 x.l, .int .i64 x.t, .int .i64 x.k, .int .i64 x.n, .bool x.g, .int .i64 v2] 33)))).grown hg5 (fun q hq => own_ge HO4.out hq))
      have T5 := Lib.hid (show TapeK ra rlen rcap w5 tb from by
        obtain ⟨q, e1, e2⟩ := HT4.out
        exact ⟨q, (hg5.block tb (by have := HT4.out.lt; simp; omega) (own_ne (OwnR.ext HO4.out ((Below.refl _ _).alloc (Nat.le_refl _) (.cells #[.int .i64 v1, .string x.a, .string x.i, .int .i64 x.s, .int .i64 x.o, .int .i64 x.l, .int .i64 x.t, .int .i64 x.k, .int .i64 x.n, .bool x.g, .int .i64 v2] 33))) (blk_alloc e1 _) (by decide))).trans (blk_alloc e1 _), e2⟩)
      obtain ⟨a5, c5, rfl, -, -, -⟩ := OwnR.form HO5.out
      clear ho5 hg5 HO4 HT4 HB4
      go_wp2
      go_roundw
      case rel => exact ⟨ls ++ [⟨v1, x, v2⟩], HO5.out, by rw [List.length_append, HN.out]; simp only [List.length_cons, List.length_nil]; omega, T5.out, B5.out⟩
      case measure => simp only [List.length_append, List.length_cons, List.length_nil]; rw [HN.out]; omega
    · by_cases hlt2 : n < K
      · have hd1 : decide ((n : Int) < (K : Int)) = true := by simp; omega
        have hd2 : decide ((q : Int) < (rlen : Int)) = false := by simp; omega
        go_wp2
        go_ret
        exact ⟨_, ls, rfl, HEND.out.1, by rw [HN.out]; exact hlk, HEND.out.2⟩
      · have hd1 : decide ((n : Int) < (K : Int)) = false := by simp; omega
        go_wp2
        go_ret
        exact ⟨_, ls, rfl, HEND.out.1, by rw [HN.out]; exact hlk, HEND.out.2⟩

end Go.Proofs.Ytnmpjagdkbaidaa
