/- MailKinds: the walk, of one turn. -/
import Derived.Test.YtfdalmodnkkfiaaDoorMlI
namespace Go.Proofs.YtfdalmodnkkfiaaDoor
open Go.RowKit
set_option linter.unusedVariables false
set_option linter.unusedSimpArgs false

set_option maxRecDepth 100000 in
set_option maxHeartbeats 8000000 in
theorem mailKinds3 (ra : Option Addr) (rlen rcap : Nat) (rz : List Int) (which : Int) (w : World) (hG : EG w) (hr : IsRow .i64 w ra rlen rcap rz) (hw9 : (Lit.int .i64 which).wf = true) (hq : win which 0 4 = 3) :
    Calls Tryd.prog 4 #[.slice ra rlen rcap, .int .i64 which] w fun r w' => r = .returned (.bool true) ∧ Below w.heap.size w w' := by
  obtain ⟨i0, hi, hz0, hz1, hz2⟩ := info_parts' info_card
  have HG := Lib.hid hG
  have HRR := Lib.hid hr
  have HNE := Lib.hid (rowOk_new hr (.cells #[.slice ra rlen rcap, .int .i64 0] 32)).2
  have hE := (Below.refl w.heap.size w).alloc (Nat.le_refl _) (.cells #[.slice ra rlen rcap, .int .i64 0] 32)
  have D1 := Lib.hid hE
  have HT1 := Lib.hid (tapeK_new (a := ra) (len := rlen) (cap := rcap) w)
  clear hG hr hE
  go_enter Tryd.func4, Tryd.ntmps4
  go_upto_region 2 with (fail)
  obtain ⟨tb, htb⟩ : ∃ tb, w.heap.size = tb := ⟨_, rfl⟩
  have HTB := Lib.hid (show w.heap.size ≤ tb by omega)
  rw [htb] at HT1 HNE
  try rw [htb]
  clear htb
  generalize (w.alloc (.cells #[.slice ra rlen rcap, .int .i64 0] 32)) = w1 at *
  have HRW := Lib.hid (show RowOk ra rlen rcap rz w1 tb from ⟨HRR.out.ext D1.out, HNE.out⟩)
  go_wp2_with fail
  refine (tapeCardF ra rlen rcap rz tb w1 HT1.out HRW.out).mono ?_
  rintro e w2 ⟨c, rfl, hok, hka, hki, ht, hb⟩
  have HRW2 := Lib.hid (HRW.out.bar hb)
  have HOK := Lib.hid (And.intro hok (And.intro hka hki))
  have HE2 := Lib.hid (show Below w2.heap.size w2 (w2.alloc (.cells #[.string c.a, .string c.i, .int .i64 c.s, .int .i64 c.o, .int .i64 c.l, .int .i64 c.t, .int .i64 c.k, .int .i64 c.n, .bool c.g] 50)) from (Below.refl _ _).alloc (Nat.le_refl _) _)
  have HT2 := Lib.hid (ht.ext HE2.out)
  have D2 := Lib.hid (ext_trans (D1.out.trans (hb.below HTB.out D1.out.size)) HE2.out)
  have HCB := Lib.hid (blk_new w2 #[.string c.a, .string c.i, .int .i64 c.s, .int .i64 c.o, .int .i64 c.l, .int .i64 c.t, .int .i64 c.k, .int .i64 c.n, .bool c.g] 50)
  have HRW3 := Lib.hid (HRW2.out.bar (Bar.of HE2.out))
  have hs2 := (D1.out.trans (hb.below HTB.out D1.out.size)).size
  clear hok hka hki ht hb HRW2 HRW HT1 D1 HE2 HNE
  go_upto_region 3 with (fail)
  obtain ⟨cb, hcb⟩ : ∃ cb, w2.heap.size = cb := ⟨_, rfl⟩
  have HCBN := Lib.hid (show w.heap.size ≤ cb by omega)
  have hct : cb ≠ tb := HT2.out.ne (T := 50) (by decide) (by rw [← hcb]; exact HCB.out)
  rw [hcb] at HCB
  try rw [hcb]
  clear hcb hs2
  generalize (w2.alloc (.cells #[.string c.a, .string c.i, .int .i64 c.s, .int .i64 c.o, .int .i64 c.l, .int .i64 c.t, .int .i64 c.k, .int .i64 c.n, .bool c.g] 50)) = w3 at *
  go_wp2_with fail
  refine (within_any which 0 4 w3 (by omega) (by omega) (by omega) (by have := bounds_i64 hw9; omega) (by have := bounds_i64 hw9; omega)).mono ?_
  rintro r wx ⟨rfl, hw⟩
  obtain rfl := hw
  rw [hq]
  have hc := blk_cell HCB.out
  have hf := blk_free HCB.out
  have hl := blk_lt HCB.out
  go_upto_region 13 with (fail)
  clear hc hf hl
  obtain ⟨e0, he0⟩ : ∃ e : Cd, ({ c with s := 3 } : Cd) = e := ⟨_, rfl⟩
  have HCB4 := Lib.hid (show (w3.setCell ⟨cb, 2, none⟩ (.int .i64 3)).heap[cb]? = some (.cells #[.string e0.a, .string e0.i, .int .i64 e0.s, .int .i64 e0.o, .int .i64 e0.l, .int .i64 e0.t, .int .i64 e0.k, .int .i64 e0.n, .bool e0.g] 50 (0, 0)) from by rw [← he0]; exact blk_set (vs' := #[.string c.a, .string c.i, .int .i64 3, .int .i64 c.o, .int .i64 c.l, .int .i64 c.t, .int .i64 c.k, .int .i64 c.n, .bool c.g]) HCB.out (by simp))
  have HWR := Lib.hid (show cdRB e0 = false from by
    rw [← he0]
    simp [cdRB])
  have HSZ := Lib.hid (show e0.a.size ≤ 16 ∧ e0.i.size ≤ 16 from by have h1 := HOK.out.1.1; have h2 := HOK.out.1.2.1; rw [← he0]; exact ⟨by simp only []; omega, by simp only []; omega⟩)
  have hkp : Kept cb w3 (w3.setCell ⟨cb, 2, none⟩ (.int .i64 3)) := (Kept.refl _ _).setCell _ _
  have HTK := Lib.hid (show TapeK ra rlen rcap (w3.setCell ⟨cb, 2, none⟩ (.int .i64 3)) tb from by obtain ⟨k, h1, h2⟩ := HT2.out; exact ⟨k, (hkp.block tb (Ne.symm hct)).trans h1, h2⟩)
  have D4 := Lib.hid (show Below w.heap.size w (w3.setCell ⟨cb, 2, none⟩ (.int .i64 3)) from D2.out.trans (hkp.below HCBN.out))
  have HROW := Lib.hid (show RowOk ra rlen rcap rz (w3.setCell ⟨cb, 2, none⟩ (.int .i64 3)) tb from ⟨HRR.out.ext D4.out, HRW3.out.2⟩)
  clear hkp he0 HCB HT2 HRW3 D2
  have HCB := HCB4
  clear HCB4
  generalize (w3.setCell ⟨cb, 2, none⟩ (.int .i64 3)) = w4 at *
  refine wp_region_inv_eq (J := fun A d act x => ∃ u39 u40 u41 u42 u43 u7 : Value, act = ((((((A.put (some 39) u39).put (some 40) u40).put (some 41) u41).put (some 42) u42).put (some 43) u43).put (some 7) u7) ∧ (d 0 = true → u39 = .pointer (some ⟨tb, 0, none⟩)) ∧ (d 1 = true → (d 4 = false → ∃ cs : List Cd, OwnC w4.heap.size x u40 cs ∧ cs.length ≤ 3 ∧ ∀ c ∈ cs, CdOk c)) ∧ (d 2 = true → u41 = .agg #[.string e0.a, .string e0.i, .int .i64 e0.s, .int .i64 e0.o, .int .i64 e0.l, .int .i64 e0.t, .int .i64 e0.k, .int .i64 e0.n, .bool e0.g]) ∧ (d 3 = true → (d 4 = false → ∃ nb : Nat, u42 = .slice (some ⟨nb, 0, none⟩) 1 1 ∧ x.heap[nb]? = some (.cells #[.string e0.a, .string e0.i, .int .i64 e0.s, .int .i64 e0.o, .int .i64 e0.l, .int .i64 e0.t, .int .i64 e0.k, .int .i64 e0.n, .bool e0.g] 50 (0, 0)))) ∧ (d 4 = true → (∃ cs : List Cd, OwnC w4.heap.size x u43 (cs ++ [e0]) ∧ cs.length ≤ 3 ∧ ∀ c ∈ cs, CdOk c)) ∧ (d 5 = true → u7 = u43) ∧ TapeK ra rlen rcap x tb ∧ Bar tb w4 x ∧ x.heap[cb]? = some (.cells #[.string e0.a, .string e0.i, .int .i64 e0.s, .int .i64 e0.o, .int .i64 e0.l, .int .i64 e0.t, .int .i64 e0.k, .int .i64 e0.n, .bool e0.g] 50 (0, 0)) ∧ (d 5 = true → d 4 = true)) (by simp only [Act.put, List.setIfInBounds_toArray, List.set_cons_succ, List.set_cons_zero]; rfl) (by kernel_rfl) (by kernel_rfl) ?_ ?_ ?_
  · refine ⟨_, _, _, _, _, _, rfl, ?_, ?_, ?_, ?_, ?_, ?_, ?_, ?_, ?_, ?_⟩
    · intro h; cases h
    · intro h; cases h
    · intro h; cases h
    · intro h; cases h
    · intro h; cases h
    · intro h; cases h
    · exact HTK.out.ext ((Below.refl _ _).drew)
    · exact Bar.of ((Below.refl _ _).drew)
    · exact blk_drew HCB.out
    · exact (fun h => by cases h)
  · refine stepsOk_cons (k := 0) ?_ (stepsOk_cons (k := 1) ?_ (stepsOk_cons (k := 2) ?_ (stepsOk_cons (k := 3) ?_ (stepsOk_cons (k := 4) ?_ (stepsOk_cons (k := 5) ?_ stepsOk_nil)))))
    · unfold StepOk
      rintro d act x ⟨u39, u40, u41, u42, u43, u7, rfl, f0, f1, f2, f3, f4, f5, g0, g1, g2, g3⟩ hd hdep Kc hKc
      rw [if_pos (by rfl)]
      go_big_op
      refine hKc _ _ ⟨_, _, _, _, _, _, rfl, ?_, ?_, ?_, ?_, ?_, ?_, ?_, ?_, ?_, ?_⟩
      · exact (fun _ => rfl)
      · exact (fun h h5 => by obtain ⟨cs, q1, q2, q3⟩ := f1 (up h rfl) (dn h5); exact ⟨cs, q1, q2, q3⟩)
      · exact (fun h => f2 (up h rfl))
      · exact (fun h h5 => by obtain ⟨nb, q1, q2⟩ := f3 (up h rfl) (dn h5); exact ⟨nb, q1, q2⟩)
      · exact (fun h => by obtain ⟨cs, q1, q2, q3⟩ := f4 (up h rfl); exact ⟨cs, q1, q2, q3⟩)
      · exact (fun h => f5 (up h rfl))
      · exact g0
      · exact g1
      · exact g2
      · exact (fun h => upl (g3 (up h rfl)))
    · unfold StepOk
      rintro d act x ⟨u39, u40, u41, u42, u43, u7, rfl, f0, f1, f2, f3, f4, f5, g0, g1, g2, g3⟩ hd hdep Kc hKc
      have hd0 : d 0 = true := hdep ⟨0, .data⟩ (by simp) rfl
      obtain rfl := f0 hd0
      rw [if_pos (by rfl)]
      go_big_op
      refine (tapeCards ra rlen rcap rz tb 3 _ g0 (HROW.out.bar g1) (by omega)).mono ?_
      rintro e x1 ⟨v1, cs1, rfl, ho1, hl1, hok1, hT1, hB1⟩
      refine hKc _ _ ⟨_, _, _, _, _, _, rfl, ?_, ?_, ?_, ?_, ?_, ?_, ?_, ?_, ?_, ?_⟩
      · exact (fun h => f0 (up h rfl))
      · exact (fun _ => (fun h5 => ⟨cs1, OwnR.base ho1 g1.size, hl1, hok1⟩))
      · exact (fun h => f2 (up h rfl))
      · exact (fun h h5 => by obtain ⟨nb, q1, q2⟩ := f3 (up h rfl) (dn h5); exact ⟨nb, q1, (hB1.blk (g0.ne (by decide) q2) q2)⟩)
      · exact (fun h => by obtain ⟨cs, q1, q2, q3⟩ := f4 (up h rfl); exact ⟨cs, (g0.own hB1 (by decide) q1), q2, q3⟩)
      · exact (fun h => f5 (up h rfl))
      · exact hT1
      · exact (g1.trans hB1)
      · exact (hB1.blk (g0.ne (by decide) g2) g2)
      · exact (fun h => upl (g3 (up h rfl)))
    · unfold StepOk
      rintro d act x ⟨u39, u40, u41, u42, u43, u7, rfl, f0, f1, f2, f3, f4, f5, g0, g1, g2, g3⟩ hd hdep Kc hKc
      have hx := blk_cell g2
      have hxl := blk_lt g2
      rw [if_pos (by rfl)]
      go_big_op
      refine hKc _ _ ⟨_, _, _, _, _, _, rfl, ?_, ?_, ?_, ?_, ?_, ?_, ?_, ?_, ?_, ?_⟩
      · exact (fun h => f0 (up h rfl))
      · exact (fun h h5 => by obtain ⟨cs, q1, q2, q3⟩ := f1 (up h rfl) (dn h5); exact ⟨cs, q1, q2, q3⟩)
      · exact (fun _ => rfl)
      · exact (fun h h5 => by obtain ⟨nb, q1, q2⟩ := f3 (up h rfl) (dn h5); exact ⟨nb, q1, q2⟩)
      · exact (fun h => by obtain ⟨cs, q1, q2, q3⟩ := f4 (up h rfl); exact ⟨cs, q1, q2, q3⟩)
      · exact (fun h => f5 (up h rfl))
      · exact g0
      · exact g1
      · exact g2
      · exact (fun h => upl (g3 (up h rfl)))
    · unfold StepOk
      rintro d act x ⟨u39, u40, u41, u42, u43, u7, rfl, f0, f1, f2, f3, f4, f5, g0, g1, g2, g3⟩ hd hdep Kc hKc
      have hd2 : d 2 = true := hdep ⟨2, .data⟩ (by simp) rfl
      obtain rfl := f2 hd2
      rw [if_pos (by rfl)]
      go_big_op
      refine hKc _ _ ⟨_, _, _, _, _, _, rfl, ?_, ?_, ?_, ?_, ?_, ?_, ?_, ?_, ?_, ?_⟩
      · exact (fun h => f0 (up h rfl))
      · exact (fun h h5 => by obtain ⟨cs, q1, q2, q3⟩ := f1 (up h rfl) (dn h5); exact ⟨cs, (OwnR.ext q1 ((Below.refl _ _).alloc (Nat.le_refl _) _)), q2, q3⟩)
      · exact (fun h => f2 (up h rfl))
      · exact (fun _ => (fun h5 => ⟨_, rfl, blk_new _ _ _⟩))
      · exact (fun h => by obtain ⟨cs, q1, q2, q3⟩ := f4 (up h rfl); exact ⟨cs, (OwnR.ext q1 ((Below.refl _ _).alloc (Nat.le_refl _) _)), q2, q3⟩)
      · exact (fun h => f5 (up h rfl))
      · exact (g0.ext ((Below.refl _ _).alloc (Nat.le_refl _) _))
      · exact (g1.trans (Bar.of ((Below.refl _ _).alloc (Nat.le_refl _) _)))
      · exact (blk_alloc g2 _)
      · exact (fun h => upl (g3 (up h rfl)))
    · unfold StepOk
      rintro d act x ⟨u39, u40, u41, u42, u43, u7, rfl, f0, f1, f2, f3, f4, f5, g0, g1, g2, g3⟩ hd hdep Kc hKc
      have hd1 : d 1 = true := hdep ⟨1, .data⟩ (by simp) rfl
      have hd3 : d 3 = true := hdep ⟨3, .data⟩ (by simp) rfl
      obtain ⟨cs1, ho1, hl1, hok1⟩ := f1 hd1 hd
      obtain ⟨nb, rfl, hnb⟩ := f3 hd3 hd
      obtain ⟨n1, hn1⟩ : ∃ n, cs1.length = n := ⟨_, rfl⟩
      have ho1' : x.ownsRow w4.heap.size 50 9 u40 n1 (flat cc cs1) := by have := ho1; unfold OwnC OwnR at this; rw [hn1] at this; exact this
      rw [if_pos (by rfl)]
      refine wp_append_own _ _ _ 26 rfl (w4.heap.size) 50 i0 Cd.zero.v 9 88 Tryd.underlying26 hi hz0 hz1 hz2 rfl (by decide) _ n1 (flat cc cs1) rfl ho1' ⟨nb, 0, none⟩ 1 1 (cc e0) rfl rfl ?c1 ?c2 ?c3 ?c4 ?c5 ?_
      case c1 =>
        intro j u hj
        rw [add_off, Nat.zero_add, blk_cell hnb]
        simpa [cc] using hj
      case c2 => exact cc_one e0
      case c3 => unfold maxLen; omega
      case c4 => omega
      case c5 => exact g1.size
      intro v' x1 hown' hgrow _
      have hbar5 : Bar tb w4 x1 := g1.grown hgrow (fun q hq => own_ge ho1' hq)
      have hT5 : TapeK ra rlen rcap x1 tb := by
        obtain ⟨q, e1, e2⟩ := g0
        exact ⟨q, (hgrow.block tb (blk_lt e1) (own_ne ho1' e1 (by decide))).trans e1, e2⟩
      refine hKc _ _ ⟨_, _, _, _, _, _, rfl, ?_, ?_, ?_, ?_, ?_, ?_, ?_, ?_, ?_, ?_⟩
      · exact (fun h => f0 (up h rfl))
      · exact (fun h h5 => by simp at h5)
      · exact (fun h => f2 (up h rfl))
      · exact (fun h h5 => by simp at h5)
      · exact (fun _ => ⟨cs1, by unfold OwnC OwnR; rw [flat_snoc, List.length_append, hn1]; exact hown', hl1, hok1⟩)
      · exact (fun h => by have := g3 (up h rfl); rw [hd] at this; cases this)
      · exact hT5
      · exact hbar5
      · exact ((hgrow.block cb (blk_lt g2) (fun e => by have h1 := own_ge ho1' e.symm; have h2 := blk_lt HCB.out; omega)).trans g2)
      · exact (fun h => by simp)
    · unfold StepOk
      rintro d act x ⟨u39, u40, u41, u42, u43, u7, rfl, f0, f1, f2, f3, f4, f5, g0, g1, g2, g3⟩ hd hdep Kc hKc
      have hd4 : d 4 = true := hdep ⟨4, .data⟩ (by simp) rfl
      have hd4 : d 4 = true := hdep ⟨4, .chain⟩ (by simp) rfl
      have hd4 : d 4 = true := hdep ⟨4, .phase⟩ (by simp) rfl
      obtain f4' := f4 hd4
      rw [if_pos (by rfl)]
      go_big_op
      refine hKc _ _ ⟨_, _, _, _, _, _, rfl, ?_, ?_, ?_, ?_, ?_, ?_, ?_, ?_, ?_, ?_⟩
      · exact (fun h => f0 (up h rfl))
      · exact (fun h h5 => by obtain ⟨cs, q1, q2, q3⟩ := f1 (up h rfl) (dn h5); exact ⟨cs, q1, q2, q3⟩)
      · exact (fun h => f2 (up h rfl))
      · exact (fun h h5 => by obtain ⟨nb, q1, q2⟩ := f3 (up h rfl) (dn h5); exact ⟨nb, q1, q2⟩)
      · exact (fun h => by obtain ⟨cs, q1, q2, q3⟩ := f4 (up h rfl); exact ⟨cs, q1, q2, q3⟩)
      · exact (fun _ => rfl)
      · exact g0
      · exact g1
      · exact g2
      · exact (fun h => upl hd4)
  · rintro d act x ⟨u39, u40, u41, u42, u43, u7, rfl, f0, f1, f2, f3, f4, f5, g0, g1, g2, g3⟩ hall
    have f5' := f5 (hall 5 (by decide))
    subst f5'
    obtain ⟨cs, ho, hl3, hokk⟩ := f4 (hall 4 (by decide))
    obtain ⟨v, rfl⟩ : ∃ v : World, v = x := ⟨_, rfl⟩
    have D0 := Lib.hid (D4.out.trans (g1.below HTB.out D4.out.size))
    have HSC := Lib.hid (show ∀ y ∈ cs ++ [e0], y.a.size ≤ maxLen ∧ y.i.size ≤ maxLen from fun y hy => by
      unfold maxLen
      rcases List.mem_append.1 hy with hy | hy
      · have h1 := hokk y hy
        unfold CdOk at h1
        omega
      · obtain rfl := List.mem_singleton.1 hy
        have h1 := HSZ.out
        omega)
    have hLn : (cs ++ [e0]).length ≤ 4 ∧ 0 < (cs ++ [e0]).length := by rw [List.length_append]; simp; omega
    obtain ⟨L, hL⟩ : ∃ L, cs ++ [e0] = L := ⟨_, rfl⟩
    have HANY := Lib.hid (show L.any (fun y => !(cdRB y)) = true from by rw [← hL]; exact wrong_last HWR.out)
    rw [hL] at ho HSC hLn
    obtain ⟨la, lc, hsl, hlc, hlm, hat, -, -⟩ := ho.read
    subst hsl
    obtain ⟨n, hn⟩ : ∃ n, L.length = n := ⟨_, rfl⟩
    rw [hn] at hLn hlc ⊢
    have HLN := Lib.hid hn
    have HLC := Lib.hid hlc
    have HLM := Lib.hid hlm
    have HA0 := Lib.hid hat
    have HG0 := Lib.hid (HG.out.ext D0.out)
    have hn64 : n ≤ 64 := by omega
    clear f0 f1 f2 f3 f4 f5 g0 g1 g2 g3 hall ho hl3 hokk hL hn hlc hlm hat HTK HROW HCB D4 HG
    have hE := (Below.refl v.heap.size v).alloc (Nat.le_refl _) (.cells #[.int .i64 3, .int .i64 4] 3)
    have HAR := Lib.hid (blk_new v #[.int .i64 3, .int .i64 4] 3)
    have D1 := Lib.hid (ext_trans D0.out hE)
    have HA1 := Lib.hid (HA0.out.ext hE)
    have HG1 := Lib.hid (HG0.out.ext hE)
    clear hE D0 HA0 HG0
    go_wp2_with fail
    obtain ⟨ab, hab⟩ : ∃ b, v.heap.size = b := ⟨_, rfl⟩
    rw [hab] at HAR
    try rw [hab]
    clear hab
    generalize (v.alloc (.cells #[.int .i64 3, .int .i64 4] 3)) = v1 at *
    go_loopw [46] (fun j wr => ∃ J : Nat, J ≤ 2 ∧ j = .int .i64 (J : Int) ∧ Below v1.heap.size v1 wr) (fun j _ => 2 - (intOf j).toNat)
    case atStart => exact ⟨0, by omega, rfl, Below.refl _ _⟩
    case round =>
      obtain ⟨v2, rfl⟩ : ∃ y : World, y = wr := ⟨_, rfl⟩
      obtain ⟨J, hJ, rfl, hb2⟩ := hrel
      have D2 := Lib.hid (ext_trans D1.out hb2)
      have HA2 := Lib.hid (HA1.out.ext hb2)
      have HG2 := Lib.hid (HG1.out.ext hb2)
      have HB2 := Lib.hid hb2
      have HAR2 := Lib.hid (blk_ext hb2 HAR.out)
      clear hb2
      have hJ3 : J = 0 ∨ J = 1 ∨ J = 2 := by omega
      rcases hJ3 with rfl | rfl | rfl
      · have hca := blk_cell HAR2.out
        have hla := blk_lt HAR2.out
        go_wp2_with fail
        refine (mailBytesNo 3 0 0 0 0 0 0 ⟨#[]⟩ ⟨#[]⟩ false 0 la n lc none 0 0 v2 ⟨#[99, 97, 114, 100]⟩ 1 (fun u hu => mailRightCards3No la n lc L u (HA2.out.ext hu) HLN.out HLC.out HLM.out hn64 HSC.out HANY.out)).mono ?_
        rintro r v3 ⟨e1, rfl, hf, hb⟩
        have HF := Lib.hid hf
        have HB3 := Lib.hid (ext_trans HB2.out hb)
        have HG3 := Lib.hid (HG2.out.ext hb)
        clear hf hb hca hla
        go_wp2_with fail
        refine (whyWrite ⟨#[99, 97, 114, 100]⟩ 1 e1 v3 HG3.out (by decide) HF.out).mono ?_
        rintro r v4 ⟨rfl, hb⟩
        have HB4 := Lib.hid (ext_trans HB3.out hb)
        clear hb
        go_wp2
        go_roundw
        case rel => exact ⟨1, by omega, by go_num, HB4.out⟩
        case measure => simp [intOf]
      · have hca := blk_cell HAR2.out
        have hla := blk_lt HAR2.out
        go_wp2_with fail
        refine (mailBytesNo 4 0 0 0 0 0 0 ⟨#[]⟩ ⟨#[]⟩ false 0 la n lc none 0 0 v2 ⟨#[99, 97, 114, 100]⟩ 1 (fun u hu => mailRightCards4No la n lc L u (HA2.out.ext hu) HLN.out HLC.out HLM.out hn64 HSC.out HANY.out)).mono ?_
        rintro r v3 ⟨e1, rfl, hf, hb⟩
        have HF := Lib.hid hf
        have HB3 := Lib.hid (ext_trans HB2.out hb)
        have HG3 := Lib.hid (HG2.out.ext hb)
        clear hf hb hca hla
        go_wp2_with fail
        refine (whyWrite ⟨#[99, 97, 114, 100]⟩ 1 e1 v3 HG3.out (by decide) HF.out).mono ?_
        rintro r v4 ⟨rfl, hb⟩
        have HB4 := Lib.hid (ext_trans HB3.out hb)
        clear hb
        go_wp2
        go_roundw
        case rel => exact ⟨2, by omega, by go_num, HB4.out⟩
        case measure => simp [intOf]
      · skip
        have hE := (Below.refl v2.heap.size v2).alloc (Nat.le_refl _) (.cells #[.string ⟨#[97]⟩, .string ⟨#[98]⟩, .string ⟨#[97]⟩, .string ⟨#[]⟩] 24)
        have HKY := Lib.hid (keys2 v2 ⟨#[97]⟩ ⟨#[98]⟩ ⟨#[97]⟩ ⟨#[]⟩)
        have HE := Lib.hid hE
        clear hE
        go_wp2_with fail
        obtain ⟨kb, hkb⟩ : ∃ b, v2.heap.size = b := ⟨_, rfl⟩
        have D3 := Lib.hid (ext_trans D2.out HE.out)
        have HA3 := Lib.hid (HA2.out.ext HE.out)
        have HG3 := Lib.hid (HG2.out.ext HE.out)
        rw [hkb] at HKY
        try rw [hkb]
        clear hkb HE
        generalize (v2.alloc (.cells #[.string ⟨#[97]⟩, .string ⟨#[98]⟩, .string ⟨#[97]⟩, .string ⟨#[]⟩] 24)) = v3 at *
        refine (mailBytesNo 5 0 0 0 0 0 0 ⟨#[]⟩ ⟨#[]⟩ false 0 none 0 0 (some ⟨kb, 0, none⟩) 2 2 v3 ⟨#[99, 97, 114, 100]⟩ 1 (fun u hu => mailRightPullNo (some ⟨kb, 0, none⟩) 2 2 [(⟨#[97]⟩, ⟨#[98]⟩), (⟨#[97]⟩, ⟨#[]⟩)] u (SAt.ext HKY.out hu) rfl (Nat.le_refl _) (by simp [maxLen]) (by omega) keys_sz (any_yes (x := ((⟨#[97]⟩, ⟨#[]⟩) : Ky)) (by simp) up9))).mono ?_
        rintro r v4 ⟨e1, rfl, hf, hb⟩
        have HF4 := Lib.hid hf
        have D4 := Lib.hid (ext_trans D3.out hb)
        have HA4 := Lib.hid (HA3.out.ext hb)
        have HG4 := Lib.hid (HG3.out.ext hb)
        clear hf hb
        go_wp2_with fail
        refine (mailBytesNo 5 0 0 0 0 0 0 ⟨#[]⟩ ⟨#[]⟩ false 0 la n lc none 0 0 v4 ⟨#[122, 101, 114, 111]⟩ 12 (fun u hu => mailRightPullCards la n lc L u (HA4.out.ext hu) HLN.out HLC.out HLM.out (by omega) HSC.out)).mono ?_
        rintro r v5 ⟨e2, rfl, hf, hb⟩
        have HF5 := Lib.hid hf
        have HF45 := Lib.hid (HF4.out.ext hb)
        have D5 := Lib.hid (ext_trans D4.out hb)
        have HG5 := Lib.hid (HG4.out.ext hb)
        clear hf hb
        go_wp2_with fail
        refine (whyWrite ⟨#[99, 97, 114, 100]⟩ 1 e1 v5 HG5.out (by decide) HF45.out).mono ?_
        rintro r v6 ⟨rfl, hb⟩
        have HF6 := Lib.hid (HF5.out.ext hb)
        have D6 := Lib.hid (ext_trans D5.out hb)
        have HG6 := Lib.hid (HG5.out.ext hb)
        clear hb
        go_wp2_with fail
        refine (whyWrite ⟨#[122, 101, 114, 111]⟩ 12 e2 v6 HG6.out (by decide) HF6.out).mono ?_
        rintro r v7 ⟨rfl, hb⟩
        have D7 := Lib.hid (ext_trans D6.out hb)
        have HG7 := Lib.hid (HG6.out.ext hb)
        clear hb
        go_wp2_with fail
        refine (law6known v7 HG7.out).mono ?_
        rintro r v8 ⟨rfl, hb⟩
        have D8 := Lib.hid (ext_trans D7.out hb)
        go_wp2
        go_ret
        exact ⟨rfl, D8.out⟩

end Go.Proofs.YtfdalmodnkkfiaaDoor
