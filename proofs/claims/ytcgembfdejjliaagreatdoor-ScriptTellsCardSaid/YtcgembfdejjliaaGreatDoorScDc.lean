/- The document's own line, where a shape has the word and the words are as many. -/
import Derived.Test.YtcgembfdejjliaaGreatDoorScJ
import Derived.Deep.Cut
namespace Go.Proofs.YtcgembfdejjliaaGreatDoor
open Go.RowKit
open Go.PlainAid (bt get_bt bt_le bt_nonneg)
set_option linter.unusedVariables false
set_option linter.unusedSimpArgs false

set_option maxRecDepth 100000 in
set_option maxHeartbeats 4000000 in
theorem docLine_go (x : ByteArray) (hx : x.size ≤ 1048576) (w : World) (s : Sh) (hs : s ∈ shs) (hsw : s.w = hdw x) (hlen : (wsB x).length = s.fs.size + 1) (hres : lineD x = puts ⟨s.k, 0, 0, s.op, 0, 0, ⟨#[]⟩⟩ s.fs.data.toList (wsB x).tail) : DocP x w := by
  obtain ⟨R, hR⟩ : ∃ R, lineD x = R := ⟨_, rfl⟩
  unfold DocP
  rw [hR] at hres ⊢
  have HR := Lib.hid hres
  obtain ⟨p, hp⟩ : ∃ p, w.heap.size = p := ⟨_, rfl⟩
  clear hres hR
  go_enter Tryz.func18, Tryz.ntmps18
  have b1 : Below w.heap.size w (w.alloc (.cells (acC acZ) 29)) := (Below.refl _ _).alloc (Nat.le_refl _) _
  have z1 := blk_new w (acC acZ) 29
  simp only [acC, acZ] at b1 z1
  have HB := Lib.hid (show _ ∧ _ ∧ _ from ⟨b1, z1, hp⟩)
  clear b1 z1
  go_wp2_with fail
  refine (wordsP x hx _).mono ?_
  rintro e w2 ⟨v, rfl, ho, hb2⟩
  obtain ⟨a, c, rfl, hc1, hc2, ha⟩ := OwnR.form ho
  obtain ⟨n, hn⟩ : ∃ n, (wsB x).length = n := ⟨_, rfl⟩
  have hn1 : 1 ≤ n := by have := wsB_len x; omega
  have hn2 : n ≤ 1048577 := by have := wsB_len x; omega
  obtain ⟨g, rfl, hg1, hg2⟩ := ha.resolve_left (by rintro ⟨-, -, e⟩; rw [e] at hn; simp at hn; omega)
  obtain ⟨X0, hX0⟩ : ∃ X, hdw x = X := ⟨_, rfl⟩
  have hcons : wsB x = X0 :: (wsB x).tail := by
    have h1 := hdw_ws x
    rw [hX0] at h1
    cases h : wsB x with
    | nil => rw [h] at hn; simp at hn; omega
    | cons q l => rw [h] at h1; simp at h1; rw [h1]; rfl
  have y0 := OwnR.at (enc := eb) (k := 1) (fun _ => rfl) ho (i := 0) (x := X0) (by rw [hcons]; rfl) 0 (.string X0) rfl
  simp only [Nat.zero_mul, Nat.add_zero] at y0
  have hxz : X0.size ≤ maxLen := by
    have := hcons
    have h2 : X0.data.toList ∈ ws x.data.toList := by
      have h3 : X0 ∈ wsB x := by rw [hcons]; simp
      unfold wsB at h3
      obtain ⟨l, hl, e⟩ := List.mem_map.1 h3
      rw [← e]; simpa using hl
    have h4 := ws_size _ _ h2
    have h5 : X0.data.toList.length = X0.size := rfl
    have h6 : x.data.toList.length = x.size := rfl
    unfold maxLen; omega
  have H := Lib.hid (show w2.heap[p]? = some (.cells #[.int .i64 0, .int .i64 0, .int .i64 0, .int .i64 0, .int .i64 0, .int .i64 0, .string ⟨#[]⟩] 29 (0, 0)) ∧ _ ∧ _ ∧ _ ∧ _ from ⟨(by have h0 := blk_ext hb2 HB.out.2.1; rw [HB.out.2.2] at h0; exact h0), ext_trans HB.out.1 hb2, ho, hcons, y0⟩)
  rw [hX0] at hsw
  rw [hn] at hc1 hlen ⊢
  have hgw := cell_lt y0
  have hgp : g ≠ p := by
    have h1 := HB.out.2.1
    have h2 := blk_lt h1
    rw [HB.out.2.2] at h2
    omega
  have HGP := Lib.hid hgp
  have HN := Lib.hid hn
  have HX0 := Lib.hid hX0.symm
  have HPW := Lib.hid (show w.heap.size ≤ p from Nat.le_of_eq HB.out.2.2)
  clear ho hb2 hcons hn hX0 hp hg1 hg2 ha hgp
  unfold maxLen at hc2
  have HLEN := Lib.hid hlen
  clear hlen
  go_upto_region 2 with (fail)
  refine wp_region_lit ?_
  refine wpList_plain rfl (fun K hK => ?_)
  go_big_op
  refine hK _ _ ?_
  clear hK K
  obtain ⟨mb, hmb⟩ : ∃ mb, w2.heap.size = mb := ⟨_, rfl⟩
  have m0 : MpT 9 TF (fun j => decide (j < 0)) ({ heap := w2.heap.push (.map #[] 0), tape := w2.tape, drawn := w2.drawn, os := w2.os, output := w2.output } : World) w2.heap.size := MpT.made _ _ _ (fun i _ => by simp) _
  have g0 : Below w2.heap.size w2 ({ heap := w2.heap.push (.map #[] 0), tape := w2.tape, drawn := w2.drawn, os := w2.os, output := w2.output } : World) := al_below _ _
  rw [hmb] at m0 ⊢
  have hmb2 : w2.heap.size ≤ mb := Nat.le_of_eq hmb
  generalize ({ heap := w2.heap.push (.map #[] 0), tape := w2.tape, drawn := w2.drawn, os := w2.os, output := w2.output } : World) = x0 at *
  simp only [Act.put, List.setIfInBounds_toArray, List.set_cons_succ, List.set_cons_zero]
  refine wpList_insert (w0 := w2) (B := w2.heap.size) rfl _ _ _ rfl Tryz.underlying81 TF_ok (i := 0) rfl m0 hmb2 g0 ⟨#[116, 105, 99, 107]⟩ (.string ⟨#[65, 110]⟩) rfl rfl rfl ?_
  clear m0 g0
  intro x1 m1 g1
  simp only [Act.put, List.setIfInBounds_toArray, List.set_cons_succ, List.set_cons_zero]
  refine wpList_insert (w0 := w2) (B := w2.heap.size) rfl _ _ _ rfl Tryz.underlying81 TF_ok (i := 1) rfl m1 hmb2 g1 ⟨#[100, 101, 108, 105, 118, 101, 114]⟩ (.string ⟨#[110]⟩) rfl rfl rfl ?_
  clear m1 g1
  intro x2 m2 g2
  simp only [Act.put, List.setIfInBounds_toArray, List.set_cons_succ, List.set_cons_zero]
  refine wpList_insert (w0 := w2) (B := w2.heap.size) rfl _ _ _ rfl Tryz.underlying81 TF_ok (i := 2) rfl m2 hmb2 g2 ⟨#[100, 114, 111, 112]⟩ (.string ⟨#[110]⟩) rfl rfl rfl ?_
  clear m2 g2
  intro x3 m3 g3
  simp only [Act.put, List.setIfInBounds_toArray, List.set_cons_succ, List.set_cons_zero]
  refine wpList_insert (w0 := w2) (B := w2.heap.size) rfl _ _ _ rfl Tryz.underlying81 TF_ok (i := 3) rfl m3 hmb2 g3 ⟨#[116, 119, 105, 99, 101]⟩ (.string ⟨#[110]⟩) rfl rfl rfl ?_
  clear m3 g3
  intro x4 m4 g4
  simp only [Act.put, List.setIfInBounds_toArray, List.set_cons_succ, List.set_cons_zero]
  refine wpList_insert (w0 := w2) (B := w2.heap.size) rfl _ _ _ rfl Tryz.underlying81 TF_ok (i := 4) rfl m4 hmb2 g4 ⟨#[99, 117, 116]⟩ (.string ⟨#[65, 66]⟩) rfl rfl rfl ?_
  clear m4 g4
  intro x5 m5 g5
  simp only [Act.put, List.setIfInBounds_toArray, List.set_cons_succ, List.set_cons_zero]
  refine wpList_insert (w0 := w2) (B := w2.heap.size) rfl _ _ _ rfl Tryz.underlying81 TF_ok (i := 5) rfl m5 hmb2 g5 ⟨#[104, 101, 97, 108]⟩ (.string ⟨#[65, 66]⟩) rfl rfl rfl ?_
  clear m5 g5
  intro x6 m6 g6
  simp only [Act.put, List.setIfInBounds_toArray, List.set_cons_succ, List.set_cons_zero]
  refine wpList_insert (w0 := w2) (B := w2.heap.size) rfl _ _ _ rfl Tryz.underlying81 TF_ok (i := 6) rfl m6 hmb2 g6 ⟨#[99, 114, 97, 115, 104]⟩ (.string ⟨#[65]⟩) rfl rfl rfl ?_
  clear m6 g6
  intro x7 m7 g7
  simp only [Act.put, List.setIfInBounds_toArray, List.set_cons_succ, List.set_cons_zero]
  refine wpList_insert (w0 := w2) (B := w2.heap.size) rfl _ _ _ rfl Tryz.underlying81 TF_ok (i := 7) rfl m7 hmb2 g7 ⟨#[114, 101, 103, 105, 115, 116, 101, 114]⟩ (.string ⟨#[65, 110, 115]⟩) rfl rfl rfl ?_
  clear m7 g7
  intro x8 m8 g8
  simp only [Act.put, List.setIfInBounds_toArray, List.set_cons_succ, List.set_cons_zero]
  refine wpList_insert (w0 := w2) (B := w2.heap.size) rfl _ _ _ rfl Tryz.underlying81 TF_ok (i := 8) rfl m8 hmb2 g8 ⟨#[99, 97, 110, 99, 101, 108]⟩ (.string ⟨#[65]⟩) rfl rfl rfl ?_
  clear m8 g8
  intro x9 m9 g9
  simp only [Act.put, List.setIfInBounds_toArray, List.set_cons_succ, List.set_cons_zero]
  refine wpList_insert (w0 := w2) (B := w2.heap.size) rfl _ _ _ rfl Tryz.underlying81 TF_ok (i := 9) rfl m9 hmb2 g9 ⟨#[111, 118, 101, 114, 114, 105, 100, 101]⟩ (.string ⟨#[65, 115]⟩) rfl rfl rfl ?_
  clear m9 g9
  intro x10 m10 g10
  simp only [Act.put, List.setIfInBounds_toArray, List.set_cons_succ, List.set_cons_zero]
  refine wpList_insert (w0 := w2) (B := w2.heap.size) rfl _ _ _ rfl Tryz.underlying81 TF_ok (i := 10) rfl m10 hmb2 g10 ⟨#[108, 111, 111, 107]⟩ (.string ⟨#[65, 119]⟩) rfl rfl rfl ?_
  clear m10 g10
  intro x11 m11 g11
  simp only [Act.put, List.setIfInBounds_toArray, List.set_cons_succ, List.set_cons_zero]
  have HM := Lib.hid (show _ ∧ _ from ⟨m11, g11⟩)
  clear m11 g11 hmb2 hmb
  have HP3 := Lib.hid (show _ ∧ _ ∧ _ from ⟨blk_ext HM.out.2 H.out.1, ext_trans H.out.2.1 HM.out.2, ext_cell HM.out.2 H.out.2.2.2.2⟩)
  have x0c := HP3.out.2.2
  have x0l := cell_lt x0c
  clear y0 hgw
  obtain ⟨fv, hfv, -, okv, hlk, hok⟩ := HM.out.1.look Tryz.underlying81 TF_ok (fun i hi => by have h11 : i < 11 := hi; simpa using h11) X0 hxz (z := .string ⟨#[]⟩) (fun y => by kernel_rfl) (plainElem_string Tryz.underlying9 (by unfold maxLen; decide)) inv_str
  have hin := tab_in s hs
  rw [hsw] at hin
  obtain ⟨Fm, hFm⟩ : ∃ F, frm s = F := ⟨_, rfl⟩
  obtain ⟨m, hm⟩ : ∃ m, s.fs.size = m := ⟨_, rfl⟩
  have hFs : Fm.size = m := by
    rw [← hFm, ← hm]
    show (s.fs.data.toList.map flet).toArray.size = s.fs.data.toList.length
    simp
  have hm3 : m ≤ 3 := by rw [← hm]; exact shs_sz s hs
  rw [hFm] at hin
  have hokt : okv = true := hok.2 ⟨by
    rcases hfv with h | h
    · exact h
    · exact absurd hin.1 (h.1 _), _, hin.1⟩
  subst hokt
  obtain rfl : fv = .string Fm := by
    rcases hfv with h | h
    · exact tab_one TF_ok.nd h hin.1
    · exact absurd hin.1 (h.1 _)
  rw [hm] at HLEN
  have HI := Lib.hid (show _ ∧ _ ∧ _ ∧ _ from ⟨hin, hFm, hm, hs⟩)
  clear hok hfv hin hFm hm hs
  have ht3 : ((n : Int) != (m : Int) + 1) = false := by have := HLEN.out; simp; omega
  go_wp2_with fail
  have hn0i : (0 : Int) < (n : Int) := by omega
  have hn0n : 0 < n := by omega
  clear x0c x0l ht3 hlk
  refine wp_region_inv_eq (J := fun A d act x => ∃ u37 u38 u39 u40 u41 u42 u43 u44 u45 u46 u47 u48 u49 u8 : Value, act = ((((((((((((((A.put (some 37) u37).put (some 38) u38).put (some 39) u39).put (some 40) u40).put (some 41) u41).put (some 42) u42).put (some 43) u43).put (some 44) u44).put (some 45) u45).put (some 46) u46).put (some 47) u47).put (some 48) u48).put (some 49) u49).put (some 8) u8) ∧ RI x11 (.slice (some ⟨g, 0, none⟩) n c) (.pointer (some ⟨g, 0, none⟩)) X0 s.k s.op d x u37 u38 u39 u40 u41 u42 u43 u44 u45 u46 u47 u48 u49 u8) (by simp only [Act.put, List.setIfInBounds_toArray, List.set_cons_succ, List.set_cons_zero]; rfl) (by kernel_rfl) (by kernel_rfl) ?_ ?_ ?_
  · exact ⟨_, _, _, _, _, _, _, _, _, _, _, _, _, _, rfl, ⟨(Below.refl _ _).drew, (fun h => by cases h), (fun h => by cases h), (fun h => by cases h), (fun _ _ h => by cases h), (fun _ _ h => by cases h), (fun h => by cases h), (fun h => by cases h), (fun h => by cases h), (fun h => by cases h), (fun h => by cases h), (fun h => by cases h), (fun h => by cases h), (fun h => by cases h), (fun h => by cases h), (fun h => by cases h), (fun h => by cases h), (fun h => by cases h), (fun h => by cases h), (fun h => by cases h), (fun h => by cases h)⟩⟩
  · refine stepsOk_cons (k := 0) ?_ (stepsOk_cons (k := 1) ?_ (stepsOk_cons (k := 2) ?_ (stepsOk_cons (k := 3) ?_ (stepsOk_cons (k := 4) ?_ (stepsOk_cons (k := 5) ?_ (stepsOk_cons (k := 6) ?_ (stepsOk_cons (k := 7) ?_ (stepsOk_cons (k := 8) ?_ (stepsOk_cons (k := 9) ?_ (stepsOk_cons (k := 10) ?_ (stepsOk_cons (k := 11) ?_ (stepsOk_cons (k := 12) ?_ (stepsOk_cons (k := 13) ?_ (stepsOk_cons (k := 14) ?_ (stepsOk_cons (k := 15) ?_ (stepsOk_cons (k := 16) ?_ (stepsOk_cons (k := 17) ?_ (stepsOk_cons (k := 18) ?_ (stepsOk_cons (k := 19) ?_ (stepsOk_cons (k := 20) ?_ (stepsOk_cons (k := 21) ?_ (stepsOk_cons (k := 22) ?_ (stepsOk_cons (k := 23) ?_ (stepsOk_cons (k := 24) ?_ (stepsOk_cons (k := 25) ?_ (stepsOk_cons (k := 26) ?_ (stepsOk_cons (k := 27) ?_ (stepsOk_cons (k := 28) ?_ stepsOk_nil))))))))))))))))))))))))))))
    · unfold StepOk
      rintro d act xw ⟨u37, u38, u39, u40, u41, u42, u43, u44, u45, u46, u47, u48, u49, u8, rfl, F⟩ hd hdep Kc hKc
      rw [if_pos (by rfl)]
      go_big_op
      exact hKc _ _ ⟨_, _, _, _, _, _, _, _, _, _, _, _, _, _, rfl, ⟨(F.bl.alloc F.bl.size _), (fun _ => ⟨xw.heap.size, rfl, F.bl.size, MpT.made _ _ _ (fun i hi => by
        have hi' : i < 11 := hi
        have h5 : d (i + 1) = false := by
          cases h : d (i + 1) with
          | false => rfl
          | true => have := F.k1 i hi' h; rw [hd] at this; cases this
        simp [h5]) _⟩), (fun h => by obtain ⟨b2, e2, hb2, hm2⟩ := F.m2 (up h rfl); exact ⟨b2, e2, hb2, MpT.off (hm2.ext (al_below _ _)) (fun i hi => by have hi' : i < 3 := hi; omega)⟩), (fun _ h' b b' e e' => by obtain ⟨b2, e2, -, hm2⟩ := F.m2 (up h' rfl); rw [e2] at e'; cases e; cases e'; have := hm2.lt; omega), (fun _ _ _ => by simp), (fun i hi h => upl (F.k2 i hi (up h (idx_off i 0 18 (by omega))))), (fun h => upl (F.k3 (up h rfl))), (fun h => ⟨upl (F.c12 (up h rfl)).1, fun i hi => upl ((F.c12 (up h rfl)).2 i hi)⟩), (fun h => ⟨upl (F.c21 (up h rfl)).1, fun i hi => upl ((F.c21 (up h rfl)).2 i hi)⟩), (fun h => absurd (F.c12 (up h rfl)).1 (by rw [hd]; decide)), (fun h => F.s13 (up h rfl)), (fun h => F.s14 (up h rfl)), (fun h => F.s15 (up h rfl)), (fun h => F.s16 (up h rfl)), (fun h => F.s21 (up h rfl)), (fun h => F.s22 (up h rfl)), (fun h => F.s23 (up h rfl)), (fun h => F.s24 (up h rfl)), (fun h => F.s25 (up h rfl)), (fun h => F.s26 (up h rfl)), (fun h => by obtain ⟨q, e, hq, h1, h2⟩ := F.p8 (up h rfl); exact ⟨q, e, hq, fun h => (blk_alloc (h1 (dn h)) _), fun h => (blk_alloc (h2 (up h rfl)) _)⟩)⟩⟩
    · unfold StepOk
      rintro d act xw ⟨u37, u38, u39, u40, u41, u42, u43, u44, u45, u46, u47, u48, u49, u8, rfl, F⟩ hd hdep Kc hKc
      have hdm : d 0 = true := hdep ⟨0, .data⟩ (by simp) rfl
      obtain ⟨b, rfl, hb, hm⟩ := F.m1 hdm
      rw [if_pos (by rfl)]
      refine op_insert _ _ _ rfl Tryz.underlying82 TK_ok rfl hm 0 ⟨#[116, 105, 99, 107]⟩ (.int .i64 1) rfl hd rfl rfl (fun x' hm' hg => ?_)
      exact hKc _ _ ⟨_, _, _, _, _, _, _, _, _, _, _, _, _, _, rfl, ⟨(F.bl.grown hg F.bl.size (fun q hq => by cases hq; exact hb)), (fun _ => ⟨b, rfl, hb, MpT.on hm' rfl⟩), (fun h => by obtain ⟨b2, e2, hb2, hm2⟩ := F.m2 (up h rfl); exact ⟨b2, e2, hb2, MpT.off (insM hg hm2 (fun e => F.ne hdm (up h rfl) b b2 rfl e2 e.symm)) (fun i hi => by have hi' : i < 3 := hi; omega)⟩), (fun h h' => F.ne (up h rfl) (up h' rfl)), (fun _ _ _ => upl hdm), (fun i hi h => upl (F.k2 i hi (up h (idx_off i 1 18 (by omega))))), (fun h => upl (F.k3 (up h rfl))), (fun h => ⟨upl (F.c12 (up h rfl)).1, fun i hi => upl ((F.c12 (up h rfl)).2 i hi)⟩), (fun h => ⟨upl (F.c21 (up h rfl)).1, fun i hi => upl ((F.c21 (up h rfl)).2 i hi)⟩), (fun h => F.s12 (up h rfl)), (fun h => F.s13 (up h rfl)), (fun h => F.s14 (up h rfl)), (fun h => F.s15 (up h rfl)), (fun h => F.s16 (up h rfl)), (fun h => F.s21 (up h rfl)), (fun h => F.s22 (up h rfl)), (fun h => F.s23 (up h rfl)), (fun h => F.s24 (up h rfl)), (fun h => F.s25 (up h rfl)), (fun h => F.s26 (up h rfl)), (fun h => by obtain ⟨q, e, hq, h1, h2⟩ := F.p8 (up h rfl); exact ⟨q, e, hq, fun h => (insC hg hm (h1 (dn h))), fun h => (insC hg hm (h2 (up h rfl)))⟩)⟩⟩
    · unfold StepOk
      rintro d act xw ⟨u37, u38, u39, u40, u41, u42, u43, u44, u45, u46, u47, u48, u49, u8, rfl, F⟩ hd hdep Kc hKc
      have hdm : d 0 = true := hdep ⟨0, .data⟩ (by simp) rfl
      obtain ⟨b, rfl, hb, hm⟩ := F.m1 hdm
      rw [if_pos (by rfl)]
      refine op_insert _ _ _ rfl Tryz.underlying82 TK_ok rfl hm 1 ⟨#[100, 101, 108, 105, 118, 101, 114]⟩ (.int .i64 2) rfl hd rfl rfl (fun x' hm' hg => ?_)
      exact hKc _ _ ⟨_, _, _, _, _, _, _, _, _, _, _, _, _, _, rfl, ⟨(F.bl.grown hg F.bl.size (fun q hq => by cases hq; exact hb)), (fun _ => ⟨b, rfl, hb, MpT.on hm' rfl⟩), (fun h => by obtain ⟨b2, e2, hb2, hm2⟩ := F.m2 (up h rfl); exact ⟨b2, e2, hb2, MpT.off (insM hg hm2 (fun e => F.ne hdm (up h rfl) b b2 rfl e2 e.symm)) (fun i hi => by have hi' : i < 3 := hi; omega)⟩), (fun h h' => F.ne (up h rfl) (up h' rfl)), (fun _ _ _ => upl hdm), (fun i hi h => upl (F.k2 i hi (up h (idx_off i 2 18 (by omega))))), (fun h => upl (F.k3 (up h rfl))), (fun h => ⟨upl (F.c12 (up h rfl)).1, fun i hi => upl ((F.c12 (up h rfl)).2 i hi)⟩), (fun h => ⟨upl (F.c21 (up h rfl)).1, fun i hi => upl ((F.c21 (up h rfl)).2 i hi)⟩), (fun h => F.s12 (up h rfl)), (fun h => F.s13 (up h rfl)), (fun h => F.s14 (up h rfl)), (fun h => F.s15 (up h rfl)), (fun h => F.s16 (up h rfl)), (fun h => F.s21 (up h rfl)), (fun h => F.s22 (up h rfl)), (fun h => F.s23 (up h rfl)), (fun h => F.s24 (up h rfl)), (fun h => F.s25 (up h rfl)), (fun h => F.s26 (up h rfl)), (fun h => by obtain ⟨q, e, hq, h1, h2⟩ := F.p8 (up h rfl); exact ⟨q, e, hq, fun h => (insC hg hm (h1 (dn h))), fun h => (insC hg hm (h2 (up h rfl)))⟩)⟩⟩
    · unfold StepOk
      rintro d act xw ⟨u37, u38, u39, u40, u41, u42, u43, u44, u45, u46, u47, u48, u49, u8, rfl, F⟩ hd hdep Kc hKc
      have hdm : d 0 = true := hdep ⟨0, .data⟩ (by simp) rfl
      obtain ⟨b, rfl, hb, hm⟩ := F.m1 hdm
      rw [if_pos (by rfl)]
      refine op_insert _ _ _ rfl Tryz.underlying82 TK_ok rfl hm 2 ⟨#[100, 114, 111, 112]⟩ (.int .i64 3) rfl hd rfl rfl (fun x' hm' hg => ?_)
      exact hKc _ _ ⟨_, _, _, _, _, _, _, _, _, _, _, _, _, _, rfl, ⟨(F.bl.grown hg F.bl.size (fun q hq => by cases hq; exact hb)), (fun _ => ⟨b, rfl, hb, MpT.on hm' rfl⟩), (fun h => by obtain ⟨b2, e2, hb2, hm2⟩ := F.m2 (up h rfl); exact ⟨b2, e2, hb2, MpT.off (insM hg hm2 (fun e => F.ne hdm (up h rfl) b b2 rfl e2 e.symm)) (fun i hi => by have hi' : i < 3 := hi; omega)⟩), (fun h h' => F.ne (up h rfl) (up h' rfl)), (fun _ _ _ => upl hdm), (fun i hi h => upl (F.k2 i hi (up h (idx_off i 3 18 (by omega))))), (fun h => upl (F.k3 (up h rfl))), (fun h => ⟨upl (F.c12 (up h rfl)).1, fun i hi => upl ((F.c12 (up h rfl)).2 i hi)⟩), (fun h => ⟨upl (F.c21 (up h rfl)).1, fun i hi => upl ((F.c21 (up h rfl)).2 i hi)⟩), (fun h => F.s12 (up h rfl)), (fun h => F.s13 (up h rfl)), (fun h => F.s14 (up h rfl)), (fun h => F.s15 (up h rfl)), (fun h => F.s16 (up h rfl)), (fun h => F.s21 (up h rfl)), (fun h => F.s22 (up h rfl)), (fun h => F.s23 (up h rfl)), (fun h => F.s24 (up h rfl)), (fun h => F.s25 (up h rfl)), (fun h => F.s26 (up h rfl)), (fun h => by obtain ⟨q, e, hq, h1, h2⟩ := F.p8 (up h rfl); exact ⟨q, e, hq, fun h => (insC hg hm (h1 (dn h))), fun h => (insC hg hm (h2 (up h rfl)))⟩)⟩⟩
    · unfold StepOk
      rintro d act xw ⟨u37, u38, u39, u40, u41, u42, u43, u44, u45, u46, u47, u48, u49, u8, rfl, F⟩ hd hdep Kc hKc
      have hdm : d 0 = true := hdep ⟨0, .data⟩ (by simp) rfl
      obtain ⟨b, rfl, hb, hm⟩ := F.m1 hdm
      rw [if_pos (by rfl)]
      refine op_insert _ _ _ rfl Tryz.underlying82 TK_ok rfl hm 3 ⟨#[116, 119, 105, 99, 101]⟩ (.int .i64 4) rfl hd rfl rfl (fun x' hm' hg => ?_)
      exact hKc _ _ ⟨_, _, _, _, _, _, _, _, _, _, _, _, _, _, rfl, ⟨(F.bl.grown hg F.bl.size (fun q hq => by cases hq; exact hb)), (fun _ => ⟨b, rfl, hb, MpT.on hm' rfl⟩), (fun h => by obtain ⟨b2, e2, hb2, hm2⟩ := F.m2 (up h rfl); exact ⟨b2, e2, hb2, MpT.off (insM hg hm2 (fun e => F.ne hdm (up h rfl) b b2 rfl e2 e.symm)) (fun i hi => by have hi' : i < 3 := hi; omega)⟩), (fun h h' => F.ne (up h rfl) (up h' rfl)), (fun _ _ _ => upl hdm), (fun i hi h => upl (F.k2 i hi (up h (idx_off i 4 18 (by omega))))), (fun h => upl (F.k3 (up h rfl))), (fun h => ⟨upl (F.c12 (up h rfl)).1, fun i hi => upl ((F.c12 (up h rfl)).2 i hi)⟩), (fun h => ⟨upl (F.c21 (up h rfl)).1, fun i hi => upl ((F.c21 (up h rfl)).2 i hi)⟩), (fun h => F.s12 (up h rfl)), (fun h => F.s13 (up h rfl)), (fun h => F.s14 (up h rfl)), (fun h => F.s15 (up h rfl)), (fun h => F.s16 (up h rfl)), (fun h => F.s21 (up h rfl)), (fun h => F.s22 (up h rfl)), (fun h => F.s23 (up h rfl)), (fun h => F.s24 (up h rfl)), (fun h => F.s25 (up h rfl)), (fun h => F.s26 (up h rfl)), (fun h => by obtain ⟨q, e, hq, h1, h2⟩ := F.p8 (up h rfl); exact ⟨q, e, hq, fun h => (insC hg hm (h1 (dn h))), fun h => (insC hg hm (h2 (up h rfl)))⟩)⟩⟩
    · unfold StepOk
      rintro d act xw ⟨u37, u38, u39, u40, u41, u42, u43, u44, u45, u46, u47, u48, u49, u8, rfl, F⟩ hd hdep Kc hKc
      have hdm : d 0 = true := hdep ⟨0, .data⟩ (by simp) rfl
      obtain ⟨b, rfl, hb, hm⟩ := F.m1 hdm
      rw [if_pos (by rfl)]
      refine op_insert _ _ _ rfl Tryz.underlying82 TK_ok rfl hm 4 ⟨#[99, 117, 116]⟩ (.int .i64 5) rfl hd rfl rfl (fun x' hm' hg => ?_)
      exact hKc _ _ ⟨_, _, _, _, _, _, _, _, _, _, _, _, _, _, rfl, ⟨(F.bl.grown hg F.bl.size (fun q hq => by cases hq; exact hb)), (fun _ => ⟨b, rfl, hb, MpT.on hm' rfl⟩), (fun h => by obtain ⟨b2, e2, hb2, hm2⟩ := F.m2 (up h rfl); exact ⟨b2, e2, hb2, MpT.off (insM hg hm2 (fun e => F.ne hdm (up h rfl) b b2 rfl e2 e.symm)) (fun i hi => by have hi' : i < 3 := hi; omega)⟩), (fun h h' => F.ne (up h rfl) (up h' rfl)), (fun _ _ _ => upl hdm), (fun i hi h => upl (F.k2 i hi (up h (idx_off i 5 18 (by omega))))), (fun h => upl (F.k3 (up h rfl))), (fun h => ⟨upl (F.c12 (up h rfl)).1, fun i hi => upl ((F.c12 (up h rfl)).2 i hi)⟩), (fun h => ⟨upl (F.c21 (up h rfl)).1, fun i hi => upl ((F.c21 (up h rfl)).2 i hi)⟩), (fun h => F.s12 (up h rfl)), (fun h => F.s13 (up h rfl)), (fun h => F.s14 (up h rfl)), (fun h => F.s15 (up h rfl)), (fun h => F.s16 (up h rfl)), (fun h => F.s21 (up h rfl)), (fun h => F.s22 (up h rfl)), (fun h => F.s23 (up h rfl)), (fun h => F.s24 (up h rfl)), (fun h => F.s25 (up h rfl)), (fun h => F.s26 (up h rfl)), (fun h => by obtain ⟨q, e, hq, h1, h2⟩ := F.p8 (up h rfl); exact ⟨q, e, hq, fun h => (insC hg hm (h1 (dn h))), fun h => (insC hg hm (h2 (up h rfl)))⟩)⟩⟩
    · unfold StepOk
      rintro d act xw ⟨u37, u38, u39, u40, u41, u42, u43, u44, u45, u46, u47, u48, u49, u8, rfl, F⟩ hd hdep Kc hKc
      have hdm : d 0 = true := hdep ⟨0, .data⟩ (by simp) rfl
      obtain ⟨b, rfl, hb, hm⟩ := F.m1 hdm
      rw [if_pos (by rfl)]
      refine op_insert _ _ _ rfl Tryz.underlying82 TK_ok rfl hm 5 ⟨#[104, 101, 97, 108]⟩ (.int .i64 6) rfl hd rfl rfl (fun x' hm' hg => ?_)
      exact hKc _ _ ⟨_, _, _, _, _, _, _, _, _, _, _, _, _, _, rfl, ⟨(F.bl.grown hg F.bl.size (fun q hq => by cases hq; exact hb)), (fun _ => ⟨b, rfl, hb, MpT.on hm' rfl⟩), (fun h => by obtain ⟨b2, e2, hb2, hm2⟩ := F.m2 (up h rfl); exact ⟨b2, e2, hb2, MpT.off (insM hg hm2 (fun e => F.ne hdm (up h rfl) b b2 rfl e2 e.symm)) (fun i hi => by have hi' : i < 3 := hi; omega)⟩), (fun h h' => F.ne (up h rfl) (up h' rfl)), (fun _ _ _ => upl hdm), (fun i hi h => upl (F.k2 i hi (up h (idx_off i 6 18 (by omega))))), (fun h => upl (F.k3 (up h rfl))), (fun h => ⟨upl (F.c12 (up h rfl)).1, fun i hi => upl ((F.c12 (up h rfl)).2 i hi)⟩), (fun h => ⟨upl (F.c21 (up h rfl)).1, fun i hi => upl ((F.c21 (up h rfl)).2 i hi)⟩), (fun h => F.s12 (up h rfl)), (fun h => F.s13 (up h rfl)), (fun h => F.s14 (up h rfl)), (fun h => F.s15 (up h rfl)), (fun h => F.s16 (up h rfl)), (fun h => F.s21 (up h rfl)), (fun h => F.s22 (up h rfl)), (fun h => F.s23 (up h rfl)), (fun h => F.s24 (up h rfl)), (fun h => F.s25 (up h rfl)), (fun h => F.s26 (up h rfl)), (fun h => by obtain ⟨q, e, hq, h1, h2⟩ := F.p8 (up h rfl); exact ⟨q, e, hq, fun h => (insC hg hm (h1 (dn h))), fun h => (insC hg hm (h2 (up h rfl)))⟩)⟩⟩
    · unfold StepOk
      rintro d act xw ⟨u37, u38, u39, u40, u41, u42, u43, u44, u45, u46, u47, u48, u49, u8, rfl, F⟩ hd hdep Kc hKc
      have hdm : d 0 = true := hdep ⟨0, .data⟩ (by simp) rfl
      obtain ⟨b, rfl, hb, hm⟩ := F.m1 hdm
      rw [if_pos (by rfl)]
      refine op_insert _ _ _ rfl Tryz.underlying82 TK_ok rfl hm 6 ⟨#[99, 114, 97, 115, 104]⟩ (.int .i64 7) rfl hd rfl rfl (fun x' hm' hg => ?_)
      exact hKc _ _ ⟨_, _, _, _, _, _, _, _, _, _, _, _, _, _, rfl, ⟨(F.bl.grown hg F.bl.size (fun q hq => by cases hq; exact hb)), (fun _ => ⟨b, rfl, hb, MpT.on hm' rfl⟩), (fun h => by obtain ⟨b2, e2, hb2, hm2⟩ := F.m2 (up h rfl); exact ⟨b2, e2, hb2, MpT.off (insM hg hm2 (fun e => F.ne hdm (up h rfl) b b2 rfl e2 e.symm)) (fun i hi => by have hi' : i < 3 := hi; omega)⟩), (fun h h' => F.ne (up h rfl) (up h' rfl)), (fun _ _ _ => upl hdm), (fun i hi h => upl (F.k2 i hi (up h (idx_off i 7 18 (by omega))))), (fun h => upl (F.k3 (up h rfl))), (fun h => ⟨upl (F.c12 (up h rfl)).1, fun i hi => upl ((F.c12 (up h rfl)).2 i hi)⟩), (fun h => ⟨upl (F.c21 (up h rfl)).1, fun i hi => upl ((F.c21 (up h rfl)).2 i hi)⟩), (fun h => F.s12 (up h rfl)), (fun h => F.s13 (up h rfl)), (fun h => F.s14 (up h rfl)), (fun h => F.s15 (up h rfl)), (fun h => F.s16 (up h rfl)), (fun h => F.s21 (up h rfl)), (fun h => F.s22 (up h rfl)), (fun h => F.s23 (up h rfl)), (fun h => F.s24 (up h rfl)), (fun h => F.s25 (up h rfl)), (fun h => F.s26 (up h rfl)), (fun h => by obtain ⟨q, e, hq, h1, h2⟩ := F.p8 (up h rfl); exact ⟨q, e, hq, fun h => (insC hg hm (h1 (dn h))), fun h => (insC hg hm (h2 (up h rfl)))⟩)⟩⟩
    · unfold StepOk
      rintro d act xw ⟨u37, u38, u39, u40, u41, u42, u43, u44, u45, u46, u47, u48, u49, u8, rfl, F⟩ hd hdep Kc hKc
      have hdm : d 0 = true := hdep ⟨0, .data⟩ (by simp) rfl
      obtain ⟨b, rfl, hb, hm⟩ := F.m1 hdm
      rw [if_pos (by rfl)]
      refine op_insert _ _ _ rfl Tryz.underlying82 TK_ok rfl hm 7 ⟨#[108, 111, 111, 107]⟩ (.int .i64 9) rfl hd rfl rfl (fun x' hm' hg => ?_)
      exact hKc _ _ ⟨_, _, _, _, _, _, _, _, _, _, _, _, _, _, rfl, ⟨(F.bl.grown hg F.bl.size (fun q hq => by cases hq; exact hb)), (fun _ => ⟨b, rfl, hb, MpT.on hm' rfl⟩), (fun h => by obtain ⟨b2, e2, hb2, hm2⟩ := F.m2 (up h rfl); exact ⟨b2, e2, hb2, MpT.off (insM hg hm2 (fun e => F.ne hdm (up h rfl) b b2 rfl e2 e.symm)) (fun i hi => by have hi' : i < 3 := hi; omega)⟩), (fun h h' => F.ne (up h rfl) (up h' rfl)), (fun _ _ _ => upl hdm), (fun i hi h => upl (F.k2 i hi (up h (idx_off i 8 18 (by omega))))), (fun h => upl (F.k3 (up h rfl))), (fun h => ⟨upl (F.c12 (up h rfl)).1, fun i hi => upl ((F.c12 (up h rfl)).2 i hi)⟩), (fun h => ⟨upl (F.c21 (up h rfl)).1, fun i hi => upl ((F.c21 (up h rfl)).2 i hi)⟩), (fun h => F.s12 (up h rfl)), (fun h => F.s13 (up h rfl)), (fun h => F.s14 (up h rfl)), (fun h => F.s15 (up h rfl)), (fun h => F.s16 (up h rfl)), (fun h => F.s21 (up h rfl)), (fun h => F.s22 (up h rfl)), (fun h => F.s23 (up h rfl)), (fun h => F.s24 (up h rfl)), (fun h => F.s25 (up h rfl)), (fun h => F.s26 (up h rfl)), (fun h => by obtain ⟨q, e, hq, h1, h2⟩ := F.p8 (up h rfl); exact ⟨q, e, hq, fun h => (insC hg hm (h1 (dn h))), fun h => (insC hg hm (h2 (up h rfl)))⟩)⟩⟩
    · unfold StepOk
      rintro d act xw ⟨u37, u38, u39, u40, u41, u42, u43, u44, u45, u46, u47, u48, u49, u8, rfl, F⟩ hd hdep Kc hKc
      have hdm : d 0 = true := hdep ⟨0, .data⟩ (by simp) rfl
      obtain ⟨b, rfl, hb, hm⟩ := F.m1 hdm
      rw [if_pos (by rfl)]
      refine op_insert _ _ _ rfl Tryz.underlying82 TK_ok rfl hm 8 ⟨#[114, 101, 103, 105, 115, 116, 101, 114]⟩ (.int .i64 8) rfl hd rfl rfl (fun x' hm' hg => ?_)
      exact hKc _ _ ⟨_, _, _, _, _, _, _, _, _, _, _, _, _, _, rfl, ⟨(F.bl.grown hg F.bl.size (fun q hq => by cases hq; exact hb)), (fun _ => ⟨b, rfl, hb, MpT.on hm' rfl⟩), (fun h => by obtain ⟨b2, e2, hb2, hm2⟩ := F.m2 (up h rfl); exact ⟨b2, e2, hb2, MpT.off (insM hg hm2 (fun e => F.ne hdm (up h rfl) b b2 rfl e2 e.symm)) (fun i hi => by have hi' : i < 3 := hi; omega)⟩), (fun h h' => F.ne (up h rfl) (up h' rfl)), (fun _ _ _ => upl hdm), (fun i hi h => upl (F.k2 i hi (up h (idx_off i 9 18 (by omega))))), (fun h => upl (F.k3 (up h rfl))), (fun h => ⟨upl (F.c12 (up h rfl)).1, fun i hi => upl ((F.c12 (up h rfl)).2 i hi)⟩), (fun h => ⟨upl (F.c21 (up h rfl)).1, fun i hi => upl ((F.c21 (up h rfl)).2 i hi)⟩), (fun h => F.s12 (up h rfl)), (fun h => F.s13 (up h rfl)), (fun h => F.s14 (up h rfl)), (fun h => F.s15 (up h rfl)), (fun h => F.s16 (up h rfl)), (fun h => F.s21 (up h rfl)), (fun h => F.s22 (up h rfl)), (fun h => F.s23 (up h rfl)), (fun h => F.s24 (up h rfl)), (fun h => F.s25 (up h rfl)), (fun h => F.s26 (up h rfl)), (fun h => by obtain ⟨q, e, hq, h1, h2⟩ := F.p8 (up h rfl); exact ⟨q, e, hq, fun h => (insC hg hm (h1 (dn h))), fun h => (insC hg hm (h2 (up h rfl)))⟩)⟩⟩
    · unfold StepOk
      rintro d act xw ⟨u37, u38, u39, u40, u41, u42, u43, u44, u45, u46, u47, u48, u49, u8, rfl, F⟩ hd hdep Kc hKc
      have hdm : d 0 = true := hdep ⟨0, .data⟩ (by simp) rfl
      obtain ⟨b, rfl, hb, hm⟩ := F.m1 hdm
      rw [if_pos (by rfl)]
      refine op_insert _ _ _ rfl Tryz.underlying82 TK_ok rfl hm 9 ⟨#[99, 97, 110, 99, 101, 108]⟩ (.int .i64 8) rfl hd rfl rfl (fun x' hm' hg => ?_)
      exact hKc _ _ ⟨_, _, _, _, _, _, _, _, _, _, _, _, _, _, rfl, ⟨(F.bl.grown hg F.bl.size (fun q hq => by cases hq; exact hb)), (fun _ => ⟨b, rfl, hb, MpT.on hm' rfl⟩), (fun h => by obtain ⟨b2, e2, hb2, hm2⟩ := F.m2 (up h rfl); exact ⟨b2, e2, hb2, MpT.off (insM hg hm2 (fun e => F.ne hdm (up h rfl) b b2 rfl e2 e.symm)) (fun i hi => by have hi' : i < 3 := hi; omega)⟩), (fun h h' => F.ne (up h rfl) (up h' rfl)), (fun _ _ _ => upl hdm), (fun i hi h => upl (F.k2 i hi (up h (idx_off i 10 18 (by omega))))), (fun h => upl (F.k3 (up h rfl))), (fun h => ⟨upl (F.c12 (up h rfl)).1, fun i hi => upl ((F.c12 (up h rfl)).2 i hi)⟩), (fun h => ⟨upl (F.c21 (up h rfl)).1, fun i hi => upl ((F.c21 (up h rfl)).2 i hi)⟩), (fun h => F.s12 (up h rfl)), (fun h => F.s13 (up h rfl)), (fun h => F.s14 (up h rfl)), (fun h => F.s15 (up h rfl)), (fun h => F.s16 (up h rfl)), (fun h => F.s21 (up h rfl)), (fun h => F.s22 (up h rfl)), (fun h => F.s23 (up h rfl)), (fun h => F.s24 (up h rfl)), (fun h => F.s25 (up h rfl)), (fun h => F.s26 (up h rfl)), (fun h => by obtain ⟨q, e, hq, h1, h2⟩ := F.p8 (up h rfl); exact ⟨q, e, hq, fun h => (insC hg hm (h1 (dn h))), fun h => (insC hg hm (h2 (up h rfl)))⟩)⟩⟩
    · unfold StepOk
      rintro d act xw ⟨u37, u38, u39, u40, u41, u42, u43, u44, u45, u46, u47, u48, u49, u8, rfl, F⟩ hd hdep Kc hKc
      have hdm : d 0 = true := hdep ⟨0, .data⟩ (by simp) rfl
      obtain ⟨b, rfl, hb, hm⟩ := F.m1 hdm
      rw [if_pos (by rfl)]
      refine op_insert _ _ _ rfl Tryz.underlying82 TK_ok rfl hm 10 ⟨#[111, 118, 101, 114, 114, 105, 100, 101]⟩ (.int .i64 8) rfl hd rfl rfl (fun x' hm' hg => ?_)
      exact hKc _ _ ⟨_, _, _, _, _, _, _, _, _, _, _, _, _, _, rfl, ⟨(F.bl.grown hg F.bl.size (fun q hq => by cases hq; exact hb)), (fun _ => ⟨b, rfl, hb, MpT.on hm' rfl⟩), (fun h => by obtain ⟨b2, e2, hb2, hm2⟩ := F.m2 (up h rfl); exact ⟨b2, e2, hb2, MpT.off (insM hg hm2 (fun e => F.ne hdm (up h rfl) b b2 rfl e2 e.symm)) (fun i hi => by have hi' : i < 3 := hi; omega)⟩), (fun h h' => F.ne (up h rfl) (up h' rfl)), (fun _ _ _ => upl hdm), (fun i hi h => upl (F.k2 i hi (up h (idx_off i 11 18 (by omega))))), (fun h => upl (F.k3 (up h rfl))), (fun h => ⟨upl (F.c12 (up h rfl)).1, fun i hi => upl ((F.c12 (up h rfl)).2 i hi)⟩), (fun h => ⟨upl (F.c21 (up h rfl)).1, fun i hi => upl ((F.c21 (up h rfl)).2 i hi)⟩), (fun h => F.s12 (up h rfl)), (fun h => F.s13 (up h rfl)), (fun h => F.s14 (up h rfl)), (fun h => F.s15 (up h rfl)), (fun h => F.s16 (up h rfl)), (fun h => F.s21 (up h rfl)), (fun h => F.s22 (up h rfl)), (fun h => F.s23 (up h rfl)), (fun h => F.s24 (up h rfl)), (fun h => F.s25 (up h rfl)), (fun h => F.s26 (up h rfl)), (fun h => by obtain ⟨q, e, hq, h1, h2⟩ := F.p8 (up h rfl); exact ⟨q, e, hq, fun h => (insC hg hm (h1 (dn h))), fun h => (insC hg hm (h2 (up h rfl)))⟩)⟩⟩
    · unfold StepOk
      rintro d act xw ⟨u37, u38, u39, u40, u41, u42, u43, u44, u45, u46, u47, u48, u49, u8, rfl, F⟩ hd hdep Kc hKc
      have h0 : d 0 = true := hdep ⟨0, .data⟩ (by simp) rfl
      have h1 : d 1 = true := hdep ⟨1, .data⟩ (by simp) rfl
      have h2 : d 2 = true := hdep ⟨2, .data⟩ (by simp) rfl
      have h3 : d 3 = true := hdep ⟨3, .data⟩ (by simp) rfl
      have h4 : d 4 = true := hdep ⟨4, .data⟩ (by simp) rfl
      have h5 : d 5 = true := hdep ⟨5, .data⟩ (by simp) rfl
      have h6 : d 6 = true := hdep ⟨6, .data⟩ (by simp) rfl
      have h7 : d 7 = true := hdep ⟨7, .data⟩ (by simp) rfl
      have h8 : d 8 = true := hdep ⟨8, .data⟩ (by simp) rfl
      have h9 : d 9 = true := hdep ⟨9, .data⟩ (by simp) rfl
      have h10 : d 10 = true := hdep ⟨10, .data⟩ (by simp) rfl
      have h11 : d 11 = true := hdep ⟨11, .data⟩ (by simp) rfl
      rw [if_pos (by rfl)]
      go_big_op
      exact hKc _ _ ⟨_, _, _, _, _, _, _, _, _, _, _, _, _, _, rfl, ⟨F.bl, (fun h => by obtain ⟨b2, e2, hb2, hm2⟩ := F.m1 (up h rfl); exact ⟨b2, e2, hb2, MpT.off hm2 (fun i hi => by have hi' : i < 11 := hi; omega)⟩), (fun h => by obtain ⟨b2, e2, hb2, hm2⟩ := F.m2 (up h rfl); exact ⟨b2, e2, hb2, MpT.off hm2 (fun i hi => by have hi' : i < 3 := hi; omega)⟩), (fun h h' => F.ne (up h rfl) (up h' rfl)), (fun i hi h => upl (F.k1 i hi (up h (idx_off i 12 1 (by omega))))), (fun i hi h => upl (F.k2 i hi (up h (idx_off i 12 18 (by omega))))), (fun h => upl (F.k3 (up h rfl))), (fun _ => ⟨upl h0, fun i hi => upl (by match i, hi with | 0, _ => exact h1 | 1, _ => exact h2 | 2, _ => exact h3 | 3, _ => exact h4 | 4, _ => exact h5 | 5, _ => exact h6 | 6, _ => exact h7 | 7, _ => exact h8 | 8, _ => exact h9 | 9, _ => exact h10 | 10, _ => exact h11 | n + 11, h => omega)⟩), (fun h => ⟨upl (F.c21 (up h rfl)).1, fun i hi => upl ((F.c21 (up h rfl)).2 i hi)⟩), (fun _ => rfl), (fun h => F.s13 (up h rfl)), (fun h => F.s14 (up h rfl)), (fun h => F.s15 (up h rfl)), (fun h => F.s16 (up h rfl)), (fun h => F.s21 (up h rfl)), (fun h => F.s22 (up h rfl)), (fun h => F.s23 (up h rfl)), (fun h => F.s24 (up h rfl)), (fun h => F.s25 (up h rfl)), (fun h => F.s26 (up h rfl)), (fun h => by obtain ⟨q, e, hq, h1, h2⟩ := F.p8 (up h rfl); exact ⟨q, e, hq, fun h => (h1 (dn h)), fun h => (h2 (up h rfl))⟩)⟩⟩
    · unfold StepOk
      rintro d act xw ⟨u37, u38, u39, u40, u41, u42, u43, u44, u45, u46, u47, u48, u49, u8, rfl, F⟩ hd hdep Kc hKc
      rw [if_pos (by rfl)]
      go_big_op
      exact hKc _ _ ⟨_, _, _, _, _, _, _, _, _, _, _, _, _, _, rfl, ⟨F.bl, (fun h => by obtain ⟨b2, e2, hb2, hm2⟩ := F.m1 (up h rfl); exact ⟨b2, e2, hb2, MpT.off hm2 (fun i hi => by have hi' : i < 11 := hi; omega)⟩), (fun h => by obtain ⟨b2, e2, hb2, hm2⟩ := F.m2 (up h rfl); exact ⟨b2, e2, hb2, MpT.off hm2 (fun i hi => by have hi' : i < 3 := hi; omega)⟩), (fun h h' => F.ne (up h rfl) (up h' rfl)), (fun i hi h => upl (F.k1 i hi (up h (idx_off i 13 1 (by omega))))), (fun i hi h => upl (F.k2 i hi (up h (idx_off i 13 18 (by omega))))), (fun h => upl (F.k3 (up h rfl))), (fun h => ⟨upl (F.c12 (up h rfl)).1, fun i hi => upl ((F.c12 (up h rfl)).2 i hi)⟩), (fun h => ⟨upl (F.c21 (up h rfl)).1, fun i hi => upl ((F.c21 (up h rfl)).2 i hi)⟩), (fun h => F.s12 (up h rfl)), (fun _ => rfl), (fun h => F.s14 (up h rfl)), (fun h => F.s15 (up h rfl)), (fun h => F.s16 (up h rfl)), (fun h => F.s21 (up h rfl)), (fun h => F.s22 (up h rfl)), (fun h => F.s23 (up h rfl)), (fun h => F.s24 (up h rfl)), (fun h => F.s25 (up h rfl)), (fun h => F.s26 (up h rfl)), (fun h => by obtain ⟨q, e, hq, h1, h2⟩ := F.p8 (up h rfl); exact ⟨q, e, hq, fun h => (h1 (dn h)), fun h => (h2 (up h rfl))⟩)⟩⟩
    · unfold StepOk
      rintro d act xw ⟨u37, u38, u39, u40, u41, u42, u43, u44, u45, u46, u47, u48, u49, u8, rfl, F⟩ hd hdep Kc hKc
      have hq : d 13 = true := hdep ⟨13, .data⟩ (by simp) rfl
      obtain rfl := F.s13 hq
      rw [if_pos (by rfl)]
      go_big_op
      exact hKc _ _ ⟨_, _, _, _, _, _, _, _, _, _, _, _, _, _, rfl, ⟨F.bl, (fun h => by obtain ⟨b2, e2, hb2, hm2⟩ := F.m1 (up h rfl); exact ⟨b2, e2, hb2, MpT.off hm2 (fun i hi => by have hi' : i < 11 := hi; omega)⟩), (fun h => by obtain ⟨b2, e2, hb2, hm2⟩ := F.m2 (up h rfl); exact ⟨b2, e2, hb2, MpT.off hm2 (fun i hi => by have hi' : i < 3 := hi; omega)⟩), (fun h h' => F.ne (up h rfl) (up h' rfl)), (fun i hi h => upl (F.k1 i hi (up h (idx_off i 14 1 (by omega))))), (fun i hi h => upl (F.k2 i hi (up h (idx_off i 14 18 (by omega))))), (fun h => upl (F.k3 (up h rfl))), (fun h => ⟨upl (F.c12 (up h rfl)).1, fun i hi => upl ((F.c12 (up h rfl)).2 i hi)⟩), (fun h => ⟨upl (F.c21 (up h rfl)).1, fun i hi => upl ((F.c21 (up h rfl)).2 i hi)⟩), (fun h => F.s12 (up h rfl)), (fun h => F.s13 (up h rfl)), (fun _ => rfl), (fun h => F.s15 (up h rfl)), (fun h => F.s16 (up h rfl)), (fun h => F.s21 (up h rfl)), (fun h => F.s22 (up h rfl)), (fun h => F.s23 (up h rfl)), (fun h => F.s24 (up h rfl)), (fun h => F.s25 (up h rfl)), (fun h => F.s26 (up h rfl)), (fun h => by obtain ⟨q, e, hq, h1, h2⟩ := F.p8 (up h rfl); exact ⟨q, e, hq, fun h => (h1 (dn h)), fun h => (h2 (up h rfl))⟩)⟩⟩
    · unfold StepOk
      rintro d act xw ⟨u37, u38, u39, u40, u41, u42, u43, u44, u45, u46, u47, u48, u49, u8, rfl, F⟩ hd hdep Kc hKc
      have hq : d 14 = true := hdep ⟨14, .data⟩ (by simp) rfl
      obtain rfl := F.s14 hq
      have y := ext_cell F.bl HP3.out.2.2
      have yl := cell_lt y
      rw [if_pos (by rfl)]
      go_big_op
      exact hKc _ _ ⟨_, _, _, _, _, _, _, _, _, _, _, _, _, _, rfl, ⟨F.bl, (fun h => by obtain ⟨b2, e2, hb2, hm2⟩ := F.m1 (up h rfl); exact ⟨b2, e2, hb2, MpT.off hm2 (fun i hi => by have hi' : i < 11 := hi; omega)⟩), (fun h => by obtain ⟨b2, e2, hb2, hm2⟩ := F.m2 (up h rfl); exact ⟨b2, e2, hb2, MpT.off hm2 (fun i hi => by have hi' : i < 3 := hi; omega)⟩), (fun h h' => F.ne (up h rfl) (up h' rfl)), (fun i hi h => upl (F.k1 i hi (up h (idx_off i 15 1 (by omega))))), (fun i hi h => upl (F.k2 i hi (up h (idx_off i 15 18 (by omega))))), (fun h => upl (F.k3 (up h rfl))), (fun h => ⟨upl (F.c12 (up h rfl)).1, fun i hi => upl ((F.c12 (up h rfl)).2 i hi)⟩), (fun h => ⟨upl (F.c21 (up h rfl)).1, fun i hi => upl ((F.c21 (up h rfl)).2 i hi)⟩), (fun h => F.s12 (up h rfl)), (fun h => F.s13 (up h rfl)), (fun h => F.s14 (up h rfl)), (fun _ => rfl), (fun h => F.s16 (up h rfl)), (fun h => F.s21 (up h rfl)), (fun h => F.s22 (up h rfl)), (fun h => F.s23 (up h rfl)), (fun h => F.s24 (up h rfl)), (fun h => F.s25 (up h rfl)), (fun h => F.s26 (up h rfl)), (fun h => by obtain ⟨q, e, hq, h1, h2⟩ := F.p8 (up h rfl); exact ⟨q, e, hq, fun h => (h1 (dn h)), fun h => (h2 (up h rfl))⟩)⟩⟩
    · unfold StepOk
      rintro d act xw ⟨u37, u38, u39, u40, u41, u42, u43, u44, u45, u46, u47, u48, u49, u8, rfl, F⟩ hd hdep Kc hKc
      have hq : d 12 = true := hdep ⟨12, .data⟩ (by simp) rfl
      have hq2 : d 15 = true := hdep ⟨15, .data⟩ (by simp) rfl
      obtain ⟨hdm, hin⟩ := F.c12 hq
      have e1 := F.s12 hq
      obtain ⟨b, e2, hb, hm⟩ := F.m1 hdm
      rw [e2] at e1
      subst e1
      subst e2
      obtain rfl := F.s15 hq2
      have hl := look_K HI.out.2.2.2 hsw hxz hm hin
      rw [if_pos (by rfl)]
      go_big_op
      exact hKc _ _ ⟨_, _, _, _, _, _, _, _, _, _, _, _, _, _, rfl, ⟨F.bl, (fun h => by obtain ⟨b2, e2, hb2, hm2⟩ := F.m1 (up h rfl); exact ⟨b2, e2, hb2, MpT.off hm2 (fun i hi => by have hi' : i < 11 := hi; omega)⟩), (fun h => by obtain ⟨b2, e2, hb2, hm2⟩ := F.m2 (up h rfl); exact ⟨b2, e2, hb2, MpT.off hm2 (fun i hi => by have hi' : i < 3 := hi; omega)⟩), (fun h h' => F.ne (up h rfl) (up h' rfl)), (fun i hi h => upl (F.k1 i hi (up h (idx_off i 16 1 (by omega))))), (fun i hi h => upl (F.k2 i hi (up h (idx_off i 16 18 (by omega))))), (fun h => upl (F.k3 (up h rfl))), (fun h => ⟨upl (F.c12 (up h rfl)).1, fun i hi => upl ((F.c12 (up h rfl)).2 i hi)⟩), (fun h => ⟨upl (F.c21 (up h rfl)).1, fun i hi => upl ((F.c21 (up h rfl)).2 i hi)⟩), (fun h => F.s12 (up h rfl)), (fun h => F.s13 (up h rfl)), (fun h => F.s14 (up h rfl)), (fun h => F.s15 (up h rfl)), (fun _ => rfl), (fun h => F.s21 (up h rfl)), (fun h => F.s22 (up h rfl)), (fun h => F.s23 (up h rfl)), (fun h => F.s24 (up h rfl)), (fun h => F.s25 (up h rfl)), (fun h => F.s26 (up h rfl)), (fun h => by obtain ⟨q, e, hq, h1, h2⟩ := F.p8 (up h rfl); exact ⟨q, e, hq, fun h => (h1 (dn h)), fun h => (h2 (up h rfl))⟩)⟩⟩
    · unfold StepOk
      rintro d act xw ⟨u37, u38, u39, u40, u41, u42, u43, u44, u45, u46, u47, u48, u49, u8, rfl, F⟩ hd hdep Kc hKc
      rw [if_pos (by rfl)]
      go_big_op
      exact hKc _ _ ⟨_, _, _, _, _, _, _, _, _, _, _, _, _, _, rfl, ⟨(F.bl.alloc F.bl.size _), (fun h => by obtain ⟨b2, e2, hb2, hm2⟩ := F.m1 (up h rfl); exact ⟨b2, e2, hb2, MpT.off (hm2.ext (al_below _ _)) (fun i hi => by have hi' : i < 11 := hi; omega)⟩), (fun _ => ⟨xw.heap.size, rfl, F.bl.size, MpT.made _ _ _ (fun i hi => by
        have hi' : i < 3 := hi
        have h5 : d (i + 18) = false := by
          cases h : d (i + 18) with
          | false => rfl
          | true => have := F.k2 i hi' h; rw [hd] at this; cases this
        simp [h5]) _⟩), (fun h _ b b' e e' => by obtain ⟨b2, e2, -, hm2⟩ := F.m1 (up h rfl); rw [e2] at e; cases e; cases e'; have := hm2.lt; omega), (fun i hi h => upl (F.k1 i hi (up h (idx_off i 17 1 (by omega))))), (fun _ _ _ => by simp), (fun h => upl (F.k3 (up h rfl))), (fun h => ⟨upl (F.c12 (up h rfl)).1, fun i hi => upl ((F.c12 (up h rfl)).2 i hi)⟩), (fun h => ⟨upl (F.c21 (up h rfl)).1, fun i hi => upl ((F.c21 (up h rfl)).2 i hi)⟩), (fun h => F.s12 (up h rfl)), (fun h => F.s13 (up h rfl)), (fun h => F.s14 (up h rfl)), (fun h => F.s15 (up h rfl)), (fun h => F.s16 (up h rfl)), (fun h => absurd (F.c21 (up h rfl)).1 (by rw [hd]; decide)), (fun h => F.s22 (up h rfl)), (fun h => F.s23 (up h rfl)), (fun h => F.s24 (up h rfl)), (fun h => F.s25 (up h rfl)), (fun h => F.s26 (up h rfl)), (fun h => by obtain ⟨q, e, hq, h1, h2⟩ := F.p8 (up h rfl); exact ⟨q, e, hq, fun h => (blk_alloc (h1 (dn h)) _), fun h => (blk_alloc (h2 (up h rfl)) _)⟩)⟩⟩
    · unfold StepOk
      rintro d act xw ⟨u37, u38, u39, u40, u41, u42, u43, u44, u45, u46, u47, u48, u49, u8, rfl, F⟩ hd hdep Kc hKc
      have hdm : d 17 = true := hdep ⟨17, .data⟩ (by simp) rfl
      obtain ⟨b, rfl, hb, hm⟩ := F.m2 hdm
      rw [if_pos (by rfl)]
      refine op_insert _ _ _ rfl Tryz.underlying82 TO_ok rfl hm 0 ⟨#[114, 101, 103, 105, 115, 116, 101, 114]⟩ (.int .i64 1) rfl hd rfl rfl (fun x' hm' hg => ?_)
      exact hKc _ _ ⟨_, _, _, _, _, _, _, _, _, _, _, _, _, _, rfl, ⟨(F.bl.grown hg F.bl.size (fun q hq => by cases hq; exact hb)), (fun h => by obtain ⟨b2, e2, hb2, hm2⟩ := F.m1 (up h rfl); exact ⟨b2, e2, hb2, MpT.off (insM hg hm2 (fun e => F.ne (up h rfl) hdm b2 b e2 rfl e)) (fun i hi => by have hi' : i < 11 := hi; omega)⟩), (fun _ => ⟨b, rfl, hb, MpT.on hm' rfl⟩), (fun h h' => F.ne (up h rfl) (up h' rfl)), (fun i hi h => upl (F.k1 i hi (up h (idx_off i 18 1 (by omega))))), (fun _ _ _ => upl hdm), (fun h => upl (F.k3 (up h rfl))), (fun h => ⟨upl (F.c12 (up h rfl)).1, fun i hi => upl ((F.c12 (up h rfl)).2 i hi)⟩), (fun h => ⟨upl (F.c21 (up h rfl)).1, fun i hi => upl ((F.c21 (up h rfl)).2 i hi)⟩), (fun h => F.s12 (up h rfl)), (fun h => F.s13 (up h rfl)), (fun h => F.s14 (up h rfl)), (fun h => F.s15 (up h rfl)), (fun h => F.s16 (up h rfl)), (fun h => F.s21 (up h rfl)), (fun h => F.s22 (up h rfl)), (fun h => F.s23 (up h rfl)), (fun h => F.s24 (up h rfl)), (fun h => F.s25 (up h rfl)), (fun h => F.s26 (up h rfl)), (fun h => by obtain ⟨q, e, hq, h1, h2⟩ := F.p8 (up h rfl); exact ⟨q, e, hq, fun h => (insC hg hm (h1 (dn h))), fun h => (insC hg hm (h2 (up h rfl)))⟩)⟩⟩
    · unfold StepOk
      rintro d act xw ⟨u37, u38, u39, u40, u41, u42, u43, u44, u45, u46, u47, u48, u49, u8, rfl, F⟩ hd hdep Kc hKc
      have hdm : d 17 = true := hdep ⟨17, .data⟩ (by simp) rfl
      obtain ⟨b, rfl, hb, hm⟩ := F.m2 hdm
      rw [if_pos (by rfl)]
      refine op_insert _ _ _ rfl Tryz.underlying82 TO_ok rfl hm 1 ⟨#[99, 97, 110, 99, 101, 108]⟩ (.int .i64 3) rfl hd rfl rfl (fun x' hm' hg => ?_)
      exact hKc _ _ ⟨_, _, _, _, _, _, _, _, _, _, _, _, _, _, rfl, ⟨(F.bl.grown hg F.bl.size (fun q hq => by cases hq; exact hb)), (fun h => by obtain ⟨b2, e2, hb2, hm2⟩ := F.m1 (up h rfl); exact ⟨b2, e2, hb2, MpT.off (insM hg hm2 (fun e => F.ne (up h rfl) hdm b2 b e2 rfl e)) (fun i hi => by have hi' : i < 11 := hi; omega)⟩), (fun _ => ⟨b, rfl, hb, MpT.on hm' rfl⟩), (fun h h' => F.ne (up h rfl) (up h' rfl)), (fun i hi h => upl (F.k1 i hi (up h (idx_off i 19 1 (by omega))))), (fun _ _ _ => upl hdm), (fun h => upl (F.k3 (up h rfl))), (fun h => ⟨upl (F.c12 (up h rfl)).1, fun i hi => upl ((F.c12 (up h rfl)).2 i hi)⟩), (fun h => ⟨upl (F.c21 (up h rfl)).1, fun i hi => upl ((F.c21 (up h rfl)).2 i hi)⟩), (fun h => F.s12 (up h rfl)), (fun h => F.s13 (up h rfl)), (fun h => F.s14 (up h rfl)), (fun h => F.s15 (up h rfl)), (fun h => F.s16 (up h rfl)), (fun h => F.s21 (up h rfl)), (fun h => F.s22 (up h rfl)), (fun h => F.s23 (up h rfl)), (fun h => F.s24 (up h rfl)), (fun h => F.s25 (up h rfl)), (fun h => F.s26 (up h rfl)), (fun h => by obtain ⟨q, e, hq, h1, h2⟩ := F.p8 (up h rfl); exact ⟨q, e, hq, fun h => (insC hg hm (h1 (dn h))), fun h => (insC hg hm (h2 (up h rfl)))⟩)⟩⟩
    · unfold StepOk
      rintro d act xw ⟨u37, u38, u39, u40, u41, u42, u43, u44, u45, u46, u47, u48, u49, u8, rfl, F⟩ hd hdep Kc hKc
      have hdm : d 17 = true := hdep ⟨17, .data⟩ (by simp) rfl
      obtain ⟨b, rfl, hb, hm⟩ := F.m2 hdm
      rw [if_pos (by rfl)]
      refine op_insert _ _ _ rfl Tryz.underlying82 TO_ok rfl hm 2 ⟨#[111, 118, 101, 114, 114, 105, 100, 101]⟩ (.int .i64 4) rfl hd rfl rfl (fun x' hm' hg => ?_)
      exact hKc _ _ ⟨_, _, _, _, _, _, _, _, _, _, _, _, _, _, rfl, ⟨(F.bl.grown hg F.bl.size (fun q hq => by cases hq; exact hb)), (fun h => by obtain ⟨b2, e2, hb2, hm2⟩ := F.m1 (up h rfl); exact ⟨b2, e2, hb2, MpT.off (insM hg hm2 (fun e => F.ne (up h rfl) hdm b2 b e2 rfl e)) (fun i hi => by have hi' : i < 11 := hi; omega)⟩), (fun _ => ⟨b, rfl, hb, MpT.on hm' rfl⟩), (fun h h' => F.ne (up h rfl) (up h' rfl)), (fun i hi h => upl (F.k1 i hi (up h (idx_off i 20 1 (by omega))))), (fun _ _ _ => upl hdm), (fun h => upl (F.k3 (up h rfl))), (fun h => ⟨upl (F.c12 (up h rfl)).1, fun i hi => upl ((F.c12 (up h rfl)).2 i hi)⟩), (fun h => ⟨upl (F.c21 (up h rfl)).1, fun i hi => upl ((F.c21 (up h rfl)).2 i hi)⟩), (fun h => F.s12 (up h rfl)), (fun h => F.s13 (up h rfl)), (fun h => F.s14 (up h rfl)), (fun h => F.s15 (up h rfl)), (fun h => F.s16 (up h rfl)), (fun h => F.s21 (up h rfl)), (fun h => F.s22 (up h rfl)), (fun h => F.s23 (up h rfl)), (fun h => F.s24 (up h rfl)), (fun h => F.s25 (up h rfl)), (fun h => F.s26 (up h rfl)), (fun h => by obtain ⟨q, e, hq, h1, h2⟩ := F.p8 (up h rfl); exact ⟨q, e, hq, fun h => (insC hg hm (h1 (dn h))), fun h => (insC hg hm (h2 (up h rfl)))⟩)⟩⟩
    · unfold StepOk
      rintro d act xw ⟨u37, u38, u39, u40, u41, u42, u43, u44, u45, u46, u47, u48, u49, u8, rfl, F⟩ hd hdep Kc hKc
      have h17 : d 17 = true := hdep ⟨17, .data⟩ (by simp) rfl
      have h18 : d 18 = true := hdep ⟨18, .data⟩ (by simp) rfl
      have h19 : d 19 = true := hdep ⟨19, .data⟩ (by simp) rfl
      have h20 : d 20 = true := hdep ⟨20, .data⟩ (by simp) rfl
      rw [if_pos (by rfl)]
      go_big_op
      exact hKc _ _ ⟨_, _, _, _, _, _, _, _, _, _, _, _, _, _, rfl, ⟨F.bl, (fun h => by obtain ⟨b2, e2, hb2, hm2⟩ := F.m1 (up h rfl); exact ⟨b2, e2, hb2, MpT.off hm2 (fun i hi => by have hi' : i < 11 := hi; omega)⟩), (fun h => by obtain ⟨b2, e2, hb2, hm2⟩ := F.m2 (up h rfl); exact ⟨b2, e2, hb2, MpT.off hm2 (fun i hi => by have hi' : i < 3 := hi; omega)⟩), (fun h h' => F.ne (up h rfl) (up h' rfl)), (fun i hi h => upl (F.k1 i hi (up h (idx_off i 21 1 (by omega))))), (fun i hi h => upl (F.k2 i hi (up h (idx_off i 21 18 (by omega))))), (fun h => upl (F.k3 (up h rfl))), (fun h => ⟨upl (F.c12 (up h rfl)).1, fun i hi => upl ((F.c12 (up h rfl)).2 i hi)⟩), (fun _ => ⟨upl h17, fun i hi => upl (by match i, hi with | 0, _ => exact h18 | 1, _ => exact h19 | 2, _ => exact h20 | n + 3, h => omega)⟩), (fun h => F.s12 (up h rfl)), (fun h => F.s13 (up h rfl)), (fun h => F.s14 (up h rfl)), (fun h => F.s15 (up h rfl)), (fun h => F.s16 (up h rfl)), (fun _ => rfl), (fun h => F.s22 (up h rfl)), (fun h => F.s23 (up h rfl)), (fun h => F.s24 (up h rfl)), (fun h => F.s25 (up h rfl)), (fun h => F.s26 (up h rfl)), (fun h => by obtain ⟨q, e, hq, h1, h2⟩ := F.p8 (up h rfl); exact ⟨q, e, hq, fun h => (h1 (dn h)), fun h => (h2 (up h rfl))⟩)⟩⟩
    · unfold StepOk
      rintro d act xw ⟨u37, u38, u39, u40, u41, u42, u43, u44, u45, u46, u47, u48, u49, u8, rfl, F⟩ hd hdep Kc hKc
      rw [if_pos (by rfl)]
      go_big_op
      exact hKc _ _ ⟨_, _, _, _, _, _, _, _, _, _, _, _, _, _, rfl, ⟨F.bl, (fun h => by obtain ⟨b2, e2, hb2, hm2⟩ := F.m1 (up h rfl); exact ⟨b2, e2, hb2, MpT.off hm2 (fun i hi => by have hi' : i < 11 := hi; omega)⟩), (fun h => by obtain ⟨b2, e2, hb2, hm2⟩ := F.m2 (up h rfl); exact ⟨b2, e2, hb2, MpT.off hm2 (fun i hi => by have hi' : i < 3 := hi; omega)⟩), (fun h h' => F.ne (up h rfl) (up h' rfl)), (fun i hi h => upl (F.k1 i hi (up h (idx_off i 22 1 (by omega))))), (fun i hi h => upl (F.k2 i hi (up h (idx_off i 22 18 (by omega))))), (fun h => upl (F.k3 (up h rfl))), (fun h => ⟨upl (F.c12 (up h rfl)).1, fun i hi => upl ((F.c12 (up h rfl)).2 i hi)⟩), (fun h => ⟨upl (F.c21 (up h rfl)).1, fun i hi => upl ((F.c21 (up h rfl)).2 i hi)⟩), (fun h => F.s12 (up h rfl)), (fun h => F.s13 (up h rfl)), (fun h => F.s14 (up h rfl)), (fun h => F.s15 (up h rfl)), (fun h => F.s16 (up h rfl)), (fun h => F.s21 (up h rfl)), (fun _ => rfl), (fun h => F.s23 (up h rfl)), (fun h => F.s24 (up h rfl)), (fun h => F.s25 (up h rfl)), (fun h => F.s26 (up h rfl)), (fun h => by obtain ⟨q, e, hq, h1, h2⟩ := F.p8 (up h rfl); exact ⟨q, e, hq, fun h => (h1 (dn h)), fun h => (h2 (up h rfl))⟩)⟩⟩
    · unfold StepOk
      rintro d act xw ⟨u37, u38, u39, u40, u41, u42, u43, u44, u45, u46, u47, u48, u49, u8, rfl, F⟩ hd hdep Kc hKc
      have hq : d 22 = true := hdep ⟨22, .data⟩ (by simp) rfl
      obtain rfl := F.s22 hq
      rw [if_pos (by rfl)]
      go_big_op
      exact hKc _ _ ⟨_, _, _, _, _, _, _, _, _, _, _, _, _, _, rfl, ⟨F.bl, (fun h => by obtain ⟨b2, e2, hb2, hm2⟩ := F.m1 (up h rfl); exact ⟨b2, e2, hb2, MpT.off hm2 (fun i hi => by have hi' : i < 11 := hi; omega)⟩), (fun h => by obtain ⟨b2, e2, hb2, hm2⟩ := F.m2 (up h rfl); exact ⟨b2, e2, hb2, MpT.off hm2 (fun i hi => by have hi' : i < 3 := hi; omega)⟩), (fun h h' => F.ne (up h rfl) (up h' rfl)), (fun i hi h => upl (F.k1 i hi (up h (idx_off i 23 1 (by omega))))), (fun i hi h => upl (F.k2 i hi (up h (idx_off i 23 18 (by omega))))), (fun h => upl (F.k3 (up h rfl))), (fun h => ⟨upl (F.c12 (up h rfl)).1, fun i hi => upl ((F.c12 (up h rfl)).2 i hi)⟩), (fun h => ⟨upl (F.c21 (up h rfl)).1, fun i hi => upl ((F.c21 (up h rfl)).2 i hi)⟩), (fun h => F.s12 (up h rfl)), (fun h => F.s13 (up h rfl)), (fun h => F.s14 (up h rfl)), (fun h => F.s15 (up h rfl)), (fun h => F.s16 (up h rfl)), (fun h => F.s21 (up h rfl)), (fun h => F.s22 (up h rfl)), (fun _ => rfl), (fun h => F.s24 (up h rfl)), (fun h => F.s25 (up h rfl)), (fun h => F.s26 (up h rfl)), (fun h => by obtain ⟨q, e, hq, h1, h2⟩ := F.p8 (up h rfl); exact ⟨q, e, hq, fun h => (h1 (dn h)), fun h => (h2 (up h rfl))⟩)⟩⟩
    · unfold StepOk
      rintro d act xw ⟨u37, u38, u39, u40, u41, u42, u43, u44, u45, u46, u47, u48, u49, u8, rfl, F⟩ hd hdep Kc hKc
      have hq : d 23 = true := hdep ⟨23, .data⟩ (by simp) rfl
      obtain rfl := F.s23 hq
      have y := ext_cell F.bl HP3.out.2.2
      have yl := cell_lt y
      rw [if_pos (by rfl)]
      go_big_op
      exact hKc _ _ ⟨_, _, _, _, _, _, _, _, _, _, _, _, _, _, rfl, ⟨F.bl, (fun h => by obtain ⟨b2, e2, hb2, hm2⟩ := F.m1 (up h rfl); exact ⟨b2, e2, hb2, MpT.off hm2 (fun i hi => by have hi' : i < 11 := hi; omega)⟩), (fun h => by obtain ⟨b2, e2, hb2, hm2⟩ := F.m2 (up h rfl); exact ⟨b2, e2, hb2, MpT.off hm2 (fun i hi => by have hi' : i < 3 := hi; omega)⟩), (fun h h' => F.ne (up h rfl) (up h' rfl)), (fun i hi h => upl (F.k1 i hi (up h (idx_off i 24 1 (by omega))))), (fun i hi h => upl (F.k2 i hi (up h (idx_off i 24 18 (by omega))))), (fun h => upl (F.k3 (up h rfl))), (fun h => ⟨upl (F.c12 (up h rfl)).1, fun i hi => upl ((F.c12 (up h rfl)).2 i hi)⟩), (fun h => ⟨upl (F.c21 (up h rfl)).1, fun i hi => upl ((F.c21 (up h rfl)).2 i hi)⟩), (fun h => F.s12 (up h rfl)), (fun h => F.s13 (up h rfl)), (fun h => F.s14 (up h rfl)), (fun h => F.s15 (up h rfl)), (fun h => F.s16 (up h rfl)), (fun h => F.s21 (up h rfl)), (fun h => F.s22 (up h rfl)), (fun h => F.s23 (up h rfl)), (fun _ => rfl), (fun h => F.s25 (up h rfl)), (fun h => F.s26 (up h rfl)), (fun h => by obtain ⟨q, e, hq, h1, h2⟩ := F.p8 (up h rfl); exact ⟨q, e, hq, fun h => (h1 (dn h)), fun h => (h2 (up h rfl))⟩)⟩⟩
    · unfold StepOk
      rintro d act xw ⟨u37, u38, u39, u40, u41, u42, u43, u44, u45, u46, u47, u48, u49, u8, rfl, F⟩ hd hdep Kc hKc
      have hq : d 21 = true := hdep ⟨21, .data⟩ (by simp) rfl
      have hq2 : d 24 = true := hdep ⟨24, .data⟩ (by simp) rfl
      obtain ⟨hdm, hin⟩ := F.c21 hq
      have e1 := F.s21 hq
      obtain ⟨b, e2, hb, hm⟩ := F.m2 hdm
      rw [e2] at e1
      subst e1
      subst e2
      obtain rfl := F.s24 hq2
      have hl := look_O HI.out.2.2.2 hsw hxz hm hin
      rw [if_pos (by rfl)]
      go_big_op
      exact hKc _ _ ⟨_, _, _, _, _, _, _, _, _, _, _, _, _, _, rfl, ⟨F.bl, (fun h => by obtain ⟨b2, e2, hb2, hm2⟩ := F.m1 (up h rfl); exact ⟨b2, e2, hb2, MpT.off hm2 (fun i hi => by have hi' : i < 11 := hi; omega)⟩), (fun h => by obtain ⟨b2, e2, hb2, hm2⟩ := F.m2 (up h rfl); exact ⟨b2, e2, hb2, MpT.off hm2 (fun i hi => by have hi' : i < 3 := hi; omega)⟩), (fun h h' => F.ne (up h rfl) (up h' rfl)), (fun i hi h => upl (F.k1 i hi (up h (idx_off i 25 1 (by omega))))), (fun i hi h => upl (F.k2 i hi (up h (idx_off i 25 18 (by omega))))), (fun h => upl (F.k3 (up h rfl))), (fun h => ⟨upl (F.c12 (up h rfl)).1, fun i hi => upl ((F.c12 (up h rfl)).2 i hi)⟩), (fun h => ⟨upl (F.c21 (up h rfl)).1, fun i hi => upl ((F.c21 (up h rfl)).2 i hi)⟩), (fun h => F.s12 (up h rfl)), (fun h => F.s13 (up h rfl)), (fun h => F.s14 (up h rfl)), (fun h => F.s15 (up h rfl)), (fun h => F.s16 (up h rfl)), (fun h => F.s21 (up h rfl)), (fun h => F.s22 (up h rfl)), (fun h => F.s23 (up h rfl)), (fun h => F.s24 (up h rfl)), (fun _ => rfl), (fun h => F.s26 (up h rfl)), (fun h => by obtain ⟨q, e, hq, h1, h2⟩ := F.p8 (up h rfl); exact ⟨q, e, hq, fun h => (h1 (dn h)), fun h => (h2 (up h rfl))⟩)⟩⟩
    · unfold StepOk
      rintro d act xw ⟨u37, u38, u39, u40, u41, u42, u43, u44, u45, u46, u47, u48, u49, u8, rfl, F⟩ hd hdep Kc hKc
      have hq : d 16 = true := hdep ⟨16, .data⟩ (by simp) rfl
      have hq2 : d 25 = true := hdep ⟨25, .data⟩ (by simp) rfl
      obtain rfl := F.s16 hq
      obtain rfl := F.s25 hq2
      rw [if_pos (by rfl)]
      go_big_op
      exact hKc _ _ ⟨_, _, _, _, _, _, _, _, _, _, _, _, _, _, rfl, ⟨F.bl, (fun h => by obtain ⟨b2, e2, hb2, hm2⟩ := F.m1 (up h rfl); exact ⟨b2, e2, hb2, MpT.off hm2 (fun i hi => by have hi' : i < 11 := hi; omega)⟩), (fun h => by obtain ⟨b2, e2, hb2, hm2⟩ := F.m2 (up h rfl); exact ⟨b2, e2, hb2, MpT.off hm2 (fun i hi => by have hi' : i < 3 := hi; omega)⟩), (fun h h' => F.ne (up h rfl) (up h' rfl)), (fun i hi h => upl (F.k1 i hi (up h (idx_off i 26 1 (by omega))))), (fun i hi h => upl (F.k2 i hi (up h (idx_off i 26 18 (by omega))))), (fun h => upl (F.k3 (up h rfl))), (fun h => ⟨upl (F.c12 (up h rfl)).1, fun i hi => upl ((F.c12 (up h rfl)).2 i hi)⟩), (fun h => ⟨upl (F.c21 (up h rfl)).1, fun i hi => upl ((F.c21 (up h rfl)).2 i hi)⟩), (fun h => F.s12 (up h rfl)), (fun h => F.s13 (up h rfl)), (fun h => F.s14 (up h rfl)), (fun h => F.s15 (up h rfl)), (fun h => F.s16 (up h rfl)), (fun h => F.s21 (up h rfl)), (fun h => F.s22 (up h rfl)), (fun h => F.s23 (up h rfl)), (fun h => F.s24 (up h rfl)), (fun h => F.s25 (up h rfl)), (fun _ => rfl), (fun h => by obtain ⟨q, e, hq, h1, h2⟩ := F.p8 (up h rfl); exact ⟨q, e, hq, fun h => (h1 (dn h)), fun h => (h2 (up h rfl))⟩)⟩⟩
    · unfold StepOk
      rintro d act xw ⟨u37, u38, u39, u40, u41, u42, u43, u44, u45, u46, u47, u48, u49, u8, rfl, F⟩ hd hdep Kc hKc
      rw [if_pos (by rfl)]
      go_big_op
      exact hKc _ _ ⟨_, _, _, _, _, _, _, _, _, _, _, _, _, _, rfl, ⟨(F.bl.alloc F.bl.size _), (fun h => by obtain ⟨b2, e2, hb2, hm2⟩ := F.m1 (up h rfl); exact ⟨b2, e2, hb2, MpT.off (hm2.ext (al_below _ _)) (fun i hi => by have hi' : i < 11 := hi; omega)⟩), (fun h => by obtain ⟨b2, e2, hb2, hm2⟩ := F.m2 (up h rfl); exact ⟨b2, e2, hb2, MpT.off (hm2.ext (al_below _ _)) (fun i hi => by have hi' : i < 3 := hi; omega)⟩), (fun h h' => F.ne (up h rfl) (up h' rfl)), (fun i hi h => upl (F.k1 i hi (up h (idx_off i 27 1 (by omega))))), (fun i hi h => upl (F.k2 i hi (up h (idx_off i 27 18 (by omega))))), (fun h => upl (F.k3 (up h rfl))), (fun h => ⟨upl (F.c12 (up h rfl)).1, fun i hi => upl ((F.c12 (up h rfl)).2 i hi)⟩), (fun h => ⟨upl (F.c21 (up h rfl)).1, fun i hi => upl ((F.c21 (up h rfl)).2 i hi)⟩), (fun h => F.s12 (up h rfl)), (fun h => F.s13 (up h rfl)), (fun h => F.s14 (up h rfl)), (fun h => F.s15 (up h rfl)), (fun h => F.s16 (up h rfl)), (fun h => F.s21 (up h rfl)), (fun h => F.s22 (up h rfl)), (fun h => F.s23 (up h rfl)), (fun h => F.s24 (up h rfl)), (fun h => F.s25 (up h rfl)), (fun h => F.s26 (up h rfl)), (fun _ => ⟨xw.heap.size, rfl, F.bl.size, fun _ => blk_new _ _ _, fun h => absurd (F.k3 (up h rfl)) (by rw [hd]; decide)⟩)⟩⟩
    · unfold StepOk
      rintro d act xw ⟨u37, u38, u39, u40, u41, u42, u43, u44, u45, u46, u47, u48, u49, u8, rfl, F⟩ hd hdep Kc hKc
      have hd27 : d 27 = true := hdep ⟨27, .data⟩ (by simp) rfl
      have hq : d 26 = true := hdep ⟨26, .data⟩ (by simp) rfl
      obtain rfl := F.s26 hq
      obtain ⟨nb, rfl, hnb, hz, hf⟩ := F.p8 hd27
      have HZ := hz hd
      have hbc := blk_cell HZ
      have hbf := blk_free HZ
      have hbl := blk_lt HZ
      rw [if_pos (by rfl)]
      go_big_op
      have HFF := blk_fill7 (v0 := .int .i64 s.k) (v1 := .int .i64 0) (v2 := .int .i64 0) (v3 := .int .i64 s.op) (v4 := .int .i64 0) (v5 := .int .i64 0) (v6 := .string ⟨#[]⟩) HZ rfl
      have HBB := below_fill7 (v0 := .int .i64 s.k) (v1 := .int .i64 0) (v2 := .int .i64 0) (v3 := .int .i64 s.op) (v4 := .int .i64 0) (v5 := .int .i64 0) (v6 := .string ⟨#[]⟩) F.bl hnb
      exact hKc _ _ ⟨_, _, _, _, _, _, _, _, _, _, _, _, _, _, rfl, ⟨HBB, (fun h => by obtain ⟨b2, e2, hb2, hm2⟩ := F.m1 (up h rfl); exact ⟨b2, e2, hb2, MpT.off (hm2.kept (heap_fill7 (fun e => (hm2.ne HZ) e.symm))) (fun i hi => by have hi' : i < 11 := hi; omega)⟩), (fun h => by obtain ⟨b2, e2, hb2, hm2⟩ := F.m2 (up h rfl); exact ⟨b2, e2, hb2, MpT.off (hm2.kept (heap_fill7 (fun e => (hm2.ne HZ) e.symm))) (fun i hi => by have hi' : i < 3 := hi; omega)⟩), (fun h h' => F.ne (up h rfl) (up h' rfl)), (fun i hi h => upl (F.k1 i hi (up h (idx_off i 28 1 (by omega))))), (fun i hi h => upl (F.k2 i hi (up h (idx_off i 28 18 (by omega))))), (fun _ => upl hd27), (fun h => ⟨upl (F.c12 (up h rfl)).1, fun i hi => upl ((F.c12 (up h rfl)).2 i hi)⟩), (fun h => ⟨upl (F.c21 (up h rfl)).1, fun i hi => upl ((F.c21 (up h rfl)).2 i hi)⟩), (fun h => F.s12 (up h rfl)), (fun h => F.s13 (up h rfl)), (fun h => F.s14 (up h rfl)), (fun h => F.s15 (up h rfl)), (fun h => F.s16 (up h rfl)), (fun h => F.s21 (up h rfl)), (fun h => F.s22 (up h rfl)), (fun h => F.s23 (up h rfl)), (fun h => F.s24 (up h rfl)), (fun h => F.s25 (up h rfl)), (fun h => F.s26 (up h rfl)), (fun _ => ⟨nb, rfl, hnb, fun h => by simp at h, fun _ => HFF⟩)⟩⟩
  · rintro d act xw ⟨u37, u38, u39, u40, u41, u42, u43, u44, u45, u46, u47, u48, u49, u8, rfl, F⟩ hall
    obtain ⟨nb, rfl, hnb, -, hf⟩ := F.p8 (hall 27 (by decide))
    have HN0 := Lib.hid (show _ ∧ _ ∧ _ from ⟨hf (hall 28 (by decide)), F.bl, hnb⟩)
    clear F hall hf hnb
    go_wp2_with fail
    obtain ⟨tl, htl⟩ : ∃ l, (wsB x).tail = l := ⟨_, rfl⟩
    have HTL := Lib.hid (show wsB x = X0 :: tl ∧ tl.length = m from ⟨by rw [H.out.2.2.2.1, htl], by rw [← htl, List.length_tail, HN.out]; have := HLEN.out; omega⟩)
    obtain ⟨fs, hfs⟩ : ∃ l, s.fs.data.toList = l := ⟨_, rfl⟩
    have HFS := Lib.hid (show fs.length = m ∧ Fm = ⟨(fs.map flet).toArray⟩ ∧ ∀ f ∈ fs, f ∈ ([97, 98, 110, 115, 116] : List UInt8) from ⟨by rw [← hfs]; exact HI.out.2.2.1, by rw [← HI.out.2.1, ← hfs]; rfl, by rw [← hfs]; exact shs_fs s HI.out.2.2.2⟩)
    have HRR := Lib.hid (show R = puts ⟨s.k, 0, 0, s.op, 0, 0, ⟨#[]⟩⟩ fs tl from by rw [HR.out, hfs, htl])
    clear htl hfs HR
    have hb := get_bt Fm
    go_loopw [9] (fun iv wr => ∃ (I J : Nat) (bb : Ac), I = J + 1 ∧ J ≤ m ∧ iv = .int .i64 (I : Int) ∧ puts bb (fs.drop J) (tl.drop J) = R ∧ Below x11.heap.size x11 wr ∧ wr.heap[nb]? = some (.cells (acC bb) 29 (0, 0))) (fun iv _ => n - (RowKit.intOf iv).toNat)
    case atStart => exact ⟨1, 0, _, rfl, by omega, rfl, HRR.out.symm, HN0.out.2.1, HN0.out.1⟩
    case round =>
      obtain ⟨w4, rfl⟩ : ∃ y : World, y = wr := ⟨_, rfl⟩
      obtain ⟨I, J, bb, hIJ, hJ, rfl, hpu, hb4, hk4⟩ := hrel
      have H4 := Lib.hid (show _ ∧ _ ∧ _ from ⟨hpu, hb4, hk4⟩)
      have HIJ := Lib.hid hIJ
      have hpn : p ≠ nb := by
        have h1 := blk_lt HP3.out.1
        have h2 := HN0.out.2.2
        omega
      have HPN := Lib.hid hpn
      clear hpu hb4 hk4 hpn
      by_cases hlt : J < m
      · have hIn : (I : Int) < (n : Int) := by have := HLEN.out; omega
        have hIn2 : I < n := by have := HLEN.out; omega
        have hw1 : wrap64 ((I : Int) - 1) = (J : Int) := by unfold wrap64; omega
        have hw2 : (I : Int) - 1 = (J : Int) := by omega
        have hJm : (J : Int) < (m : Int) := by omega
        obtain ⟨f, hf⟩ : ∃ f, fs[J]? = some f := ⟨_, List.getElem?_eq_getElem (by have := HFS.out.1; omega)⟩
        obtain ⟨q, hq⟩ : ∃ q, tl[J]? = some q := ⟨_, List.getElem?_eq_getElem (by have := HTL.out.2; omega)⟩
        have hqw : (wsB x)[I]? = some q := by rw [HTL.out.1, HIJ.out]; simpa using hq
        have yq := ext_cell (ext_trans HM.out.2 H4.out.2.1) (OwnR.at (enc := eb) (k := 1) (fun _ => rfl) H.out.2.2.1 hqw 0 (.string q) rfl)
        rw [Nat.mul_one, Nat.add_zero] at yq
        have yql := cell_lt yq
        have hqz : q.size ≤ 1048576 := by
          have h3 := List.mem_of_getElem? hqw
          unfold wsB at h3
          obtain ⟨l, hl, e⟩ := List.mem_map.1 h3
          have h4 := ws_size _ _ hl
          have h6 : x.data.toList.length = x.size := rfl
          rw [← e]
          show l.toArray.size ≤ _
          simp; omega
        have hbf : bt Fm J = ((flet f).toNat : Int) := bt_of Fm J (flet f) (by rw [HFS.out.2.1]; simp [hf])
        have hmf := HFS.out.2.2 f (List.mem_of_getElem? hf)
        have HPS := Lib.hid (show (match bb.put f q with | none => none | some b' => puts b' (fs.drop (J + 1)) (tl.drop (J + 1))) = R from by have h0 := H4.out.1; rw [puts_step bb fs tl J f q hf hq] at h0; exact h0)
        have c4 := blk_cell H4.out.2.2
        have f4 := blk_free H4.out.2.2
        have l4 := blk_lt H4.out.2.2
        have z4 := blk_cell (blk_ext H4.out.2.1 HP3.out.1)
        have zf4 := blk_free (blk_ext H4.out.2.1 HP3.out.1)
        have zl4 := blk_lt (blk_ext H4.out.2.1 HP3.out.1)
        simp only [acC] at c4
        clear hf hq hqw hIJ
        simp only [List.mem_cons, List.mem_nil_iff, or_false] at hmf
        rcases hmf with rfl | rfl | rfl | rfl | rfl
        · replace hbf : bt Fm J = 65 := hbf
          have hcv := num_vval q.data.toList
          by_cases hv : Lib.itoa (vval q.data.toList) = q.data.toList
          · have hB : decide (Lib.itoa (vval q.data.toList) = q.data.toList) = true := decide_eq_true hv
            rw [if_pos hv] at hcv
            obtain ⟨V, hV⟩ : ∃ V, vval q.data.toList = V := ⟨_, rfl⟩
            have HPU := Lib.hid (show puts { bb with a := V } (fs.drop (J + 1)) (tl.drop (J + 1)) = R from by have h := HPS.out; unfold Ac.put at h; rw [if_neg (by decide), hcv, hV] at h; exact h)
            clear hcv hv z4 zf4 zl4
            go_wp2_with fail
            refine (docValue q hqz w4).mono ?_
            rintro e w5 ⟨rfl, hb5⟩
            rw [hB, hV]
            have H5 := Lib.hid (show _ ∧ _ from ⟨ext_trans H4.out.2.1 hb5, blk_ext hb5 H4.out.2.2⟩)
            clear c4 f4 l4 yq yql hb5 hB hV
            have c5 := blk_cell H5.out.2
            have f5 := blk_free H5.out.2
            have l5 := blk_lt H5.out.2
            simp only [acC] at c5
            go_wp2_with fail
            exact ⟨⟨I + 1, J + 1, { bb with a := V }, by rw [HIJ.out], by omega, by go_num, HPU.out, H5.out.1.setCell HN0.out.2.2 _, blk_set H5.out.2 rfl⟩, by simp [RowKit.intOf]; omega⟩
          · have hB : decide (Lib.itoa (vval q.data.toList) = q.data.toList) = false := decide_eq_false hv
            rw [if_neg hv] at hcv
            have HRN := Lib.hid (show R = none from by have h := HPS.out; unfold Ac.put at h; rw [if_neg (by decide), hcv] at h; exact h.symm)
            clear hcv hv
            go_wp2_with fail
            refine (docValue q hqz w4).mono ?_
            rintro e w5 ⟨rfl, hb5⟩
            rw [hB]
            have H5 := Lib.hid (ext_trans H4.out.2.1 hb5)
            clear hb5 hB
            go_wp2_with fail
            have HR := Lib.hid (show R = none from by exact HRN.out)
            have HBW := Lib.hid (ext_trans HP3.out.2.1 H5.out)
            have HP0 := Lib.hid (blk_ext H5.out HP3.out.1)
            have HY0 := Lib.hid (ext_cell H5.out HP3.out.2.2)
            have HPL := Lib.hid HPW.out
            clear c4 f4 l4 z4 zf4 zl4 yq yql
            refine wp_region_inv_eq (J := fun A d act x => ∃ u85 u86 u87 u88 u3 u4 : Value, act = ((((((A.put (some 85) u85).put (some 86) u86).put (some 87) u87).put (some 88) u88).put (some 3) u3).put (some 4) u4) ∧ (d 0 = true → u85 = .agg #[.int .i64 0, .int .i64 0, .int .i64 0, .int .i64 0, .int .i64 0, .int .i64 0, .string ⟨#[]⟩]) ∧ (d 1 = true → u86 = .slice (some ⟨g, 0, none⟩) n c) ∧ (d 2 = true → u87 = .pointer (some ⟨g, 0, none⟩)) ∧ (d 3 = true → u88 = .string X0) ∧ (d 5 = true → u3 = .string X0) ∧ (d 6 = true → u4 = .bool false) ∧ Below w.heap.size w x ∧ x.heap[p]? = some (.cells #[.int .i64 0, .int .i64 0, .int .i64 0, .int .i64 0, .int .i64 0, .int .i64 0, .string ⟨#[]⟩] 29 (0, 0)) ∧ x.cell? ⟨g, 0, none⟩ = some (.string X0)) (by simp only [Act.put, List.setIfInBounds_toArray, List.set_cons_succ, List.set_cons_zero]; rfl) (by kernel_rfl) (by kernel_rfl) ?_ ?_ ?_
            · refine ⟨_, _, _, _, _, _, rfl, ?_, ?_, ?_, ?_, ?_, ?_, ?_, ?_, ?_⟩
              · intro h; cases h
              · intro h; cases h
              · intro h; cases h
              · intro h; cases h
              · intro h; cases h
              · intro h; cases h
              · exact HBW.out.drew
              · exact HP0.out
              · exact HY0.out
            · refine stepsOk_cons (k := 0) ?_ (stepsOk_cons (k := 1) ?_ (stepsOk_cons (k := 2) ?_ (stepsOk_cons (k := 3) ?_ (stepsOk_cons (k := 4) ?_ (stepsOk_cons (k := 5) ?_ (stepsOk_cons (k := 6) ?_ stepsOk_nil))))))
              · unfold StepOk
                rintro d act x ⟨u85, u86, u87, u88, u3, u4, rfl, f0, f1, f2, f3, f5, f6, g0, g1, g2⟩ hd hdep Kc hKc
                rw [if_pos (by rfl)]
                go_big_op
                refine hKc _ _ ⟨_, _, _, _, _, _, rfl, ?_, ?_, ?_, ?_, ?_, ?_, ?_, ?_, ?_⟩
                · exact (fun _ => rfl)
                · exact (fun h => f1 (up h rfl))
                · exact (fun h => f2 (up h rfl))
                · exact (fun h => f3 (up h rfl))
                · exact (fun h => f5 (up h rfl))
                · exact (fun h => f6 (up h rfl))
                · exact g0
                · exact g1
                · exact g2
              · unfold StepOk
                rintro d act x ⟨u85, u86, u87, u88, u3, u4, rfl, f0, f1, f2, f3, f5, f6, g0, g1, g2⟩ hd hdep Kc hKc
                rw [if_pos (by rfl)]
                go_big_op
                refine hKc _ _ ⟨_, _, _, _, _, _, rfl, ?_, ?_, ?_, ?_, ?_, ?_, ?_, ?_, ?_⟩
                · exact (fun h => f0 (up h rfl))
                · exact (fun _ => rfl)
                · exact (fun h => f2 (up h rfl))
                · exact (fun h => f3 (up h rfl))
                · exact (fun h => f5 (up h rfl))
                · exact (fun h => f6 (up h rfl))
                · exact g0
                · exact g1
                · exact g2
              · unfold StepOk
                rintro d act x ⟨u85, u86, u87, u88, u3, u4, rfl, f0, f1, f2, f3, f5, f6, g0, g1, g2⟩ hd hdep Kc hKc
                have hd1 : d 1 = true := hdep ⟨1, .data⟩ (by simp) rfl
                obtain rfl := f1 hd1
                rw [if_pos (by rfl)]
                go_big_op
                refine hKc _ _ ⟨_, _, _, _, _, _, rfl, ?_, ?_, ?_, ?_, ?_, ?_, ?_, ?_, ?_⟩
                · exact (fun h => f0 (up h rfl))
                · exact (fun h => f1 (up h rfl))
                · exact (fun _ => rfl)
                · exact (fun h => f3 (up h rfl))
                · exact (fun h => f5 (up h rfl))
                · exact (fun h => f6 (up h rfl))
                · exact g0
                · exact g1
                · exact g2
              · unfold StepOk
                rintro d act x ⟨u85, u86, u87, u88, u3, u4, rfl, f0, f1, f2, f3, f5, f6, g0, g1, g2⟩ hd hdep Kc hKc
                have hd2 : d 2 = true := hdep ⟨2, .data⟩ (by simp) rfl
                obtain rfl := f2 hd2
                have hyl := cell_lt g2
                rw [if_pos (by rfl)]
                go_big_op
                refine hKc _ _ ⟨_, _, _, _, _, _, rfl, ?_, ?_, ?_, ?_, ?_, ?_, ?_, ?_, ?_⟩
                · exact (fun h => f0 (up h rfl))
                · exact (fun h => f1 (up h rfl))
                · exact (fun h => f2 (up h rfl))
                · exact (fun _ => rfl)
                · exact (fun h => f5 (up h rfl))
                · exact (fun h => f6 (up h rfl))
                · exact g0
                · exact g1
                · exact g2
              · unfold StepOk
                rintro d act x ⟨u85, u86, u87, u88, u3, u4, rfl, f0, f1, f2, f3, f5, f6, g0, g1, g2⟩ hd hdep Kc hKc
                have hd0 : d 0 = true := hdep ⟨0, .data⟩ (by simp) rfl
                have hd0 : d 0 = true := hdep ⟨0, .phase⟩ (by simp) rfl
                obtain rfl := f0 hd0
                have hbc := blk_cell g1
                have hbf := blk_free g1
                have hbl := blk_lt g1
                rw [if_pos (by rfl)]
                go_big_op
                have HFF := blk_fill7 (v0 := .int .i64 0) (v1 := .int .i64 0) (v2 := .int .i64 0) (v3 := .int .i64 0) (v4 := .int .i64 0) (v5 := .int .i64 0) (v6 := .string ⟨#[]⟩) g1 rfl
                have HBB := below_fill7 (v0 := .int .i64 0) (v1 := .int .i64 0) (v2 := .int .i64 0) (v3 := .int .i64 0) (v4 := .int .i64 0) (v5 := .int .i64 0) (v6 := .string ⟨#[]⟩) g0 HPL.out
                have HCC := cell_fill7 (v0 := .int .i64 0) (v1 := .int .i64 0) (v2 := .int .i64 0) (v3 := .int .i64 0) (v4 := .int .i64 0) (v5 := .int .i64 0) (v6 := .string ⟨#[]⟩) HGP.out g2
                refine hKc _ _ ⟨_, _, _, _, _, _, rfl, ?_, ?_, ?_, ?_, ?_, ?_, ?_, ?_, ?_⟩
                · exact (fun h => f0 (up h rfl))
                · exact (fun h => f1 (up h rfl))
                · exact (fun h => f2 (up h rfl))
                · exact (fun h => f3 (up h rfl))
                · exact (fun h => f5 (up h rfl))
                · exact (fun h => f6 (up h rfl))
                · exact HBB
                · exact HFF
                · exact HCC
              · unfold StepOk
                rintro d act x ⟨u85, u86, u87, u88, u3, u4, rfl, f0, f1, f2, f3, f5, f6, g0, g1, g2⟩ hd hdep Kc hKc
                have hd3 : d 3 = true := hdep ⟨3, .data⟩ (by simp) rfl
                have hd3 : d 3 = true := hdep ⟨3, .phase⟩ (by simp) rfl
                obtain rfl := f3 hd3
                rw [if_pos (by rfl)]
                go_big_op
                refine hKc _ _ ⟨_, _, _, _, _, _, rfl, ?_, ?_, ?_, ?_, ?_, ?_, ?_, ?_, ?_⟩
                · exact (fun h => f0 (up h rfl))
                · exact (fun h => f1 (up h rfl))
                · exact (fun h => f2 (up h rfl))
                · exact (fun h => f3 (up h rfl))
                · exact (fun _ => rfl)
                · exact (fun h => f6 (up h rfl))
                · exact g0
                · exact g1
                · exact g2
              · unfold StepOk
                rintro d act x ⟨u85, u86, u87, u88, u3, u4, rfl, f0, f1, f2, f3, f5, f6, g0, g1, g2⟩ hd hdep Kc hKc
                rw [if_pos (by rfl)]
                go_big_op
                refine hKc _ _ ⟨_, _, _, _, _, _, rfl, ?_, ?_, ?_, ?_, ?_, ?_, ?_, ?_, ?_⟩
                · exact (fun h => f0 (up h rfl))
                · exact (fun h => f1 (up h rfl))
                · exact (fun h => f2 (up h rfl))
                · exact (fun h => f3 (up h rfl))
                · exact (fun h => f5 (up h rfl))
                · exact (fun _ => rfl)
                · exact g0
                · exact g1
                · exact g2
            · rintro d act x ⟨u85, u86, u87, u88, u3, u4, rfl, f0, f1, f2, f3, f5, f6, g0, g1, g2⟩ hall
              obtain rfl := f0 (hall 0 (by decide))
              obtain rfl := f1 (hall 1 (by decide))
              obtain rfl := f2 (hall 2 (by decide))
              obtain rfl := f3 (hall 3 (by decide))
              obtain rfl := f5 (hall 5 (by decide))
              obtain rfl := f6 (hall 6 (by decide))
              clear f0 f1 f2 f3 f5 f6 hall
              have HFP := Lib.hid (show _ ∧ _ from ⟨g0, g1⟩)
              have hcp := blk_cell HFP.out.2
              have hlp := blk_lt HFP.out.2
              clear g0 g1 g2
              go_wp2_with fail
              exact bodyPost_ret (v := .tuple #[.agg (acC acZ), .string X0, .bool false]) (by simp [results, Tryz.results18, go_sem, hcp, acC, acZ]) rfl ⟨X0, by rw [HR.out]; rfl, fun _ => HX0.out, HFP.out.1⟩
        · replace hbf : bt Fm J = 66 := hbf
          have hcv := num_vval q.data.toList
          by_cases hv : Lib.itoa (vval q.data.toList) = q.data.toList
          · have hB : decide (Lib.itoa (vval q.data.toList) = q.data.toList) = true := decide_eq_true hv
            rw [if_pos hv] at hcv
            obtain ⟨V, hV⟩ : ∃ V, vval q.data.toList = V := ⟨_, rfl⟩
            have HPU := Lib.hid (show puts { bb with b := V } (fs.drop (J + 1)) (tl.drop (J + 1)) = R from by have h := HPS.out; unfold Ac.put at h; rw [if_neg (by decide), hcv, hV] at h; exact h)
            clear hcv hv z4 zf4 zl4
            go_wp2_with fail
            refine (docValue q hqz w4).mono ?_
            rintro e w5 ⟨rfl, hb5⟩
            rw [hB, hV]
            have H5 := Lib.hid (show _ ∧ _ from ⟨ext_trans H4.out.2.1 hb5, blk_ext hb5 H4.out.2.2⟩)
            clear c4 f4 l4 yq yql hb5 hB hV
            have c5 := blk_cell H5.out.2
            have f5 := blk_free H5.out.2
            have l5 := blk_lt H5.out.2
            simp only [acC] at c5
            go_wp2_with fail
            exact ⟨⟨I + 1, J + 1, { bb with b := V }, by rw [HIJ.out], by omega, by go_num, HPU.out, H5.out.1.setCell HN0.out.2.2 _, blk_set H5.out.2 rfl⟩, by simp [RowKit.intOf]; omega⟩
          · have hB : decide (Lib.itoa (vval q.data.toList) = q.data.toList) = false := decide_eq_false hv
            rw [if_neg hv] at hcv
            have HRN := Lib.hid (show R = none from by have h := HPS.out; unfold Ac.put at h; rw [if_neg (by decide), hcv] at h; exact h.symm)
            clear hcv hv
            go_wp2_with fail
            refine (docValue q hqz w4).mono ?_
            rintro e w5 ⟨rfl, hb5⟩
            rw [hB]
            have H5 := Lib.hid (ext_trans H4.out.2.1 hb5)
            clear hb5 hB
            go_wp2_with fail
            have HR := Lib.hid (show R = none from by exact HRN.out)
            have HBW := Lib.hid (ext_trans HP3.out.2.1 H5.out)
            have HP0 := Lib.hid (blk_ext H5.out HP3.out.1)
            have HY0 := Lib.hid (ext_cell H5.out HP3.out.2.2)
            have HPL := Lib.hid HPW.out
            clear c4 f4 l4 z4 zf4 zl4 yq yql
            refine wp_region_inv_eq (J := fun A d act x => ∃ u85 u86 u87 u88 u3 u4 : Value, act = ((((((A.put (some 85) u85).put (some 86) u86).put (some 87) u87).put (some 88) u88).put (some 3) u3).put (some 4) u4) ∧ (d 0 = true → u85 = .agg #[.int .i64 0, .int .i64 0, .int .i64 0, .int .i64 0, .int .i64 0, .int .i64 0, .string ⟨#[]⟩]) ∧ (d 1 = true → u86 = .slice (some ⟨g, 0, none⟩) n c) ∧ (d 2 = true → u87 = .pointer (some ⟨g, 0, none⟩)) ∧ (d 3 = true → u88 = .string X0) ∧ (d 5 = true → u3 = .string X0) ∧ (d 6 = true → u4 = .bool false) ∧ Below w.heap.size w x ∧ x.heap[p]? = some (.cells #[.int .i64 0, .int .i64 0, .int .i64 0, .int .i64 0, .int .i64 0, .int .i64 0, .string ⟨#[]⟩] 29 (0, 0)) ∧ x.cell? ⟨g, 0, none⟩ = some (.string X0)) (by simp only [Act.put, List.setIfInBounds_toArray, List.set_cons_succ, List.set_cons_zero]; rfl) (by kernel_rfl) (by kernel_rfl) ?_ ?_ ?_
            · refine ⟨_, _, _, _, _, _, rfl, ?_, ?_, ?_, ?_, ?_, ?_, ?_, ?_, ?_⟩
              · intro h; cases h
              · intro h; cases h
              · intro h; cases h
              · intro h; cases h
              · intro h; cases h
              · intro h; cases h
              · exact HBW.out.drew
              · exact HP0.out
              · exact HY0.out
            · refine stepsOk_cons (k := 0) ?_ (stepsOk_cons (k := 1) ?_ (stepsOk_cons (k := 2) ?_ (stepsOk_cons (k := 3) ?_ (stepsOk_cons (k := 4) ?_ (stepsOk_cons (k := 5) ?_ (stepsOk_cons (k := 6) ?_ stepsOk_nil))))))
              · unfold StepOk
                rintro d act x ⟨u85, u86, u87, u88, u3, u4, rfl, f0, f1, f2, f3, f5, f6, g0, g1, g2⟩ hd hdep Kc hKc
                rw [if_pos (by rfl)]
                go_big_op
                refine hKc _ _ ⟨_, _, _, _, _, _, rfl, ?_, ?_, ?_, ?_, ?_, ?_, ?_, ?_, ?_⟩
                · exact (fun _ => rfl)
                · exact (fun h => f1 (up h rfl))
                · exact (fun h => f2 (up h rfl))
                · exact (fun h => f3 (up h rfl))
                · exact (fun h => f5 (up h rfl))
                · exact (fun h => f6 (up h rfl))
                · exact g0
                · exact g1
                · exact g2
              · unfold StepOk
                rintro d act x ⟨u85, u86, u87, u88, u3, u4, rfl, f0, f1, f2, f3, f5, f6, g0, g1, g2⟩ hd hdep Kc hKc
                rw [if_pos (by rfl)]
                go_big_op
                refine hKc _ _ ⟨_, _, _, _, _, _, rfl, ?_, ?_, ?_, ?_, ?_, ?_, ?_, ?_, ?_⟩
                · exact (fun h => f0 (up h rfl))
                · exact (fun _ => rfl)
                · exact (fun h => f2 (up h rfl))
                · exact (fun h => f3 (up h rfl))
                · exact (fun h => f5 (up h rfl))
                · exact (fun h => f6 (up h rfl))
                · exact g0
                · exact g1
                · exact g2
              · unfold StepOk
                rintro d act x ⟨u85, u86, u87, u88, u3, u4, rfl, f0, f1, f2, f3, f5, f6, g0, g1, g2⟩ hd hdep Kc hKc
                have hd1 : d 1 = true := hdep ⟨1, .data⟩ (by simp) rfl
                obtain rfl := f1 hd1
                rw [if_pos (by rfl)]
                go_big_op
                refine hKc _ _ ⟨_, _, _, _, _, _, rfl, ?_, ?_, ?_, ?_, ?_, ?_, ?_, ?_, ?_⟩
                · exact (fun h => f0 (up h rfl))
                · exact (fun h => f1 (up h rfl))
                · exact (fun _ => rfl)
                · exact (fun h => f3 (up h rfl))
                · exact (fun h => f5 (up h rfl))
                · exact (fun h => f6 (up h rfl))
                · exact g0
                · exact g1
                · exact g2
              · unfold StepOk
                rintro d act x ⟨u85, u86, u87, u88, u3, u4, rfl, f0, f1, f2, f3, f5, f6, g0, g1, g2⟩ hd hdep Kc hKc
                have hd2 : d 2 = true := hdep ⟨2, .data⟩ (by simp) rfl
                obtain rfl := f2 hd2
                have hyl := cell_lt g2
                rw [if_pos (by rfl)]
                go_big_op
                refine hKc _ _ ⟨_, _, _, _, _, _, rfl, ?_, ?_, ?_, ?_, ?_, ?_, ?_, ?_, ?_⟩
                · exact (fun h => f0 (up h rfl))
                · exact (fun h => f1 (up h rfl))
                · exact (fun h => f2 (up h rfl))
                · exact (fun _ => rfl)
                · exact (fun h => f5 (up h rfl))
                · exact (fun h => f6 (up h rfl))
                · exact g0
                · exact g1
                · exact g2
              · unfold StepOk
                rintro d act x ⟨u85, u86, u87, u88, u3, u4, rfl, f0, f1, f2, f3, f5, f6, g0, g1, g2⟩ hd hdep Kc hKc
                have hd0 : d 0 = true := hdep ⟨0, .data⟩ (by simp) rfl
                have hd0 : d 0 = true := hdep ⟨0, .phase⟩ (by simp) rfl
                obtain rfl := f0 hd0
                have hbc := blk_cell g1
                have hbf := blk_free g1
                have hbl := blk_lt g1
                rw [if_pos (by rfl)]
                go_big_op
                have HFF := blk_fill7 (v0 := .int .i64 0) (v1 := .int .i64 0) (v2 := .int .i64 0) (v3 := .int .i64 0) (v4 := .int .i64 0) (v5 := .int .i64 0) (v6 := .string ⟨#[]⟩) g1 rfl
                have HBB := below_fill7 (v0 := .int .i64 0) (v1 := .int .i64 0) (v2 := .int .i64 0) (v3 := .int .i64 0) (v4 := .int .i64 0) (v5 := .int .i64 0) (v6 := .string ⟨#[]⟩) g0 HPL.out
                have HCC := cell_fill7 (v0 := .int .i64 0) (v1 := .int .i64 0) (v2 := .int .i64 0) (v3 := .int .i64 0) (v4 := .int .i64 0) (v5 := .int .i64 0) (v6 := .string ⟨#[]⟩) HGP.out g2
                refine hKc _ _ ⟨_, _, _, _, _, _, rfl, ?_, ?_, ?_, ?_, ?_, ?_, ?_, ?_, ?_⟩
                · exact (fun h => f0 (up h rfl))
                · exact (fun h => f1 (up h rfl))
                · exact (fun h => f2 (up h rfl))
                · exact (fun h => f3 (up h rfl))
                · exact (fun h => f5 (up h rfl))
                · exact (fun h => f6 (up h rfl))
                · exact HBB
                · exact HFF
                · exact HCC
              · unfold StepOk
                rintro d act x ⟨u85, u86, u87, u88, u3, u4, rfl, f0, f1, f2, f3, f5, f6, g0, g1, g2⟩ hd hdep Kc hKc
                have hd3 : d 3 = true := hdep ⟨3, .data⟩ (by simp) rfl
                have hd3 : d 3 = true := hdep ⟨3, .phase⟩ (by simp) rfl
                obtain rfl := f3 hd3
                rw [if_pos (by rfl)]
                go_big_op
                refine hKc _ _ ⟨_, _, _, _, _, _, rfl, ?_, ?_, ?_, ?_, ?_, ?_, ?_, ?_, ?_⟩
                · exact (fun h => f0 (up h rfl))
                · exact (fun h => f1 (up h rfl))
                · exact (fun h => f2 (up h rfl))
                · exact (fun h => f3 (up h rfl))
                · exact (fun _ => rfl)
                · exact (fun h => f6 (up h rfl))
                · exact g0
                · exact g1
                · exact g2
              · unfold StepOk
                rintro d act x ⟨u85, u86, u87, u88, u3, u4, rfl, f0, f1, f2, f3, f5, f6, g0, g1, g2⟩ hd hdep Kc hKc
                rw [if_pos (by rfl)]
                go_big_op
                refine hKc _ _ ⟨_, _, _, _, _, _, rfl, ?_, ?_, ?_, ?_, ?_, ?_, ?_, ?_, ?_⟩
                · exact (fun h => f0 (up h rfl))
                · exact (fun h => f1 (up h rfl))
                · exact (fun h => f2 (up h rfl))
                · exact (fun h => f3 (up h rfl))
                · exact (fun h => f5 (up h rfl))
                · exact (fun _ => rfl)
                · exact g0
                · exact g1
                · exact g2
            · rintro d act x ⟨u85, u86, u87, u88, u3, u4, rfl, f0, f1, f2, f3, f5, f6, g0, g1, g2⟩ hall
              obtain rfl := f0 (hall 0 (by decide))
              obtain rfl := f1 (hall 1 (by decide))
              obtain rfl := f2 (hall 2 (by decide))
              obtain rfl := f3 (hall 3 (by decide))
              obtain rfl := f5 (hall 5 (by decide))
              obtain rfl := f6 (hall 6 (by decide))
              clear f0 f1 f2 f3 f5 f6 hall
              have HFP := Lib.hid (show _ ∧ _ from ⟨g0, g1⟩)
              have hcp := blk_cell HFP.out.2
              have hlp := blk_lt HFP.out.2
              clear g0 g1 g2
              go_wp2_with fail
              exact bodyPost_ret (v := .tuple #[.agg (acC acZ), .string X0, .bool false]) (by simp [results, Tryz.results18, go_sem, hcp, acC, acZ]) rfl ⟨X0, by rw [HR.out]; rfl, fun _ => HX0.out, HFP.out.1⟩
        · replace hbf : bt Fm J = 110 := hbf
          have hcv := num_vval q.data.toList
          by_cases hv : Lib.itoa (vval q.data.toList) = q.data.toList
          · have hB : decide (Lib.itoa (vval q.data.toList) = q.data.toList) = true := decide_eq_true hv
            rw [if_pos hv] at hcv
            obtain ⟨V, hV⟩ : ∃ V, vval q.data.toList = V := ⟨_, rfl⟩
            have HPU := Lib.hid (show puts { bb with n := V } (fs.drop (J + 1)) (tl.drop (J + 1)) = R from by have h := HPS.out; unfold Ac.put at h; rw [if_neg (by decide), hcv, hV] at h; exact h)
            clear hcv hv z4 zf4 zl4
            go_wp2_with fail
            refine (docValue q hqz w4).mono ?_
            rintro e w5 ⟨rfl, hb5⟩
            rw [hB, hV]
            have H5 := Lib.hid (show _ ∧ _ from ⟨ext_trans H4.out.2.1 hb5, blk_ext hb5 H4.out.2.2⟩)
            clear c4 f4 l4 yq yql hb5 hB hV
            have c5 := blk_cell H5.out.2
            have f5 := blk_free H5.out.2
            have l5 := blk_lt H5.out.2
            simp only [acC] at c5
            go_wp2_with fail
            exact ⟨⟨I + 1, J + 1, { bb with n := V }, by rw [HIJ.out], by omega, by go_num, HPU.out, H5.out.1.setCell HN0.out.2.2 _, blk_set H5.out.2 rfl⟩, by simp [RowKit.intOf]; omega⟩
          · have hB : decide (Lib.itoa (vval q.data.toList) = q.data.toList) = false := decide_eq_false hv
            rw [if_neg hv] at hcv
            have HRN := Lib.hid (show R = none from by have h := HPS.out; unfold Ac.put at h; rw [if_neg (by decide), hcv] at h; exact h.symm)
            clear hcv hv
            go_wp2_with fail
            refine (docValue q hqz w4).mono ?_
            rintro e w5 ⟨rfl, hb5⟩
            rw [hB]
            have H5 := Lib.hid (ext_trans H4.out.2.1 hb5)
            clear hb5 hB
            go_wp2_with fail
            have HR := Lib.hid (show R = none from by exact HRN.out)
            have HBW := Lib.hid (ext_trans HP3.out.2.1 H5.out)
            have HP0 := Lib.hid (blk_ext H5.out HP3.out.1)
            have HY0 := Lib.hid (ext_cell H5.out HP3.out.2.2)
            have HPL := Lib.hid HPW.out
            clear c4 f4 l4 z4 zf4 zl4 yq yql
            refine wp_region_inv_eq (J := fun A d act x => ∃ u85 u86 u87 u88 u3 u4 : Value, act = ((((((A.put (some 85) u85).put (some 86) u86).put (some 87) u87).put (some 88) u88).put (some 3) u3).put (some 4) u4) ∧ (d 0 = true → u85 = .agg #[.int .i64 0, .int .i64 0, .int .i64 0, .int .i64 0, .int .i64 0, .int .i64 0, .string ⟨#[]⟩]) ∧ (d 1 = true → u86 = .slice (some ⟨g, 0, none⟩) n c) ∧ (d 2 = true → u87 = .pointer (some ⟨g, 0, none⟩)) ∧ (d 3 = true → u88 = .string X0) ∧ (d 5 = true → u3 = .string X0) ∧ (d 6 = true → u4 = .bool false) ∧ Below w.heap.size w x ∧ x.heap[p]? = some (.cells #[.int .i64 0, .int .i64 0, .int .i64 0, .int .i64 0, .int .i64 0, .int .i64 0, .string ⟨#[]⟩] 29 (0, 0)) ∧ x.cell? ⟨g, 0, none⟩ = some (.string X0)) (by simp only [Act.put, List.setIfInBounds_toArray, List.set_cons_succ, List.set_cons_zero]; rfl) (by kernel_rfl) (by kernel_rfl) ?_ ?_ ?_
            · refine ⟨_, _, _, _, _, _, rfl, ?_, ?_, ?_, ?_, ?_, ?_, ?_, ?_, ?_⟩
              · intro h; cases h
              · intro h; cases h
              · intro h; cases h
              · intro h; cases h
              · intro h; cases h
              · intro h; cases h
              · exact HBW.out.drew
              · exact HP0.out
              · exact HY0.out
            · refine stepsOk_cons (k := 0) ?_ (stepsOk_cons (k := 1) ?_ (stepsOk_cons (k := 2) ?_ (stepsOk_cons (k := 3) ?_ (stepsOk_cons (k := 4) ?_ (stepsOk_cons (k := 5) ?_ (stepsOk_cons (k := 6) ?_ stepsOk_nil))))))
              · unfold StepOk
                rintro d act x ⟨u85, u86, u87, u88, u3, u4, rfl, f0, f1, f2, f3, f5, f6, g0, g1, g2⟩ hd hdep Kc hKc
                rw [if_pos (by rfl)]
                go_big_op
                refine hKc _ _ ⟨_, _, _, _, _, _, rfl, ?_, ?_, ?_, ?_, ?_, ?_, ?_, ?_, ?_⟩
                · exact (fun _ => rfl)
                · exact (fun h => f1 (up h rfl))
                · exact (fun h => f2 (up h rfl))
                · exact (fun h => f3 (up h rfl))
                · exact (fun h => f5 (up h rfl))
                · exact (fun h => f6 (up h rfl))
                · exact g0
                · exact g1
                · exact g2
              · unfold StepOk
                rintro d act x ⟨u85, u86, u87, u88, u3, u4, rfl, f0, f1, f2, f3, f5, f6, g0, g1, g2⟩ hd hdep Kc hKc
                rw [if_pos (by rfl)]
                go_big_op
                refine hKc _ _ ⟨_, _, _, _, _, _, rfl, ?_, ?_, ?_, ?_, ?_, ?_, ?_, ?_, ?_⟩
                · exact (fun h => f0 (up h rfl))
                · exact (fun _ => rfl)
                · exact (fun h => f2 (up h rfl))
                · exact (fun h => f3 (up h rfl))
                · exact (fun h => f5 (up h rfl))
                · exact (fun h => f6 (up h rfl))
                · exact g0
                · exact g1
                · exact g2
              · unfold StepOk
                rintro d act x ⟨u85, u86, u87, u88, u3, u4, rfl, f0, f1, f2, f3, f5, f6, g0, g1, g2⟩ hd hdep Kc hKc
                have hd1 : d 1 = true := hdep ⟨1, .data⟩ (by simp) rfl
                obtain rfl := f1 hd1
                rw [if_pos (by rfl)]
                go_big_op
                refine hKc _ _ ⟨_, _, _, _, _, _, rfl, ?_, ?_, ?_, ?_, ?_, ?_, ?_, ?_, ?_⟩
                · exact (fun h => f0 (up h rfl))
                · exact (fun h => f1 (up h rfl))
                · exact (fun _ => rfl)
                · exact (fun h => f3 (up h rfl))
                · exact (fun h => f5 (up h rfl))
                · exact (fun h => f6 (up h rfl))
                · exact g0
                · exact g1
                · exact g2
              · unfold StepOk
                rintro d act x ⟨u85, u86, u87, u88, u3, u4, rfl, f0, f1, f2, f3, f5, f6, g0, g1, g2⟩ hd hdep Kc hKc
                have hd2 : d 2 = true := hdep ⟨2, .data⟩ (by simp) rfl
                obtain rfl := f2 hd2
                have hyl := cell_lt g2
                rw [if_pos (by rfl)]
                go_big_op
                refine hKc _ _ ⟨_, _, _, _, _, _, rfl, ?_, ?_, ?_, ?_, ?_, ?_, ?_, ?_, ?_⟩
                · exact (fun h => f0 (up h rfl))
                · exact (fun h => f1 (up h rfl))
                · exact (fun h => f2 (up h rfl))
                · exact (fun _ => rfl)
                · exact (fun h => f5 (up h rfl))
                · exact (fun h => f6 (up h rfl))
                · exact g0
                · exact g1
                · exact g2
              · unfold StepOk
                rintro d act x ⟨u85, u86, u87, u88, u3, u4, rfl, f0, f1, f2, f3, f5, f6, g0, g1, g2⟩ hd hdep Kc hKc
                have hd0 : d 0 = true := hdep ⟨0, .data⟩ (by simp) rfl
                have hd0 : d 0 = true := hdep ⟨0, .phase⟩ (by simp) rfl
                obtain rfl := f0 hd0
                have hbc := blk_cell g1
                have hbf := blk_free g1
                have hbl := blk_lt g1
                rw [if_pos (by rfl)]
                go_big_op
                have HFF := blk_fill7 (v0 := .int .i64 0) (v1 := .int .i64 0) (v2 := .int .i64 0) (v3 := .int .i64 0) (v4 := .int .i64 0) (v5 := .int .i64 0) (v6 := .string ⟨#[]⟩) g1 rfl
                have HBB := below_fill7 (v0 := .int .i64 0) (v1 := .int .i64 0) (v2 := .int .i64 0) (v3 := .int .i64 0) (v4 := .int .i64 0) (v5 := .int .i64 0) (v6 := .string ⟨#[]⟩) g0 HPL.out
                have HCC := cell_fill7 (v0 := .int .i64 0) (v1 := .int .i64 0) (v2 := .int .i64 0) (v3 := .int .i64 0) (v4 := .int .i64 0) (v5 := .int .i64 0) (v6 := .string ⟨#[]⟩) HGP.out g2
                refine hKc _ _ ⟨_, _, _, _, _, _, rfl, ?_, ?_, ?_, ?_, ?_, ?_, ?_, ?_, ?_⟩
                · exact (fun h => f0 (up h rfl))
                · exact (fun h => f1 (up h rfl))
                · exact (fun h => f2 (up h rfl))
                · exact (fun h => f3 (up h rfl))
                · exact (fun h => f5 (up h rfl))
                · exact (fun h => f6 (up h rfl))
                · exact HBB
                · exact HFF
                · exact HCC
              · unfold StepOk
                rintro d act x ⟨u85, u86, u87, u88, u3, u4, rfl, f0, f1, f2, f3, f5, f6, g0, g1, g2⟩ hd hdep Kc hKc
                have hd3 : d 3 = true := hdep ⟨3, .data⟩ (by simp) rfl
                have hd3 : d 3 = true := hdep ⟨3, .phase⟩ (by simp) rfl
                obtain rfl := f3 hd3
                rw [if_pos (by rfl)]
                go_big_op
                refine hKc _ _ ⟨_, _, _, _, _, _, rfl, ?_, ?_, ?_, ?_, ?_, ?_, ?_, ?_, ?_⟩
                · exact (fun h => f0 (up h rfl))
                · exact (fun h => f1 (up h rfl))
                · exact (fun h => f2 (up h rfl))
                · exact (fun h => f3 (up h rfl))
                · exact (fun _ => rfl)
                · exact (fun h => f6 (up h rfl))
                · exact g0
                · exact g1
                · exact g2
              · unfold StepOk
                rintro d act x ⟨u85, u86, u87, u88, u3, u4, rfl, f0, f1, f2, f3, f5, f6, g0, g1, g2⟩ hd hdep Kc hKc
                rw [if_pos (by rfl)]
                go_big_op
                refine hKc _ _ ⟨_, _, _, _, _, _, rfl, ?_, ?_, ?_, ?_, ?_, ?_, ?_, ?_, ?_⟩
                · exact (fun h => f0 (up h rfl))
                · exact (fun h => f1 (up h rfl))
                · exact (fun h => f2 (up h rfl))
                · exact (fun h => f3 (up h rfl))
                · exact (fun h => f5 (up h rfl))
                · exact (fun _ => rfl)
                · exact g0
                · exact g1
                · exact g2
            · rintro d act x ⟨u85, u86, u87, u88, u3, u4, rfl, f0, f1, f2, f3, f5, f6, g0, g1, g2⟩ hall
              obtain rfl := f0 (hall 0 (by decide))
              obtain rfl := f1 (hall 1 (by decide))
              obtain rfl := f2 (hall 2 (by decide))
              obtain rfl := f3 (hall 3 (by decide))
              obtain rfl := f5 (hall 5 (by decide))
              obtain rfl := f6 (hall 6 (by decide))
              clear f0 f1 f2 f3 f5 f6 hall
              have HFP := Lib.hid (show _ ∧ _ from ⟨g0, g1⟩)
              have hcp := blk_cell HFP.out.2
              have hlp := blk_lt HFP.out.2
              clear g0 g1 g2
              go_wp2_with fail
              exact bodyPost_ret (v := .tuple #[.agg (acC acZ), .string X0, .bool false]) (by simp [results, Tryz.results18, go_sem, hcp, acC, acZ]) rfl ⟨X0, by rw [HR.out]; rfl, fun _ => HX0.out, HFP.out.1⟩
        · replace hbf : bt Fm J = 115 := hbf
          have hcv := num_vval q.data.toList
          by_cases hv : Lib.itoa (vval q.data.toList) = q.data.toList
          · have hB : decide (Lib.itoa (vval q.data.toList) = q.data.toList) = true := decide_eq_true hv
            rw [if_pos hv] at hcv
            obtain ⟨V, hV⟩ : ∃ V, vval q.data.toList = V := ⟨_, rfl⟩
            have HPU := Lib.hid (show puts { bb with st := V } (fs.drop (J + 1)) (tl.drop (J + 1)) = R from by have h := HPS.out; unfold Ac.put at h; rw [if_neg (by decide), hcv, hV] at h; exact h)
            clear hcv hv z4 zf4 zl4
            go_wp2_with fail
            refine (docValue q hqz w4).mono ?_
            rintro e w5 ⟨rfl, hb5⟩
            rw [hB, hV]
            have H5 := Lib.hid (show _ ∧ _ from ⟨ext_trans H4.out.2.1 hb5, blk_ext hb5 H4.out.2.2⟩)
            clear c4 f4 l4 yq yql hb5 hB hV
            have c5 := blk_cell H5.out.2
            have f5 := blk_free H5.out.2
            have l5 := blk_lt H5.out.2
            simp only [acC] at c5
            go_wp2_with fail
            exact ⟨⟨I + 1, J + 1, { bb with st := V }, by rw [HIJ.out], by omega, by go_num, HPU.out, H5.out.1.setCell HN0.out.2.2 _, blk_set H5.out.2 rfl⟩, by simp [RowKit.intOf]; omega⟩
          · have hB : decide (Lib.itoa (vval q.data.toList) = q.data.toList) = false := decide_eq_false hv
            rw [if_neg hv] at hcv
            have HRN := Lib.hid (show R = none from by have h := HPS.out; unfold Ac.put at h; rw [if_neg (by decide), hcv] at h; exact h.symm)
            clear hcv hv
            go_wp2_with fail
            refine (docValue q hqz w4).mono ?_
            rintro e w5 ⟨rfl, hb5⟩
            rw [hB]
            have H5 := Lib.hid (ext_trans H4.out.2.1 hb5)
            clear hb5 hB
            go_wp2_with fail
            have HR := Lib.hid (show R = none from by exact HRN.out)
            have HBW := Lib.hid (ext_trans HP3.out.2.1 H5.out)
            have HP0 := Lib.hid (blk_ext H5.out HP3.out.1)
            have HY0 := Lib.hid (ext_cell H5.out HP3.out.2.2)
            have HPL := Lib.hid HPW.out
            clear c4 f4 l4 z4 zf4 zl4 yq yql
            refine wp_region_inv_eq (J := fun A d act x => ∃ u85 u86 u87 u88 u3 u4 : Value, act = ((((((A.put (some 85) u85).put (some 86) u86).put (some 87) u87).put (some 88) u88).put (some 3) u3).put (some 4) u4) ∧ (d 0 = true → u85 = .agg #[.int .i64 0, .int .i64 0, .int .i64 0, .int .i64 0, .int .i64 0, .int .i64 0, .string ⟨#[]⟩]) ∧ (d 1 = true → u86 = .slice (some ⟨g, 0, none⟩) n c) ∧ (d 2 = true → u87 = .pointer (some ⟨g, 0, none⟩)) ∧ (d 3 = true → u88 = .string X0) ∧ (d 5 = true → u3 = .string X0) ∧ (d 6 = true → u4 = .bool false) ∧ Below w.heap.size w x ∧ x.heap[p]? = some (.cells #[.int .i64 0, .int .i64 0, .int .i64 0, .int .i64 0, .int .i64 0, .int .i64 0, .string ⟨#[]⟩] 29 (0, 0)) ∧ x.cell? ⟨g, 0, none⟩ = some (.string X0)) (by simp only [Act.put, List.setIfInBounds_toArray, List.set_cons_succ, List.set_cons_zero]; rfl) (by kernel_rfl) (by kernel_rfl) ?_ ?_ ?_
            · refine ⟨_, _, _, _, _, _, rfl, ?_, ?_, ?_, ?_, ?_, ?_, ?_, ?_, ?_⟩
              · intro h; cases h
              · intro h; cases h
              · intro h; cases h
              · intro h; cases h
              · intro h; cases h
              · intro h; cases h
              · exact HBW.out.drew
              · exact HP0.out
              · exact HY0.out
            · refine stepsOk_cons (k := 0) ?_ (stepsOk_cons (k := 1) ?_ (stepsOk_cons (k := 2) ?_ (stepsOk_cons (k := 3) ?_ (stepsOk_cons (k := 4) ?_ (stepsOk_cons (k := 5) ?_ (stepsOk_cons (k := 6) ?_ stepsOk_nil))))))
              · unfold StepOk
                rintro d act x ⟨u85, u86, u87, u88, u3, u4, rfl, f0, f1, f2, f3, f5, f6, g0, g1, g2⟩ hd hdep Kc hKc
                rw [if_pos (by rfl)]
                go_big_op
                refine hKc _ _ ⟨_, _, _, _, _, _, rfl, ?_, ?_, ?_, ?_, ?_, ?_, ?_, ?_, ?_⟩
                · exact (fun _ => rfl)
                · exact (fun h => f1 (up h rfl))
                · exact (fun h => f2 (up h rfl))
                · exact (fun h => f3 (up h rfl))
                · exact (fun h => f5 (up h rfl))
                · exact (fun h => f6 (up h rfl))
                · exact g0
                · exact g1
                · exact g2
              · unfold StepOk
                rintro d act x ⟨u85, u86, u87, u88, u3, u4, rfl, f0, f1, f2, f3, f5, f6, g0, g1, g2⟩ hd hdep Kc hKc
                rw [if_pos (by rfl)]
                go_big_op
                refine hKc _ _ ⟨_, _, _, _, _, _, rfl, ?_, ?_, ?_, ?_, ?_, ?_, ?_, ?_, ?_⟩
                · exact (fun h => f0 (up h rfl))
                · exact (fun _ => rfl)
                · exact (fun h => f2 (up h rfl))
                · exact (fun h => f3 (up h rfl))
                · exact (fun h => f5 (up h rfl))
                · exact (fun h => f6 (up h rfl))
                · exact g0
                · exact g1
                · exact g2
              · unfold StepOk
                rintro d act x ⟨u85, u86, u87, u88, u3, u4, rfl, f0, f1, f2, f3, f5, f6, g0, g1, g2⟩ hd hdep Kc hKc
                have hd1 : d 1 = true := hdep ⟨1, .data⟩ (by simp) rfl
                obtain rfl := f1 hd1
                rw [if_pos (by rfl)]
                go_big_op
                refine hKc _ _ ⟨_, _, _, _, _, _, rfl, ?_, ?_, ?_, ?_, ?_, ?_, ?_, ?_, ?_⟩
                · exact (fun h => f0 (up h rfl))
                · exact (fun h => f1 (up h rfl))
                · exact (fun _ => rfl)
                · exact (fun h => f3 (up h rfl))
                · exact (fun h => f5 (up h rfl))
                · exact (fun h => f6 (up h rfl))
                · exact g0
                · exact g1
                · exact g2
              · unfold StepOk
                rintro d act x ⟨u85, u86, u87, u88, u3, u4, rfl, f0, f1, f2, f3, f5, f6, g0, g1, g2⟩ hd hdep Kc hKc
                have hd2 : d 2 = true := hdep ⟨2, .data⟩ (by simp) rfl
                obtain rfl := f2 hd2
                have hyl := cell_lt g2
                rw [if_pos (by rfl)]
                go_big_op
                refine hKc _ _ ⟨_, _, _, _, _, _, rfl, ?_, ?_, ?_, ?_, ?_, ?_, ?_, ?_, ?_⟩
                · exact (fun h => f0 (up h rfl))
                · exact (fun h => f1 (up h rfl))
                · exact (fun h => f2 (up h rfl))
                · exact (fun _ => rfl)
                · exact (fun h => f5 (up h rfl))
                · exact (fun h => f6 (up h rfl))
                · exact g0
                · exact g1
                · exact g2
              · unfold StepOk
                rintro d act x ⟨u85, u86, u87, u88, u3, u4, rfl, f0, f1, f2, f3, f5, f6, g0, g1, g2⟩ hd hdep Kc hKc
                have hd0 : d 0 = true := hdep ⟨0, .data⟩ (by simp) rfl
                have hd0 : d 0 = true := hdep ⟨0, .phase⟩ (by simp) rfl
                obtain rfl := f0 hd0
                have hbc := blk_cell g1
                have hbf := blk_free g1
                have hbl := blk_lt g1
                rw [if_pos (by rfl)]
                go_big_op
                have HFF := blk_fill7 (v0 := .int .i64 0) (v1 := .int .i64 0) (v2 := .int .i64 0) (v3 := .int .i64 0) (v4 := .int .i64 0) (v5 := .int .i64 0) (v6 := .string ⟨#[]⟩) g1 rfl
                have HBB := below_fill7 (v0 := .int .i64 0) (v1 := .int .i64 0) (v2 := .int .i64 0) (v3 := .int .i64 0) (v4 := .int .i64 0) (v5 := .int .i64 0) (v6 := .string ⟨#[]⟩) g0 HPL.out
                have HCC := cell_fill7 (v0 := .int .i64 0) (v1 := .int .i64 0) (v2 := .int .i64 0) (v3 := .int .i64 0) (v4 := .int .i64 0) (v5 := .int .i64 0) (v6 := .string ⟨#[]⟩) HGP.out g2
                refine hKc _ _ ⟨_, _, _, _, _, _, rfl, ?_, ?_, ?_, ?_, ?_, ?_, ?_, ?_, ?_⟩
                · exact (fun h => f0 (up h rfl))
                · exact (fun h => f1 (up h rfl))
                · exact (fun h => f2 (up h rfl))
                · exact (fun h => f3 (up h rfl))
                · exact (fun h => f5 (up h rfl))
                · exact (fun h => f6 (up h rfl))
                · exact HBB
                · exact HFF
                · exact HCC
              · unfold StepOk
                rintro d act x ⟨u85, u86, u87, u88, u3, u4, rfl, f0, f1, f2, f3, f5, f6, g0, g1, g2⟩ hd hdep Kc hKc
                have hd3 : d 3 = true := hdep ⟨3, .data⟩ (by simp) rfl
                have hd3 : d 3 = true := hdep ⟨3, .phase⟩ (by simp) rfl
                obtain rfl := f3 hd3
                rw [if_pos (by rfl)]
                go_big_op
                refine hKc _ _ ⟨_, _, _, _, _, _, rfl, ?_, ?_, ?_, ?_, ?_, ?_, ?_, ?_, ?_⟩
                · exact (fun h => f0 (up h rfl))
                · exact (fun h => f1 (up h rfl))
                · exact (fun h => f2 (up h rfl))
                · exact (fun h => f3 (up h rfl))
                · exact (fun _ => rfl)
                · exact (fun h => f6 (up h rfl))
                · exact g0
                · exact g1
                · exact g2
              · unfold StepOk
                rintro d act x ⟨u85, u86, u87, u88, u3, u4, rfl, f0, f1, f2, f3, f5, f6, g0, g1, g2⟩ hd hdep Kc hKc
                rw [if_pos (by rfl)]
                go_big_op
                refine hKc _ _ ⟨_, _, _, _, _, _, rfl, ?_, ?_, ?_, ?_, ?_, ?_, ?_, ?_, ?_⟩
                · exact (fun h => f0 (up h rfl))
                · exact (fun h => f1 (up h rfl))
                · exact (fun h => f2 (up h rfl))
                · exact (fun h => f3 (up h rfl))
                · exact (fun h => f5 (up h rfl))
                · exact (fun _ => rfl)
                · exact g0
                · exact g1
                · exact g2
            · rintro d act x ⟨u85, u86, u87, u88, u3, u4, rfl, f0, f1, f2, f3, f5, f6, g0, g1, g2⟩ hall
              obtain rfl := f0 (hall 0 (by decide))
              obtain rfl := f1 (hall 1 (by decide))
              obtain rfl := f2 (hall 2 (by decide))
              obtain rfl := f3 (hall 3 (by decide))
              obtain rfl := f5 (hall 5 (by decide))
              obtain rfl := f6 (hall 6 (by decide))
              clear f0 f1 f2 f3 f5 f6 hall
              have HFP := Lib.hid (show _ ∧ _ from ⟨g0, g1⟩)
              have hcp := blk_cell HFP.out.2
              have hlp := blk_lt HFP.out.2
              clear g0 g1 g2
              go_wp2_with fail
              exact bodyPost_ret (v := .tuple #[.agg (acC acZ), .string X0, .bool false]) (by simp [results, Tryz.results18, go_sem, hcp, acC, acZ]) rfl ⟨X0, by rw [HR.out]; rfl, fun _ => HX0.out, HFP.out.1⟩
        · replace hbf : bt Fm J = 119 := hbf
          by_cases hv : q.size = 0
          · have he : q.toList.isEmpty = true := by have := size_empty q; simp [hv] at this; simpa using this
            have HRN := Lib.hid (show R = none from by have h := HPS.out; unfold Ac.put at h; rw [if_pos rfl, if_pos hv] at h; exact h.symm)
            clear hv
            go_wp2_with fail
            have HR := Lib.hid (show R = none from by exact HRN.out)
            have HBW := Lib.hid (ext_trans HP3.out.2.1 H4.out.2.1)
            have HP0 := Lib.hid (blk_ext H4.out.2.1 HP3.out.1)
            have HY0 := Lib.hid (ext_cell H4.out.2.1 HP3.out.2.2)
            have HPL := Lib.hid HPW.out
            clear c4 f4 l4 z4 zf4 zl4 yq yql
            refine wp_region_inv_eq (J := fun A d act x => ∃ u66 u67 u68 u69 u3 u4 : Value, act = ((((((A.put (some 66) u66).put (some 67) u67).put (some 68) u68).put (some 69) u69).put (some 3) u3).put (some 4) u4) ∧ (d 0 = true → u66 = .agg #[.int .i64 0, .int .i64 0, .int .i64 0, .int .i64 0, .int .i64 0, .int .i64 0, .string ⟨#[]⟩]) ∧ (d 1 = true → u67 = .slice (some ⟨g, 0, none⟩) n c) ∧ (d 2 = true → u68 = .pointer (some ⟨g, 0, none⟩)) ∧ (d 3 = true → u69 = .string X0) ∧ (d 5 = true → u3 = .string X0) ∧ (d 6 = true → u4 = .bool false) ∧ Below w.heap.size w x ∧ x.heap[p]? = some (.cells #[.int .i64 0, .int .i64 0, .int .i64 0, .int .i64 0, .int .i64 0, .int .i64 0, .string ⟨#[]⟩] 29 (0, 0)) ∧ x.cell? ⟨g, 0, none⟩ = some (.string X0)) (by simp only [Act.put, List.setIfInBounds_toArray, List.set_cons_succ, List.set_cons_zero]; rfl) (by kernel_rfl) (by kernel_rfl) ?_ ?_ ?_
            · refine ⟨_, _, _, _, _, _, rfl, ?_, ?_, ?_, ?_, ?_, ?_, ?_, ?_, ?_⟩
              · intro h; cases h
              · intro h; cases h
              · intro h; cases h
              · intro h; cases h
              · intro h; cases h
              · intro h; cases h
              · exact HBW.out.drew
              · exact HP0.out
              · exact HY0.out
            · refine stepsOk_cons (k := 0) ?_ (stepsOk_cons (k := 1) ?_ (stepsOk_cons (k := 2) ?_ (stepsOk_cons (k := 3) ?_ (stepsOk_cons (k := 4) ?_ (stepsOk_cons (k := 5) ?_ (stepsOk_cons (k := 6) ?_ stepsOk_nil))))))
              · unfold StepOk
                rintro d act x ⟨u66, u67, u68, u69, u3, u4, rfl, f0, f1, f2, f3, f5, f6, g0, g1, g2⟩ hd hdep Kc hKc
                rw [if_pos (by rfl)]
                go_big_op
                refine hKc _ _ ⟨_, _, _, _, _, _, rfl, ?_, ?_, ?_, ?_, ?_, ?_, ?_, ?_, ?_⟩
                · exact (fun _ => rfl)
                · exact (fun h => f1 (up h rfl))
                · exact (fun h => f2 (up h rfl))
                · exact (fun h => f3 (up h rfl))
                · exact (fun h => f5 (up h rfl))
                · exact (fun h => f6 (up h rfl))
                · exact g0
                · exact g1
                · exact g2
              · unfold StepOk
                rintro d act x ⟨u66, u67, u68, u69, u3, u4, rfl, f0, f1, f2, f3, f5, f6, g0, g1, g2⟩ hd hdep Kc hKc
                rw [if_pos (by rfl)]
                go_big_op
                refine hKc _ _ ⟨_, _, _, _, _, _, rfl, ?_, ?_, ?_, ?_, ?_, ?_, ?_, ?_, ?_⟩
                · exact (fun h => f0 (up h rfl))
                · exact (fun _ => rfl)
                · exact (fun h => f2 (up h rfl))
                · exact (fun h => f3 (up h rfl))
                · exact (fun h => f5 (up h rfl))
                · exact (fun h => f6 (up h rfl))
                · exact g0
                · exact g1
                · exact g2
              · unfold StepOk
                rintro d act x ⟨u66, u67, u68, u69, u3, u4, rfl, f0, f1, f2, f3, f5, f6, g0, g1, g2⟩ hd hdep Kc hKc
                have hd1 : d 1 = true := hdep ⟨1, .data⟩ (by simp) rfl
                obtain rfl := f1 hd1
                rw [if_pos (by rfl)]
                go_big_op
                refine hKc _ _ ⟨_, _, _, _, _, _, rfl, ?_, ?_, ?_, ?_, ?_, ?_, ?_, ?_, ?_⟩
                · exact (fun h => f0 (up h rfl))
                · exact (fun h => f1 (up h rfl))
                · exact (fun _ => rfl)
                · exact (fun h => f3 (up h rfl))
                · exact (fun h => f5 (up h rfl))
                · exact (fun h => f6 (up h rfl))
                · exact g0
                · exact g1
                · exact g2
              · unfold StepOk
                rintro d act x ⟨u66, u67, u68, u69, u3, u4, rfl, f0, f1, f2, f3, f5, f6, g0, g1, g2⟩ hd hdep Kc hKc
                have hd2 : d 2 = true := hdep ⟨2, .data⟩ (by simp) rfl
                obtain rfl := f2 hd2
                have hyl := cell_lt g2
                rw [if_pos (by rfl)]
                go_big_op
                refine hKc _ _ ⟨_, _, _, _, _, _, rfl, ?_, ?_, ?_, ?_, ?_, ?_, ?_, ?_, ?_⟩
                · exact (fun h => f0 (up h rfl))
                · exact (fun h => f1 (up h rfl))
                · exact (fun h => f2 (up h rfl))
                · exact (fun _ => rfl)
                · exact (fun h => f5 (up h rfl))
                · exact (fun h => f6 (up h rfl))
                · exact g0
                · exact g1
                · exact g2
              · unfold StepOk
                rintro d act x ⟨u66, u67, u68, u69, u3, u4, rfl, f0, f1, f2, f3, f5, f6, g0, g1, g2⟩ hd hdep Kc hKc
                have hd0 : d 0 = true := hdep ⟨0, .data⟩ (by simp) rfl
                have hd0 : d 0 = true := hdep ⟨0, .phase⟩ (by simp) rfl
                obtain rfl := f0 hd0
                have hbc := blk_cell g1
                have hbf := blk_free g1
                have hbl := blk_lt g1
                rw [if_pos (by rfl)]
                go_big_op
                have HFF := blk_fill7 (v0 := .int .i64 0) (v1 := .int .i64 0) (v2 := .int .i64 0) (v3 := .int .i64 0) (v4 := .int .i64 0) (v5 := .int .i64 0) (v6 := .string ⟨#[]⟩) g1 rfl
                have HBB := below_fill7 (v0 := .int .i64 0) (v1 := .int .i64 0) (v2 := .int .i64 0) (v3 := .int .i64 0) (v4 := .int .i64 0) (v5 := .int .i64 0) (v6 := .string ⟨#[]⟩) g0 HPL.out
                have HCC := cell_fill7 (v0 := .int .i64 0) (v1 := .int .i64 0) (v2 := .int .i64 0) (v3 := .int .i64 0) (v4 := .int .i64 0) (v5 := .int .i64 0) (v6 := .string ⟨#[]⟩) HGP.out g2
                refine hKc _ _ ⟨_, _, _, _, _, _, rfl, ?_, ?_, ?_, ?_, ?_, ?_, ?_, ?_, ?_⟩
                · exact (fun h => f0 (up h rfl))
                · exact (fun h => f1 (up h rfl))
                · exact (fun h => f2 (up h rfl))
                · exact (fun h => f3 (up h rfl))
                · exact (fun h => f5 (up h rfl))
                · exact (fun h => f6 (up h rfl))
                · exact HBB
                · exact HFF
                · exact HCC
              · unfold StepOk
                rintro d act x ⟨u66, u67, u68, u69, u3, u4, rfl, f0, f1, f2, f3, f5, f6, g0, g1, g2⟩ hd hdep Kc hKc
                have hd3 : d 3 = true := hdep ⟨3, .data⟩ (by simp) rfl
                have hd3 : d 3 = true := hdep ⟨3, .phase⟩ (by simp) rfl
                obtain rfl := f3 hd3
                rw [if_pos (by rfl)]
                go_big_op
                refine hKc _ _ ⟨_, _, _, _, _, _, rfl, ?_, ?_, ?_, ?_, ?_, ?_, ?_, ?_, ?_⟩
                · exact (fun h => f0 (up h rfl))
                · exact (fun h => f1 (up h rfl))
                · exact (fun h => f2 (up h rfl))
                · exact (fun h => f3 (up h rfl))
                · exact (fun _ => rfl)
                · exact (fun h => f6 (up h rfl))
                · exact g0
                · exact g1
                · exact g2
              · unfold StepOk
                rintro d act x ⟨u66, u67, u68, u69, u3, u4, rfl, f0, f1, f2, f3, f5, f6, g0, g1, g2⟩ hd hdep Kc hKc
                rw [if_pos (by rfl)]
                go_big_op
                refine hKc _ _ ⟨_, _, _, _, _, _, rfl, ?_, ?_, ?_, ?_, ?_, ?_, ?_, ?_, ?_⟩
                · exact (fun h => f0 (up h rfl))
                · exact (fun h => f1 (up h rfl))
                · exact (fun h => f2 (up h rfl))
                · exact (fun h => f3 (up h rfl))
                · exact (fun h => f5 (up h rfl))
                · exact (fun _ => rfl)
                · exact g0
                · exact g1
                · exact g2
            · rintro d act x ⟨u66, u67, u68, u69, u3, u4, rfl, f0, f1, f2, f3, f5, f6, g0, g1, g2⟩ hall
              obtain rfl := f0 (hall 0 (by decide))
              obtain rfl := f1 (hall 1 (by decide))
              obtain rfl := f2 (hall 2 (by decide))
              obtain rfl := f3 (hall 3 (by decide))
              obtain rfl := f5 (hall 5 (by decide))
              obtain rfl := f6 (hall 6 (by decide))
              clear f0 f1 f2 f3 f5 f6 hall
              have HFP := Lib.hid (show _ ∧ _ from ⟨g0, g1⟩)
              have hcp := blk_cell HFP.out.2
              have hlp := blk_lt HFP.out.2
              clear g0 g1 g2
              go_wp2_with fail
              exact bodyPost_ret (v := .tuple #[.agg (acC acZ), .string X0, .bool false]) (by simp [results, Tryz.results18, go_sem, hcp, acC, acZ]) rfl ⟨X0, by rw [HR.out]; rfl, fun _ => HX0.out, HFP.out.1⟩
          · have he : q.toList.isEmpty = false := by have := size_empty q; simp [hv] at this; simpa using this
            have HPU := Lib.hid (show puts { bb with app := q } (fs.drop (J + 1)) (tl.drop (J + 1)) = R from by have h := HPS.out; unfold Ac.put at h; rw [if_pos rfl, if_neg hv] at h; exact h)
            clear hv z4 zf4 zl4
            go_wp2_with fail
            exact ⟨⟨I + 1, J + 1, { bb with app := q }, by rw [HIJ.out], by omega, by go_num, HPU.out, H4.out.2.1.setCell HN0.out.2.2 _, blk_set H4.out.2.2 rfl⟩, by simp [RowKit.intOf]; omega⟩
      · obtain rfl : J = m := by omega
        have hIn : decide ((I : Int) < (n : Int)) = false := decide_eq_false (by have := HLEN.out; omega)
        have hIn2 : ¬ (I : Int) < (n : Int) := by have := HLEN.out; omega
        have hR : R = some bb := by
          rw [← H4.out.1]
          exact puts_end bb fs tl J HFS.out.1 HTL.out.2
        have HRS := Lib.hid hR
        have c4 := blk_cell H4.out.2.2
        have l4 := blk_lt H4.out.2.2
        have z4 := blk_cell (blk_ext H4.out.2.1 HP3.out.1)
        have zf4 := blk_free (blk_ext H4.out.2.1 HP3.out.1)
        have zl4 := blk_lt (blk_ext H4.out.2.1 HP3.out.1)
        simp only [acC] at c4
        clear hR hIJ
        go_wp2_with fail
        exact bodyPost_ret (v := .tuple #[.agg (acC bb), .string ⟨#[]⟩, .bool true]) (by have hk2 := blk_cell (blk_fill7 (v0 := .int .i64 bb.k) (v1 := .int .i64 bb.a) (v2 := .int .i64 bb.b) (v3 := .int .i64 bb.op) (v4 := .int .i64 bb.st) (v5 := .int .i64 bb.n) (v6 := .string bb.app) (blk_ext H4.out.2.1 HP3.out.1) rfl); simp [results, Tryz.results18, go_sem, hk2, acC]) rfl ⟨⟨#[]⟩, by rw [HRS.out]; rfl, (fun h => by rw [HRS.out] at h; cases h), below_fill7 (ext_trans HP3.out.2.1 H4.out.2.1) HPW.out⟩
end Go.Proofs.YtcgembfdejjliaaGreatDoor
