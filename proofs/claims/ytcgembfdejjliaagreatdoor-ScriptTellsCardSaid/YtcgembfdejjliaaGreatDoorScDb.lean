/- The document's own line, with too many words, or too few. -/
import Derived.Test.YtcgembfdejjliaaGreatDoorScJ
import Derived.Deep.Cut
namespace Go.Proofs.YtcgembfdejjliaaGreatDoor
open Go.RowKit
open Go.PlainAid (bt get_bt bt_le bt_nonneg)
set_option linter.unusedVariables false
set_option linter.unusedSimpArgs false

set_option maxRecDepth 100000 in
set_option maxHeartbeats 4000000 in
theorem docLine_len (x : ByteArray) (hx : x.size ≤ 1048576) (w : World) (s : Sh) (hs : s ∈ shs) (hsw : s.w = hdw x) (hlen : (wsB x).length ≠ s.fs.size + 1) (hres : lineD x = none) : DocP x w := by
  obtain ⟨R, hR⟩ : ∃ R, lineD x = R := ⟨_, rfl⟩
  unfold DocP
  rw [hR] at hres ⊢
  have HR := Lib.hid hres
  obtain ⟨p, hp⟩ : ∃ p, w.heap.size = p := ⟨_, rfl⟩
  clear hres hR
  go_enter Tryz.func18, Tryz.ntmps18
  have b1 : Below w.heap.size w (w.alloc (.cells (acC acZ) 29)) := (Below.refl _ _).alloc (Nat.le_refl _) _
  have z1 := blk_new w (acC acZ) 29
  simp only [acC, acZ] at b1 z1
  have HB := Lib.hid (show _ ∧ _ ∧ _ from ⟨b1, z1, hp⟩)
  clear b1 z1
  go_wp2_with fail
  refine (wordsP x hx _).mono ?_
  rintro e w2 ⟨v, rfl, ho, hb2⟩
  obtain ⟨a, c, rfl, hc1, hc2, ha⟩ := OwnR.form ho
  obtain ⟨n, hn⟩ : ∃ n, (wsB x).length = n := ⟨_, rfl⟩
  have hn1 : 1 ≤ n := by have := wsB_len x; omega
  have hn2 : n ≤ 1048577 := by have := wsB_len x; omega
  obtain ⟨g, rfl, hg1, hg2⟩ := ha.resolve_left (by rintro ⟨-, -, e⟩; rw [e] at hn; simp at hn; omega)
  obtain ⟨X0, hX0⟩ : ∃ X, hdw x = X := ⟨_, rfl⟩
  have hcons : wsB x = X0 :: (wsB x).tail := by
    have h1 := hdw_ws x
    rw [hX0] at h1
    cases h : wsB x with
    | nil => rw [h] at hn; simp at hn; omega
    | cons q l => rw [h] at h1; simp at h1; rw [h1]; rfl
  have y0 := OwnR.at (enc := eb) (k := 1) (fun _ => rfl) ho (i := 0) (x := X0) (by rw [hcons]; rfl) 0 (.string X0) rfl
  simp only [Nat.zero_mul, Nat.add_zero] at y0
  have hxz : X0.size ≤ maxLen := by
    have := hcons
    have h2 : X0.data.toList ∈ ws x.data.toList := by
      have h3 : X0 ∈ wsB x := by rw [hcons]; simp
      unfold wsB at h3
      obtain ⟨l, hl, e⟩ := List.mem_map.1 h3
      rw [← e]; simpa using hl
    have h4 := ws_size _ _ h2
    have h5 : X0.data.toList.length = X0.size := rfl
    have h6 : x.data.toList.length = x.size := rfl
    unfold maxLen; omega
  have H := Lib.hid (show w2.heap[p]? = some (.cells #[.int .i64 0, .int .i64 0, .int .i64 0, .int .i64 0, .int .i64 0, .int .i64 0, .string ⟨#[]⟩] 29 (0, 0)) ∧ _ ∧ _ ∧ _ ∧ _ from ⟨(by have h0 := blk_ext hb2 HB.out.2.1; rw [HB.out.2.2] at h0; exact h0), ext_trans HB.out.1 hb2, ho, hcons, y0⟩)
  rw [hX0] at hsw
  rw [hn] at hc1 hlen ⊢
  have hgw := cell_lt y0
  have hgp : g ≠ p := by
    have h1 := HB.out.2.1
    have h2 := blk_lt h1
    rw [HB.out.2.2] at h2
    omega
  have HGP := Lib.hid hgp
  have HN := Lib.hid hn
  have HX0 := Lib.hid hX0.symm
  have HPW := Lib.hid (show w.heap.size ≤ p from Nat.le_of_eq HB.out.2.2)
  clear ho hb2 hcons hn hX0 hp hg1 hg2 ha hgp
  unfold maxLen at hc2
  go_upto_region 2 with (fail)
  refine wp_region_lit ?_
  refine wpList_plain rfl (fun K hK => ?_)
  go_big_op
  refine hK _ _ ?_
  clear hK K
  obtain ⟨mb, hmb⟩ : ∃ mb, w2.heap.size = mb := ⟨_, rfl⟩
  have m0 : MpT 9 TF (fun j => decide (j < 0)) ({ heap := w2.heap.push (.map #[] 0), tape := w2.tape, drawn := w2.drawn, os := w2.os, output := w2.output } : World) w2.heap.size := MpT.made _ _ _ (fun i _ => by simp) _
  have g0 : Below w2.heap.size w2 ({ heap := w2.heap.push (.map #[] 0), tape := w2.tape, drawn := w2.drawn, os := w2.os, output := w2.output } : World) := al_below _ _
  rw [hmb] at m0 ⊢
  have hmb2 : w2.heap.size ≤ mb := Nat.le_of_eq hmb
  generalize ({ heap := w2.heap.push (.map #[] 0), tape := w2.tape, drawn := w2.drawn, os := w2.os, output := w2.output } : World) = x0 at *
  simp only [Act.put, List.setIfInBounds_toArray, List.set_cons_succ, List.set_cons_zero]
  refine wpList_insert (w0 := w2) (B := w2.heap.size) rfl _ _ _ rfl Tryz.underlying81 TF_ok (i := 0) rfl m0 hmb2 g0 ⟨#[116, 105, 99, 107]⟩ (.string ⟨#[65, 110]⟩) rfl rfl rfl ?_
  clear m0 g0
  intro x1 m1 g1
  simp only [Act.put, List.setIfInBounds_toArray, List.set_cons_succ, List.set_cons_zero]
  refine wpList_insert (w0 := w2) (B := w2.heap.size) rfl _ _ _ rfl Tryz.underlying81 TF_ok (i := 1) rfl m1 hmb2 g1 ⟨#[100, 101, 108, 105, 118, 101, 114]⟩ (.string ⟨#[110]⟩) rfl rfl rfl ?_
  clear m1 g1
  intro x2 m2 g2
  simp only [Act.put, List.setIfInBounds_toArray, List.set_cons_succ, List.set_cons_zero]
  refine wpList_insert (w0 := w2) (B := w2.heap.size) rfl _ _ _ rfl Tryz.underlying81 TF_ok (i := 2) rfl m2 hmb2 g2 ⟨#[100, 114, 111, 112]⟩ (.string ⟨#[110]⟩) rfl rfl rfl ?_
  clear m2 g2
  intro x3 m3 g3
  simp only [Act.put, List.setIfInBounds_toArray, List.set_cons_succ, List.set_cons_zero]
  refine wpList_insert (w0 := w2) (B := w2.heap.size) rfl _ _ _ rfl Tryz.underlying81 TF_ok (i := 3) rfl m3 hmb2 g3 ⟨#[116, 119, 105, 99, 101]⟩ (.string ⟨#[110]⟩) rfl rfl rfl ?_
  clear m3 g3
  intro x4 m4 g4
  simp only [Act.put, List.setIfInBounds_toArray, List.set_cons_succ, List.set_cons_zero]
  refine wpList_insert (w0 := w2) (B := w2.heap.size) rfl _ _ _ rfl Tryz.underlying81 TF_ok (i := 4) rfl m4 hmb2 g4 ⟨#[99, 117, 116]⟩ (.string ⟨#[65, 66]⟩) rfl rfl rfl ?_
  clear m4 g4
  intro x5 m5 g5
  simp only [Act.put, List.setIfInBounds_toArray, List.set_cons_succ, List.set_cons_zero]
  refine wpList_insert (w0 := w2) (B := w2.heap.size) rfl _ _ _ rfl Tryz.underlying81 TF_ok (i := 5) rfl m5 hmb2 g5 ⟨#[104, 101, 97, 108]⟩ (.string ⟨#[65, 66]⟩) rfl rfl rfl ?_
  clear m5 g5
  intro x6 m6 g6
  simp only [Act.put, List.setIfInBounds_toArray, List.set_cons_succ, List.set_cons_zero]
  refine wpList_insert (w0 := w2) (B := w2.heap.size) rfl _ _ _ rfl Tryz.underlying81 TF_ok (i := 6) rfl m6 hmb2 g6 ⟨#[99, 114, 97, 115, 104]⟩ (.string ⟨#[65]⟩) rfl rfl rfl ?_
  clear m6 g6
  intro x7 m7 g7
  simp only [Act.put, List.setIfInBounds_toArray, List.set_cons_succ, List.set_cons_zero]
  refine wpList_insert (w0 := w2) (B := w2.heap.size) rfl _ _ _ rfl Tryz.underlying81 TF_ok (i := 7) rfl m7 hmb2 g7 ⟨#[114, 101, 103, 105, 115, 116, 101, 114]⟩ (.string ⟨#[65, 110, 115]⟩) rfl rfl rfl ?_
  clear m7 g7
  intro x8 m8 g8
  simp only [Act.put, List.setIfInBounds_toArray, List.set_cons_succ, List.set_cons_zero]
  refine wpList_insert (w0 := w2) (B := w2.heap.size) rfl _ _ _ rfl Tryz.underlying81 TF_ok (i := 8) rfl m8 hmb2 g8 ⟨#[99, 97, 110, 99, 101, 108]⟩ (.string ⟨#[65]⟩) rfl rfl rfl ?_
  clear m8 g8
  intro x9 m9 g9
  simp only [Act.put, List.setIfInBounds_toArray, List.set_cons_succ, List.set_cons_zero]
  refine wpList_insert (w0 := w2) (B := w2.heap.size) rfl _ _ _ rfl Tryz.underlying81 TF_ok (i := 9) rfl m9 hmb2 g9 ⟨#[111, 118, 101, 114, 114, 105, 100, 101]⟩ (.string ⟨#[65, 115]⟩) rfl rfl rfl ?_
  clear m9 g9
  intro x10 m10 g10
  simp only [Act.put, List.setIfInBounds_toArray, List.set_cons_succ, List.set_cons_zero]
  refine wpList_insert (w0 := w2) (B := w2.heap.size) rfl _ _ _ rfl Tryz.underlying81 TF_ok (i := 10) rfl m10 hmb2 g10 ⟨#[108, 111, 111, 107]⟩ (.string ⟨#[65, 119]⟩) rfl rfl rfl ?_
  clear m10 g10
  intro x11 m11 g11
  simp only [Act.put, List.setIfInBounds_toArray, List.set_cons_succ, List.set_cons_zero]
  have HM := Lib.hid (show _ ∧ _ from ⟨m11, g11⟩)
  clear m11 g11 hmb2 hmb
  have HP3 := Lib.hid (show _ ∧ _ ∧ _ from ⟨blk_ext HM.out.2 H.out.1, ext_trans H.out.2.1 HM.out.2, ext_cell HM.out.2 H.out.2.2.2.2⟩)
  have x0c := HP3.out.2.2
  have x0l := cell_lt x0c
  clear y0 hgw
  obtain ⟨fv, hfv, -, okv, hlk, hok⟩ := HM.out.1.look Tryz.underlying81 TF_ok (fun i hi => by have h11 : i < 11 := hi; simpa using h11) X0 hxz (z := .string ⟨#[]⟩) (fun y => by kernel_rfl) (plainElem_string Tryz.underlying9 (by unfold maxLen; decide)) inv_str
  have hin := tab_in s hs
  rw [hsw] at hin
  obtain ⟨Fm, hFm⟩ : ∃ F, frm s = F := ⟨_, rfl⟩
  obtain ⟨m, hm⟩ : ∃ m, s.fs.size = m := ⟨_, rfl⟩
  have hFs : Fm.size = m := by
    rw [← hFm, ← hm]
    show (s.fs.data.toList.map flet).toArray.size = s.fs.data.toList.length
    simp
  have hm3 : m ≤ 3 := by rw [← hm]; exact shs_sz s hs
  rw [hFm] at hin
  have hokt : okv = true := hok.2 ⟨by
    rcases hfv with h | h
    · exact h
    · exact absurd hin.1 (h.1 _), _, hin.1⟩
  subst hokt
  obtain rfl : fv = .string Fm := by
    rcases hfv with h | h
    · exact tab_one TF_ok.nd h hin.1
    · exact absurd hin.1 (h.1 _)
  rw [hm] at hlen
  have HI := Lib.hid (show _ ∧ _ ∧ _ ∧ _ from ⟨hin, hFm, hm, hs⟩)
  clear hok hfv hin hFm hm hs
  have ht3 : ((n : Int) != (m : Int) + 1) = true := by simp; omega
  have HFS := Lib.hid hFs
  go_wp2_with fail
  have HBW := Lib.hid HP3.out.2.1
  have HP0 := Lib.hid HP3.out.1
  have HY0 := Lib.hid HP3.out.2.2
  have HPL := Lib.hid HPW.out
  clear x0c x0l
  refine wp_region_inv_eq (J := fun A d act x => ∃ u33 u34 u35 u36 u3 u4 : Value, act = ((((((A.put (some 33) u33).put (some 34) u34).put (some 35) u35).put (some 36) u36).put (some 3) u3).put (some 4) u4) ∧ (d 0 = true → u33 = .agg #[.int .i64 0, .int .i64 0, .int .i64 0, .int .i64 0, .int .i64 0, .int .i64 0, .string ⟨#[]⟩]) ∧ (d 1 = true → u34 = .slice (some ⟨g, 0, none⟩) n c) ∧ (d 2 = true → u35 = .pointer (some ⟨g, 0, none⟩)) ∧ (d 3 = true → u36 = .string X0) ∧ (d 5 = true → u3 = .string X0) ∧ (d 6 = true → u4 = .bool false) ∧ Below w.heap.size w x ∧ x.heap[p]? = some (.cells #[.int .i64 0, .int .i64 0, .int .i64 0, .int .i64 0, .int .i64 0, .int .i64 0, .string ⟨#[]⟩] 29 (0, 0)) ∧ x.cell? ⟨g, 0, none⟩ = some (.string X0)) (by simp only [Act.put, List.setIfInBounds_toArray, List.set_cons_succ, List.set_cons_zero]; rfl) (by kernel_rfl) (by kernel_rfl) ?_ ?_ ?_
  · refine ⟨_, _, _, _, _, _, rfl, ?_, ?_, ?_, ?_, ?_, ?_, ?_, ?_, ?_⟩
    · intro h; cases h
    · intro h; cases h
    · intro h; cases h
    · intro h; cases h
    · intro h; cases h
    · intro h; cases h
    · exact HBW.out.drew
    · exact HP0.out
    · exact HY0.out
  · refine stepsOk_cons (k := 0) ?_ (stepsOk_cons (k := 1) ?_ (stepsOk_cons (k := 2) ?_ (stepsOk_cons (k := 3) ?_ (stepsOk_cons (k := 4) ?_ (stepsOk_cons (k := 5) ?_ (stepsOk_cons (k := 6) ?_ stepsOk_nil))))))
    · unfold StepOk
      rintro d act x ⟨u33, u34, u35, u36, u3, u4, rfl, f0, f1, f2, f3, f5, f6, g0, g1, g2⟩ hd hdep Kc hKc
      rw [if_pos (by rfl)]
      go_big_op
      refine hKc _ _ ⟨_, _, _, _, _, _, rfl, ?_, ?_, ?_, ?_, ?_, ?_, ?_, ?_, ?_⟩
      · exact (fun _ => rfl)
      · exact (fun h => f1 (up h rfl))
      · exact (fun h => f2 (up h rfl))
      · exact (fun h => f3 (up h rfl))
      · exact (fun h => f5 (up h rfl))
      · exact (fun h => f6 (up h rfl))
      · exact g0
      · exact g1
      · exact g2
    · unfold StepOk
      rintro d act x ⟨u33, u34, u35, u36, u3, u4, rfl, f0, f1, f2, f3, f5, f6, g0, g1, g2⟩ hd hdep Kc hKc
      rw [if_pos (by rfl)]
      go_big_op
      refine hKc _ _ ⟨_, _, _, _, _, _, rfl, ?_, ?_, ?_, ?_, ?_, ?_, ?_, ?_, ?_⟩
      · exact (fun h => f0 (up h rfl))
      · exact (fun _ => rfl)
      · exact (fun h => f2 (up h rfl))
      · exact (fun h => f3 (up h rfl))
      · exact (fun h => f5 (up h rfl))
      · exact (fun h => f6 (up h rfl))
      · exact g0
      · exact g1
      · exact g2
    · unfold StepOk
      rintro d act x ⟨u33, u34, u35, u36, u3, u4, rfl, f0, f1, f2, f3, f5, f6, g0, g1, g2⟩ hd hdep Kc hKc
      have hd1 : d 1 = true := hdep ⟨1, .data⟩ (by simp) rfl
      obtain rfl := f1 hd1
      rw [if_pos (by rfl)]
      go_big_op
      refine hKc _ _ ⟨_, _, _, _, _, _, rfl, ?_, ?_, ?_, ?_, ?_, ?_, ?_, ?_, ?_⟩
      · exact (fun h => f0 (up h rfl))
      · exact (fun h => f1 (up h rfl))
      · exact (fun _ => rfl)
      · exact (fun h => f3 (up h rfl))
      · exact (fun h => f5 (up h rfl))
      · exact (fun h => f6 (up h rfl))
      · exact g0
      · exact g1
      · exact g2
    · unfold StepOk
      rintro d act x ⟨u33, u34, u35, u36, u3, u4, rfl, f0, f1, f2, f3, f5, f6, g0, g1, g2⟩ hd hdep Kc hKc
      have hd2 : d 2 = true := hdep ⟨2, .data⟩ (by simp) rfl
      obtain rfl := f2 hd2
      have hyl := cell_lt g2
      rw [if_pos (by rfl)]
      go_big_op
      refine hKc _ _ ⟨_, _, _, _, _, _, rfl, ?_, ?_, ?_, ?_, ?_, ?_, ?_, ?_, ?_⟩
      · exact (fun h => f0 (up h rfl))
      · exact (fun h => f1 (up h rfl))
      · exact (fun h => f2 (up h rfl))
      · exact (fun _ => rfl)
      · exact (fun h => f5 (up h rfl))
      · exact (fun h => f6 (up h rfl))
      · exact g0
      · exact g1
      · exact g2
    · unfold StepOk
      rintro d act x ⟨u33, u34, u35, u36, u3, u4, rfl, f0, f1, f2, f3, f5, f6, g0, g1, g2⟩ hd hdep Kc hKc
      have hd0 : d 0 = true := hdep ⟨0, .data⟩ (by simp) rfl
      have hd0 : d 0 = true := hdep ⟨0, .phase⟩ (by simp) rfl
      obtain rfl := f0 hd0
      have hbc := blk_cell g1
      have hbf := blk_free g1
      have hbl := blk_lt g1
      rw [if_pos (by rfl)]
      go_big_op
      have HFF := blk_fill7 (v0 := .int .i64 0) (v1 := .int .i64 0) (v2 := .int .i64 0) (v3 := .int .i64 0) (v4 := .int .i64 0) (v5 := .int .i64 0) (v6 := .string ⟨#[]⟩) g1 rfl
      have HBB := below_fill7 (v0 := .int .i64 0) (v1 := .int .i64 0) (v2 := .int .i64 0) (v3 := .int .i64 0) (v4 := .int .i64 0) (v5 := .int .i64 0) (v6 := .string ⟨#[]⟩) g0 HPL.out
      have HCC := cell_fill7 (v0 := .int .i64 0) (v1 := .int .i64 0) (v2 := .int .i64 0) (v3 := .int .i64 0) (v4 := .int .i64 0) (v5 := .int .i64 0) (v6 := .string ⟨#[]⟩) HGP.out g2
      refine hKc _ _ ⟨_, _, _, _, _, _, rfl, ?_, ?_, ?_, ?_, ?_, ?_, ?_, ?_, ?_⟩
      · exact (fun h => f0 (up h rfl))
      · exact (fun h => f1 (up h rfl))
      · exact (fun h => f2 (up h rfl))
      · exact (fun h => f3 (up h rfl))
      · exact (fun h => f5 (up h rfl))
      · exact (fun h => f6 (up h rfl))
      · exact HBB
      · exact HFF
      · exact HCC
    · unfold StepOk
      rintro d act x ⟨u33, u34, u35, u36, u3, u4, rfl, f0, f1, f2, f3, f5, f6, g0, g1, g2⟩ hd hdep Kc hKc
      have hd3 : d 3 = true := hdep ⟨3, .data⟩ (by simp) rfl
      have hd3 : d 3 = true := hdep ⟨3, .phase⟩ (by simp) rfl
      obtain rfl := f3 hd3
      rw [if_pos (by rfl)]
      go_big_op
      refine hKc _ _ ⟨_, _, _, _, _, _, rfl, ?_, ?_, ?_, ?_, ?_, ?_, ?_, ?_, ?_⟩
      · exact (fun h => f0 (up h rfl))
      · exact (fun h => f1 (up h rfl))
      · exact (fun h => f2 (up h rfl))
      · exact (fun h => f3 (up h rfl))
      · exact (fun _ => rfl)
      · exact (fun h => f6 (up h rfl))
      · exact g0
      · exact g1
      · exact g2
    · unfold StepOk
      rintro d act x ⟨u33, u34, u35, u36, u3, u4, rfl, f0, f1, f2, f3, f5, f6, g0, g1, g2⟩ hd hdep Kc hKc
      rw [if_pos (by rfl)]
      go_big_op
      refine hKc _ _ ⟨_, _, _, _, _, _, rfl, ?_, ?_, ?_, ?_, ?_, ?_, ?_, ?_, ?_⟩
      · exact (fun h => f0 (up h rfl))
      · exact (fun h => f1 (up h rfl))
      · exact (fun h => f2 (up h rfl))
      · exact (fun h => f3 (up h rfl))
      · exact (fun h => f5 (up h rfl))
      · exact (fun _ => rfl)
      · exact g0
      · exact g1
      · exact g2
  · rintro d act x ⟨u33, u34, u35, u36, u3, u4, rfl, f0, f1, f2, f3, f5, f6, g0, g1, g2⟩ hall
    obtain rfl := f0 (hall 0 (by decide))
    obtain rfl := f1 (hall 1 (by decide))
    obtain rfl := f2 (hall 2 (by decide))
    obtain rfl := f3 (hall 3 (by decide))
    obtain rfl := f5 (hall 5 (by decide))
    obtain rfl := f6 (hall 6 (by decide))
    clear f0 f1 f2 f3 f5 f6 hall
    have HFP := Lib.hid (show _ ∧ _ from ⟨g0, g1⟩)
    have hcp := blk_cell HFP.out.2
    have hlp := blk_lt HFP.out.2
    clear g0 g1 g2
    go_wp2_with fail
    exact bodyPost_ret (v := .tuple #[.agg (acC acZ), .string X0, .bool false]) (by simp [results, Tryz.results18, go_sem, hcp, acC, acZ]) rfl ⟨X0, by rw [HR.out]; rfl, fun _ => HX0.out, HFP.out.1⟩
end Go.Proofs.YtcgembfdejjliaaGreatDoor
