/- Layer 15's known. -/
import Derived.Test.YtgnmlkomgokimaaFeedM
import Derived.Test.YtgnmlkomgokimaaFeedD
namespace Go.Proofs.Ytgnmlkomgokimaa
open Go.RowKit
set_option linter.unusedVariables false
set_option linter.unusedSimpArgs false

set_option maxRecDepth 100000 in
set_option maxHeartbeats 2000000 in
theorem feedFullNil (q : Value) (w : World) :
    Calls Try.prog 10 #[.pointer none, q] w fun r w' => r = .returned (.agg #[.int .i64 0, .int .i64 0, .int .i64 0, .int .i64 0, .int .i64 0, .int .i64 0, .int .i64 0, .string ⟨#[]⟩, .string ⟨#[]⟩, .bool false, .int .u32 0, .slice none 0 0, .slice none 0 0]) ∧ Below w.heap.size w w' := by
  have D0 : Below w.heap.size w (w.alloc (.cells #[.int .i64 0, .int .i64 0, .int .i64 0, .int .i64 0, .int .i64 0, .int .i64 0, .int .i64 0, .string ⟨#[]⟩, .string ⟨#[]⟩, .bool false, .int .u32 0, .slice none 0 0, .slice none 0 0] 38)) := (Below.refl _ _).alloc (Nat.le_refl _) _
  have HX := Lib.hid (blk_new w #[.int .i64 0, .int .i64 0, .int .i64 0, .int .i64 0, .int .i64 0, .int .i64 0, .int .i64 0, .string ⟨#[]⟩, .string ⟨#[]⟩, .bool false, .int .u32 0, .slice none 0 0, .slice none 0 0] 38)
  have HB0 := Lib.hid D0
  clear D0
  go_enter Try.func10, Try.ntmps10
  go_upto_region 1 with (fail)
  obtain ⟨r, hr⟩ : ∃ r, w.heap.size = r := ⟨_, rfl⟩
  rw [hr] at HX
  try rw [hr]
  have HRr := Lib.hid (show w.heap.size ≤ r by omega)
  clear hr
  generalize (w.alloc (.cells #[.int .i64 0, .int .i64 0, .int .i64 0, .int .i64 0, .int .i64 0, .int .i64 0, .int .i64 0, .string ⟨#[]⟩, .string ⟨#[]⟩, .bool false, .int .u32 0, .slice none 0 0, .slice none 0 0] 38)) = w0 at *
  have hk2 := blk_cell HX.out
  have hf2 := blk_free HX.out
  have hl2 := blk_lt HX.out
  go_wp2_with fail
  exact bodyPost_ret (v := .agg #[.int .i64 0, .int .i64 0, .int .i64 0, .int .i64 0, .int .i64 0, .int .i64 0, .int .i64 0, .string ⟨#[]⟩, .string ⟨#[]⟩, .bool false, .int .u32 0, .slice none 0 0, .slice none 0 0]) (by have hk2 := blk_cell (blk_fill13 (v0 := .int .i64 0) (v1 := .int .i64 0) (v2 := .int .i64 0) (v3 := .int .i64 0) (v4 := .int .i64 0) (v5 := .int .i64 0) (v6 := .int .i64 0) (v7 := .string ⟨#[]⟩) (v8 := .string ⟨#[]⟩) (v9 := .bool false) (v10 := .int .u32 0) (v11 := .slice none 0 0) (v12 := .slice none 0 0) HX.out rfl); simp [results, Try.results10, go_sem, hk2]) rfl ⟨rfl, below_fill13 HB0.out HRr.out⟩

theorem field_zero (w : World) : (Instr.field 38 (.agg #[.int .i64 0, .int .i64 0, .int .i64 0, .int .i64 0, .int .i64 0, .int .i64 0, .int .i64 0, .string ⟨#[]⟩, .string ⟨#[]⟩, .bool false, .int .u32 0, .slice none 0 0, .slice none 0 0]) 0).run Try.prog w = .ok (.int .i64 0) w := by
  unfold Instr.field
  simp [go_sem, asAgg, Try.underlying38]
theorem field_cards (full : Bool) (q s : Int) (a : Option Addr) (n c : Nat) (w : World) : (Instr.field 38 (.agg #[.int .i64 2, .int .i64 5, .int .i64 0, .int .i64 0, .int .i64 0, .int .i64 0, .int .i64 q, .string ⟨#[]⟩, .string ⟨#[]⟩, .bool full, .int .u32 s, .slice a n c, .slice none 0 0]) 10).run Try.prog w = .ok (.slice a n c) w := by
  unfold Instr.field
  simp [go_sem, asAgg, Try.underlying38]
set_option maxRecDepth 100000 in
set_option maxHeartbeats 4000000 in
theorem law15known (w : World) :
    Calls Try.prog 8 #[] w fun r w' => r = .returned (.bool true) ∧ Below w.heap.size w w' := by
  go_enter Try.func8, Try.ntmps8
  go_wp2_with fail
  refine (shNew 4 _ (by omega)).mono ?_
  rintro e w1 ⟨rfl, hs1, hb1⟩
  obtain ⟨sb, hsb⟩ : ∃ sb, w.heap.size = sb := ⟨_, rfl⟩
  rw [hsb] at hs1 ⊢
  have HSB := Lib.hid (show w.heap.size ≤ sb by omega)
  have H1 := Lib.hid hs1
  have HB1 := Lib.hid hb1
  clear hs1 hb1 hsb
  go_wp2_with fail
  refine (recentNew _).mono ?_
  rintro e w2 ⟨rfl, hr2, hb2⟩
  obtain ⟨rb, hrb⟩ : ∃ rb, w1.heap.size = rb := ⟨_, rfl⟩
  rw [hrb] at hr2 ⊢
  have HRB := Lib.hid (show w.heap.size ≤ rb from by rw [← hrb]; exact HB1.out.size)
  have HQ2 := Lib.hid hr2
  have HS2 := Lib.hid (H1.out.ext hb2)
  have HB2 := Lib.hid (ext_trans HB1.out hb2)
  clear hr2 hb2 hrb H1 HB1
  go_wp2_with fail
  refine (shPutNew sb 4 [] (⟨⟨⟨#[97]⟩, ⟨#[98]⟩, 1, 0, 5, 0, 0, 0, false⟩, 0⟩ : En) _ HS2.out List.Pairwise.nil (by simp) rfl (by simp)).mono ?_
  rintro e w3 ⟨rfl, hs3, hr3⟩
  obtain ⟨es, hes⟩ : ∃ es, insAt [] (low (enK (⟨⟨⟨#[97]⟩, ⟨#[98]⟩, 1, 0, 5, 0, 0, 0, false⟩, 0⟩ : En)) []) (⟨⟨⟨#[97]⟩, ⟨#[98]⟩, 1, 0, 5, 0, 0, 0, false⟩, 0⟩ : En) = es := ⟨_, rfl⟩
  have hes2 : es = [(⟨⟨⟨#[97]⟩, ⟨#[98]⟩, 1, 0, 5, 0, 0, 0, false⟩, 0⟩ : En)] := by rw [← hes]; rfl
  rw [hes] at hs3
  have HAS := Lib.hid (show Asc es from by rw [hes2]; exact List.pairwise_singleton _ _)
  have HLE := Lib.hid (show es.length = 1 from by rw [hes2]; rfl)
  have HC := Lib.hid (show ∀ x ∈ es, CdS x.c from fun x hx => by rw [hes2] at hx; simp at hx; subst hx; exact ⟨by decide, by decide⟩)
  have HSL := Lib.hid (show (seenL (es.map (·.c))).length = 1 from by rw [hes2]; rfl)
  have HS3 := Lib.hid hs3
  have HB3 := Lib.hid (HB2.out.trans (hr3.below HSB.out HB2.out.size))
  have HQ3 := Lib.hid (show RecAt w3 rb 0 [] from by
    obtain ⟨a, c, k1, -⟩ := HS2.out
    exact HQ2.out.rimT hr3 k1 (by decide) (nostr2 (by intro s; simp) (by intro s; simp)))
  clear hs3 hr3 hes hes2 HS2 HQ2 HB2
  go_wp2_with fail
  refine (recentAdd rb 0 [] ((⟨#[97]⟩, ⟨#[98]⟩) : Ky) _ HQ3.out (by simp) (by omega)).mono ?_
  rintro e w4 ⟨rfl, hr4, hb4⟩
  obtain ⟨ks, hks⟩ : ∃ ks, addK [] ((⟨#[97]⟩, ⟨#[98]⟩) : Ky) = ks := ⟨_, rfl⟩
  have hks2 : ks = [((⟨#[97]⟩, ⟨#[98]⟩) : Ky)] := by rw [← hks]; simp [addK]
  rw [hks] at hr4
  have HKL := Lib.hid (show ks.length = 1 from by rw [hks2]; rfl)
  have HKD := Lib.hid (show ks.drop (ks.length - 0) = [] from by rw [hks2]; rfl)
  have HQ4 := Lib.hid (show RecAt w4 rb 1 ks from hr4)
  have HB4 := Lib.hid (HB3.out.trans ((Rim.ofBar hb4).below HRB.out HB3.out.size))
  have HS4 := Lib.hid (show ShP w4 sb 4 es from by
    obtain ⟨a, c, k1, -⟩ := HQ3.out
    exact HS3.out.rimT (Rim.ofBar hb4) k1 (by decide) (by decide))
  clear hr4 hb4 hks hks2 HS3 HQ3 HB3
  go_wp2_with fail
  refine (feedFull sb rb 1 4 es ks _ HS4.out HQ4.out (by have := HLE.out; omega) HC.out).mono ?_
  rintro e w5 ⟨va, k, vc, rfl, hk, hvc, hvm, hvat, hb⟩
  obtain ⟨S, hS⟩ : ∃ S, sm (sealB (es.map (·.c))) = S := ⟨_, rfl⟩
  have HSM := Lib.hid hS
  rw [hS]
  obtain rfl : k = 1 := by rw [← hk]; exact HSL.out
  have HS5 := Lib.hid (HS4.out.ext hb)
  have HQ5 := Lib.hid (HQ4.out.ext hb)
  have HB5 := Lib.hid (ext_trans HB4.out hb)
  clear hb hk hvc hvm hvat hS HS4 HQ4 HB4
  go_wp2_with fail
  refine (feedDeltaNo sb rb 1 (-1) 4 es ks _ HS5.out HQ5.out HAS.out (by have := HLE.out; omega) HC.out (by omega) (by omega)).mono ?_
  rintro e w6 ⟨vb, k', vd, rfl, hk, hvc, hvm, hvat, hb⟩
  rw [HSM.out]
  obtain rfl : k' = 1 := by rw [← hk]; exact HSL.out
  have HS6 := Lib.hid (HS5.out.ext hb)
  have HQ6 := Lib.hid (HQ5.out.ext hb)
  have HB6 := Lib.hid (ext_trans HB5.out hb)
  clear hb hk hvc hvm hvat HS5 HQ5 HB5
  go_wp2_with fail
  refine (feedDelta sb rb 1 1 4 es ks _ HS6.out HQ6.out HAS.out (by have := HLE.out; omega) HC.out (by omega) 0 [] [] (by rw [HKL.out]; rfl) (by omega) (by omega) (by omega) HKD.out rfl (by simp)).mono ?_
  rintro e w7 ⟨ve, k'', vf, rfl, hk, hvc, hvm, hvat, hb⟩
  rw [HSM.out]
  obtain rfl : k'' = 0 := by rw [← hk]; rfl
  have HQ7 := Lib.hid (HQ6.out.ext hb)
  have HB7 := Lib.hid (ext_trans HB6.out hb)
  clear hb hk hvc hvm hvat HS6 HQ6 HB6
  have D8 : Below w7.heap.size w7 (((w7.alloc (.cells #[.int .i64 2, .int .i64 5, .int .i64 0, .int .i64 0, .int .i64 0, .int .i64 0, .int .i64 1, .string ⟨#[]⟩, .string ⟨#[]⟩, .bool true, .int .u32 S, .slice va 1 vc, .slice none 0 0] 38)).alloc (.cells #[.int .i64 2, .int .i64 5, .int .i64 0, .int .i64 0, .int .i64 0, .int .i64 0, .int .i64 1, .string ⟨#[]⟩, .string ⟨#[]⟩, .bool true, .int .u32 S, .slice vb 1 vd, .slice none 0 0] 38)).alloc (.cells #[.int .i64 2, .int .i64 5, .int .i64 0, .int .i64 0, .int .i64 0, .int .i64 0, .int .i64 1, .string ⟨#[]⟩, .string ⟨#[]⟩, .bool false, .int .u32 S, .slice ve 0 vf, .slice none 0 0] 38)) := (((Below.refl _ _).alloc (Nat.le_refl _) _).alloc (by simp) _).alloc (by simp; omega) _
  have HB8 := Lib.hid (ext_trans HB7.out D8)
  have HF1 := Lib.hid (blk_alloc (blk_alloc (blk_new w7 #[.int .i64 2, .int .i64 5, .int .i64 0, .int .i64 0, .int .i64 0, .int .i64 0, .int .i64 1, .string ⟨#[]⟩, .string ⟨#[]⟩, .bool true, .int .u32 S, .slice va 1 vc, .slice none 0 0] 38) (.cells #[.int .i64 2, .int .i64 5, .int .i64 0, .int .i64 0, .int .i64 0, .int .i64 0, .int .i64 1, .string ⟨#[]⟩, .string ⟨#[]⟩, .bool true, .int .u32 S, .slice vb 1 vd, .slice none 0 0] 38)) (.cells #[.int .i64 2, .int .i64 5, .int .i64 0, .int .i64 0, .int .i64 0, .int .i64 0, .int .i64 1, .string ⟨#[]⟩, .string ⟨#[]⟩, .bool false, .int .u32 S, .slice ve 0 vf, .slice none 0 0] 38))
  have HF2 := Lib.hid (blk_alloc (show ((w7.alloc (.cells #[.int .i64 2, .int .i64 5, .int .i64 0, .int .i64 0, .int .i64 0, .int .i64 0, .int .i64 1, .string ⟨#[]⟩, .string ⟨#[]⟩, .bool true, .int .u32 S, .slice va 1 vc, .slice none 0 0] 38)).alloc (.cells #[.int .i64 2, .int .i64 5, .int .i64 0, .int .i64 0, .int .i64 0, .int .i64 0, .int .i64 1, .string ⟨#[]⟩, .string ⟨#[]⟩, .bool true, .int .u32 S, .slice vb 1 vd, .slice none 0 0] 38)).heap[w7.heap.size + 1]? = some (.cells #[.int .i64 2, .int .i64 5, .int .i64 0, .int .i64 0, .int .i64 0, .int .i64 0, .int .i64 1, .string ⟨#[]⟩, .string ⟨#[]⟩, .bool true, .int .u32 S, .slice vb 1 vd, .slice none 0 0] 38 (0, 0)) from blk_new_at (by simp) _ _) (.cells #[.int .i64 2, .int .i64 5, .int .i64 0, .int .i64 0, .int .i64 0, .int .i64 0, .int .i64 1, .string ⟨#[]⟩, .string ⟨#[]⟩, .bool false, .int .u32 S, .slice ve 0 vf, .slice none 0 0] 38))
  have HF3 := Lib.hid (show (((w7.alloc (.cells #[.int .i64 2, .int .i64 5, .int .i64 0, .int .i64 0, .int .i64 0, .int .i64 0, .int .i64 1, .string ⟨#[]⟩, .string ⟨#[]⟩, .bool true, .int .u32 S, .slice va 1 vc, .slice none 0 0] 38)).alloc (.cells #[.int .i64 2, .int .i64 5, .int .i64 0, .int .i64 0, .int .i64 0, .int .i64 0, .int .i64 1, .string ⟨#[]⟩, .string ⟨#[]⟩, .bool true, .int .u32 S, .slice vb 1 vd, .slice none 0 0] 38)).alloc (.cells #[.int .i64 2, .int .i64 5, .int .i64 0, .int .i64 0, .int .i64 0, .int .i64 0, .int .i64 1, .string ⟨#[]⟩, .string ⟨#[]⟩, .bool false, .int .u32 S, .slice ve 0 vf, .slice none 0 0] 38)).heap[w7.heap.size + 1 + 1]? = some (.cells #[.int .i64 2, .int .i64 5, .int .i64 0, .int .i64 0, .int .i64 0, .int .i64 0, .int .i64 1, .string ⟨#[]⟩, .string ⟨#[]⟩, .bool false, .int .u32 S, .slice ve 0 vf, .slice none 0 0] 38 (0, 0)) from blk_new_at (by simp) _ _)
  clear D8 HB7 HQ7
  go_upto_region 7 with (fail)
  obtain ⟨p1, hp1⟩ : ∃ p1, w7.heap.size = p1 := ⟨_, rfl⟩
  rw [hp1] at HF1 HF2 HF3
  try rw [hp1]
  obtain ⟨p2, hp2⟩ : ∃ p2, p1 + 1 = p2 := ⟨_, rfl⟩
  rw [hp2] at HF2 HF3
  try rw [hp2]
  obtain ⟨p3, hp3⟩ : ∃ p3, p2 + 1 = p3 := ⟨_, rfl⟩
  rw [hp3] at HF3
  try rw [hp3]
  clear hp1 hp2 hp3
  generalize (((w7.alloc (.cells #[.int .i64 2, .int .i64 5, .int .i64 0, .int .i64 0, .int .i64 0, .int .i64 0, .int .i64 1, .string ⟨#[]⟩, .string ⟨#[]⟩, .bool true, .int .u32 S, .slice va 1 vc, .slice none 0 0] 38)).alloc (.cells #[.int .i64 2, .int .i64 5, .int .i64 0, .int .i64 0, .int .i64 0, .int .i64 0, .int .i64 1, .string ⟨#[]⟩, .string ⟨#[]⟩, .bool true, .int .u32 S, .slice vb 1 vd, .slice none 0 0] 38)).alloc (.cells #[.int .i64 2, .int .i64 5, .int .i64 0, .int .i64 0, .int .i64 0, .int .i64 0, .int .i64 1, .string ⟨#[]⟩, .string ⟨#[]⟩, .bool false, .int .u32 S, .slice ve 0 vf, .slice none 0 0] 38)) = w8 at *
  have hk1 := blk_cell HF1.out
  have hl1 := blk_lt HF1.out
  have hk2 := blk_cell HF2.out
  have hl2 := blk_lt HF2.out
  have hk3 := blk_cell HF3.out
  have hl3 := blk_lt HF3.out
  have hfz := fun w => field_zero w
  go_wp2_with fail
  refine (feedFullNil _ _).mono ?_
  rintro e w9 ⟨rfl, hb⟩
  have HB9 := Lib.hid (ext_trans HB8.out hb)
  clear hb hk1 hl1 hk2 hl2 hk3 hl3 HF1 HF2 HF3 HB8
  go_wp2
  go_ret
  exact ⟨rfl, HB9.out⟩

end Go.Proofs.Ytgnmlkomgokimaa
