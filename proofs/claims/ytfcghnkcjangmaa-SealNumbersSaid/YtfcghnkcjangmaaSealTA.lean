/- Layer 14's same. -/
import Derived.Test.YtfcghnkcjangmaaSealR
import Derived.Test.YtfcghnkcjangmaaSplit
namespace Go.Proofs.Ytfcghnkcjangmaa
open Go.RowKit
set_option linter.unusedVariables false
set_option linter.unusedSimpArgs false

set_option maxRecDepth 100000 in
set_option maxHeartbeats 4000000 in
theorem law14same_A (a1 a2 : Option Addr) (n1 n2 c1 c2 : Nat) (l1 l2 : List Cd) (w : World) (h1 : CAt w a1 l1) (h2 : CAt w a2 l2) (hl1 : l1.length = n1) (hl2 : l2.length = n2) (hn1 : n1 ≤ 19) (hn2 : n2 ≤ 19) (hc1 : n1 ≤ c1) (hc2 : n2 ≤ c2) (hs1 : ∀ x ∈ l1, CdS x) (hs2 : ∀ x ∈ l2, CdS x) (X : List Int) (hX1 : sealB l1 = X) (hX2 : sealB l2 = X) :
    Calls Try.prog 7 #[.slice a1 n1 c1, .slice a2 n2 c2] w fun e w' => e = .returned (.bool true) ∧ Below w.heap.size w w' := by
  have D0 : Below w.heap.size w w.drew := (Below.refl _ _).drew
  have HL0 := Lib.hid (h1.ext D0)
  have HM0 := Lib.hid (h2.ext D0)
  have HB0 := Lib.hid D0
  have HN1 := Lib.hid hl1
  have HN2 := Lib.hid hl2
  have HS1 := Lib.hid hs1
  have HS2 := Lib.hid hs2
  clear h1 h2 hl1 hl2 hs1 hs2 D0
  have HX1 := Lib.hid hX1
  have HX2 := Lib.hid hX2
  have HCL := Lib.hid (show clash (sealB l1) (sealB l2) = false from by rw [hX1, hX2]; simp [clash])
  obtain ⟨sx, hsx⟩ : ∃ s, sm X = s := ⟨_, rfl⟩
  obtain ⟨SX, hSX⟩ : ∃ S, strOfNums X = S := ⟨_, rfl⟩
  have Hsx := Lib.hid hsx
  have HSX := Lib.hid hSX
  clear hX1 hX2 hsx hSX
  go_enter Try.func7, Try.ntmps7
  go_wp2_with fail
  haveI hI0 : Nonempty (In (fun _ : World => True)) := ⟨⟨w, trivial⟩⟩
  refine Hist.wp_region_hist (fun _ => True) (by kernel_rfl) (by kernel_rfl) (by kernel_rfl) trivial ?_
  generalize w.drew = x0 at *
  repeat (first | (refine Hist.wpG_plain 0 _ (by decide +kernel) rfl (by rfl) (by rfl) (fun K hK => ?_); go_big_quiet_op; refine hK _ ?_; clear hK K) | (refine Hist.wpG_skip (by rfl) (by rfl) ?_; simp only [Act.put, List.setIfInBounds_toArray, List.set_cons_succ, List.set_cons_zero]))
  refine Hist.wpG_call (by rfl) (by rfl) (fun K hK => ?_)
  go_big_op
  refine (sealBytes a1 n1 c1 l1 _ HL0.out HN1.out hn1 hc1 HS1.out).mono ?_
  rintro e x1 ⟨v, rfl, ho, hb⟩
  obtain ⟨ra1, rc1, rfl, -, -, -, hr1, -, -⟩ := own_read ho
  rw [HX1.out] at hr1 ⊢
  have HB1 := Lib.hid (ext_trans HB0.out hb)
  have HL1 := Lib.hid (HL0.out.ext hb)
  have HM1 := Lib.hid (HM0.out.ext hb)
  have R1_1 := Lib.hid hr1
  have F1 : ∀ g : In (fun Z : World => BAt Z ra1 X), (convert 42 9 (.slice ra1 (X).length rc1)).run Try.prog g.w = .ok (.string SX) g.w := fun g => by have := bytes_text (c := rc1) g.w g.h rfl; rw [HSX.out] at this; exact this
  haveI hI1 : Nonempty (In (fun Z : World => BAt Z ra1 X)) := ⟨⟨x1, R1_1.out⟩⟩
  refine hK _ _ ⟨(fun Z : World => BAt Z ra1 X), (by simp only [List.cons_append, List.nil_append, List.forall_mem_cons]; repeat' (first | exact R1_1.out | (intro _ h; cases h; done) | (exact trivial) | constructor)), ?_⟩
  clear hK K ho hb hr1
  clear HB0 HL0 HM0
  repeat (first | (refine Hist.wpG_plain 1 _ (by decide +kernel) rfl (by rfl) (by rfl) (fun K hK => ?_); go_big_quiet_op; refine hK _ ?_; clear hK K) | (refine Hist.wpG_plain 0 _ (by decide +kernel) rfl (by rfl) (by rfl) (fun K hK => ?_); go_big_quiet_op; refine hK _ ?_; clear hK K) | (refine Hist.wpG_skip (by rfl) (by rfl) ?_; simp only [Act.put, List.setIfInBounds_toArray, List.set_cons_succ, List.set_cons_zero]))
  refine Hist.wpG_call (by rfl) (by rfl) (fun K hK => ?_)
  go_big_op
  refine (refBytes9 a1 n1 c1 l1 _ HL1.out HN1.out hn1 hc1 HS1.out).mono ?_
  rintro e x2 ⟨v, rfl, ho, hb⟩
  obtain ⟨ra2, rc2, rfl, -, -, -, hr2, -, -⟩ := own_read ho
  rw [HX1.out] at hr2 ⊢
  have HB2 := Lib.hid (ext_trans HB1.out hb)
  have HL2 := Lib.hid (HL1.out.ext hb)
  have HM2 := Lib.hid (HM1.out.ext hb)
  have R1_2 := Lib.hid (BAt.ext R1_1.out hb)
  have R2_2 := Lib.hid hr2
  have F2 : ∀ g : In (fun Z : World => BAt Z ra2 X), (convert 42 9 (.slice ra2 (X).length rc2)).run Try.prog g.w = .ok (.string SX) g.w := fun g => by have := bytes_text (c := rc2) g.w g.h rfl; rw [HSX.out] at this; exact this
  haveI hI2 : Nonempty (In (fun Z : World => BAt Z ra2 X)) := ⟨⟨x2, R2_2.out⟩⟩
  refine hK _ _ ⟨(fun Z : World => BAt Z ra2 X), (by simp only [List.cons_append, List.nil_append, List.forall_mem_cons]; repeat' (first | exact R1_2.out | exact R2_2.out | (intro _ h; cases h; done) | (exact trivial) | constructor)), ?_⟩
  clear hK K ho hb hr2
  clear HB1 HL1 HM1 R1_1
  repeat (first | (refine Hist.wpG_plain 2 _ (by decide +kernel) rfl (by rfl) (by rfl) (fun K hK => ?_); go_big_quiet_op; refine hK _ ?_; clear hK K) | (refine Hist.wpG_plain 1 _ (by decide +kernel) rfl (by rfl) (by rfl) (fun K hK => ?_); go_big_quiet_op; refine hK _ ?_; clear hK K) | (refine Hist.wpG_plain 0 _ (by decide +kernel) rfl (by rfl) (by rfl) (fun K hK => ?_); go_big_quiet_op; refine hK _ ?_; clear hK K) | (refine Hist.wpG_skip (by rfl) (by rfl) ?_; simp only [Act.put, List.setIfInBounds_toArray, List.set_cons_succ, List.set_cons_zero]))
  refine Hist.wpG_call (by rfl) (by rfl) (fun K hK => ?_)
  go_big_op
  refine (sealOf a1 n1 c1 l1 _ HL2.out HN1.out hn1 hc1 HS1.out).mono ?_
  rintro e x3 ⟨rfl, hb⟩
  rw [HX1.out, Hsx.out]
  have HB3 := Lib.hid (ext_trans HB2.out hb)
  have HL3 := Lib.hid (HL2.out.ext hb)
  have HM3 := Lib.hid (HM2.out.ext hb)
  have R1_3 := Lib.hid (BAt.ext R1_2.out hb)
  have R2_3 := Lib.hid (BAt.ext R2_2.out hb)
  refine hK _ _ ⟨fun _ => True, (by simp only [List.cons_append, List.nil_append, List.forall_mem_cons]; repeat' (first | exact R1_3.out | exact R2_3.out | (intro _ h; cases h; done) | (exact trivial) | constructor)), ?_⟩
  clear hK K hb
  clear HB2 HL2 HM2 R1_2 R2_2
  repeat (first | (refine Hist.wpG_plain 3 _ (by decide +kernel) rfl (by rfl) (by rfl) (fun K hK => ?_); go_big_quiet_op; refine hK _ ?_; clear hK K) | (refine Hist.wpG_plain 2 _ (by decide +kernel) rfl (by rfl) (by rfl) (fun K hK => ?_); go_big_quiet_op; refine hK _ ?_; clear hK K) | (refine Hist.wpG_plain 1 _ (by decide +kernel) rfl (by rfl) (by rfl) (fun K hK => ?_); go_big_quiet_op; refine hK _ ?_; clear hK K) | (refine Hist.wpG_plain 0 _ (by decide +kernel) rfl (by rfl) (by rfl) (fun K hK => ?_); go_big_quiet_op; refine hK _ ?_; clear hK K) | (refine Hist.wpG_skip (by rfl) (by rfl) ?_; simp only [Act.put, List.setIfInBounds_toArray, List.set_cons_succ, List.set_cons_zero]))
  refine Hist.wpG_call (by rfl) (by rfl) (fun K hK => ?_)
  go_big_op
  refine (refSeal9 a1 n1 c1 l1 _ HL3.out HN1.out hn1 hc1 HS1.out).mono ?_
  rintro e x4 ⟨rfl, hb⟩
  rw [HX1.out, Hsx.out]
  have HB4 := Lib.hid (ext_trans HB3.out hb)
  have HL4 := Lib.hid (HL3.out.ext hb)
  have HM4 := Lib.hid (HM3.out.ext hb)
  have R1_4 := Lib.hid (BAt.ext R1_3.out hb)
  have R2_4 := Lib.hid (BAt.ext R2_3.out hb)
  refine hK _ _ ⟨fun _ => True, (by simp only [List.cons_append, List.nil_append, List.forall_mem_cons]; repeat' (first | exact R1_4.out | exact R2_4.out | (intro _ h; cases h; done) | (exact trivial) | constructor)), ?_⟩
  clear hK K hb
  clear HB3 HL3 HM3 R1_3 R2_3
  repeat (first | (refine Hist.wpG_plain 4 _ (by decide +kernel) rfl (by rfl) (by rfl) (fun K hK => ?_); go_big_quiet_op; refine hK _ ?_; clear hK K) | (refine Hist.wpG_plain 3 _ (by decide +kernel) rfl (by rfl) (by rfl) (fun K hK => ?_); go_big_quiet_op; refine hK _ ?_; clear hK K) | (refine Hist.wpG_plain 2 _ (by decide +kernel) rfl (by rfl) (by rfl) (fun K hK => ?_); go_big_quiet_op; refine hK _ ?_; clear hK K) | (refine Hist.wpG_plain 1 _ (by decide +kernel) rfl (by rfl) (by rfl) (fun K hK => ?_); go_big_quiet_op; refine hK _ ?_; clear hK K) | (refine Hist.wpG_plain 0 _ (by decide +kernel) rfl (by rfl) (by rfl) (fun K hK => ?_); go_big_quiet_op; refine hK _ ?_; clear hK K) | (refine Hist.wpG_skip (by rfl) (by rfl) ?_; simp only [Act.put, List.setIfInBounds_toArray, List.set_cons_succ, List.set_cons_zero]))
  refine Hist.wpG_call (by rfl) (by rfl) (fun K hK => ?_)
  go_big_op
  refine (sealSeen a1 n1 c1 l1 _ HL4.out HN1.out hn1 hc1).mono ?_
  rintro e x5 ⟨v5, rfl, ho5, hb⟩
  obtain ⟨a5, c5, rfl, h51, h52, h53, -, -⟩ := ho5.read
  have HC5 := Lib.hid h53
  clear ho5 h53
  have HB5 := Lib.hid (ext_trans HB4.out hb)
  have HL5 := Lib.hid (HL4.out.ext hb)
  have HM5 := Lib.hid (HM4.out.ext hb)
  have R1_5 := Lib.hid (BAt.ext R1_4.out hb)
  have R2_5 := Lib.hid (BAt.ext R2_4.out hb)
  refine hK _ _ ⟨fun _ => True, (by simp only [List.cons_append, List.nil_append, List.forall_mem_cons]; repeat' (first | exact R1_5.out | exact R2_5.out | (intro _ h; cases h; done) | (exact trivial) | constructor)), ?_⟩
  clear hK K hb
  clear HB4 HL4 HM4 R1_4 R2_4
  repeat (first | (refine Hist.wpG_plain 5 _ (by decide +kernel) rfl (by rfl) (by rfl) (fun K hK => ?_); go_big_quiet_op; refine hK _ ?_; clear hK K) | (refine Hist.wpG_plain 4 _ (by decide +kernel) rfl (by rfl) (by rfl) (fun K hK => ?_); go_big_quiet_op; refine hK _ ?_; clear hK K) | (refine Hist.wpG_plain 3 _ (by decide +kernel) rfl (by rfl) (by rfl) (fun K hK => ?_); go_big_quiet_op; refine hK _ ?_; clear hK K) | (refine Hist.wpG_plain 2 _ (by decide +kernel) rfl (by rfl) (by rfl) (fun K hK => ?_); go_big_quiet_op; refine hK _ ?_; clear hK K) | (refine Hist.wpG_plain 1 _ (by decide +kernel) rfl (by rfl) (by rfl) (fun K hK => ?_); go_big_quiet_op; refine hK _ ?_; clear hK K) | (refine Hist.wpG_plain 0 _ (by decide +kernel) rfl (by rfl) (by rfl) (fun K hK => ?_); go_big_quiet_op; refine hK _ ?_; clear hK K) | (refine Hist.wpG_skip (by rfl) (by rfl) ?_; simp only [Act.put, List.setIfInBounds_toArray, List.set_cons_succ, List.set_cons_zero]))
  refine Hist.wpG_call (by rfl) (by rfl) (fun K hK => ?_)
  go_big_op
  refine (refSeen9 a1 n1 c1 l1 _ HL5.out HN1.out (by omega) hc1).mono ?_
  rintro e x6 ⟨v6, rfl, ho6, hb⟩
  obtain ⟨a6, c6, rfl, h61, h62, h63, -, -⟩ := ho6.read
  have HC6 := Lib.hid h63
  have HC5' := Lib.hid (HC5.out.ext hb)
  clear ho6 h63
  have HB6 := Lib.hid (ext_trans HB5.out hb)
  have HL6 := Lib.hid (HL5.out.ext hb)
  have HM6 := Lib.hid (HM5.out.ext hb)
  have R1_6 := Lib.hid (BAt.ext R1_5.out hb)
  have R2_6 := Lib.hid (BAt.ext R2_5.out hb)
  refine hK _ _ ⟨fun _ => True, (by simp only [List.cons_append, List.nil_append, List.forall_mem_cons]; repeat' (first | exact R1_6.out | exact R2_6.out | (intro _ h; cases h; done) | (exact trivial) | constructor)), ?_⟩
  clear hK K hb
  clear HB5 HL5 HM5 R1_5 R2_5
  repeat (first | (refine Hist.wpG_plain 6 _ (by decide +kernel) rfl (by rfl) (by rfl) (fun K hK => ?_); go_big_quiet_op; refine hK _ ?_; clear hK K) | (refine Hist.wpG_plain 5 _ (by decide +kernel) rfl (by rfl) (by rfl) (fun K hK => ?_); go_big_quiet_op; refine hK _ ?_; clear hK K) | (refine Hist.wpG_plain 4 _ (by decide +kernel) rfl (by rfl) (by rfl) (fun K hK => ?_); go_big_quiet_op; refine hK _ ?_; clear hK K) | (refine Hist.wpG_plain 3 _ (by decide +kernel) rfl (by rfl) (by rfl) (fun K hK => ?_); go_big_quiet_op; refine hK _ ?_; clear hK K) | (refine Hist.wpG_plain 2 _ (by decide +kernel) rfl (by rfl) (by rfl) (fun K hK => ?_); go_big_quiet_op; refine hK _ ?_; clear hK K) | (refine Hist.wpG_plain 1 _ (by decide +kernel) rfl (by rfl) (by rfl) (fun K hK => ?_); go_big_quiet_op; refine hK _ ?_; clear hK K) | (refine Hist.wpG_plain 0 _ (by decide +kernel) rfl (by rfl) (by rfl) (fun K hK => ?_); go_big_quiet_op; refine hK _ ?_; clear hK K) | (refine Hist.wpG_skip (by rfl) (by rfl) ?_; simp only [Act.put, List.setIfInBounds_toArray, List.set_cons_succ, List.set_cons_zero]))
  refine Hist.wpG_call (by rfl) (by rfl) (fun K hK => ?_)
  go_big_op
  refine (same5 a5 a6 (seenL l1).length c5 c6 (seenL l1) _ HC5'.out HC6.out rfl h51 h61 h52 h62).mono ?_
  rintro e x7 ⟨rfl, hb⟩
  have HB7 := Lib.hid (ext_trans HB6.out hb)
  have HL7 := Lib.hid (HL6.out.ext hb)
  have HM7 := Lib.hid (HM6.out.ext hb)
  have R1_7 := Lib.hid (BAt.ext R1_6.out hb)
  have R2_7 := Lib.hid (BAt.ext R2_6.out hb)
  refine hK _ _ ⟨fun _ => True, (by simp only [List.cons_append, List.nil_append, List.forall_mem_cons]; repeat' (first | exact R1_7.out | exact R2_7.out | (intro _ h; cases h; done) | (exact trivial) | constructor)), ?_⟩
  clear hK K hb
  clear HB6 HL6 HM6 R1_6 R2_6
  repeat (first | (refine Hist.wpG_plain 7 _ (by decide +kernel) rfl (by rfl) (by rfl) (fun K hK => ?_); go_big_quiet_op; refine hK _ ?_; clear hK K) | (refine Hist.wpG_plain 6 _ (by decide +kernel) rfl (by rfl) (by rfl) (fun K hK => ?_); go_big_quiet_op; refine hK _ ?_; clear hK K) | (refine Hist.wpG_plain 5 _ (by decide +kernel) rfl (by rfl) (by rfl) (fun K hK => ?_); go_big_quiet_op; refine hK _ ?_; clear hK K) | (refine Hist.wpG_plain 4 _ (by decide +kernel) rfl (by rfl) (by rfl) (fun K hK => ?_); go_big_quiet_op; refine hK _ ?_; clear hK K) | (refine Hist.wpG_plain 3 _ (by decide +kernel) rfl (by rfl) (by rfl) (fun K hK => ?_); go_big_quiet_op; refine hK _ ?_; clear hK K) | (refine Hist.wpG_plain 2 _ (by decide +kernel) rfl (by rfl) (by rfl) (fun K hK => ?_); go_big_quiet_op; refine hK _ ?_; clear hK K) | (refine Hist.wpG_plain 1 _ (by decide +kernel) rfl (by rfl) (by rfl) (fun K hK => ?_); go_big_quiet_op; refine hK _ ?_; clear hK K) | (refine Hist.wpG_plain 0 _ (by decide +kernel) rfl (by rfl) (by rfl) (fun K hK => ?_); go_big_quiet_op; refine hK _ ?_; clear hK K) | (refine Hist.wpG_skip (by rfl) (by rfl) ?_; simp only [Act.put, List.setIfInBounds_toArray, List.set_cons_succ, List.set_cons_zero]))
  refine Hist.wpG_call (by rfl) (by rfl) (fun K hK => ?_)
  go_big_op
  refine (sealClash a1 a2 n1 n2 c1 c2 l1 l2 _ HL7.out HM7.out HN1.out HN2.out hn1 hn2 hc1 hc2 HS1.out HS2.out).mono ?_
  rintro e x8 ⟨rfl, hb⟩
  rw [HCL.out]
  have HB8 := Lib.hid (ext_trans HB7.out hb)
  have HL8 := Lib.hid (HL7.out.ext hb)
  have HM8 := Lib.hid (HM7.out.ext hb)
  have R1_8 := Lib.hid (BAt.ext R1_7.out hb)
  have R2_8 := Lib.hid (BAt.ext R2_7.out hb)
  refine hK _ _ ⟨fun _ => True, (by simp only [List.cons_append, List.nil_append, List.forall_mem_cons]; repeat' (first | exact R1_8.out | exact R2_8.out | (intro _ h; cases h; done) | (exact trivial) | constructor)), ?_⟩
  clear hK K hb
  clear HB7 HL7 HM7 R1_7 R2_7
  repeat (first | (refine Hist.wpG_plain 8 _ (by decide +kernel) rfl (by rfl) (by rfl) (fun K hK => ?_); go_big_quiet_op; refine hK _ ?_; clear hK K) | (refine Hist.wpG_plain 7 _ (by decide +kernel) rfl (by rfl) (by rfl) (fun K hK => ?_); go_big_quiet_op; refine hK _ ?_; clear hK K) | (refine Hist.wpG_plain 6 _ (by decide +kernel) rfl (by rfl) (by rfl) (fun K hK => ?_); go_big_quiet_op; refine hK _ ?_; clear hK K) | (refine Hist.wpG_plain 5 _ (by decide +kernel) rfl (by rfl) (by rfl) (fun K hK => ?_); go_big_quiet_op; refine hK _ ?_; clear hK K) | (refine Hist.wpG_plain 4 _ (by decide +kernel) rfl (by rfl) (by rfl) (fun K hK => ?_); go_big_quiet_op; refine hK _ ?_; clear hK K) | (refine Hist.wpG_plain 3 _ (by decide +kernel) rfl (by rfl) (by rfl) (fun K hK => ?_); go_big_quiet_op; refine hK _ ?_; clear hK K) | (refine Hist.wpG_plain 2 _ (by decide +kernel) rfl (by rfl) (by rfl) (fun K hK => ?_); go_big_quiet_op; refine hK _ ?_; clear hK K) | (refine Hist.wpG_plain 1 _ (by decide +kernel) rfl (by rfl) (by rfl) (fun K hK => ?_); go_big_quiet_op; refine hK _ ?_; clear hK K) | (refine Hist.wpG_plain 0 _ (by decide +kernel) rfl (by rfl) (by rfl) (fun K hK => ?_); go_big_quiet_op; refine hK _ ?_; clear hK K) | (refine Hist.wpG_skip (by rfl) (by rfl) ?_; simp only [Act.put, List.setIfInBounds_toArray, List.set_cons_succ, List.set_cons_zero]))
  refine Hist.wpG_call (by rfl) (by rfl) (fun K hK => ?_)
  go_big_op
  refine (refSeal9 a1 n1 c1 l1 _ HL8.out HN1.out hn1 hc1 HS1.out).mono ?_
  rintro e x9 ⟨rfl, hb⟩
  rw [HX1.out, Hsx.out]
  have HB9 := Lib.hid (ext_trans HB8.out hb)
  have HL9 := Lib.hid (HL8.out.ext hb)
  have HM9 := Lib.hid (HM8.out.ext hb)
  have R1_9 := Lib.hid (BAt.ext R1_8.out hb)
  have R2_9 := Lib.hid (BAt.ext R2_8.out hb)
  refine hK _ _ ⟨fun _ => True, (by simp only [List.cons_append, List.nil_append, List.forall_mem_cons]; repeat' (first | exact R1_9.out | exact R2_9.out | (intro _ h; cases h; done) | (exact trivial) | constructor)), ?_⟩
  clear hK K hb
  clear HB8 HL8 HM8 R1_8 R2_8
  repeat (first | (refine Hist.wpG_plain 9 _ (by decide +kernel) rfl (by rfl) (by rfl) (fun K hK => ?_); go_big_quiet_op; refine hK _ ?_; clear hK K) | (refine Hist.wpG_plain 8 _ (by decide +kernel) rfl (by rfl) (by rfl) (fun K hK => ?_); go_big_quiet_op; refine hK _ ?_; clear hK K) | (refine Hist.wpG_plain 7 _ (by decide +kernel) rfl (by rfl) (by rfl) (fun K hK => ?_); go_big_quiet_op; refine hK _ ?_; clear hK K) | (refine Hist.wpG_plain 6 _ (by decide +kernel) rfl (by rfl) (by rfl) (fun K hK => ?_); go_big_quiet_op; refine hK _ ?_; clear hK K) | (refine Hist.wpG_plain 5 _ (by decide +kernel) rfl (by rfl) (by rfl) (fun K hK => ?_); go_big_quiet_op; refine hK _ ?_; clear hK K) | (refine Hist.wpG_plain 4 _ (by decide +kernel) rfl (by rfl) (by rfl) (fun K hK => ?_); go_big_quiet_op; refine hK _ ?_; clear hK K) | (refine Hist.wpG_plain 3 _ (by decide +kernel) rfl (by rfl) (by rfl) (fun K hK => ?_); go_big_quiet_op; refine hK _ ?_; clear hK K) | (refine Hist.wpG_plain 2 _ (by decide +kernel) rfl (by rfl) (by rfl) (fun K hK => ?_); go_big_quiet_op; refine hK _ ?_; clear hK K) | (refine Hist.wpG_plain 1 _ (by decide +kernel) rfl (by rfl) (by rfl) (fun K hK => ?_); go_big_quiet_op; refine hK _ ?_; clear hK K) | (refine Hist.wpG_plain 0 _ (by decide +kernel) rfl (by rfl) (by rfl) (fun K hK => ?_); go_big_quiet_op; refine hK _ ?_; clear hK K) | (refine Hist.wpG_skip (by rfl) (by rfl) ?_; simp only [Act.put, List.setIfInBounds_toArray, List.set_cons_succ, List.set_cons_zero]))
  refine Hist.wpG_call (by rfl) (by rfl) (fun K hK => ?_)
  go_big_op
  refine (refSeal9 a2 n2 c2 l2 _ HM9.out HN2.out hn2 hc2 HS2.out).mono ?_
  rintro e x10 ⟨rfl, hb⟩
  rw [HX2.out, Hsx.out]
  have HB10 := Lib.hid (ext_trans HB9.out hb)
  have HL10 := Lib.hid (HL9.out.ext hb)
  have HM10 := Lib.hid (HM9.out.ext hb)
  have R1_10 := Lib.hid (BAt.ext R1_9.out hb)
  have R2_10 := Lib.hid (BAt.ext R2_9.out hb)
  refine hK _ _ ⟨fun _ => True, (by simp only [List.cons_append, List.nil_append, List.forall_mem_cons]; repeat' (first | exact R1_10.out | exact R2_10.out | (intro _ h; cases h; done) | (exact trivial) | constructor)), ?_⟩
  clear hK K hb
  clear HB9 HL9 HM9 R1_9 R2_9
  repeat (first | (refine Hist.wpG_plain 10 _ (by decide +kernel) rfl (by rfl) (by rfl) (fun K hK => ?_); go_big_quiet_op; refine hK _ ?_; clear hK K) | (refine Hist.wpG_plain 9 _ (by decide +kernel) rfl (by rfl) (by rfl) (fun K hK => ?_); go_big_quiet_op; refine hK _ ?_; clear hK K) | (refine Hist.wpG_plain 8 _ (by decide +kernel) rfl (by rfl) (by rfl) (fun K hK => ?_); go_big_quiet_op; refine hK _ ?_; clear hK K) | (refine Hist.wpG_plain 7 _ (by decide +kernel) rfl (by rfl) (by rfl) (fun K hK => ?_); go_big_quiet_op; refine hK _ ?_; clear hK K) | (refine Hist.wpG_plain 6 _ (by decide +kernel) rfl (by rfl) (by rfl) (fun K hK => ?_); go_big_quiet_op; refine hK _ ?_; clear hK K) | (refine Hist.wpG_plain 5 _ (by decide +kernel) rfl (by rfl) (by rfl) (fun K hK => ?_); go_big_quiet_op; refine hK _ ?_; clear hK K) | (refine Hist.wpG_plain 4 _ (by decide +kernel) rfl (by rfl) (by rfl) (fun K hK => ?_); go_big_quiet_op; refine hK _ ?_; clear hK K) | (refine Hist.wpG_plain 3 _ (by decide +kernel) rfl (by rfl) (by rfl) (fun K hK => ?_); go_big_quiet_op; refine hK _ ?_; clear hK K) | (refine Hist.wpG_plain 2 _ (by decide +kernel) rfl (by rfl) (by rfl) (fun K hK => ?_); go_big_quiet_op; refine hK _ ?_; clear hK K) | (refine Hist.wpG_plain 1 _ (by decide +kernel) rfl (by rfl) (by rfl) (fun K hK => ?_); go_big_quiet_op; refine hK _ ?_; clear hK K) | (refine Hist.wpG_plain 0 _ (by decide +kernel) rfl (by rfl) (by rfl) (fun K hK => ?_); go_big_quiet_op; refine hK _ ?_; clear hK K) | (refine Hist.wpG_skip (by rfl) (by rfl) ?_; simp only [Act.put, List.setIfInBounds_toArray, List.set_cons_succ, List.set_cons_zero]))
  refine Hist.wpG_call (by rfl) (by rfl) (fun K hK => ?_)
  go_big_op
  refine (refBytes9 a1 n1 c1 l1 _ HL10.out HN1.out hn1 hc1 HS1.out).mono ?_
  rintro e x11 ⟨v, rfl, ho, hb⟩
  obtain ⟨ra11, rc11, rfl, -, -, -, hr11, -, -⟩ := own_read ho
  rw [HX1.out] at hr11 ⊢
  have HB11 := Lib.hid (ext_trans HB10.out hb)
  have HL11 := Lib.hid (HL10.out.ext hb)
  have HM11 := Lib.hid (HM10.out.ext hb)
  have R1_11 := Lib.hid (BAt.ext R1_10.out hb)
  have R2_11 := Lib.hid (BAt.ext R2_10.out hb)
  have R11_11 := Lib.hid hr11
  have F11 : ∀ g : In (fun Z : World => BAt Z ra11 X), (convert 42 9 (.slice ra11 (X).length rc11)).run Try.prog g.w = .ok (.string SX) g.w := fun g => by have := bytes_text (c := rc11) g.w g.h rfl; rw [HSX.out] at this; exact this
  haveI hI11 : Nonempty (In (fun Z : World => BAt Z ra11 X)) := ⟨⟨x11, R11_11.out⟩⟩
  refine hK _ _ ⟨(fun Z : World => BAt Z ra11 X), (by simp only [List.cons_append, List.nil_append, List.forall_mem_cons]; repeat' (first | exact R1_11.out | exact R2_11.out | exact R11_11.out | (intro _ h; cases h; done) | (exact trivial) | constructor)), ?_⟩
  clear hK K ho hb hr11
  clear HB10 HL10 HM10 R1_10 R2_10
  repeat (first | (refine Hist.wpG_plain 11 _ (by decide +kernel) rfl (by rfl) (by rfl) (fun K hK => ?_); go_big_quiet_op; refine hK _ ?_; clear hK K) | (refine Hist.wpG_plain 10 _ (by decide +kernel) rfl (by rfl) (by rfl) (fun K hK => ?_); go_big_quiet_op; refine hK _ ?_; clear hK K) | (refine Hist.wpG_plain 9 _ (by decide +kernel) rfl (by rfl) (by rfl) (fun K hK => ?_); go_big_quiet_op; refine hK _ ?_; clear hK K) | (refine Hist.wpG_plain 8 _ (by decide +kernel) rfl (by rfl) (by rfl) (fun K hK => ?_); go_big_quiet_op; refine hK _ ?_; clear hK K) | (refine Hist.wpG_plain 7 _ (by decide +kernel) rfl (by rfl) (by rfl) (fun K hK => ?_); go_big_quiet_op; refine hK _ ?_; clear hK K) | (refine Hist.wpG_plain 6 _ (by decide +kernel) rfl (by rfl) (by rfl) (fun K hK => ?_); go_big_quiet_op; refine hK _ ?_; clear hK K) | (refine Hist.wpG_plain 5 _ (by decide +kernel) rfl (by rfl) (by rfl) (fun K hK => ?_); go_big_quiet_op; refine hK _ ?_; clear hK K) | (refine Hist.wpG_plain 4 _ (by decide +kernel) rfl (by rfl) (by rfl) (fun K hK => ?_); go_big_quiet_op; refine hK _ ?_; clear hK K) | (refine Hist.wpG_plain 3 _ (by decide +kernel) rfl (by rfl) (by rfl) (fun K hK => ?_); go_big_quiet_op; refine hK _ ?_; clear hK K) | (refine Hist.wpG_plain 2 _ (by decide +kernel) rfl (by rfl) (by rfl) (fun K hK => ?_); go_big_quiet_op; refine hK _ ?_; clear hK K) | (refine Hist.wpG_plain 1 _ (by decide +kernel) rfl (by rfl) (by rfl) (fun K hK => ?_); go_big_quiet_op; refine hK _ ?_; clear hK K) | (refine Hist.wpG_plain 0 _ (by decide +kernel) rfl (by rfl) (by rfl) (fun K hK => ?_); go_big_quiet_op; refine hK _ ?_; clear hK K) | (refine Hist.wpG_skip (by rfl) (by rfl) ?_; simp only [Act.put, List.setIfInBounds_toArray, List.set_cons_succ, List.set_cons_zero]))
  refine Hist.wpG_call (by rfl) (by rfl) (fun K hK => ?_)
  go_big_op
  refine (refBytes9 a2 n2 c2 l2 _ HM11.out HN2.out hn2 hc2 HS2.out).mono ?_
  rintro e x12 ⟨v, rfl, ho, hb⟩
  obtain ⟨ra12, rc12, rfl, -, -, -, hr12, -, -⟩ := own_read ho
  rw [HX2.out] at hr12 ⊢
  have HB12 := Lib.hid (ext_trans HB11.out hb)
  have HL12 := Lib.hid (HL11.out.ext hb)
  have HM12 := Lib.hid (HM11.out.ext hb)
  have R1_12 := Lib.hid (BAt.ext R1_11.out hb)
  have R2_12 := Lib.hid (BAt.ext R2_11.out hb)
  have R11_12 := Lib.hid (BAt.ext R11_11.out hb)
  have R12_12 := Lib.hid hr12
  have F12 : ∀ g : In (fun Z : World => BAt Z ra12 X), (convert 42 9 (.slice ra12 (X).length rc12)).run Try.prog g.w = .ok (.string SX) g.w := fun g => by have := bytes_text (c := rc12) g.w g.h rfl; rw [HSX.out] at this; exact this
  haveI hI12 : Nonempty (In (fun Z : World => BAt Z ra12 X)) := ⟨⟨x12, R12_12.out⟩⟩
  refine hK _ _ ⟨(fun Z : World => BAt Z ra12 X), (by simp only [List.cons_append, List.nil_append, List.forall_mem_cons]; repeat' (first | exact R1_12.out | exact R2_12.out | exact R11_12.out | exact R12_12.out | (intro _ h; cases h; done) | (exact trivial) | constructor)), ?_⟩
  clear hK K ho hb hr12
  clear HB11 HL11 HM11 R1_11 R2_11 R11_11
  repeat (first | (refine Hist.wpG_plain 12 _ (by decide +kernel) rfl (by rfl) (by rfl) (fun K hK => ?_); go_big_quiet_op; refine hK _ ?_; clear hK K) | (refine Hist.wpG_plain 11 _ (by decide +kernel) rfl (by rfl) (by rfl) (fun K hK => ?_); go_big_quiet_op; refine hK _ ?_; clear hK K) | (refine Hist.wpG_plain 10 _ (by decide +kernel) rfl (by rfl) (by rfl) (fun K hK => ?_); go_big_quiet_op; refine hK _ ?_; clear hK K) | (refine Hist.wpG_plain 9 _ (by decide +kernel) rfl (by rfl) (by rfl) (fun K hK => ?_); go_big_quiet_op; refine hK _ ?_; clear hK K) | (refine Hist.wpG_plain 8 _ (by decide +kernel) rfl (by rfl) (by rfl) (fun K hK => ?_); go_big_quiet_op; refine hK _ ?_; clear hK K) | (refine Hist.wpG_plain 7 _ (by decide +kernel) rfl (by rfl) (by rfl) (fun K hK => ?_); go_big_quiet_op; refine hK _ ?_; clear hK K) | (refine Hist.wpG_plain 6 _ (by decide +kernel) rfl (by rfl) (by rfl) (fun K hK => ?_); go_big_quiet_op; refine hK _ ?_; clear hK K) | (refine Hist.wpG_plain 5 _ (by decide +kernel) rfl (by rfl) (by rfl) (fun K hK => ?_); go_big_quiet_op; refine hK _ ?_; clear hK K) | (refine Hist.wpG_plain 4 _ (by decide +kernel) rfl (by rfl) (by rfl) (fun K hK => ?_); go_big_quiet_op; refine hK _ ?_; clear hK K) | (refine Hist.wpG_plain 3 _ (by decide +kernel) rfl (by rfl) (by rfl) (fun K hK => ?_); go_big_quiet_op; refine hK _ ?_; clear hK K) | (refine Hist.wpG_plain 2 _ (by decide +kernel) rfl (by rfl) (by rfl) (fun K hK => ?_); go_big_quiet_op; refine hK _ ?_; clear hK K) | (refine Hist.wpG_plain 1 _ (by decide +kernel) rfl (by rfl) (by rfl) (fun K hK => ?_); go_big_quiet_op; refine hK _ ?_; clear hK K) | (refine Hist.wpG_plain 0 _ (by decide +kernel) rfl (by rfl) (by rfl) (fun K hK => ?_); go_big_quiet_op; refine hK _ ?_; clear hK K) | (refine Hist.wpG_skip (by rfl) (by rfl) ?_; simp only [Act.put, List.setIfInBounds_toArray, List.set_cons_succ, List.set_cons_zero]))
  refine Hist.wpG_nil ?_
  clear hI0 hI1 F1 hI2 F2 hI11 F11 hI12 F12
  go_wp2
  go_ret
  exact ⟨rfl, HB12.out⟩


end Go.Proofs.Ytfcghnkcjangmaa
