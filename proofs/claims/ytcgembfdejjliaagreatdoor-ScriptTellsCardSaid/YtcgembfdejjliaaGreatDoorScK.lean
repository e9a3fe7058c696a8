/- The law's known runs. -/
import Derived.Test.YtcgembfdejjliaaGreatDoorScX
import Derived.Test.YtcgembfdejjliaaGreatDoorScG
import Derived.Test.YtcgembfdejjliaaGreatDoorScU
namespace Go.Proofs.YtcgembfdejjliaaGreatDoor
open Go.RowKit
set_option linter.unusedVariables false

theorem aE_len (a : Ac) : (aE a).length = 7 := rfl
theorem OwnR.acts {base : Nat} {w : World} {v : Value} {ls : List Ac} (h : OwnR aE 7 29 base w v ls) : ∃ a c, v = .slice a ls.length c ∧ ls.length ≤ c ∧ ActsAt w a ls := by
  obtain ⟨a, c, rfl, h1, h2, h3⟩ := OwnR.form h
  refine ⟨a, c, rfl, h1, ?_⟩
  rcases h3 with ⟨-, -, h3⟩ | ⟨g, rfl, -, -⟩
  · exact .inl h3
  · refine .inr ⟨g, 0, rfl, fun i x hi q u hu => ?_⟩
    have := OwnR.at aE_len h hi q u hu
    rwa [Nat.zero_add]
theorem tx_one (w : World) (a : ByteArray) (T : TypeId) : TxAt (w.alloc (.cells #[.string a] T)) (.slice (some ⟨w.heap.size, 0, none⟩) 1 1) [a] := by
  refine ⟨_, _, rfl, by simp, by unfold maxLen; simp, .inr ⟨_, _, rfl, fun i s hi => ?_⟩⟩
  rw [blk_cell (blk_new _ _ _)]
  match i, hi with
  | 0, hi => simpa using hi
  | n + 1, hi => simp at hi
theorem tx_two (w : World) (a b : ByteArray) (T : TypeId) : TxAt (w.alloc (.cells #[.string a, .string b] T)) (.slice (some ⟨w.heap.size, 0, none⟩) 2 2) [a, b] := by
  refine ⟨_, _, rfl, by simp, by unfold maxLen; simp, .inr ⟨_, _, rfl, fun i s hi => ?_⟩⟩
  rw [blk_cell (blk_new _ _ _)]
  match i, hi with
  | 0, hi => simpa using hi
  | 1, hi => simpa using hi
  | n + 2, hi => simp at hi
theorem eE_len (a : Value) : (eE a).length = 1 := rfl
theorem lnm3 : lnm 3 = ⟨#[108, 105, 110, 101, 32, 51]⟩ := by kernel_rfl
theorem kn4b : (⟨(txM [⟨9, 1, 0, 0, 0, 0, ⟨#[120]⟩⟩, ⟨3, 0, 0, 0, 0, 3, ⟨#[]⟩⟩]).toArray⟩ : ByteArray) = ⟨#[108, 111, 111, 107, 32, 49, 32, 120, 10, 100, 114, 111, 112, 32, 51, 10]⟩ := by rw [kn4]
set_option maxRecDepth 100000 in
set_option maxHeartbeats 4000000 in
theorem known25 (w : World) (hw : SW w) : Calls Tryz.prog 9 #[] w fun e w' => e = .returned (.bool true) ∧ Below w.heap.size w w' := by
  have hnil := neq_nil
  have heq : ∀ y : World, (binOp .eql 42 .nilIface .nilIface).run Tryz.prog y = .ok (.bool true) y := fun y => by kernel_rfl
  have HW := Lib.hid hw
  clear hw
  go_enter Tryz.func9, Tryz.ntmps9
  go_wp2_with fail
  refine (lineP ⟨#[116, 105, 99, 107, 32, 48, 32, 53]⟩ (by decide) w HW.out).mono ?_
  rintro e w1 ⟨ev, rfl, hb1, hs1, -⟩
  rw [kn1] at hs1 ⊢
  obtain rfl : ev = .nilIface := hs1 rfl
  have HB1 := Lib.hid hb1
  clear hb1 hs1
  simp only [Option.getD_some, acC]
  go_upto_region 2 with (fail)
  have B2 : Below w.heap.size w (w1.alloc (.cells #[.int .i64 1, .int .i64 0, .int .i64 0, .int .i64 0, .int .i64 0, .int .i64 5, .string ⟨#[]⟩] 29)) := HB1.out.alloc HB1.out.size _
  have X2 := blk_new w1 #[.int .i64 1, .int .i64 0, .int .i64 0, .int .i64 0, .int .i64 0, .int .i64 5, .string ⟨#[]⟩] 29
  generalize (w1.alloc (.cells #[.int .i64 1, .int .i64 0, .int .i64 0, .int .i64 0, .int .i64 0, .int .i64 5, .string ⟨#[]⟩] 29)) = w2 at *
  generalize w1.heap.size = p1 at *
  have H2 := Lib.hid (show _ ∧ _ from ⟨B2, X2⟩)
  clear B2 X2 HB1
  go_wp2_with fail
  refine (lineP ⟨#[116, 105, 99, 107, 32, 48]⟩ (by decide) w2 (HW.out.ext H2.out.1)).mono ?_
  rintro e w3 ⟨ev, rfl, hb3, -, hf⟩
  have hf3 := hf kn2.1
  rw [kn2.2] at hf3
  rw [kn2.1]
  have H3 := Lib.hid (show _ ∧ _ ∧ _ from ⟨ext_trans H2.out.1 hb3, blk_ext hb3 H2.out.2, hf3⟩)
  clear hf hf3 hb3 H2
  simp only [Option.getD_none, acC, acZ]
  go_upto_region 3 with (fail)
  have B4 : Below w3.heap.size w3 (w3.alloc (.cells #[.int .i64 0, .int .i64 0, .int .i64 0, .int .i64 0, .int .i64 0, .int .i64 0, .string ⟨#[]⟩] 29)) := (Below.refl _ _).alloc (Nat.le_refl _) _
  have H4 := Lib.hid (show _ ∧ _ ∧ _ from ⟨ext_trans H3.out.1 B4, blk_ext B4 H3.out.2.1, H3.out.2.2.ext B4⟩)
  generalize (w3.alloc (.cells #[.int .i64 0, .int .i64 0, .int .i64 0, .int .i64 0, .int .i64 0, .int .i64 0, .string ⟨#[]⟩] 29)) = w4 at *
  generalize w3.heap.size = p3 at *
  clear B4 H3
  go_wp2_with fail
  refine (parseP ⟨#[108, 111, 111, 107, 32, 49, 32, 120, 10, 10, 98, 97, 100, 10, 100, 114, 111, 112, 32, 51]⟩ (by decide) w4 (HW.out.ext H4.out.1)).mono ?_
  rintro e w5 ⟨va, vf, vs, rfl, hpq⟩
  have hk : pm 1 0 (nl (⟨#[108, 111, 111, 107, 32, 49, 32, 120, 10, 10, 98, 97, 100, 10, 100, 114, 111, 112, 32, 51]⟩ : ByteArray).data.toList) = _ := kn3
  rw [hk] at hpq
  obtain ⟨v0, rfl, hfv⟩ : ∃ v0, vs = [v0] ∧ FC w5 (.iface 39 (.int .i64 12)) [lnm 3, ⟨#[98, 97, 100]⟩] v0 := by
    match vs, hpq.fe with
    | [], h => exact h.elim
    | [v0], h => exact ⟨v0, rfl, h.1⟩
    | _ :: _ :: _, h => exact h.2.elim
  rw [lnm3] at hfv
  obtain ⟨aa, ac, hva, hac, hA⟩ := hpq.oa.acts
  replace hva : va = .slice aa 2 ac := hva
  subst hva
  obtain ⟨ab, ao, rfl, hx⟩ := hA.resolve_left (by simp)
  obtain ⟨ea, ec, hvf, hec, hecm, he3⟩ := hpq.ov.form
  replace hvf : vf = .slice ea 1 ec := hvf
  subst hvf
  obtain ⟨eb, rfl, -, -⟩ := he3.resolve_left (by simp)
  have y0 := OwnR.at eE_len hpq.ov (i := 0) rfl 0 v0 rfl
  have x06 := hx 0 _ rfl 6 _ rfl
  have x15 := hx 1 _ rfl 5 _ rfl
  have H5 := Lib.hid (show _ ∧ _ ∧ _ ∧ _ ∧ _ ∧ _ ∧ ActsAt w5 (some ⟨ab, ao, none⟩) [⟨9, 1, 0, 0, 0, 0, ⟨#[120]⟩⟩, ⟨3, 0, 0, 0, 0, 3, ⟨#[]⟩⟩] from ⟨ext_trans H4.out.1 hpq.bl, H4.out.2.2.ext hpq.bl, hfv, y0, x06, x15, .inr ⟨ab, ao, rfl, hx⟩⟩)
  have c1 := blk_cell (blk_ext hpq.bl H4.out.2.1)
  have l1 := blk_lt (blk_ext hpq.bl H4.out.2.1)
  clear hpq hk hfv hA hx he3 y0 x06 x15 H4
  go_wp2_with fail
  have B6 : Below w5.heap.size w5 (w5.alloc (.cells #[.string ⟨#[116, 105, 99, 107]⟩] 9)) := (Below.refl _ _).alloc (Nat.le_refl _) _
  refine (whyP [⟨#[116, 105, 99, 107]⟩] ev _ _ (HW.out.ext (ext_trans H5.out.1 B6)) (H5.out.2.1.ext B6) (by simp) (by simp) (tx_one _ _ _)).mono ?_
  rintro e w6 ⟨rfl, hb6⟩
  have b6 := ext_trans B6 hb6
  have H6 := Lib.hid (show _ ∧ _ ∧ _ from ⟨ext_trans H5.out.1 b6, H5.out.2.2.1.ext b6, H5.out.2.2.2.2.2.2.ext b6⟩)
  have y0 := ext_cell b6 H5.out.2.2.2.1
  have x06 := ext_cell b6 H5.out.2.2.2.2.1
  have x15 := ext_cell b6 H5.out.2.2.2.2.2.1
  simp only [Nat.zero_mul, Nat.one_mul, Nat.add_zero, Nat.add_assoc, Nat.reduceAdd] at y0 x06 x15
  have l0 := cell_lt y0
  have l6 := cell_lt x06
  clear b6 B6 hb6 H5 c1 l1
  go_wp2_with fail
  have B7 : Below w6.heap.size w6 (w6.alloc (.cells #[.string ⟨#[108, 105, 110, 101, 32, 51]⟩, .string ⟨#[98, 97, 100]⟩] 9)) := (Below.refl _ _).alloc (Nat.le_refl _) _
  refine (whyP [⟨#[108, 105, 110, 101, 32, 51]⟩, ⟨#[98, 97, 100]⟩] v0 _ _ (HW.out.ext (ext_trans H6.out.1 B7)) (H6.out.2.1.ext B7) (by simp) (by simp) (tx_two _ _ _ _)).mono ?_
  rintro e w7 ⟨rfl, hb7⟩
  have b7 := ext_trans B7 hb7
  have H7 := Lib.hid (show _ ∧ _ from ⟨ext_trans H6.out.1 b7, H6.out.2.2.ext b7⟩)
  clear b7 B7 hb7 H6 y0 x06 x15 l0 l6
  go_wp2_with fail
  refine (textP [⟨9, 1, 0, 0, 0, 0, ⟨#[120]⟩⟩, ⟨3, 0, 0, 0, 0, 3, ⟨#[]⟩⟩] (by intro a ha; simp only [List.mem_cons, List.not_mem_nil, or_false] at ha; rcases ha with rfl | rfl <;> exact ⟨⟨⟨by decide, by decide⟩, ⟨by decide, by decide⟩, ⟨by decide, by decide⟩, by decide, by decide⟩, by decide⟩) (by decide) _ ac w7 (HW.out.ext H7.out.1) H7.out.2).mono ?_
  rintro e w8 ⟨rfl, hb8⟩
  rw [kn4b]
  have H8 := Lib.hid (ext_trans H7.out.1 hb8)
  clear hb8
  go_wp2_with fail
  go_ret
  exact ⟨rfl, H8.out⟩
end Go.Proofs.YtcgembfdejjliaaGreatDoor
