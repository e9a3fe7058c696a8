/- The law's known runs. -/
import Derived.Test.YtfdalmodnkkfiaaDoorMlG
import Derived.Test.YtfdalmodnkkfiaaDoorMlF
namespace Go.Proofs.YtfdalmodnkkfiaaDoor
open Go.RowKit
set_option linter.unusedVariables false
set_option linter.unusedSimpArgs false

theorem m5_ok : MgOk (⟨5, 0, 0, 0, 0, 0, 0, (⟨#[]⟩, ⟨#[]⟩), false, 0, [], []⟩ : Mg) := ⟨⟨by decide, by decide, by decide, by decide⟩, .inr (.inr (.inr ⟨rfl, ⟨rfl, rfl, rfl, rfl, rfl, rfl, rfl, rfl, rfl⟩, rfl, by decide, fun x hx => by cases hx⟩))⟩
theorem m5_mem (w : World) : MgMem w (⟨5, 0, 0, 0, 0, 0, 0, (⟨#[]⟩, ⟨#[]⟩), false, 0, [], []⟩ : Mg) none 0 0 none 0 0 := ⟨.inl rfl, rfl, Nat.le_refl _, by simp [maxLen], .inl rfl, rfl, Nat.le_refl _, by simp [maxLen], fun _ => ⟨rfl, rfl⟩, fun _ => ⟨rfl, rfl⟩⟩
theorem mgB_wb (m : Mg) : Wb (mgB m) := by
  have hh : Wb (headB m) := ((be_wb _).app (md_wb _)).app (keyB_wb _)
  have hf : ∀ l : List Cd, Wb (l.flatMap cdB) := fun l => by
    induction l with
    | nil => exact Wb.nil
    | cons x xs ih => rw [List.flatMap_cons]; exact (cdB_wb x).app ih
  have hk : ∀ l : List (ByteArray × ByteArray), Wb (l.flatMap keyB) := fun l => by
    induction l with
    | nil => exact Wb.nil
    | cons x xs ih => rw [List.flatMap_cons]; exact (keyB_wb x).app ih
  have hc : Wb (cdsB m.cs) := (md_wb _).app (hf _)
  have hy : Wb (kysB m.ks) := (md_wb _).app (hk _)
  unfold mgB
  refine (md_wb _).app ?_
  split
  · exact ((hh.app (be_wb _)).app (md_wb _)).app (be_wb _)
  split
  · exact ((((hh.app (md_wb _)).app (bit_wb _)).app (be_wb _)).app (be_wb _)).app hc
  split
  · exact hc
  split
  · exact hy
  · exact Wb.nil
theorem eqlNil (w : World) : (binOp .eql 36 .nilIface .nilIface).run Tryd.prog w = .ok (.bool true) w := run_nil_nil w
theorem read_nil : rOk (rM (([], false), false)).2 = false := by decide +kernel
set_option maxRecDepth 100000 in
set_option maxHeartbeats 4000000 in
theorem law6known (w : World) (hG : EG w) :
    Calls Tryd.prog 12 #[] w fun r w' => r = .returned (.bool true) ∧ Below w.heap.size w w' := by
  have hnn := run_nil_nil
  have HG0 := Lib.hid hG
  have HD0 := Lib.hid (Below.refl w.heap.size w)
  clear hG
  go_enter Tryd.func12, Tryd.ntmps12
  have hE : Below w.heap.size w (w.alloc (.cells #[.int .i64 5, .int .i64 0, .int .i64 0, .int .i64 0, .int .i64 0, .int .i64 0, .int .i64 0, .string ⟨#[]⟩, .string ⟨#[]⟩, .bool false, .int .u32 0, .slice none 0 0, .slice none 0 0] 29)) := (Below.refl _ _).alloc (Nat.le_refl _) _
  have hX := Lib.hid (blk_new w #[.int .i64 5, .int .i64 0, .int .i64 0, .int .i64 0, .int .i64 0, .int .i64 0, .int .i64 0, .string ⟨#[]⟩, .string ⟨#[]⟩, .bool false, .int .u32 0, .slice none 0 0, .slice none 0 0] 29)
  have HE := Lib.hid hE
  clear hE
  go_upto_region 2 with (fail)
  obtain ⟨p1, hp⟩ : ∃ p1, w.heap.size = p1 := ⟨_, rfl⟩
  rw [hp] at hX
  try rw [hp]
  clear hp
  have hE := HE.out
  clear HE
  have HG1 := Lib.hid (HG0.out.ext hE)
  have HD1 := Lib.hid (ext_trans HD0.out hE)
  clear HG0 HD0 hE
  have HP1 := Lib.hid (hX.out)
  clear hX
  generalize (w.alloc (.cells #[.int .i64 5, .int .i64 0, .int .i64 0, .int .i64 0, .int .i64 0, .int .i64 0, .int .i64 0, .string ⟨#[]⟩, .string ⟨#[]⟩, .bool false, .int .u32 0, .slice none 0 0, .slice none 0 0] 29)) = w1 at *
  have cHP := blk_cell HP1.out
  have lHP := blk_lt HP1.out
  go_wp2_with fail
  refine (mailBytesOk (⟨5, 0, 0, 0, 0, 0, 0, (⟨#[]⟩, ⟨#[]⟩), false, 0, [], []⟩ : Mg) none 0 0 none 0 0 w1 (m5_mem _) m5_ok).mono ?_
  rintro r w2 ⟨a1, n1, k1, rfl, hn1, ho1, hb⟩
  obtain ⟨_, _, e1, -, -, -, hat, -, -⟩ := own_read ho1
  simp only [Value.slice.injEq] at e1
  obtain ⟨rfl, -, rfl⟩ := e1
  have HA2 := Lib.hid hat
  have HN2 := Lib.hid hn1
  have hn1b : n1 ≤ 1000000 := by rw [← hn1]; decide
  clear ho1 hat hn1
  have HG2 := Lib.hid (HG1.out.ext hb)
  have HD2 := Lib.hid (ext_trans HD1.out hb)
  have HP2 := Lib.hid (blk_ext hb HP1.out)
  clear HG1 HD1 HP1 cHP lHP hb
  have HA2 := Lib.hid (HA2.out)
  clear HA2
  have hAA := HA2.out
  go_wp2_with fail
  refine (mailReadOk a1 n1 k1 (mgB (⟨5, 0, 0, 0, 0, 0, 0, (⟨#[]⟩, ⟨#[]⟩), false, 0, [], []⟩ : Mg)) (⟨5, 0, 0, 0, 0, 0, 0, (⟨#[]⟩, ⟨#[]⟩), false, 0, [], []⟩ : Mg) w2 hAA HN2.out hn1b (mgB_wb _) (rM_all _ m5_ok.w) m5_ok).mono ?_
  rintro r w3 ⟨ca, cn, cc, ka, kn, kc, rfl, hm, hb⟩
  obtain ⟨-, hm2, -, -, -, hm6, hm7, hm8, hm9, -⟩ := hm
  obtain ⟨rfl, rfl⟩ := hm9 (.inr rfl)
  obtain rfl : cn = 0 := by simpa using hm2.symm
  obtain rfl : kn = 0 := by simpa using hm6.symm
  clear hm2 hm6 hm7 hm9
  have HG3 := Lib.hid (HG2.out.ext hb)
  have HD3 := Lib.hid (ext_trans HD2.out hb)
  have HP3 := Lib.hid (blk_ext hb HP2.out)
  have HA3 := Lib.hid (HA2.out.ext hb)
  clear HG2 HD2 HP2 HA2 hAA hb
  have hE : Below w3.heap.size w3 (w3.alloc (.cells #[.int .i64 5, .int .i64 0, .int .i64 0, .int .i64 0, .int .i64 0, .int .i64 0, .int .i64 0, .string ⟨#[]⟩, .string ⟨#[]⟩, .bool false, .int .u32 0, .slice none 0 0, .slice ka 0 kc] 29)) := (Below.refl _ _).alloc (Nat.le_refl _) _
  have hX := Lib.hid (blk_new w3 #[.int .i64 5, .int .i64 0, .int .i64 0, .int .i64 0, .int .i64 0, .int .i64 0, .int .i64 0, .string ⟨#[]⟩, .string ⟨#[]⟩, .bool false, .int .u32 0, .slice none 0 0, .slice ka 0 kc] 29)
  have HE := Lib.hid hE
  clear hE
  go_upto_region 4 with (fail)
  obtain ⟨p4, hp⟩ : ∃ p4, w3.heap.size = p4 := ⟨_, rfl⟩
  rw [hp] at hX
  try rw [hp]
  clear hp
  have hE := HE.out
  clear HE
  have HG4 := Lib.hid (HG3.out.ext hE)
  have HD4 := Lib.hid (ext_trans HD3.out hE)
  have HP4 := Lib.hid (blk_ext hE HP3.out)
  have HA4 := Lib.hid (HA3.out.ext hE)
  clear HG3 HD3 HP3 HA3 hE
  have HQ4 := Lib.hid (hX.out)
  clear hX
  generalize (w3.alloc (.cells #[.int .i64 5, .int .i64 0, .int .i64 0, .int .i64 0, .int .i64 0, .int .i64 0, .int .i64 0, .string ⟨#[]⟩, .string ⟨#[]⟩, .bool false, .int .u32 0, .slice none 0 0, .slice ka 0 kc] 29)) = w4 at *
  go_wp2_with fail
  refine (mailBytesNo 9 0 0 0 0 0 0 ⟨#[]⟩ ⟨#[]⟩ false 0 none 0 0 none 0 0 w4 ⟨#[107, 105, 110, 100]⟩ 12 (fun w1 _ => mailRightHigh 9 0 0 0 0 0 0 ⟨#[]⟩ ⟨#[]⟩ false 0 none 0 0 none 0 0 w1 [] [] (.inl rfl) rfl (Nat.le_refl _) (by simp [maxLen]) (.inl rfl) rfl (Nat.le_refl _) (by simp [maxLen]) (fun x hx => by cases hx) (fun x hx => by cases hx) (by omega))).mono ?_
  rintro r w5 ⟨e7, rfl, hf, hb⟩
  have HF7 := Lib.hid hf
  clear hf
  have HG5 := Lib.hid (HG4.out.ext hb)
  have HD5 := Lib.hid (ext_trans HD4.out hb)
  have HP5 := Lib.hid (blk_ext hb HP4.out)
  have HA5 := Lib.hid (HA4.out.ext hb)
  have HQ5 := Lib.hid (blk_ext hb HQ4.out)
  clear HG4 HD4 HP4 HA4 HQ4 hb
  have HF5 := Lib.hid (HF7.out)
  clear HF7
  go_wp2_with fail
  refine (mailReadNo none 0 0 [] w5 HG5.out (.inl rfl) rfl (by omega) Wb.nil read_nil).mono ?_
  rintro r w6 ⟨e9, rfl, hf, hb⟩
  have HF9 := Lib.hid hf
  clear hf
  have HG6 := Lib.hid (HG5.out.ext hb)
  have HD6 := Lib.hid (ext_trans HD5.out hb)
  have HP6 := Lib.hid (blk_ext hb HP5.out)
  have HA6 := Lib.hid (HA5.out.ext hb)
  have HQ6 := Lib.hid (blk_ext hb HQ5.out)
  have HF6 := Lib.hid (FC.ext hb HF5.out)
  clear HG5 HD5 HP5 HA5 HQ5 HF5 hb
  have HH6 := Lib.hid (HF9.out)
  clear HF9
  have hE : Below w6.heap.size w6 (w6.alloc (.cells #[.int .i64 0, .int .i64 0, .int .i64 0, .int .i64 0, .int .i64 0, .int .i64 0, .int .i64 0, .string ⟨#[]⟩, .string ⟨#[]⟩, .bool false, .int .u32 0, .slice none 0 0, .slice none 0 0] 29)) := (Below.refl _ _).alloc (Nat.le_refl _) _
  have hX := Lib.hid (blk_new w6 #[.int .i64 0, .int .i64 0, .int .i64 0, .int .i64 0, .int .i64 0, .int .i64 0, .int .i64 0, .string ⟨#[]⟩, .string ⟨#[]⟩, .bool false, .int .u32 0, .slice none 0 0, .slice none 0 0] 29)
  have HE := Lib.hid hE
  clear hE
  go_upto_region 6 with (fail)
  obtain ⟨p8, hp⟩ : ∃ p8, w6.heap.size = p8 := ⟨_, rfl⟩
  rw [hp] at hX
  try rw [hp]
  clear hp
  have hE := HE.out
  clear HE
  have HG7 := Lib.hid (HG6.out.ext hE)
  have HD7 := Lib.hid (ext_trans HD6.out hE)
  have HP7 := Lib.hid (blk_ext hE HP6.out)
  have HA7 := Lib.hid (HA6.out.ext hE)
  have HQ7 := Lib.hid (blk_ext hE HQ6.out)
  have HF7 := Lib.hid (FC.ext hE HF6.out)
  have HH7 := Lib.hid (FC.ext hE HH6.out)
  clear HG6 HD6 HP6 HA6 HQ6 HF6 HH6 hE
  clear hX
  generalize (w6.alloc (.cells #[.int .i64 0, .int .i64 0, .int .i64 0, .int .i64 0, .int .i64 0, .int .i64 0, .int .i64 0, .string ⟨#[]⟩, .string ⟨#[]⟩, .bool false, .int .u32 0, .slice none 0 0, .slice none 0 0] 29)) = w7 at *
  have cHP := blk_cell HP7.out
  have lHP := blk_lt HP7.out
  have cHQ := blk_cell HQ7.out
  have lHQ := blk_lt HQ7.out
  go_wp2_with fail
  refine (mailSame0 5 none 0 0 ka 0 kc w7 (Nat.le_refl _) (by simp [maxLen]) (Nat.zero_le _) hm8).mono ?_
  rintro r w8 ⟨rfl, hb⟩
  rw [show (decide ((0 : Nat) = 0) && decide ((0 : Nat) = 0)) = true from rfl]
  have HG8 := Lib.hid (HG7.out.ext hb)
  have HD8 := Lib.hid (ext_trans HD7.out hb)
  have HP8 := Lib.hid (blk_ext hb HP7.out)
  have HA8 := Lib.hid (HA7.out.ext hb)
  have HQ8 := Lib.hid (blk_ext hb HQ7.out)
  have HF8 := Lib.hid (FC.ext hb HF7.out)
  have HH8 := Lib.hid (FC.ext hb HH7.out)
  clear HG7 HD7 HP7 HA7 HQ7 HF7 HH7 cHP lHP cHQ lHQ hb
  go_wp2_with fail
  refine (whyWrite ⟨#[107, 105, 110, 100]⟩ 12 e7 w8 HG8.out (by decide) HF8.out).mono ?_
  rintro r w9 ⟨rfl, hb⟩
  have HG9 := Lib.hid (HG8.out.ext hb)
  have HD9 := Lib.hid (ext_trans HD8.out hb)
  have HP9 := Lib.hid (blk_ext hb HP8.out)
  have HA9 := Lib.hid (HA8.out.ext hb)
  have HQ9 := Lib.hid (blk_ext hb HQ8.out)
  have HF9 := Lib.hid (FC.ext hb HF8.out)
  have HH9 := Lib.hid (FC.ext hb HH8.out)
  clear HG8 HD8 HP8 HA8 HQ8 HF8 HH8 hb
  go_wp2_with fail
  refine (whyRead ⟨#[98, 121, 116, 101, 115]⟩ 12 e9 w9 HG9.out (by decide) HH9.out).mono ?_
  rintro r w10 ⟨rfl, hb⟩
  have HG10 := Lib.hid (HG9.out.ext hb)
  have HD10 := Lib.hid (ext_trans HD9.out hb)
  have HP10 := Lib.hid (blk_ext hb HP9.out)
  have HA10 := Lib.hid (HA9.out.ext hb)
  have HQ10 := Lib.hid (blk_ext hb HQ9.out)
  have HF10 := Lib.hid (FC.ext hb HF9.out)
  have HH10 := Lib.hid (FC.ext hb HH9.out)
  clear HG9 HD9 HP9 HA9 HQ9 HF9 HH9 hb
  have cHP := blk_cell HP10.out
  have lHP := blk_lt HP10.out
  go_wp2_with fail
  refine (mailRightOk (⟨5, 0, 0, 0, 0, 0, 0, (⟨#[]⟩, ⟨#[]⟩), false, 0, [], []⟩ : Mg) none 0 0 none 0 0 w10 (m5_mem _) m5_ok).mono ?_
  rintro r w11 ⟨rfl, hb⟩
  have HG11 := Lib.hid (HG10.out.ext hb)
  have HD11 := Lib.hid (ext_trans HD10.out hb)
  have HP11 := Lib.hid (blk_ext hb HP10.out)
  have HA11 := Lib.hid (HA10.out.ext hb)
  have HQ11 := Lib.hid (blk_ext hb HQ10.out)
  have HF11 := Lib.hid (FC.ext hb HF10.out)
  have HH11 := Lib.hid (FC.ext hb HH10.out)
  clear HG10 HD10 HP10 HA10 HQ10 HF10 HH10 cHP lHP hb
  go_wp2_with fail
  refine (mailRightLow 0 0 0 0 0 0 0 ⟨#[]⟩ ⟨#[]⟩ false 0 none 0 0 none 0 0 w11 [] [] (.inl rfl) rfl (Nat.le_refl _) (by simp [maxLen]) (.inl rfl) rfl (Nat.le_refl _) (by simp [maxLen]) (fun x hx => by cases hx) (fun x hx => by cases hx) (by omega)).mono ?_
  rintro r w12 ⟨e10, rfl, hf, hb⟩
  have HFA := Lib.hid hf
  clear hf
  have HG12 := Lib.hid (HG11.out.ext hb)
  have HD12 := Lib.hid (ext_trans HD11.out hb)
  have HP12 := Lib.hid (blk_ext hb HP11.out)
  have HA12 := Lib.hid (HA11.out.ext hb)
  have HQ12 := Lib.hid (blk_ext hb HQ11.out)
  have HF12 := Lib.hid (FC.ext hb HF11.out)
  have HH12 := Lib.hid (FC.ext hb HH11.out)
  clear HG11 HD11 HP11 HA11 HQ11 HF11 HH11 hb
  have HI12 := Lib.hid (HFA.out)
  clear HFA
  go_wp2_with fail
  refine (whyOne ⟨#[107, 105, 110, 100]⟩ 12 e10 w12 HG12.out (by decide) HI12.out).mono ?_
  rintro r w13 ⟨rfl, hb⟩
  have HG13 := Lib.hid (HG12.out.ext hb)
  have HD13 := Lib.hid (ext_trans HD12.out hb)
  have HP13 := Lib.hid (blk_ext hb HP12.out)
  have HA13 := Lib.hid (HA12.out.ext hb)
  have HQ13 := Lib.hid (blk_ext hb HQ12.out)
  have HF13 := Lib.hid (FC.ext hb HF12.out)
  have HH13 := Lib.hid (FC.ext hb HH12.out)
  have HI13 := Lib.hid (FC.ext hb HI12.out)
  clear HG12 HD12 HP12 HA12 HQ12 HF12 HH12 HI12 hb
  go_wp2
  go_ret
  exact ⟨rfl, HD13.out⟩


end Go.Proofs.YtfdalmodnkkfiaaDoor
