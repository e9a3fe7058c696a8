/- Layer 2's puts: what package pack writes is what the document's own writes. -/
import Derived.Test.YtcafmjcjhncpjaaPackR
import Derived.Test.YtcafmjcjhncpjaaHist
namespace Go.Proofs.Ytcafmjcjhncpjaa
open Go.RowKit
set_option linter.unusedVariables false

def SB (a : Option Addr) (xs : List Int) (W : World) : Prop := BAt W a xs
def S0 (W : World) : Prop := True

set_option maxRecDepth 100000 in
set_option maxHeartbeats 2000000 in
theorem law2puts (a : Option Addr) (n cap : Nat) (z k : Int) (s : ByteArray) (xs : List Int) (w : World) (h : BAt w a xs) (hl : xs.length = n) (hs : n + 256 ≤ 140737488355328) (hsz : s.size ≤ maxLen) :
    Calls Try.prog 7 #[.slice a n cap, .int .i64 z, .int .i64 k, .string s] w fun e w' => e = .returned (.bool true) ∧ Below w.heap.size w w' := by
  have A0 := Lib.hid (h.ext (Below.refl w.heap.size w).drew)
  have HL := Lib.hid hl
  have D0 : Below w.heap.size w w.drew := (Below.refl _ _).drew
  clear h hl
  obtain ⟨y1, hy1⟩ : ∃ y, y = xs ++ be z := ⟨_, rfl⟩
  obtain ⟨y2, hy2⟩ : ∃ y, y = xs ++ [k % 256] := ⟨_, rfl⟩
  obtain ⟨y3, hy3⟩ : ∃ y, y = xs ++ txt s := ⟨_, rfl⟩
  have Hy1 := Lib.hid hy1
  have Hy2 := Lib.hid hy2
  have Hy3 := Lib.hid hy3
  clear hy1 hy2 hy3
  go_enter Try.func7, Try.ntmps7
  go_wp2_with fail
  haveI hI0 : Nonempty (In S0) := ⟨⟨w, trivial⟩⟩
  refine Hist.wp_region_hist S0 (by kernel_rfl) (by kernel_rfl) (by kernel_rfl) trivial ?_
  obtain ⟨x0, hx0⟩ : ∃ x0, w.drew = x0 := ⟨_, rfl⟩
  rw [hx0] at A0 D0 ⊢
  clear hx0
  repeat (first | (refine Hist.wpG_plain 0 _ (by decide +kernel) rfl (by rfl) (by rfl) (fun K hK => ?_); go_big_quiet_op; refine hK _ ?_; clear hK K))
  refine Hist.wpG_call (by rfl) (by rfl) (fun K hK => ?_)
  go_big_op
  refine (packInt a n cap z xs _ A0.out HL.out (by omega)).mono ?_
  rintro e x1 ⟨v1, rfl, ho, hb⟩
  rw [← Hy1.out] at ho
  have D1 := ext_trans D0 hb
  have A1 := Lib.hid (A0.out.ext hb)
  obtain ⟨a1, c1, rfl, -, -, -, hr, -, -⟩ := own_read ho
  have R1_1 := Lib.hid (show SB a1 (y1) x1 from hr)
  clear ho hb hr A0 
  have F1 : ∀ g : In (SB a1 (y1)), (convert 23 9 (.slice a1 (y1).length c1)).run Try.prog g.w = .ok (.string (strOfNums (y1))) g.w := fun g => run_text g.w 23 5 Try.underlying23 Try.underlying5 9 Try.underlying9 a1 _ c1 _ rfl g.h
  haveI hI1 : Nonempty (In (SB a1 (y1))) := ⟨⟨x1, R1_1.out⟩⟩
  refine hK _ _ ⟨SB a1 (y1), fun T hT => ?_, ?_⟩
  · simp at hT; rcases hT with rfl | rfl; (· exact trivial); (· exact R1_1.out)
  clear hK K
  repeat (first | (refine Hist.wpG_plain 1 _ (by decide +kernel) rfl (by rfl) (by rfl) (fun K hK => ?_); go_big_quiet_op; refine hK _ ?_; clear hK K) | (refine Hist.wpG_plain 0 _ (by decide +kernel) rfl (by rfl) (by rfl) (fun K hK => ?_); go_big_quiet_op; refine hK _ ?_; clear hK K))
  refine Hist.wpG_call (by rfl) (by rfl) (fun K hK => ?_)
  go_big_op
  refine (refInt a n cap z xs _ A1.out HL.out (by omega)).mono ?_
  rintro e x2 ⟨v2, rfl, ho, hb⟩
  rw [← Hy1.out] at ho
  have D2 := ext_trans D1 hb
  have A2 := Lib.hid (A1.out.ext hb)
  obtain ⟨a2, c2, rfl, -, -, -, hr, -, -⟩ := own_read ho
  have R2_2 := Lib.hid (show SB a2 (y1) x2 from hr)
  have R1_2 := Lib.hid (show SB a1 _ x2 from BAt.ext R1_1.out hb)
  clear ho hb hr A1 R1_1
  have F2 : ∀ g : In (SB a2 (y1)), (convert 23 9 (.slice a2 (y1).length c2)).run Try.prog g.w = .ok (.string (strOfNums (y1))) g.w := fun g => run_text g.w 23 5 Try.underlying23 Try.underlying5 9 Try.underlying9 a2 _ c2 _ rfl g.h
  haveI hI2 : Nonempty (In (SB a2 (y1))) := ⟨⟨x2, R2_2.out⟩⟩
  refine hK _ _ ⟨SB a2 (y1), fun T hT => ?_, ?_⟩
  · simp at hT; rcases hT with rfl | rfl | rfl; (· exact trivial); (· exact R1_2.out); (· exact R2_2.out)
  clear hK K
  repeat (first | (refine Hist.wpG_plain 2 _ (by decide +kernel) rfl (by rfl) (by rfl) (fun K hK => ?_); go_big_quiet_op; refine hK _ ?_; clear hK K) | (refine Hist.wpG_plain 1 _ (by decide +kernel) rfl (by rfl) (by rfl) (fun K hK => ?_); go_big_quiet_op; refine hK _ ?_; clear hK K) | (refine Hist.wpG_plain 0 _ (by decide +kernel) rfl (by rfl) (by rfl) (fun K hK => ?_); go_big_quiet_op; refine hK _ ?_; clear hK K))
  refine Hist.wpG_call (by rfl) (by rfl) (fun K hK => ?_)
  go_big_op
  refine (packByte a n cap k xs _ A2.out HL.out (by omega)).mono ?_
  rintro e x3 ⟨v3, rfl, ho, hb⟩
  rw [← Hy2.out] at ho
  have D3 := ext_trans D2 hb
  have A3 := Lib.hid (A2.out.ext hb)
  obtain ⟨a3, c3, rfl, -, -, -, hr, -, -⟩ := own_read ho
  have R3_3 := Lib.hid (show SB a3 (y2) x3 from hr)
  have R1_3 := Lib.hid (show SB a1 _ x3 from BAt.ext R1_2.out hb)
  have R2_3 := Lib.hid (show SB a2 _ x3 from BAt.ext R2_2.out hb)
  clear ho hb hr A2 R1_2 R2_2
  have F3 : ∀ g : In (SB a3 (y2)), (convert 23 9 (.slice a3 (y2).length c3)).run Try.prog g.w = .ok (.string (strOfNums (y2))) g.w := fun g => run_text g.w 23 5 Try.underlying23 Try.underlying5 9 Try.underlying9 a3 _ c3 _ rfl g.h
  haveI hI3 : Nonempty (In (SB a3 (y2))) := ⟨⟨x3, R3_3.out⟩⟩
  refine hK _ _ ⟨SB a3 (y2), fun T hT => ?_, ?_⟩
  · simp at hT; rcases hT with rfl | rfl | rfl | rfl; (· exact trivial); (· exact R1_3.out); (· exact R2_3.out); (· exact R3_3.out)
  clear hK K
  repeat (first | (refine Hist.wpG_plain 3 _ (by decide +kernel) rfl (by rfl) (by rfl) (fun K hK => ?_); go_big_quiet_op; refine hK _ ?_; clear hK K) | (refine Hist.wpG_plain 2 _ (by decide +kernel) rfl (by rfl) (by rfl) (fun K hK => ?_); go_big_quiet_op; refine hK _ ?_; clear hK K) | (refine Hist.wpG_plain 1 _ (by decide +kernel) rfl (by rfl) (by rfl) (fun K hK => ?_); go_big_quiet_op; refine hK _ ?_; clear hK K) | (refine Hist.wpG_plain 0 _ (by decide +kernel) rfl (by rfl) (by rfl) (fun K hK => ?_); go_big_quiet_op; refine hK _ ?_; clear hK K))
  refine Hist.wpG_call (by rfl) (by rfl) (fun K hK => ?_)
  go_big_op
  refine (refByte a n cap k xs _ A3.out HL.out (by omega)).mono ?_
  rintro e x4 ⟨v4, rfl, ho, hb⟩
  rw [← Hy2.out] at ho
  have D4 := ext_trans D3 hb
  have A4 := Lib.hid (A3.out.ext hb)
  obtain ⟨a4, c4, rfl, -, -, -, hr, -, -⟩ := own_read ho
  have R4_4 := Lib.hid (show SB a4 (y2) x4 from hr)
  have R1_4 := Lib.hid (show SB a1 _ x4 from BAt.ext R1_3.out hb)
  have R2_4 := Lib.hid (show SB a2 _ x4 from BAt.ext R2_3.out hb)
  have R3_4 := Lib.hid (show SB a3 _ x4 from BAt.ext R3_3.out hb)
  clear ho hb hr A3 R1_3 R2_3 R3_3
  have F4 : ∀ g : In (SB a4 (y2)), (convert 23 9 (.slice a4 (y2).length c4)).run Try.prog g.w = .ok (.string (strOfNums (y2))) g.w := fun g => run_text g.w 23 5 Try.underlying23 Try.underlying5 9 Try.underlying9 a4 _ c4 _ rfl g.h
  haveI hI4 : Nonempty (In (SB a4 (y2))) := ⟨⟨x4, R4_4.out⟩⟩
  refine hK _ _ ⟨SB a4 (y2), fun T hT => ?_, ?_⟩
  · simp at hT; rcases hT with rfl | rfl | rfl | rfl | rfl; (· exact trivial); (· exact R1_4.out); (· exact R2_4.out); (· exact R3_4.out); (· exact R4_4.out)
  clear hK K
  repeat (first | (refine Hist.wpG_plain 4 _ (by decide +kernel) rfl (by rfl) (by rfl) (fun K hK => ?_); go_big_quiet_op; refine hK _ ?_; clear hK K) | (refine Hist.wpG_plain 3 _ (by decide +kernel) rfl (by rfl) (by rfl) (fun K hK => ?_); go_big_quiet_op; refine hK _ ?_; clear hK K) | (refine Hist.wpG_plain 2 _ (by decide +kernel) rfl (by rfl) (by rfl) (fun K hK => ?_); go_big_quiet_op; refine hK _ ?_; clear hK K) | (refine Hist.wpG_plain 1 _ (by decide +kernel) rfl (by rfl) (by rfl) (fun K hK => ?_); go_big_quiet_op; refine hK _ ?_; clear hK K) | (refine Hist.wpG_plain 0 _ (by decide +kernel) rfl (by rfl) (by rfl) (fun K hK => ?_); go_big_quiet_op; refine hK _ ?_; clear hK K))
  refine Hist.wpG_call (by rfl) (by rfl) (fun K hK => ?_)
  go_big_op
  refine (packText a n cap s xs _ A4.out HL.out (by omega) hsz).mono ?_
  rintro e x5 ⟨v5, rfl, ho, hb⟩
  rw [← Hy3.out] at ho
  have D5 := ext_trans D4 hb
  have A5 := Lib.hid (A4.out.ext hb)
  obtain ⟨a5, c5, rfl, -, -, -, hr, -, -⟩ := own_read ho
  have R5_5 := Lib.hid (show SB a5 (y3) x5 from hr)
  have R1_5 := Lib.hid (show SB a1 _ x5 from BAt.ext R1_4.out hb)
  have R2_5 := Lib.hid (show SB a2 _ x5 from BAt.ext R2_4.out hb)
  have R3_5 := Lib.hid (show SB a3 _ x5 from BAt.ext R3_4.out hb)
  have R4_5 := Lib.hid (show SB a4 _ x5 from BAt.ext R4_4.out hb)
  clear ho hb hr A4 R1_4 R2_4 R3_4 R4_4
  have F5 : ∀ g : In (SB a5 (y3)), (convert 23 9 (.slice a5 (y3).length c5)).run Try.prog g.w = .ok (.string (strOfNums (y3))) g.w := fun g => run_text g.w 23 5 Try.underlying23 Try.underlying5 9 Try.underlying9 a5 _ c5 _ rfl g.h
  haveI hI5 : Nonempty (In (SB a5 (y3))) := ⟨⟨x5, R5_5.out⟩⟩
  refine hK _ _ ⟨SB a5 (y3), fun T hT => ?_, ?_⟩
  · simp at hT; rcases hT with rfl | rfl | rfl | rfl | rfl | rfl; (· exact trivial); (· exact R1_5.out); (· exact R2_5.out); (· exact R3_5.out); (· exact R4_5.out); (· exact R5_5.out)
  clear hK K
  repeat (first | (refine Hist.wpG_plain 5 _ (by decide +kernel) rfl (by rfl) (by rfl) (fun K hK => ?_); go_big_quiet_op; refine hK _ ?_; clear hK K) | (refine Hist.wpG_plain 4 _ (by decide +kernel) rfl (by rfl) (by rfl) (fun K hK => ?_); go_big_quiet_op; refine hK _ ?_; clear hK K) | (refine Hist.wpG_plain 3 _ (by decide +kernel) rfl (by rfl) (by rfl) (fun K hK => ?_); go_big_quiet_op; refine hK _ ?_; clear hK K) | (refine Hist.wpG_plain 2 _ (by decide +kernel) rfl (by rfl) (by rfl) (fun K hK => ?_); go_big_quiet_op; refine hK _ ?_; clear hK K) | (refine Hist.wpG_plain 1 _ (by decide +kernel) rfl (by rfl) (by rfl) (fun K hK => ?_); go_big_quiet_op; refine hK _ ?_; clear hK K) | (refine Hist.wpG_plain 0 _ (by decide +kernel) rfl (by rfl) (by rfl) (fun K hK => ?_); go_big_quiet_op; refine hK _ ?_; clear hK K))
  refine Hist.wpG_call (by rfl) (by rfl) (fun K hK => ?_)
  go_big_op
  refine (refText a n cap s xs _ A5.out HL.out (by omega) hsz).mono ?_
  rintro e x6 ⟨v6, rfl, ho, hb⟩
  rw [← Hy3.out] at ho
  have D6 := ext_trans D5 hb
  have A6 := Lib.hid (A5.out.ext hb)
  obtain ⟨a6, c6, rfl, -, -, -, hr, -, -⟩ := own_read ho
  have R6_6 := Lib.hid (show SB a6 (y3) x6 from hr)
  have R1_6 := Lib.hid (show SB a1 _ x6 from BAt.ext R1_5.out hb)
  have R2_6 := Lib.hid (show SB a2 _ x6 from BAt.ext R2_5.out hb)
  have R3_6 := Lib.hid (show SB a3 _ x6 from BAt.ext R3_5.out hb)
  have R4_6 := Lib.hid (show SB a4 _ x6 from BAt.ext R4_5.out hb)
  have R5_6 := Lib.hid (show SB a5 _ x6 from BAt.ext R5_5.out hb)
  clear ho hb hr A5 R1_5 R2_5 R3_5 R4_5 R5_5
  have F6 : ∀ g : In (SB a6 (y3)), (convert 23 9 (.slice a6 (y3).length c6)).run Try.prog g.w = .ok (.string (strOfNums (y3))) g.w := fun g => run_text g.w 23 5 Try.underlying23 Try.underlying5 9 Try.underlying9 a6 _ c6 _ rfl g.h
  haveI hI6 : Nonempty (In (SB a6 (y3))) := ⟨⟨x6, R6_6.out⟩⟩
  refine hK _ _ ⟨SB a6 (y3), fun T hT => ?_, ?_⟩
  · simp at hT; rcases hT with rfl | rfl | rfl | rfl | rfl | rfl | rfl; (· exact trivial); (· exact R1_6.out); (· exact R2_6.out); (· exact R3_6.out); (· exact R4_6.out); (· exact R5_6.out); (· exact R6_6.out)
  clear hK K
  repeat (first | (refine Hist.wpG_plain 6 _ (by decide +kernel) rfl (by rfl) (by rfl) (fun K hK => ?_); go_big_quiet_op; refine hK _ ?_; clear hK K) | (refine Hist.wpG_plain 5 _ (by decide +kernel) rfl (by rfl) (by rfl) (fun K hK => ?_); go_big_quiet_op; refine hK _ ?_; clear hK K) | (refine Hist.wpG_plain 4 _ (by decide +kernel) rfl (by rfl) (by rfl) (fun K hK => ?_); go_big_quiet_op; refine hK _ ?_; clear hK K) | (refine Hist.wpG_plain 3 _ (by decide +kernel) rfl (by rfl) (by rfl) (fun K hK => ?_); go_big_quiet_op; refine hK _ ?_; clear hK K) | (refine Hist.wpG_plain 2 _ (by decide +kernel) rfl (by rfl) (by rfl) (fun K hK => ?_); go_big_quiet_op; refine hK _ ?_; clear hK K) | (refine Hist.wpG_plain 1 _ (by decide +kernel) rfl (by rfl) (by rfl) (fun K hK => ?_); go_big_quiet_op; refine hK _ ?_; clear hK K) | (refine Hist.wpG_plain 0 _ (by decide +kernel) rfl (by rfl) (by rfl) (fun K hK => ?_); go_big_quiet_op; refine hK _ ?_; clear hK K))
  refine Hist.wpG_nil ?_
  go_wp2
  go_ret
  exact ⟨rfl, D6⟩

end Go.Proofs.Ytcafmjcjhncpjaa
