/- Layer 13's laws, walked: what is known of some runs. -/
import Derived.Test.YtingmfchlnpgbaaRecentS
import Derived.Test.YtingmfchlnpgbaaChain
namespace Go.Proofs.Ytingmfchlnpgbaa
open Go.RowKit
set_option linter.unusedVariables false

theorem recentSince_at (rb seq m : Nat) (n : Int) (ks bs : List Ky) (w : World) (h : RecAt w rb seq ks) (hl : ks.length = min seq 16) (hn : n = (seq : Int) - m) (hm : m ≤ seq) (hm16 : m ≤ 16) (hq : seq ≤ 1000000) (hb : ks.drop (ks.length - m) = bs) :
    Calls Try.prog 13 #[.pointer (some ⟨rb, 0, none⟩), .int .i64 n] w (Told bs w) := by
  subst hn hb; exact recentSince rb seq m ks w h hl hm hm16 hq
theorem kp_one (k : Ky) : kp [k] 1 = [k] := by
  have h : hasB ([] : List Ky) k = false := hasB_no (by simp)
  simp [kp, h]
theorem kp_aba {a b : Ky} (h : a ≠ b) : kp [a, b, a] 3 = [b, a] := by
  have h1 : hasB ([a, b, a].drop 1) a = true := hasB_yes (by simp)
  have h2 : hasB ([a, b, a].drop 2) b = false := hasB_no (by simpa using Ne.symm h)
  have h3 : hasB ([a, b, a].drop 3) a = false := hasB_no (by simp)
  simp only [kp]
  simp only [List.getElem?_cons_zero, List.getElem?_cons_succ]
  rw [h1, h2, h3]
  simp
theorem ab_ne : (((⟨#[97]⟩, ⟨#[]⟩) : Ky)) ≠ (⟨#[98]⟩, ⟨#[]⟩) := by
  intro h
  have := congrArg (fun k : Ky => k.1.data.toList) h
  simp at this
/-- what Since told, read -/
theorem Told.read {bs : List Ky} {w w' : World} {e : Ending} (h : Told bs w e w') {ks : List Ky} (hk : kp bs bs.length = ks) : ∃ a cap, e = .returned (.tuple #[.slice a ks.length cap, .bool true]) ∧ KAt w' a ks ∧ Below w.heap.size w w' := by
  obtain ⟨v, rfl, ho, hb⟩ := h
  rw [hk] at ho
  obtain ⟨a, cap, rfl, -, -, -, hka, -⟩ := own_read ho
  exact ⟨a, cap, rfl, hka, hb⟩

set_option maxRecDepth 100000 in
set_option maxHeartbeats 4000000 in
theorem law13known (w : World) :
    Calls Try.prog 9 #[] w fun e w' => e = .returned (.bool true) ∧ Below w.heap.size w w' := by
  go_enter Try.func9, Try.ntmps9
  go_wp2_with fail
  refine (recentNew _).mono ?_
  rintro e w1 ⟨rfl, hr, B1⟩
  have R1 := Lib.hid hr
  have hlt := hr.lt
  have Z1 := B1.size
  clear hr
  go_upto_region 5 with fail
  refine wp_letter (fun W => Below w1.heap.size w1 W ∧ W.heap[w1.heap.size]? = some (.cells #[.string ⟨#[97]⟩, .string ⟨#[]⟩] 34 (0, 0)) ∧ W.heap[w1.heap.size + 1]? = some (.cells #[.string ⟨#[98]⟩, .string ⟨#[]⟩] 34 (0, 0))) ⟨by go_grown, by repeat (first | (with_reducible assumption) | (with_reducible refine blk_new_at ?_ _ _; first | (with_reducible rfl) | (simp; done)) | (with_reducible refine blk_alloc ?_ _) | (with_reducible refine blk_drew ?_) | (with_reducible apply blk_set) | (show Array.setIfInBounds _ _ _ = _; first | (simp; done) | (simp; rfl)) | (with_reducible refine blk_set_other ?_ ?_; omega)), by repeat (first | (with_reducible assumption) | (with_reducible refine blk_new_at ?_ _ _; first | (with_reducible rfl) | (simp; done)) | (with_reducible refine blk_alloc ?_ _) | (with_reducible refine blk_drew ?_) | (with_reducible apply blk_set) | (show Array.setIfInBounds _ _ _ = _; first | (simp; done) | (simp; rfl)) | (with_reducible refine blk_set_other ?_ ?_; omega))⟩ ?_
  rintro w2 ⟨B2, a2, b2⟩
  have A2 := Lib.hid a2
  have C2 := Lib.hid b2
  have R2 := Lib.hid (R1.out.ext B2)
  have D2 := ext_trans B1 B2
  have Z2 := B2.size
  clear a2 b2 R1
  haveI hIc : Nonempty (In (Bar w.heap.size w2)) := ⟨⟨_, Bar.refl _ _⟩⟩
  have hF0 : ∀ g : In (Bar w.heap.size w2), ∀ n, g.w.cell? ⟨w1.heap.size, n, none⟩ = #[.string ⟨#[97]⟩, .string ⟨#[]⟩][n]? := fun g n => blk_cell (g.h.blk (by omega) A2.out) n
  have hF1 : ∀ g : In (Bar w.heap.size w2), ∀ n, g.w.cell? ⟨w1.heap.size + 1, n, none⟩ = #[.string ⟨#[98]⟩, .string ⟨#[]⟩][n]? := fun g n => blk_cell (g.h.blk (by omega) C2.out) n
  refine wp_region_chain (fun w' => ∃ g : In (Bar w.heap.size w2), w' = g.w) (by kernel_rfl) (by kernel_rfl) (by kernel_rfl) ?_
  refine wpG_letter (fun W => Bar w.heap.size w2 W ∧ RecAt W w.heap.size 0 []) ⟨Bar.of ((Below.refl _ _).drew), R2.out.ext ((Below.refl _ _).drew)⟩ ?_
  rintro x0 ⟨hb0, hr0⟩
  repeat (refine wpG_plain (by rfl) (by rfl) (fun K hK => ?_); go_big_quiet_op; refine hK _ ?_; clear hK K)
  refine wpG_call (by rfl) (by rfl) ⟨⟨_, hb0⟩, rfl⟩ (fun K hK => ?_)
  go_big_op
  refine (recentAdd w.heap.size 0 ([] : List Ky) (⟨#[97]⟩, ⟨#[]⟩) _ hr0 (by simp) (by omega)).mono ?_
  rintro e x1 ⟨rfl, hrx, hbx⟩
  have hb1 := hb0.trans hbx
  have hr1 : RecAt x1 w.heap.size 1 [(⟨#[97]⟩, ⟨#[]⟩)] := by simpa [addK] using hrx
  clear hb0 hr0 hbx hrx
  refine hK _ _ ?_
  clear hK K
  repeat (refine wpG_plain (by rfl) (by rfl) (fun K hK => ?_); go_big_quiet_op; refine hK _ ?_; clear hK K)
  refine wpG_call (by rfl) (by rfl) ⟨⟨_, hb1⟩, rfl⟩ (fun K hK => ?_)
  go_big_op
  refine (recentAdd w.heap.size 1 [(⟨#[97]⟩, ⟨#[]⟩)] (⟨#[98]⟩, ⟨#[]⟩) _ hr1 (by simp) (by omega)).mono ?_
  rintro e x2 ⟨rfl, hrx, hbx⟩
  have hb2 := hb1.trans hbx
  have hr2 : RecAt x2 w.heap.size 2 [(⟨#[97]⟩, ⟨#[]⟩), (⟨#[98]⟩, ⟨#[]⟩)] := by simpa [addK] using hrx
  clear hb1 hr1 hbx hrx
  refine hK _ _ ?_
  clear hK K
  repeat (refine wpG_plain (by rfl) (by rfl) (fun K hK => ?_); go_big_quiet_op; refine hK _ ?_; clear hK K)
  refine wpG_call (by rfl) (by rfl) ⟨⟨_, hb2⟩, rfl⟩ (fun K hK => ?_)
  go_big_op
  refine (recentAdd w.heap.size 2 [(⟨#[97]⟩, ⟨#[]⟩), (⟨#[98]⟩, ⟨#[]⟩)] (⟨#[97]⟩, ⟨#[]⟩) _ hr2 (by simp) (by omega)).mono ?_
  rintro e x3 ⟨rfl, hrx, hbx⟩
  have hb3 := hb2.trans hbx
  have hr3 : RecAt x3 w.heap.size 3 [(⟨#[97]⟩, ⟨#[]⟩), (⟨#[98]⟩, ⟨#[]⟩), (⟨#[97]⟩, ⟨#[]⟩)] := by simpa [addK] using hrx
  clear hb2 hr2 hbx hrx
  refine hK _ _ ?_
  clear hK K
  repeat (refine wpG_plain (by rfl) (by rfl) (fun K hK => ?_); go_big_quiet_op; refine hK _ ?_; clear hK K)
  refine wpG_nil ⟨⟨_, hb3⟩, rfl⟩ ?_
  have R3 := Lib.hid hr3
  have D3 : Below w.heap.size w x3 := D2.trans (hb3.below (Nat.le_refl _) (by omega))
  have A3 := Lib.hid (hb3.blk (by omega) A2.out)
  have C3 := Lib.hid (hb3.blk (by omega) C2.out)
  clear hr3 hb3 hF0 hF1 hIc A2 C2 R2
  go_wp2_with fail
  refine (recentSince_at w.heap.size 3 3 0 [(⟨#[97]⟩, ⟨#[]⟩), (⟨#[98]⟩, ⟨#[]⟩), (⟨#[97]⟩, ⟨#[]⟩)] [(⟨#[97]⟩, ⟨#[]⟩), (⟨#[98]⟩, ⟨#[]⟩), (⟨#[97]⟩, ⟨#[]⟩)] _ R3.out rfl (by omega) (by omega) (by omega) (by omega) rfl).mono ?_
  intro e w4 ht
  obtain ⟨a4, c4, rfl, k4, B4⟩ := ht.read (kp_aba ab_ne)
  have K4 := Lib.hid k4
  have R4 := Lib.hid (R3.out.ext B4)
  have A4 := Lib.hid (blk_ext B4 A3.out)
  have C4 := Lib.hid (blk_ext B4 C3.out)
  have D4 := ext_trans D3 B4
  clear ht k4 R3 A3 C3 B4
  go_wp2_with fail
  refine (recentSince_at w.heap.size 3 0 3 [(⟨#[97]⟩, ⟨#[]⟩), (⟨#[98]⟩, ⟨#[]⟩), (⟨#[97]⟩, ⟨#[]⟩)] [] _ R4.out rfl (by omega) (by omega) (by omega) (by omega) rfl).mono ?_
  intro e w5 ht
  obtain ⟨a5, c5, rfl, -, B5⟩ := ht.read (ks := []) rfl
  have K5 := Lib.hid (K4.out.ext B5)
  have R5 := Lib.hid (R4.out.ext B5)
  have A5 := Lib.hid (blk_ext B5 A4.out)
  have C5 := Lib.hid (blk_ext B5 C4.out)
  have D5 := ext_trans D4 B5
  clear ht R4 A4 C4 K4 B5
  go_wp2_with fail
  refine (recentSince_no w.heap.size 3 [(⟨#[97]⟩, ⟨#[]⟩), (⟨#[98]⟩, ⟨#[]⟩), (⟨#[97]⟩, ⟨#[]⟩)] 4 _ R5.out (by omega) (by omega)).mono ?_
  rintro e w6 ⟨rfl, rfl⟩
  go_upto_region 9 with fail
  rcases K5.out with h | ⟨g, o, rfl, hc⟩
  · cases h
  · have c0 := hc 0 _ rfl
    have c1 := hc 1 _ rfl
    simp only [Nat.zero_mul, Nat.one_mul, Nat.add_zero] at c0 c1
    clear hc
    haveI hIq : Nonempty (Of w5) := of_some _
    have hF0 := blk_of A5.out
    have hF1 := blk_of C5.out
    have hF2 := of_cell c0.1
    have hF3 := of_cell c0.2
    have hF4 := of_cell c1.1
    have hF5 := of_cell c1.2
    refine wp_region_stay w5 (by kernel_rfl) (by kernel_rfl) (by go_grown) ?_
    repeat (go_big_quiet_step ((go_at_call 14; refine stay_same (recentSeq w.heap.size 3 [(⟨#[97]⟩, ⟨#[]⟩), (⟨#[98]⟩, ⟨#[]⟩), (⟨#[97]⟩, ⟨#[]⟩)] _ (R5.out.ext (In.h _))))))
    refine wpQuiet_nil ?_
    intro w7 hb
    have D7 := ext_trans D5 hb
    clear hIq hF0 hF1 hF2 hF3 hF4 hF5 c0 c1
    go_wp2
    go_ret
    exact ⟨rfl, D7⟩

end Go.Proofs.Ytingmfchlnpgbaa
