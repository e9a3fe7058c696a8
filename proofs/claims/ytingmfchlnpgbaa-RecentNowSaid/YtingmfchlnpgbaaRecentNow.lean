/- Layer 13's laws, walked: RecentNow. -/
import Derived.Test.YtingmfchlnpgbaaRecentN0
import Derived.Test.YtingmfchlnpgbaaRecentK
namespace Go.Proofs.Ytingmfchlnpgbaa
open Go.RowKit
set_option linter.unusedVariables false

theorem addK_len {cs : List Ky} {p : Nat} (k : Ky) (h : cs.length = min p 16) : (addK cs k).length = min (p + 1) 16 := by
  simp only [addK, List.length_append, List.length_drop, List.length_cons, List.length_nil]; omega
theorem addK_last {cs : List Ky} (k : Ky) : (addK cs k).drop ((addK cs k).length - 1) = [k] := by
  simp [addK]

set_option maxRecDepth 100000 in
set_option maxHeartbeats 4000000 in
theorem recentNow_walk (a0 : Option Addr) (len cap : Nat) (zs : List Int) (w : World) (h0 : IsRow .i64 w a0 len cap zs) (hr : len * 8 ≤ 140737488351232) :
    Calls Try.prog 6 #[.slice a0 len cap] w fun e w' => e = .returned (.bool true) ∧ Below w.heap.size w w' := by
  have H0 := Lib.hid h0
  clear h0
  go_enter Try.func6, Try.ntmps6
  go_wp2_with fail
  refine (law13keys a0 len cap zs _ H0.out hr).mono ?_
  rintro e w1 ⟨v, ks, rfl, ho, hl50, B1⟩
  obtain ⟨al, cl, rfl, -, -, -, hka, hob⟩ := own_read ho
  have K1 := Lib.hid hka
  have LT := Lib.hid (fun b o (e : al = some ⟨b, o, none⟩) => (ho.lt b (hob b o e)).2)
  clear ho hka hob
  go_wp2_with fail
  refine (recentNew _).mono ?_
  rintro e w2 ⟨rfl, hr2, B2⟩
  have R2 := Lib.hid hr2
  have K2 := Lib.hid (K1.out.ext B2)
  have D2 := ext_trans B1 B2
  have Z1 := B1.size
  have hlt2 := hr2.lt
  have Z2 := D2.size
  clear hr2
  go_wp2_with fail
  go_loopw [22] (fun i wr => ∃ (p : Nat) (cs : List Ky), p ≤ ks.length ∧ i = .int .i64 p ∧ cs.length = min p 16 ∧ RecAt wr w1.heap.size p cs ∧ Bar w1.heap.size w2 wr) (fun i _ => ks.length - (intOf i).toNat)
  case atStart => exact ⟨0, [], by omega, rfl, rfl, R2.out, Bar.refl _ _⟩
  case round =>
    obtain ⟨w3, rfl⟩ : ∃ y : World, y = wr := ⟨_, rfl⟩
    obtain ⟨p, cs, hp, rfl, hcl, hrec, hbar⟩ := hrel
    have CL := Lib.hid hcl
    have R3 := Lib.hid hrec
    have G3 := Lib.hid hbar
    have K3 := Lib.hid (K2.out.keep (fun b o e q v hc => hbar.cell (by have := LT.out b o e; omega) hc))
    have D3 : Below w.heap.size w w3 := D2.trans (hbar.below Z1 (by omega))
    have Z3 := hbar.size
    clear hcl hrec hbar
    by_cases hlp : p < ks.length
    · obtain ⟨k, hk⟩ : ∃ k, ks[p]? = some k := ⟨ks[p], by simp [hlp]⟩
      rcases K3.out with h | ⟨g, o, rfl, hc⟩
      · rw [h] at hlp; simp at hlp
      · have c0 := (hc p k hk).1
        have c1 := (hc p k hk).2
        have HK := Lib.hid hk
        have hd : decide ((p : Int) < ks.length) = true := by simp; omega
        clear hc hk
        go_wp2_with fail
        refine (recentAdd w1.heap.size p cs k _ R3.out (by have := CL.out; omega) (by omega)).mono ?_
        rintro e w4 ⟨rfl, hr4, hb4⟩
        have R4 := Lib.hid hr4
        have C4 := Lib.hid (addK_len k CL.out)
        have hgne : g ≠ w1.heap.size := by have := LT.out g o rfl; omega
        have e0 := hb4.cell hgne c0
        have e1 := hb4.cell hgne c1
        have G4 := Lib.hid (G3.out.trans hb4)
        have D4 : Below w.heap.size w w4 := D3.trans (hb4.below Z1 (by omega))
        have Z4 := hb4.size
        clear hr4 hb4 c0 c1 R3 K3
        go_wp2_with fail
        refine (recentSince_at w1.heap.size (p + 1) 0 _ (addK cs k) [] _ R4.out C4.out (by simp) (by omega) (by omega) (by omega) (by simp)).mono ?_
        intro e w5 ht
        obtain ⟨a5, c5, rfl, -, B5⟩ := ht.read (ks := []) rfl
        have R5 := Lib.hid (R4.out.ext B5)
        have e0' := ext_cell B5 e0
        have e1' := ext_cell B5 e1
        have G5 := Lib.hid (G4.out.trans (Bar.of B5))
        have D5 := ext_trans D4 B5
        clear ht R4 G4 e0 e1
        go_wp2_with fail
        refine (recentSince_at w1.heap.size (p + 1) 1 _ (addK cs k) [k] _ R5.out C4.out (by simp) (by omega) (by omega) (by omega) (addK_last k)).mono ?_
        intro e w6 ht
        obtain ⟨a6, c6, rfl, k6, B6⟩ := ht.read (kp_one k)
        have R6 := Lib.hid (R5.out.ext B6)
        have e0 := ext_cell B6 e0'
        have e1 := ext_cell B6 e1'
        have G6 := Lib.hid (G5.out.trans (Bar.of B6))
        have K6 := Lib.hid k6
        have D6 := ext_trans D5 B6
        have Z6 := D6.size
        clear ht R5 G5 e0' e1' k6
        go_wp2_with fail
        refine (recentSince_no w1.heap.size (p + 1) (addK cs k) _ _ R6.out (by omega) (by right; left; simp <;> omega)).mono ?_
        rintro e w7 ⟨rfl, rfl⟩
        go_upto_region 12 with fail
        rcases K6.out with h | ⟨g6, o6, rfl, hc6⟩
        · cases h
        · have f0 := (hc6 0 _ rfl).1
          have f1 := (hc6 0 _ rfl).2
          simp only [Nat.zero_mul, Nat.add_zero] at f0 f1
          clear hc6
          haveI hIq : Nonempty (Of w6) := of_some _
          have hF0 := of_cell e0
          have hF1 := of_cell e1
          have hF2 := of_cell f0
          have hF3 := of_cell f1
          refine wp_region_stay w6 (by kernel_rfl) (by kernel_rfl) (by go_grown) ?_
          repeat (go_big_quiet_step (fail))
          refine wpQuiet_nil ?_
          intro w7 hb
          have R7 := Lib.hid (R6.out.ext hb)
          have G7 := Lib.hid (G6.out.trans (Bar.of hb))
          clear hIq hF0 hF1 hF2 hF3 e0 e1 f0 f1 hb
          go_wp2
          go_roundw
          case rel => exact ⟨p + 1, addK cs k, by omega, by go_num, C4.out, R7.out, G7.out⟩
          case measure => simp [intOf]; omega
    · obtain rfl : p = ks.length := by omega
      by_cases h16 : ks.length ≤ 16
      · have hd : decide ((ks.length : Int) ≤ 16) = true := by simp; omega
        go_wp2_with fail
        refine (recentSince_at w1.heap.size ks.length ks.length 0 cs _ _ R3.out CL.out (by omega) (by omega) (by omega) (by omega) rfl).mono ?_
        intro e w4 ht
        obtain ⟨a4, c4, rfl, -, B4⟩ := ht.read rfl
        have R4 := Lib.hid (R3.out.ext B4)
        have D4 := ext_trans D3 B4
        clear ht
        go_wp2_with fail
        refine (recentSeq w1.heap.size ks.length cs _ R4.out).mono ?_
        rintro e w5 ⟨rfl, rfl⟩
        go_wp2_with fail
        refine (law13known _).mono ?_
        rintro e w5 ⟨rfl, hb⟩
        have D5 := ext_trans D4 hb
        go_wp2
        go_ret
        exact ⟨rfl, D5⟩
      · have hd : decide ((ks.length : Int) ≤ 16) = false := by simp; omega
        go_wp2_with fail
        refine (recentSince_no w1.heap.size ks.length cs 0 _ R3.out (by omega) (by omega)).mono ?_
        rintro e w4 ⟨rfl, rfl⟩
        go_wp2_with fail
        refine (recentSeq w1.heap.size ks.length cs _ R3.out).mono ?_
        rintro e w5 ⟨rfl, rfl⟩
        go_wp2_with fail
        refine (law13known _).mono ?_
        rintro e w5 ⟨rfl, hb⟩
        have D5 := ext_trans D3 hb
        go_wp2
        go_ret
        exact ⟨rfl, D5⟩

end Go.Proofs.Ytingmfchlnpgbaa
