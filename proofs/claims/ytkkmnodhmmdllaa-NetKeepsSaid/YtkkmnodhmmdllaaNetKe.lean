/- Layer 8's laws, walked: NetKeeps. -/
import Derived.Test.YtkkmnodhmmdllaaNetK
import Derived.Test.YtkkmnodhmmdllaaRowsB
import Derived.Deep.DeepCutAuto
namespace Go.Proofs.Ytkkmnodhmmdllaa
open Go.RowKit
set_option linter.unusedVariables false

/-- the letters are those of the rows from number q on -/
def Fits (w : World) (rx : Nat → List Int) (q : Nat) (ls : List Lt) : Prop := ∀ (j : Nat) (x : Lt), ls[j]? = some x → x.f = ((q + j : Nat) : Int) % 3 ∧ x.t = (((q + j : Nat) : Int) + 1) % 3 ∧ OwnB 0 w x (rx (q + j))
theorem pr_none (n : Nat) (a b : Int) : prB n (List.replicate 36 false) a b = false := by
  have h : ∀ k, (List.replicate 36 false).getD k false = false := fun k => by
    simp only [List.getD, List.getElem?_replicate]
    split <;> rfl
  unfold prB
  rw [h, Bool.and_false]

set_option maxRecDepth 100000 in
set_option maxHeartbeats 4000000 in
theorem netKeeps_walk (a0 : Option Addr) (len cap : Nat) (ro : Nat → Option Addr) (rl rc : Nat → Nat) (rx : Nat → List Int) (w : World) (h0 : IsRows w a0 len cap ro rl rc rx) (hbig : ∀ i, i < len → rl i ≤ 140737488351232) :
    Calls Try.prog 4 #[.slice a0 len cap] w fun e w' => e = .returned (.bool true) ∧ Below w.heap.size w w' := by
  have H0 := Lib.hid h0
  have HBIG := Lib.hid hbig
  have hcap := h0.1
  have hmx := h0.2.1
  unfold maxLen at hmx
  clear h0 hbig
  go_enter Try.func4, Try.ntmps4
  go_wp2_with fail
  refine (nsNew 3 w (by omega) (by omega)).mono ?_
  rintro e w1 ⟨rfl, hs1, D1⟩
  obtain ⟨nb, hnb⟩ : ∃ nb, w.heap.size = nb := ⟨_, rfl⟩
  have hnb0 : w.heap.size ≤ nb := by omega
  rw [hnb] at hs1 ⊢
  have S1 := Lib.hid hs1
  have R1 : Rim nb w w1 := Rim.of D1
  clear hs1 hnb D1
  go_wp2_with fail
  go_loopw [4, 5] (fun k i wr => ∃ (p : Nat) (ls : List Lt), p ≤ len ∧ p ≤ 40 ∧ k = .int .i64 (p : Int) ∧ i = .int .i64 (p : Int) ∧ NS wr nb 3 ls (List.replicate 36 false) ∧ ls.length = p ∧ Fits wr rx 0 ls ∧ Rim nb w wr) (fun _ i _ => 40 - (intOf i).toNat)
  case atStart => exact ⟨0, [], by omega, by omega, rfl, rfl, S1.out, rfl, fun j x hj => by simp at hj, R1⟩
  case round =>
    obtain ⟨w2, rfl⟩ : ∃ y : World, y = wr := ⟨_, rfl⟩
    obtain ⟨p, ls, hp, hp4, rfl, rfl, hs2, hll, hf2, hr2⟩ := hrel
    have S2 := Lib.hid hs2
    have F2 := Lib.hid hf2
    have HLL := Lib.hid hll
    have R2 := Lib.hid hr2
    clear hs2 hf2 hll hr2 S1 R1
    by_cases hgo : p < len ∧ p < 40
    · obtain ⟨hg1, hg2⟩ := hgo
      obtain ⟨b, o, rfl, hz⟩ := H0.out.2.2.2.resolve_left (by omega)
      have D2 := R2.out.below hnb0 (Nat.le_refl _)
      have hcell := ext_cell D2 (hz p hg1)
      obtain ⟨hbA, hbL, hbC, hbM, hbW⟩ := H0.out.2.2.1 p hg1
      have hbig := HBIG.out p hg1
      have HA := Lib.hid (hbA.ext D2)
      have HL := Lib.hid hbL
      clear hz hbA hbL hbW
      generalize ro p = ra at *
      generalize rl p = rlen at *
      generalize rc p = rcap at *
      obtain ⟨xs, hxs⟩ : ∃ xs, rx p = xs := ⟨_, rfl⟩
      have HXS := Lib.hid hxs
      rw [hxs] at HA HL
      have hd1 : decide ((p : Int) < len) = true := by simp; omega
      have hd2 : decide ((p : Int) < 40) = true := by simp; omega
      unfold maxLen at hbM
      clear hxs
      go_wp2_with fail
      refine (nsSend nb 3 ls (List.replicate 36 false) ⟨(p : Int) % 3, ((p : Int) + 1) % 3, ra, rlen, rcap⟩ xs _ S2.out (by have := HLL.out; omega) (by simp only; omega) (by simp only; omega) (by simp only; omega) (by simp only; omega) HA.out HL.out (by simp only; omega)).mono ?_
      rintro e w3 ⟨y, rfl, hyf, hyt, hyb, hs3, hr3⟩
      have F3 := Lib.hid (show Fits w3 rx 0 (ls ++ [y]) from fun j x hj => by
        by_cases hjl : j < ls.length
        · rw [List.getElem?_append_left hjl] at hj
          obtain ⟨h1, h2, h3⟩ := F2.out j x hj
          exact ⟨h1, h2, S2.out.bytes hr3 h3⟩
        · rw [List.getElem?_append_right (by omega)] at hj
          have hj0 : j = p := by
            have := HLL.out
            rcases Nat.eq_zero_or_pos (j - ls.length) with h | h
            · omega
            · rw [List.getElem?_eq_none (by simp; omega)] at hj; cases hj
          subst hj0
          rw [HLL.out, Nat.sub_self] at hj
          simp at hj
          subst hj
          rw [Nat.zero_add]
          exact ⟨hyf, hyt, by rw [HXS.out]; exact hyb⟩)
      have S3 := Lib.hid hs3
      have R3 := R2.out.trans hr3
      clear hyf hyt hyb hs3 hr3 S2 F2
      go_wp2
      go_roundw
      case rel => exact ⟨p + 1, ls ++ [y], by omega, by omega, by go_num, by go_num, S3.out, by simp [HLL.out], F3.out, R3⟩
      case measure => first | (simp [intOf]; done) | (simp [intOf]; omega)
    · have hKlen : p ≤ len := hp
      have hpK : p ≤ 40 := hp4
      have hcases : (decide ((p : Int) < len) = false ∧ ¬ p < len) ∨ (decide ((p : Int) < len) = true ∧ p < len ∧ decide ((p : Int) < 40) = false ∧ ¬ p < 40) := by simp; omega
      clear hgo
      rcases hcases with ⟨hd1, hd2⟩ | ⟨hd1, hd2, hd3, hd4⟩
      · have HK := Lib.hid hpK
        have HKL := Lib.hid hKlen
        clear hpK
        go_wp2_with fail
        go_loopw [6] (fun i wr => ∃ (q : Nat) (ms : List Lt), q ≤ p ∧ i = .int .i64 (q : Int) ∧ NS wr nb 3 ms (List.replicate 36 false) ∧ ms.length + q = p ∧ Fits wr rx q ms ∧ Rim nb w wr) (fun i _ => p - (intOf i).toNat)
        case atStart => exact ⟨0, ls, by omega, rfl, S2.out, by have := HLL.out; omega, F2.out, R2.out⟩
        case round =>
          obtain ⟨w3, rfl⟩ : ∃ y : World, y = wr := ⟨_, rfl⟩
          obtain ⟨q, ms, hq, rfl, hs3, hml, hf3, hr3⟩ := hrel
          have S3 := Lib.hid hs3
          have F3 := Lib.hid hf3
          have HML := Lib.hid hml
          clear hs3 hf3 hml S2 F2 R2
          by_cases hqp : q < p
          · obtain ⟨x, ms', hms⟩ : ∃ x m, ms = x :: m := by
              match ms, HML.out with
              | [], h => simp at h; omega
              | x :: m, _ => exact ⟨x, m, rfl⟩
            subst hms
            obtain ⟨hxf, hxt, hxb⟩ := F3.out 0 x rfl
            rw [Nat.add_zero] at hxf hxt hxb
            obtain ⟨b, o, rfl, hz⟩ := H0.out.2.2.2.resolve_left (by omega)
            obtain ⟨hbA, hbL, hbC, hbM, hbW⟩ := H0.out.2.2.1 q (by omega)
            have hcell0 := hz q (by omega)
            have hbig := HBIG.out q (by omega)
            have HXB := Lib.hid hxb
            have HXF := Lib.hid hxf
            have HXT := Lib.hid hxt
            have HQ := Lib.hid hbA
            have HQL := Lib.hid hbL
            have hqc : q < 40 := by omega
            clear hz hxf hxt hxb hbA hbL hbW
            generalize ro q = ra at *
            generalize rl q = rlen at *
            generalize rc q = rcap at *
            obtain ⟨xs, hxs⟩ : ∃ xs, rx q = xs := ⟨_, rfl⟩
            rw [hxs] at HXB HQ HQL
            clear hxs
            go_wp2_with fail
            refine (nsDeliver nb 3 (x :: ms') (List.replicate 36 false) 0 x xs _ S3.out rfl (pr_none 3 x.f x.t) HXB.out (by have := HQL.out; omega)).mono ?_
            rintro e w4 ⟨z, rfl, hzf, hzt, hzb, hs4, hr4⟩
            have F4 := Lib.hid (show Fits w4 rx (q + 1) ms' from fun j y hj => by
              obtain ⟨h1, h2, h3⟩ := F3.out (j + 1) y hj
              rw [show q + 1 + j = q + (j + 1) from by omega]
              exact ⟨h1, h2, S3.out.bytes hr4 h3⟩)
            have S4 := Lib.hid (show NS w4 nb 3 ms' (List.replicate 36 false) from hs4)
            have R4 := hr3.trans hr4
            have D4 := Lib.hid (R4.below hnb0 (Nat.le_refl _))
            have HZF := Lib.hid (hzf.trans HXF.out)
            have HZT := Lib.hid (hzt.trans HXT.out)
            have HZB := Lib.hid hzb
            clear hzf hzt hzb hs4 hr4 S3 F3 HXB HXF HXT
            go_wp2_with fail
            obtain ⟨s, hs⟩ : ∃ s, w4.heap.size = s := ⟨_, rfl⟩
            have G : Below w4.heap.size w4 (w4.alloc (.cells #[.int .i64 z.f, .int .i64 z.t, .slice z.a z.n z.c] 34)) := (Below.refl _ _).alloc (Nat.le_refl _) _
            have hC := blk_new w4 #[.int .i64 z.f, .int .i64 z.t, .slice z.a z.n z.c] 34
            have S5 := Lib.hid (S4.out.ext G)
            have F5 := Lib.hid (show Fits (w4.alloc (.cells #[.int .i64 z.f, .int .i64 z.t, .slice z.a z.n z.c] 34)) rx (q + 1) ms' from fun j y hj => by
              obtain ⟨h1, h2, h3⟩ := F4.out j y hj
              exact ⟨h1, h2, h3.ext G⟩)
            have R5 := R4.trans (Rim.of G)
            have B5 := HZB.out.ext G
            have D5 := ext_trans D4.out G
            rw [hs] at hC ⊢
            clear hs S4 F4 HZB G
            generalize (w4.alloc (.cells #[.int .i64 z.f, .int .i64 z.t, .slice z.a z.n z.c] 34)) = w5 at *
            have hzz := B5.read
            have hcv1 := Lib.hid (show ∀ g : Of w5, (convert 23 9 (.slice z.a z.n z.c)).run Try.prog g.w = .ok (.string (strOfNums xs)) g.w from fun g => run_text g.w 23 5 Try.underlying23 Try.underlying5 9 Try.underlying9 z.a z.n z.c xs hzz.2 (hzz.1.ext g.h))
            have hcv2 := Lib.hid (show ∀ g : Of w5, (convert 23 9 (.slice ra rlen rcap)).run Try.prog g.w = .ok (.string (strOfNums xs)) g.w from fun g => run_text g.w 23 5 Try.underlying23 Try.underlying5 9 Try.underlying9 ra rlen rcap xs HQL.out ((HQ.out.ext D5).ext g.h))
            haveI hIq : Nonempty (Of w5) := of_some _
            have hF0 := blk_of hC
            have hF1 := of_cell (ext_cell D5 hcell0)
            have hF2 := hcv1.out
            have hF3 := hcv2.out
            have hb1 : (z.f != (q : Int) % 3) = false := by rw [HZF.out]; simp
            have hb2 : (z.t != ((q : Int) + 1) % 3) = false := by rw [HZT.out]; simp
            have ht1 : (q : Int).tmod 3 = (q : Int) % 3 := Int.tmod_eq_emod_of_nonneg (by omega)
            have ht2 : ((q : Int) + 1).tmod 3 = ((q : Int) + 1) % 3 := Int.tmod_eq_emod_of_nonneg (by omega)
            have hw1 : IntKind.i64.wrap ((q : Int) + 1) = (q : Int) + 1 := by simp only [IntKind.wrap_i64]; omega
            clear hzz
            refine wp_region_stay w5 (by kernel_rfl) (by kernel_rfl) (by go_grown) ?_
            repeat (go_big_quiet_step (fail))
            refine wpQuiet_nil ?_
            intro w6 hb
            have S6 := Lib.hid (S5.out.ext hb)
            have F6 := Lib.hid (show Fits w6 rx (q + 1) ms' from fun j y hj => by
              obtain ⟨h1, h2, h3⟩ := F5.out j y hj
              exact ⟨h1, h2, h3.ext hb⟩)
            have R6 := R5.trans (Rim.of hb)
            clear hIq hF0 hF1 hF2 hF3 hb S5 F5 hb1 hb2 ht1 ht2 hw1
            go_wp2
            go_roundw
            case rel => exact ⟨q + 1, ms', by omega, by go_num, S6.out, by have := HML.out; simp at this; omega, F6.out, R6⟩
            case measure => first | (simp [intOf]; done) | (simp [intOf]; omega)
          · obtain rfl : q = p := by omega
            obtain rfl : ms = [] := List.eq_nil_of_length_eq_zero (by have := HML.out; omega)
            go_wp2_with fail
            refine (nsDeliver_no nb 3 [] (List.replicate 36 false) 0 _ S3.out (by simp)).mono ?_
            rintro e w4 ⟨rfl, hs4, hb4⟩
            have G : Below w4.heap.size w4 (w4.alloc (.cells #[.int .i64 0, .int .i64 0, .slice none 0 0] 34)) := (Below.refl _ _).alloc (Nat.le_refl _) _
            have S5 := Lib.hid (hs4.ext G)
            have R5 := (hr3.trans (Rim.of hb4)).trans (Rim.of G)
            clear hs4 hb4 G
            go_wp2_with fail
            refine (nsLen nb 3 [] (List.replicate 36 false) _ S5.out).mono ?_
            rintro e w5 ⟨rfl, rfl⟩
            go_wp2_with fail
            refine (law8known _).mono ?_
            rintro e w6 ⟨rfl, hb6⟩
            have R6 := R5.trans (Rim.of hb6)
            go_wp2
            go_ret
            exact ⟨rfl, R6.below hnb0 (Nat.le_refl _)⟩
      · have HK := Lib.hid hpK
        have HKL := Lib.hid hKlen
        clear hpK
        go_wp2_with fail
        go_loopw [6] (fun i wr => ∃ (q : Nat) (ms : List Lt), q ≤ p ∧ i = .int .i64 (q : Int) ∧ NS wr nb 3 ms (List.replicate 36 false) ∧ ms.length + q = p ∧ Fits wr rx q ms ∧ Rim nb w wr) (fun i _ => p - (intOf i).toNat)
        case atStart => exact ⟨0, ls, by omega, rfl, S2.out, by have := HLL.out; omega, F2.out, R2.out⟩
        case round =>
          obtain ⟨w3, rfl⟩ : ∃ y : World, y = wr := ⟨_, rfl⟩
          obtain ⟨q, ms, hq, rfl, hs3, hml, hf3, hr3⟩ := hrel
          have S3 := Lib.hid hs3
          have F3 := Lib.hid hf3
          have HML := Lib.hid hml
          clear hs3 hf3 hml S2 F2 R2
          by_cases hqp : q < p
          · obtain ⟨x, ms', hms⟩ : ∃ x m, ms = x :: m := by
              match ms, HML.out with
              | [], h => simp at h; omega
              | x :: m, _ => exact ⟨x, m, rfl⟩
            subst hms
            obtain ⟨hxf, hxt, hxb⟩ := F3.out 0 x rfl
            rw [Nat.add_zero] at hxf hxt hxb
            obtain ⟨b, o, rfl, hz⟩ := H0.out.2.2.2.resolve_left (by omega)
            obtain ⟨hbA, hbL, hbC, hbM, hbW⟩ := H0.out.2.2.1 q (by omega)
            have hcell0 := hz q (by omega)
            have hbig := HBIG.out q (by omega)
            have HXB := Lib.hid hxb
            have HXF := Lib.hid hxf
            have HXT := Lib.hid hxt
            have HQ := Lib.hid hbA
            have HQL := Lib.hid hbL
            have hqc : q < 40 := by omega
            clear hz hxf hxt hxb hbA hbL hbW
            generalize ro q = ra at *
            generalize rl q = rlen at *
            generalize rc q = rcap at *
            obtain ⟨xs, hxs⟩ : ∃ xs, rx q = xs := ⟨_, rfl⟩
            rw [hxs] at HXB HQ HQL
            clear hxs
            go_wp2_with fail
            refine (nsDeliver nb 3 (x :: ms') (List.replicate 36 false) 0 x xs _ S3.out rfl (pr_none 3 x.f x.t) HXB.out (by have := HQL.out; omega)).mono ?_
            rintro e w4 ⟨z, rfl, hzf, hzt, hzb, hs4, hr4⟩
            have F4 := Lib.hid (show Fits w4 rx (q + 1) ms' from fun j y hj => by
              obtain ⟨h1, h2, h3⟩ := F3.out (j + 1) y hj
              rw [show q + 1 + j = q + (j + 1) from by omega]
              exact ⟨h1, h2, S3.out.bytes hr4 h3⟩)
            have S4 := Lib.hid (show NS w4 nb 3 ms' (List.replicate 36 false) from hs4)
            have R4 := hr3.trans hr4
            have D4 := Lib.hid (R4.below hnb0 (Nat.le_refl _))
            have HZF := Lib.hid (hzf.trans HXF.out)
            have HZT := Lib.hid (hzt.trans HXT.out)
            have HZB := Lib.hid hzb
            clear hzf hzt hzb hs4 hr4 S3 F3 HXB HXF HXT
            go_wp2_with fail
            obtain ⟨s, hs⟩ : ∃ s, w4.heap.size = s := ⟨_, rfl⟩
            have G : Below w4.heap.size w4 (w4.alloc (.cells #[.int .i64 z.f, .int .i64 z.t, .slice z.a z.n z.c] 34)) := (Below.refl _ _).alloc (Nat.le_refl _) _
            have hC := blk_new w4 #[.int .i64 z.f, .int .i64 z.t, .slice z.a z.n z.c] 34
            have S5 := Lib.hid (S4.out.ext G)
            have F5 := Lib.hid (show Fits (w4.alloc (.cells #[.int .i64 z.f, .int .i64 z.t, .slice z.a z.n z.c] 34)) rx (q + 1) ms' from fun j y hj => by
              obtain ⟨h1, h2, h3⟩ := F4.out j y hj
              exact ⟨h1, h2, h3.ext G⟩)
            have R5 := R4.trans (Rim.of G)
            have B5 := HZB.out.ext G
            have D5 := ext_trans D4.out G
            rw [hs] at hC ⊢
            clear hs S4 F4 HZB G
            generalize (w4.alloc (.cells #[.int .i64 z.f, .int .i64 z.t, .slice z.a z.n z.c] 34)) = w5 at *
            have hzz := B5.read
            have hcv1 := Lib.hid (show ∀ g : Of w5, (convert 23 9 (.slice z.a z.n z.c)).run Try.prog g.w = .ok (.string (strOfNums xs)) g.w from fun g => run_text g.w 23 5 Try.underlying23 Try.underlying5 9 Try.underlying9 z.a z.n z.c xs hzz.2 (hzz.1.ext g.h))
            have hcv2 := Lib.hid (show ∀ g : Of w5, (convert 23 9 (.slice ra rlen rcap)).run Try.prog g.w = .ok (.string (strOfNums xs)) g.w from fun g => run_text g.w 23 5 Try.underlying23 Try.underlying5 9 Try.underlying9 ra rlen rcap xs HQL.out ((HQ.out.ext D5).ext g.h))
            haveI hIq : Nonempty (Of w5) := of_some _
            have hF0 := blk_of hC
            have hF1 := of_cell (ext_cell D5 hcell0)
            have hF2 := hcv1.out
            have hF3 := hcv2.out
            have hb1 : (z.f != (q : Int) % 3) = false := by rw [HZF.out]; simp
            have hb2 : (z.t != ((q : Int) + 1) % 3) = false := by rw [HZT.out]; simp
            have ht1 : (q : Int).tmod 3 = (q : Int) % 3 := Int.tmod_eq_emod_of_nonneg (by omega)
            have ht2 : ((q : Int) + 1).tmod 3 = ((q : Int) + 1) % 3 := Int.tmod_eq_emod_of_nonneg (by omega)
            have hw1 : IntKind.i64.wrap ((q : Int) + 1) = (q : Int) + 1 := by simp only [IntKind.wrap_i64]; omega
            clear hzz
            refine wp_region_stay w5 (by kernel_rfl) (by kernel_rfl) (by go_grown) ?_
            repeat (go_big_quiet_step (fail))
            refine wpQuiet_nil ?_
            intro w6 hb
            have S6 := Lib.hid (S5.out.ext hb)
            have F6 := Lib.hid (show Fits w6 rx (q + 1) ms' from fun j y hj => by
              obtain ⟨h1, h2, h3⟩ := F5.out j y hj
              exact ⟨h1, h2, h3.ext hb⟩)
            have R6 := R5.trans (Rim.of hb)
            clear hIq hF0 hF1 hF2 hF3 hb S5 F5 hb1 hb2 ht1 ht2 hw1
            go_wp2
            go_roundw
            case rel => exact ⟨q + 1, ms', by omega, by go_num, S6.out, by have := HML.out; simp at this; omega, F6.out, R6⟩
            case measure => first | (simp [intOf]; done) | (simp [intOf]; omega)
          · obtain rfl : q = p := by omega
            obtain rfl : ms = [] := List.eq_nil_of_length_eq_zero (by have := HML.out; omega)
            go_wp2_with fail
            refine (nsDeliver_no nb 3 [] (List.replicate 36 false) 0 _ S3.out (by simp)).mono ?_
            rintro e w4 ⟨rfl, hs4, hb4⟩
            have G : Below w4.heap.size w4 (w4.alloc (.cells #[.int .i64 0, .int .i64 0, .slice none 0 0] 34)) := (Below.refl _ _).alloc (Nat.le_refl _) _
            have S5 := Lib.hid (hs4.ext G)
            have R5 := (hr3.trans (Rim.of hb4)).trans (Rim.of G)
            clear hs4 hb4 G
            go_wp2_with fail
            refine (nsLen nb 3 [] (List.replicate 36 false) _ S5.out).mono ?_
            rintro e w5 ⟨rfl, rfl⟩
            go_wp2_with fail
            refine (law8known _).mono ?_
            rintro e w6 ⟨rfl, hb6⟩
            have R6 := R5.trans (Rim.of hb6)
            go_wp2
            go_ret
            exact ⟨rfl, R6.below hnb0 (Nat.le_refl _)⟩

end Go.Proofs.Ytkkmnodhmmdllaa
