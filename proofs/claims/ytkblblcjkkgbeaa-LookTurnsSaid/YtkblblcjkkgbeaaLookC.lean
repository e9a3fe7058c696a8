/- Package look's walks: how many show each status. -/
import Derived.Test.YtkblblcjkkgbeaaLookP
namespace Go.Proofs.Ytkblblcjkkgbeaa
open Go.RowKit
set_option linter.unusedVariables false
set_option linter.unusedSimpArgs false

theorem blk_fill4 {w : World} {b : Nat} {T : TypeId} {vs : Array Value} {v0 v1 v2 v3 : Value} (h : w.heap[b]? = some (.cells vs T (0, 0))) (hs : vs.size = 4) : ((((w.setCell ⟨b, 0, none⟩ v0).setCell ⟨b, 1, none⟩ v1).setCell ⟨b, 2, none⟩ v2).setCell ⟨b, 3, none⟩ v3).heap[b]? = some (.cells #[v0, v1, v2, v3] T (0, 0)) := by
  obtain ⟨l⟩ := vs
  match l, hs with
  | [x0, x1, x2, x3], _ =>
    have h0 := blk_set (n := 0) (u := v0) (vs' := #[v0, x1, x2, x3]) h (by simp)
    have h1 := blk_set (n := 1) (u := v1) (vs' := #[v0, v1, x2, x3]) h0 (by simp)
    have h2 := blk_set (n := 2) (u := v2) (vs' := #[v0, v1, v2, x3]) h1 (by simp)
    have h3 := blk_set (n := 3) (u := v3) (vs' := #[v0, v1, v2, v3]) h2 (by simp)
    exact h3
theorem blk_over4 {w : World} {b c : Nat} {o : Obj} {v0 v1 v2 v3 : Value} (hn : c ≠ b) (h : w.heap[c]? = some o) : ((((w.setCell ⟨b, 0, none⟩ v0).setCell ⟨b, 1, none⟩ v1).setCell ⟨b, 2, none⟩ v2).setCell ⟨b, 3, none⟩ v3).heap[c]? = some o := by
  exact (blk_set_other hn (blk_set_other hn (blk_set_other hn (blk_set_other hn h))))
theorem below_fill4 {m : Nat} {u w : World} {b : Nat} {v0 v1 v2 v3 : Value} (h : Below m u w) (hb : m ≤ b) : Below m u ((((w.setCell ⟨b, 0, none⟩ v0).setCell ⟨b, 1, none⟩ v1).setCell ⟨b, 2, none⟩ v2).setCell ⟨b, 3, none⟩ v3) := ((((h.setCell hb _).setCell hb _).setCell hb _).setCell hb _)

theorem cnt4_snoc (ls : List Cd) (x : Cd) {c0 c1 c2 c3 Z : Int} (hZ : shw x = Z) (h0 : cntI ls 0 = c0) (h1 : cntI ls 1 = c1) (h2 : cntI ls 2 = c2) (h3 : cntI ls 3 = c3) :
    cnt4 (ls ++ [x]) = #[.int .i64 (c0 + (if Z = 0 then 1 else 0)), .int .i64 (c1 + (if Z = 1 then 1 else 0)), .int .i64 (c2 + (if Z = 2 then 1 else 0)), .int .i64 (c3 + (if Z = 3 then 1 else 0))] := by
  unfold cnt4
  rw [cnt_snoc, cnt_snoc, cnt_snoc, cnt_snoc, hZ, h0, h1, h2, h3]

set_option maxRecDepth 100000 in
set_option maxHeartbeats 2000000 in
theorem lookCount (a : Option Addr) (n c : Nat) (ls : List Cd) (w : World) (h : CAt w a ls) (hl : ls.length = n) (hn : n ≤ 1000) (hnc : n ≤ c) :
    Calls Try.prog 13 #[.slice a n c] w fun e w' => e = .returned (.agg (cnt4 ls)) ∧ Below w.heap.size w w' := by
  have HN := Lib.hid hl
  have D0 : Below w.heap.size w (w.alloc (.cells #[.int .i64 0, .int .i64 0, .int .i64 0, .int .i64 0] 45)) := (Below.refl _ _).alloc (Nat.le_refl _) _
  have D1 : Below w.heap.size w ((w.alloc (.cells #[.int .i64 0, .int .i64 0, .int .i64 0, .int .i64 0] 45)).alloc (.cells #[.int .i64 0, .int .i64 0, .int .i64 0, .int .i64 0] 45)) := D0.alloc (by simp) _
  have HA := Lib.hid (h.ext D1)
  have HR0 := Lib.hid (blk_alloc (blk_new w #[.int .i64 0, .int .i64 0, .int .i64 0, .int .i64 0] 45) (.cells #[.int .i64 0, .int .i64 0, .int .i64 0, .int .i64 0] 45))
  have HC0 := Lib.hid (blk_new_at (w := w.alloc (.cells #[.int .i64 0, .int .i64 0, .int .i64 0, .int .i64 0] 45)) (b := w.heap.size + 1) (by simp) #[.int .i64 0, .int .i64 0, .int .i64 0, .int .i64 0] 45)
  have HB0 := Lib.hid D1
  have H_ := Lib.hid h
  clear hl D0 D1
  go_enter Try.func13, Try.ntmps13
  go_upto_region 2 with (fail)
  obtain ⟨r, hr⟩ : ∃ r, w.heap.size = r := ⟨_, rfl⟩
  rw [hr] at HR0 HC0 ⊢
  clear h
  have HR := Lib.hid hr
  clear hr
  generalize ((w.alloc (.cells #[.int .i64 0, .int .i64 0, .int .i64 0, .int .i64 0] 45)).alloc (.cells #[.int .i64 0, .int .i64 0, .int .i64 0, .int .i64 0] 45)) = w0 at *
  have hl0 := blk_lt HC0.out
  go_wp2_with fail
  go_loopw [9] (fun j wr => ∃ J : Nat, J ≤ n ∧ j = .int .i64 (J : Int) ∧ wr.heap[r + 1]? = some (.cells (cnt4 (ls.take J)) 45 (0, 0)) ∧ wr.heap[r]? = some (.cells #[.int .i64 0, .int .i64 0, .int .i64 0, .int .i64 0] 45 (0, 0)) ∧ Below w.heap.size w wr) (fun j _ => n - (intOf j).toNat)
  case atStart => exact ⟨0, by omega, rfl, HC0.out, HR0.out, HB0.out⟩
  case round =>
    obtain ⟨w2, rfl⟩ : ∃ y : World, y = wr := ⟨_, rfl⟩
    obtain ⟨J, hJ, rfl, hc2, hr2, hb2⟩ := hrel
    have HA2 := Lib.hid (show CAt w2 a ls from H_.out.ext hb2)
    by_cases hlt : J < n
    · obtain ⟨x, hx⟩ : ∃ x, ls[J]? = some x := ⟨_, List.getElem?_eq_getElem (by have := HN.out; omega)⟩
      obtain ⟨Z, hZ⟩ : ∃ Z, shw x = Z := ⟨_, rfl⟩
      obtain ⟨c0, h0⟩ : ∃ v, cntI (ls.take J) 0 = v := ⟨_, rfl⟩
      obtain ⟨c1, h1⟩ : ∃ v, cntI (ls.take J) 1 = v := ⟨_, rfl⟩
      obtain ⟨c2, h2⟩ : ∃ v, cntI (ls.take J) 2 = v := ⟨_, rfl⟩
      obtain ⟨c3, h3⟩ : ∃ v, cntI (ls.take J) 3 = v := ⟨_, rfl⟩
      have HST := Lib.hid ((show cnt4 (ls.take (J + 1)) = cnt4 (ls.take J ++ [x]) from by rw [List.take_add_one, hx]; rfl).trans (cnt4_snoc (ls.take J) x hZ h0 h1 h2 h3))
      have hlen : (ls.take J).length ≤ J := by rw [List.length_take]; omega
      have b0 := cnt_bd (ls.take J) 0
      have b1 := cnt_bd (ls.take J) 1
      have b2 := cnt_bd (ls.take J) 2
      have b3 := cnt_bd (ls.take J) 3
      rw [h0] at b0
      rw [h1] at b1
      rw [h2] at b2
      rw [h3] at b3
      have HC := Lib.hid (show w2.heap[r + 1]? = some (.cells #[.int .i64 c0, .int .i64 c1, .int .i64 c2, .int .i64 c3] 45 (0, 0)) from by rw [hc2]; unfold cnt4; simp only [h0, h1, h2, h3])
      obtain ⟨b, o, rfl⟩ : ∃ b o, a = some ⟨b, o, none⟩ := by
        rcases HA.out with h | ⟨b, o, e, _⟩
        · rw [h] at hx; simp at hx
        · exact ⟨b, o, e⟩
      obtain ⟨x0, x1, x2, x3, x4, x5, x6, x7, x8⟩ := (HA2.out).at hx
      have D0 : Below w2.heap.size w2 (w2.alloc (.cells #[.string x.a, .string x.i, .int .i64 x.s, .int .i64 x.o, .int .i64 x.l, .int .i64 x.t, .int .i64 x.k, .int .i64 x.n, .bool x.g] 40)) := (Below.refl _ _).alloc (Nat.le_refl _) _
      have HX := Lib.hid (blk_new w2 #[.string x.a, .string x.i, .int .i64 x.s, .int .i64 x.o, .int .i64 x.l, .int .i64 x.t, .int .i64 x.k, .int .i64 x.n, .bool x.g] 40)
      have HC3 := Lib.hid (blk_ext D0 HC.out)
      have HB3 := Lib.hid (ext_trans hb2 D0)
      have HZ := Lib.hid hZ
      have HR3 := Lib.hid (blk_ext D0 hr2)
      clear hr2
      clear hb2 hx hZ h0 h1 h2 h3 hc2 HC D0
      go_upto_region 5 with (fail)
      obtain ⟨q0, hq0⟩ : ∃ r, w2.heap.size = r := ⟨_, rfl⟩
      rw [hq0] at HX ⊢
      clear hq0
      generalize (w2.alloc (.cells #[.string x.a, .string x.i, .int .i64 x.s, .int .i64 x.o, .int .i64 x.l, .int .i64 x.t, .int .i64 x.k, .int .i64 x.n, .bool x.g] 40)) = w4 at *
      clear x0 x1 x2 x3 x4 x5 x6 x7 x8
      have hk4 := blk_cell HX.out
      have hl4 := blk_lt HX.out
      go_wp2_with fail
      refine (cardShows x _).mono ?_
      rintro e w5 ⟨rfl, hb5⟩
      rw [HZ.out]
      have HR5 := Lib.hid (blk_ext hb5 HR3.out)
      have HC5 := Lib.hid (blk_ext hb5 HC3.out)
      have HB5 := Lib.hid (ext_trans HB3.out hb5)
      clear hb5 HC3 HB3 HX hk4 hl4
      have hk5 := blk_cell HC5.out
      have hl5 := blk_lt HC5.out
      have hf5 := blk_free HC5.out
      by_cases hz : 0 ≤ Z ∧ Z ≤ 3
      · have hz4 : Z = 0 ∨ Z = 1 ∨ Z = 2 ∨ Z = 3 := by omega
        clear hz
        rcases hz4 with rfl | rfl | rfl | rfl
        all_goals
          go_wp2
          go_roundw
          case rel => exact ⟨J + 1, by omega, by go_num, by rw [HST.out]; exact blk_set HC5.out (by simp), blk_set_other (by omega) HR5.out, HB5.out.setCell (show w.heap.size ≤ r + 1 by have := HR.out; omega) _⟩
          case measure => simp [intOf]; omega
      · have HST' := Lib.hid (show cnt4 (ls.take (J + 1)) = #[.int .i64 c0, .int .i64 c1, .int .i64 c2, .int .i64 c3] from HST.out.trans (by rw [if_neg (by omega), if_neg (by omega), if_neg (by omega), if_neg (by omega), Int.add_zero, Int.add_zero, Int.add_zero, Int.add_zero]))
        clear HST
        by_cases hz0 : 0 ≤ Z
        · have hz3 : ¬ Z ≤ 3 := by omega
          clear hz
          go_wp2
          go_roundw
          case rel => exact ⟨J + 1, by omega, by go_num, by rw [HST'.out]; exact HC5.out, HR5.out, HB5.out⟩
          case measure => simp [intOf]; omega
        · clear hz
          go_wp2
          go_roundw
          case rel => exact ⟨J + 1, by omega, by go_num, by rw [HST'.out]; exact HC5.out, HR5.out, HB5.out⟩
          case measure => simp [intOf]; omega
    · obtain rfl : J = n := by omega
      have HF := Lib.hid (show ls.take J = ls from List.take_of_length_le (by have := HN.out; omega))
      obtain ⟨c0, h0⟩ : ∃ v, cntI (ls.take J) 0 = v := ⟨_, rfl⟩
      obtain ⟨c1, h1⟩ : ∃ v, cntI (ls.take J) 1 = v := ⟨_, rfl⟩
      obtain ⟨c2, h2⟩ : ∃ v, cntI (ls.take J) 2 = v := ⟨_, rfl⟩
      obtain ⟨c3, h3⟩ : ∃ v, cntI (ls.take J) 3 = v := ⟨_, rfl⟩
      have HC := Lib.hid (show w2.heap[r + 1]? = some (.cells #[.int .i64 c0, .int .i64 c1, .int .i64 c2, .int .i64 c3] 45 (0, 0)) from by rw [hc2]; unfold cnt4; simp only [h0, h1, h2, h3])
      have HCC := Lib.hid (show #[.int .i64 c0, .int .i64 c1, .int .i64 c2, .int .i64 c3] = cnt4 ls from by rw [← h0, ← h1, ← h2, ← h3, HF.out]; rfl)
      have HRB := Lib.hid hr2
      have HB2 := Lib.hid hb2
      clear hc2 hr2 hb2 h0 h1 h2 h3
      have hk5 := blk_cell HC.out
      have hl5 := blk_lt HC.out
      have hl6 := blk_lt HRB.out
      have hk6 := blk_cell HRB.out
      have hf6 := blk_free HRB.out
      go_wp2_with fail
      exact bodyPost_ret (v := .agg #[.int .i64 c0, .int .i64 c1, .int .i64 c2, .int .i64 c3]) (by have hk2 := blk_cell (blk_fill4 (v0 := .int .i64 c0) (v1 := .int .i64 c1) (v2 := .int .i64 c2) (v3 := .int .i64 c3) HRB.out rfl); simp [results, Try.results13, go_sem, hk2]) rfl ⟨by rw [← HCC.out], below_fill4 HB2.out (by have := HR.out; omega)⟩

end Go.Proofs.Ytkblblcjkkgbeaa
