/- The document's queue is made. -/
import Derived.Test.YtmpkkkcoiljhpaaQueueX
namespace Go.Proofs.Ytmpkkkcoiljhpaa
open Go.RowKit
set_option linter.unusedVariables false

theorem info_int : (Try.prog.info? 3).map (fun i => (i.zero, i.size, i.bytes)) = some (some (.int .i64 0), 1, 8) := by kernel_rfl
theorem info_crow : (Try.prog.info? 25).map (fun i => (i.zero, i.size, i.bytes)) = some (some (.slice none 0 0), 1, 24) := by kernel_rfl
def ic (xs : List Int) : List Value := xs.map (Value.int .i64)
/-- the peers -/
def pk (s : Nat × List (Int × List Cd)) : List Int := (s.2.take s.1).map (·.1)
theorem newM_len (ps : List Int) : (newM ps).1 ≤ 6 ∧ (newM ps).2.length = 6 := by
  unfold newM
  suffices h : ∀ (l : List Int) (s : Nat × List (Int × List Cd)), s.1 ≤ 6 → s.2.length = 6 → (l.foldl newS s).1 ≤ 6 ∧ (l.foldl newS s).2.length = 6 from h ps _ (by simp) (by simp)
  intro l
  induction l with
  | nil => intro s h1 h2; exact ⟨h1, h2⟩
  | cons x xs ih =>
    intro s h1 h2
    refine ih _ ?_ ?_
    · unfold newS
      split
      · rename_i h; have := h.1; simp only; omega
      · exact h1
    · unfold newS
      split
      · simp [h2]
      · exact h2
theorem pk_len (s : Nat × List (Int × List Cd)) (h1 : s.1 ≤ 6) (h2 : s.2.length = 6) : (pk s).length = s.1 := by
  simp [pk]; omega
theorem own_ints {w : World} {T : TypeId} {base n : Nat} {v : Value} {xs : List Int} (h : w.ownsRow base T 1 v n (ic xs)) : ∃ a c, v = .slice a n c ∧ n = xs.length ∧ n ≤ c ∧ c ≤ maxLen ∧ NAt w a xs := by
  have h0 := h
  obtain ⟨h1, h2⟩ := h
  have hl : n = xs.length := by simpa [ic] using h1.symm
  rcases h2 with ⟨rfl, e⟩ | ⟨g, cap, cur, rfl, hg, hh, hnc, hcm, hcs, ht⟩
  · subst e
    exact ⟨none, 0, rfl, hl, Nat.le_refl _, by unfold maxLen; omega, .inl (List.eq_nil_of_length_eq_zero hl.symm)⟩
  · refine ⟨some ⟨g, 0, none⟩, cap, rfl, hl, hnc, hcm, .inr ⟨g, 0, rfl, fun i x hi => ?_⟩⟩
    have := h0.cells (g := g) rfl i (.int .i64 x) (by simp [ic, hi])
    rw [add_off] at this
    exact this
theorem blk_new' (w : World) (X : Array Value) (T : TypeId) : (w.alloc (.cells X T)).heap[w.heap.size]? = some (.cells X T (0, 0)) := by
  show (w.heap.push _)[w.heap.size]? = _
  simp
theorem pk_new (s : Nat × List (Int × List Cd)) (p : Int) (h : s.1 < 6) (h2 : s.2.length = 6) (hi : ixQ p 0 (s.2.take s.1) = -1) : pk (newS s p) = pk s ++ [p] := by
  have e : newS s p = (s.1 + 1, s.2.set s.1 (p, [])) := by unfold newS; rw [if_pos ⟨h, hi⟩]
  rw [e]
  unfold pk
  simp only
  rw [List.take_add_one, List.getElem?_set_self (by omega)]
  rw [List.take_set_of_le (Nat.le_refl _)]
  simp

set_option maxRecDepth 100000 in
set_option maxHeartbeats 2000000 in
theorem newQueue16 (n c : Nat) (a : Option Addr) (ps : List Int) (w : World) (ha : NAt w a ps) (hl : ps.length = n) (hc : n ≤ c) (hm : c ≤ maxLen) :
    Calls Try.prog 18 #[.slice a n c] w fun e w' => e = .returned (.pointer (some ⟨w.heap.size, 0, none⟩)) ∧ (∃ pv lb X, w.heap.size ≤ lb ∧ w'.heap[w.heap.size]? = some (.cells #[pv, .slice (some ⟨lb, 0, none⟩) (newM ps).1 (newM ps).1, .int .i64 0] 51 (0, 0)) ∧ w'.ownsRow w.heap.size 3 1 pv (newM ps).1 (ic (pk (newM ps))) ∧ w'.heap[lb]? = some (.cells X 25 (0, 0)) ∧ (∀ i, i < (newM ps).1 → X[i]? = some (.slice none 0 0))) ∧ Below w.heap.size w w' := by
  obtain ⟨i0, hi, hz0, hz1, hz2⟩ := info_parts info_int
  obtain ⟨j0, hj, hjz, hj1, hj2⟩ := info_parts info_crow
  have HA := Lib.hid ha
  have HN := Lib.hid hl
  unfold maxLen at hm
  have D0 : Below w.heap.size w (w.alloc (.cells #[.slice none 0 0, .slice none 0 0, .int .i64 0] 51)) := (Below.refl _ _).alloc (Nat.le_refl _) _
  have HX0 := Lib.hid (blk_new w #[.slice none 0 0, .slice none 0 0, .int .i64 0] 51)
  have HB0 := Lib.hid D0
  clear ha hl D0
  go_enter Try.func18, Try.ntmps18
  go_upto_region 2 with (fail)
  obtain ⟨rb, hrb⟩ : ∃ rb, w.heap.size = rb := ⟨_, rfl⟩
  have HWB := Lib.hid hrb
  have hqw : w.heap.size ≤ rb := by omega
  rw [hrb] at HX0
  rw [show (w.heap.size : Nat) = rb from hrb]
  generalize (w.alloc (.cells #[.slice none 0 0, .slice none 0 0, .int .i64 0] 51)) = w1 at *
  clear hrb
  go_wp2_with fail
  go_loopw [10] (fun j wr => ∃ (J : Nat) (pv : Value), J ≤ n ∧ j = .int .i64 (J : Int) ∧ wr.heap[rb]? = some (.cells #[pv, .slice none 0 0, .int .i64 0] 51 (0, 0)) ∧ wr.ownsRow w.heap.size 3 1 pv (newM (ps.take J)).1 (ic (pk (newM (ps.take J)))) ∧ Below w.heap.size w wr) (fun j _ => n - (intOf j).toNat)
  case atStart => exact ⟨0, _, by omega, rfl, HX0.out, ⟨rfl, .inl ⟨rfl, rfl⟩⟩, HB0.out⟩
  case round =>
    obtain ⟨w2, rfl⟩ : ∃ y : World, y = wr := ⟨_, rfl⟩
    obtain ⟨J, pv, hJ, rfl, hx2, ho2, hb2⟩ := hrel
    obtain ⟨S, hS⟩ : ∃ S, newM (ps.take J) = S := ⟨_, rfl⟩
    have hl1 := newM_len (ps.take J)
    rw [hS] at ho2 hl1
    obtain ⟨m, hmS⟩ : ∃ m, S.1 = m := ⟨_, rfl⟩
    rw [hmS] at ho2 hl1
    obtain ⟨pa, pc, rfl, hpl, hpc, hpm, hpat⟩ := own_ints ho2
    have HX2 := Lib.hid hx2
    have HO2 := Lib.hid ho2
    have HB2 := Lib.hid hb2
    have HP2 := Lib.hid hpat
    have HPL := Lib.hid hpl
    have hm6 : m ≤ 6 := hl1.1
    have HSL := Lib.hid hl1.2
    have HMS := Lib.hid hmS
    unfold maxLen at hpm
    by_cases hlt : J < n
    · obtain ⟨p, hp⟩ : ∃ p, ps[J]? = some p := ⟨_, List.getElem?_eq_getElem (by have := HN.out; omega)⟩
      have HST := Lib.hid (show newM (ps.take (J + 1)) = newS S p from by
        rw [List.take_add_one, hp]
        show newM (ps.take J ++ [p]) = _
        rw [newM_snoc, hS])
      obtain ⟨b, o, rfl, hcp⟩ : ∃ b o, a = some ⟨b, o, none⟩ ∧ w2.cell? ⟨b, o + J, none⟩ = some (.int .i64 p) := by
        rcases HA.out with h | ⟨b, o, e, h⟩
        · rw [h] at hp; simp at hp
        · exact ⟨b, o, e, ext_cell hb2 (h J p hp)⟩
      clear hx2 ho2 hb2 hpat hpl hp hl1 hS hmS
      have HIQ := Lib.hid (show ixI p 0 (pk S) = ixQ p 0 (S.2.take S.1) from ixI_map _ _ _)
      go_wp2_with fail
      refine (refAt16 rb m pc pa _ _ (pk S) p _ HX2.out HP2.out HPL.out.symm hpc hm6).mono ?_
      rintro e w3 ⟨rfl, hb⟩
      rw [HIQ.out]
      have HX3 := Lib.hid (blk_ext hb HX2.out)
      have HO3 := Lib.hid (ownsRow_ext HO2.out hb)
      have HB3 := Lib.hid (ext_trans HB2.out hb)
      have hc3 := blk_cell HX3.out
      have hl3 := blk_lt HX3.out
      clear hb HX2 HO2 HP2 hcp
      rcases ixQ_case p (S.2.take S.1) 0 with h | ⟨i, h⟩
      · rw [h]
        have HI := Lib.hid h
        clear h
        by_cases h6 : m < 6
        · have hd6 : decide ((m : Int) < 6) = true := by simp; omega
          have Z3 := HB3.out.size
          have HPK := Lib.hid (pk_new S p (by rw [HMS.out]; exact h6) HSL.out HI.out)
          have HS1 := Lib.hid (show (newS S p).1 = m + 1 from by unfold newS; rw [if_pos ⟨by rw [HMS.out]; exact h6, HI.out⟩]; simp [HMS.out])
          go_wp2_with (at_builtin; refine wpList_append_own _ rfl _ _ 22 rfl (w.heap.size) 3 i0 (.int .i64 0) 1 8 Try.underlying22 hi hz0 hz1 hz2 rfl (by decide) _ m (ic (pk S)) rfl (HO3.out.alloc (.cells #[.int .i64 p] 3)) ⟨w3.heap.size, 0, none⟩ 1 1 [.int .i64 p] rfl rfl ?c1 ?c2 ?c3 ?c4 ?c5 ?_)
          case c1 =>
            intro j u hj
            rw [add_off, Nat.zero_add, blk_cell (blk_new w3 #[.int .i64 p] 3)]
            simpa using hj
          case c2 => intro u hu; simp at hu; subst hu; rfl
          case c3 => unfold maxLen; omega
          case c4 => omega
          case c5 => simp; omega
          intro v4 w4 ho4 hg4 _
          obtain ⟨a4, c4, rfl, -, -, -, -⟩ := own_ints (show w4.ownsRow w.heap.size 3 1 v4 (m + 1) (ic (pk S ++ [p])) from by simpa [ic] using ho4)
          have D4 : Below w.heap.size w w4 := (HB3.out.alloc Z3 (.cells #[.int .i64 p] 3)).grown hg4 (by simp; omega) (fun q hq => own_ge HO3.out hq)
          have hx4 : w4.heap[rb]? = some (.cells #[.slice pa m pc, .slice none 0 0, .int .i64 0] 51 (0, 0)) := (hg4.block rb (by simp; omega) (own_ne (HO3.out.alloc (.cells #[.int .i64 p] 3)) (blk_alloc HX3.out _) (by decide))).trans (blk_alloc HX3.out _)
          have hc4 := blk_cell hx4
          have hl4 := blk_lt hx4
          have hf4 := blk_free hx4
          have HX5 := Lib.hid (show (w4.setCell ⟨rb, 0, none⟩ (.slice a4 (m + 1) c4)).heap[rb]? = some (.cells #[(.slice a4 (m + 1) c4), .slice none 0 0, .int .i64 0] 51 (0, 0)) from blk_set hx4 rfl)
          have HO5 := Lib.hid (show (w4.setCell ⟨rb, 0, none⟩ (.slice a4 (m + 1) c4)).ownsRow w.heap.size 3 1 (.slice a4 (m + 1) c4) (newS S p).1 (ic (pk (newS S p))) from by
            rw [HS1.out, HPK.out]
            have h9 : w4.ownsRow w.heap.size 3 1 (.slice a4 (m + 1) c4) (m + 1) (ic (pk S ++ [p])) := by simpa [ic] using ho4
            exact own_blocks h9 (fun k cur hc => ((Kept.refl rb w4).setCell 0 (.slice a4 (m + 1) c4)).block k (fun e => by subst e; rw [hx4] at hc; cases hc))
            )
          have HB5 := Lib.hid (show Below w.heap.size w (w4.setCell ⟨rb, 0, none⟩ (.slice a4 (m + 1) c4)) from D4.setCell (by show w.heap.size ≤ rb; omega) _)
          clear ho4 hg4 hx4 hc3 hl3
          go_wp2
          go_roundw
          case rel => exact ⟨J + 1, (.slice a4 (m + 1) c4), by omega, by go_num, HX5.out, by rw [HST.out]; exact HO5.out, HB5.out⟩
          case measure => simp [intOf]; omega
        · have hd6 : decide ((m : Int) < 6) = false := by simp; omega
          have HSS := Lib.hid (show newS S p = S from by unfold newS; rw [if_neg (by rw [HMS.out]; omega)])
          go_wp2
          go_roundw
          case rel => exact ⟨J + 1, _, by omega, by go_num, HX3.out, by rw [HST.out, HSS.out, HMS.out]; exact HO3.out, HB3.out⟩
          case measure => simp [intOf]; omega
      · rw [h]
        have HSS := Lib.hid (show newS S p = S from by unfold newS; rw [if_neg (by rw [h]; omega)])
        have hdI : decide (((0 + i : Nat) : Int) < 0) = false := by first | (simp; done) | (simp; omega)
        clear h
        go_wp2
        go_roundw
        case rel => exact ⟨J + 1, _, by omega, by go_num, HX3.out, by rw [HST.out, HSS.out, HMS.out]; exact HO3.out, HB3.out⟩
        case measure => simp [intOf]; omega
    · have HF := Lib.hid (show newM ps = S from by rw [← hS, List.take_of_length_le (by have := HN.out; omega)])
      have Z2 := HB2.out.size
      obtain ⟨X, hX, hmk⟩ : ∃ X : Array Value, (∀ i, i < m → X[i]? = some (.slice none 0 0)) ∧ (Instr.makeSlice 49 (.int .i64 (m : Int)) (.int .i64 (m : Int))).run Try.prog w2 = .ok (.slice (some ⟨w2.heap.size, 0, none⟩) m m) (w2.alloc (.cells X 25)) :=
        ⟨madeCells (Value.slice none 0 0).cells (m * 1), fun i hi => by simp [madeCells, Value.cells, hi, Nat.mod_one], by
          have := run_make (P := Try.prog) w2 49 25 j0 (.slice none 0 0) Try.underlying49 hj hjz .i64 .i64 m m (by omega) (by omega) (by rw [hj2]; omega) (by omega)
          rw [hj1] at this
          exact this⟩
      have hc2 := blk_cell hx2
      have hl2 := blk_lt hx2
      have hf2 := blk_free hx2
      have HK := Lib.hid ((Kept.refl rb w2).setCell 1 (.slice (some ⟨w2.heap.size, 0, none⟩) m m))
      have HX4 := Lib.hid (show ((w2.setCell ⟨rb, 1, none⟩ (.slice (some ⟨w2.heap.size, 0, none⟩) m m)).alloc (.cells X 25)).heap[rb]? = some (.cells #[.slice pa m pc, .slice (some ⟨w2.heap.size, 0, none⟩) m m, .int .i64 0] 51 (0, 0)) from blk_alloc (blk_set hx2 rfl) _)
      have HO4 := Lib.hid (World.ownsRow.alloc (own_blocks HO2.out (fun k cur hc => HK.out.block k (fun e => by subst e; rw [hx2] at hc; cases hc))) (.cells X 25))
      have HL4 := Lib.hid (show ((w2.setCell ⟨rb, 1, none⟩ (.slice (some ⟨w2.heap.size, 0, none⟩) m m)).alloc (.cells X 25)).heap[w2.heap.size]? = some (.cells X 25 (0, 0)) from by
        have h9 := blk_new' (w2.setCell ⟨rb, 1, none⟩ (.slice (some ⟨w2.heap.size, 0, none⟩) m m)) X 25
        rw [HK.out.size] at h9
        exact h9)
      have HXX := Lib.hid hX
      have HB4 := Lib.hid (show Below w.heap.size w ((w2.setCell ⟨rb, 1, none⟩ (.slice (some ⟨w2.heap.size, 0, none⟩) m m)).alloc (.cells X 25)) from (HB2.out.setCell (p := ⟨rb, 1, none⟩) (by show w.heap.size ≤ rb; omega) _).alloc (by rw [HK.out.size]; exact Z2) _)
      clear hx2 ho2 hb2 hpat hpl hl1 hS hmS hX
      go_wp2
      go_ret
      exact ⟨by rw [HWB.out]; rfl, by rw [HWB.out]; exact ⟨_, w2.heap.size, X, by have := HWB.out; omega, by rw [HF.out, HMS.out]; exact HX4.out, by rw [HF.out, HMS.out]; have h9 := HO4.out; rw [HWB.out] at h9; exact h9, HL4.out, by rw [HF.out, HMS.out]; exact HXX.out⟩, HB4.out⟩

end Go.Proofs.Ytmpkkkcoiljhpaa
