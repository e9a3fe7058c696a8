/- Package queue's walks: a queue is made. -/
import Derived.Test.YtmpkkkcoiljhpaaQueueA
namespace Go.Proofs.Ytmpkkkcoiljhpaa
open Go.RowKit
set_option linter.unusedVariables false

/-- behind the address a the numbers xs lie -/
def NAt (w : World) (a : Option Addr) (xs : List Int) : Prop := xs = [] ∨ ∃ b o, a = some ⟨b, o, none⟩ ∧ ∀ i n, xs[i]? = some n → w.cell? ⟨b, o + i, none⟩ = some (.int .i64 n)
theorem NAt.ext {w w' : World} {a : Option Addr} {xs : List Int} (h : NAt w a xs) (hb : Below w.heap.size w w') : NAt w' a xs := by
  rcases h with h | ⟨b, o, e, h⟩
  · exact .inl h
  · exact .inr ⟨b, o, e, fun i n hi => ext_cell hb (h i n hi)⟩
def newS (s : Nat × List (Int × List Cd)) (p : Int) : Nat × List (Int × List Cd) := if s.1 < 6 ∧ ixQ p 0 (s.2.take s.1) = -1 then (s.1 + 1, s.2.set s.1 (p, [])) else s
def newM (ps : List Int) : Nat × List (Int × List Cd) := ps.foldl newS (0, List.replicate 6 (0, []))
theorem newM_snoc (ps : List Int) (p : Int) : newM (ps ++ [p]) = newS (newM ps) p := by simp [newM]
theorem ixQ_case (k : Int) (l : List (Int × List Cd)) : ∀ q : Nat, ixQ k q l = -1 ∨ ∃ i : Nat, ixQ k q l = ((q + i : Nat) : Int) := by
  induction l with
  | nil => intro q; exact .inl rfl
  | cons y ys ih =>
    intro q
    unfold ixQ
    split
    · exact .inr ⟨0, rfl⟩
    · rcases ih (q + 1) with h | ⟨i, h⟩
      · exact .inl h
      · exact .inr ⟨i + 1, by rw [h]; congr 1; omega⟩
theorem QS.setp {w : World} {qb np i : Nat} {rs : List (Int × List Cd)} {lost q : Int} {cs : List Cd} (h : QS w qb np rs lost) (hi : rs[i]? = some (q, cs)) (p : Int) : QS (w.setCell ⟨qb, 1 + i * 2, none⟩ (.int .i64 p)) qb np (rs.set i (p, cs)) lost := by
  have HQ := h
  obtain ⟨h1, h2, h3, sl, h4, h5, h6⟩ := h
  obtain ⟨v, h7, h8⟩ := h6 i q cs hi
  have hk := (Kept.refl qb w).setCell (1 + i * 2) (.int .i64 p)
  have hlt : i < 6 := by
    rcases Nat.lt_or_ge i 6 with h' | h'
    · exact h'
    · rw [List.getElem?_eq_none (by omega)] at hi; cases hi
  refine ⟨h1, by rw [List.length_set]; exact h2, ?_, _, h4.setp h7 p, by rw [List.length_set]; exact h5, ?_⟩
  · intro y hy
    rcases List.mem_or_eq_of_mem_set hy with hy | rfl
    · exact h3 y hy
    · exact h3 (q, cs) (List.mem_of_getElem? hi)
  · intro j q' ds hj
    by_cases e : i = j
    · subst e
      rw [List.getElem?_set_self (by omega)] at hj ⊢
      cases hj
      exact ⟨v, rfl, HQ.slc (Rim.kept hk) h8⟩
    · rw [List.getElem?_set_ne e] at hj ⊢
      obtain ⟨u, h9, h10⟩ := h6 j q' ds hj
      exact ⟨u, h9, HQ.slc (Rim.kept hk) h10⟩
theorem QS.set0 {w : World} {qb np m : Nat} {rs : List (Int × List Cd)} {lost : Int} (h : QS w qb np rs lost) (hm : m ≤ 6) : QS (w.setCell ⟨qb, 0, none⟩ (.int .i64 m)) qb m rs lost := by
  have HQ := h
  obtain ⟨h1, h2, h3, sl, h4, h5, h6⟩ := h
  have hk := (Kept.refl qb w).setCell 0 (.int .i64 m)
  refine ⟨hm, h2, h3, sl, h4.set0 m, h5, fun j q' ds hj => ?_⟩
  obtain ⟨u, h9, h10⟩ := h6 j q' ds hj
  exact ⟨u, h9, HQ.slc (Rim.kept hk) h10⟩
theorem QS.zero (w : World) (qb : Nat) (h : QB w qb 0 (List.replicate 6 (0, .slice none 0 0)) 0) : QS w qb 0 (List.replicate 6 (0, [])) 0 := by
  refine ⟨by omega, rfl, ?_, _, h, rfl, ?_⟩
  · intro x hx
    rw [List.eq_of_mem_replicate hx]
    simp
  · intro i p cs hi
    have hlt : i < 6 := by
      rcases Nat.lt_or_ge i 6 with h' | h'
      · exact h'
      · rw [List.getElem?_eq_none (by simpa using h')] at hi; cases hi
    rw [List.getElem?_replicate_of_lt hlt] at hi ⊢
    cases hi
    exact ⟨_, rfl, none, 0, rfl, by simp, by unfold maxLen; omega, .inl rfl, .inl ⟨rfl, rfl⟩⟩

set_option maxRecDepth 100000 in
set_option maxHeartbeats 2000000 in
theorem queueNew (n c : Nat) (a : Option Addr) (ps : List Int) (w : World) (ha : NAt w a ps) (hl : ps.length = n) (hc : n ≤ c) (hm : c ≤ maxLen) :
    Calls Try.prog 12 #[.slice a n c] w fun e w' => e = .returned (.pointer (some ⟨w.heap.size, 0, none⟩)) ∧ QS w' w.heap.size (newM ps).1 (newM ps).2 0 ∧ (∀ r ∈ (newM ps).2, r.2 = []) ∧ Below w.heap.size w w' := by
  have HA := Lib.hid ha
  have HN := Lib.hid hl
  unfold maxLen at hm
  have D0 : Below w.heap.size w (w.alloc (.cells #[.int .i64 0, .int .i64 0, .slice none 0 0, .int .i64 0, .slice none 0 0, .int .i64 0, .slice none 0 0, .int .i64 0, .slice none 0 0, .int .i64 0, .slice none 0 0, .int .i64 0, .slice none 0 0, .int .i64 0] 57)) := (Below.refl _ _).alloc (Nat.le_refl _) _
  have HQ0 := Lib.hid (QS.zero _ _ (show QB (w.alloc (.cells #[.int .i64 0, .int .i64 0, .slice none 0 0, .int .i64 0, .slice none 0 0, .int .i64 0, .slice none 0 0, .int .i64 0, .slice none 0 0, .int .i64 0, .slice none 0 0, .int .i64 0, .slice none 0 0, .int .i64 0] 57)) w.heap.size 0 (List.replicate 6 (0, .slice none 0 0)) 0 from blk_new w #[.int .i64 0, .int .i64 0, .slice none 0 0, .int .i64 0, .slice none 0 0, .int .i64 0, .slice none 0 0, .int .i64 0, .slice none 0 0, .int .i64 0, .slice none 0 0, .int .i64 0, .slice none 0 0, .int .i64 0] 57))
  have HB0 := Lib.hid D0
  clear ha hl D0
  go_enter Try.func12, Try.ntmps12
  go_upto_region 2 with (fail)
  obtain ⟨qb, hqb⟩ : ∃ qb, w.heap.size = qb := ⟨_, rfl⟩
  have HWB := Lib.hid hqb
  have hqw : w.heap.size ≤ qb := by omega
  rw [hqb] at HQ0
  rw [show (w.heap.size : Nat) = qb from hqb]
  generalize (w.alloc (.cells #[.int .i64 0, .int .i64 0, .slice none 0 0, .int .i64 0, .slice none 0 0, .int .i64 0, .slice none 0 0, .int .i64 0, .slice none 0 0, .int .i64 0, .slice none 0 0, .int .i64 0, .slice none 0 0, .int .i64 0] 57)) = w1 at *
  clear hqb
  go_wp2_with fail
  go_loopw [10] (fun j wr => ∃ J : Nat, J ≤ n ∧ j = .int .i64 (J : Int) ∧ QS wr qb (newM (ps.take J)).1 (newM (ps.take J)).2 0 ∧ (∀ r ∈ (newM (ps.take J)).2, r.2 = []) ∧ Below w.heap.size w wr) (fun j _ => n - (intOf j).toNat)
  case atStart => exact ⟨0, by omega, rfl, HQ0.out, fun r hr => by rw [List.eq_of_mem_replicate hr], HB0.out⟩
  case round =>
    obtain ⟨w2, rfl⟩ : ∃ y : World, y = wr := ⟨_, rfl⟩
    obtain ⟨J, hJ, rfl, hq2, he2, hb2⟩ := hrel
    by_cases hlt : J < n
    · obtain ⟨p, hp⟩ : ∃ p, ps[J]? = some p := ⟨_, List.getElem?_eq_getElem (by have := HN.out; omega)⟩
      obtain ⟨np, R, hM⟩ : ∃ np R, newM (ps.take J) = (np, R) := ⟨_, _, rfl⟩
      have HST := Lib.hid (show newM (ps.take (J + 1)) = newS (np, R) p from by
        rw [List.take_add_one, hp]
        show newM (ps.take J ++ [p]) = _
        rw [newM_snoc, hM])
      rw [hM] at hq2 he2
      simp only at hq2 he2
      have HQ2 := Lib.hid hq2
      have HE2 := Lib.hid he2
      have HB2 := Lib.hid hb2
      have hnp : np ≤ 6 := hq2.1
      obtain ⟨b, o, rfl⟩ : ∃ b o, a = some ⟨b, o, none⟩ := by
        rcases HA.out with h | ⟨b, o, e, _⟩
        · rw [h] at hp; simp at hp
        · exact ⟨b, o, e⟩
      have hcp : w2.cell? ⟨b, o + J, none⟩ = some (.int .i64 p) := by
        have h := HA.out
        rcases h with h | ⟨b', o', e, h⟩
        · rw [h] at hp; simp at hp
        · simp at e
          obtain ⟨rfl, rfl⟩ := e
          exact ext_cell hb2 (h J p hp)
      obtain ⟨sl, hqb, h6, hv, hix, -⟩ := hq2.keys
      have HK := Lib.hid hqb
      have H6 := Lib.hid h6
      have HV := Lib.hid hv
      have HIX := Lib.hid (hix p)
      have hc0 := hqb.c0
      have hlb := hqb.lt
      clear hq2 he2 hb2 hM hp hqb h6 hv hix
      by_cases h6 : np < 6
      · have hd6 : decide ((np : Int) < 6) = true := by simp; omega
        go_wp2_with fail
        refine (queueFind qb np sl 0 p _ HK.out H6.out hnp HV.out).mono ?_
        rintro e w3 ⟨rfl, hb⟩
        rw [HIX.out]
        have HQ3 := Lib.hid (HQ2.out.ext hb)
        have HB3 := Lib.hid (ext_trans HB2.out hb)
        clear hb hc0 hlb hcp HK
        rcases ixQ_case p (R.take np) 0 with h | ⟨i, h⟩
        · rw [h]
          have HI := Lib.hid h
          obtain ⟨q, hR⟩ : ∃ q, R[np]? = some (q, []) := by
            have h1 : np < R.length := by rw [HQ3.out.2.1]; exact h6
            have h2 := HE2.out _ (List.getElem_mem h1)
            exact ⟨R[np].1, by rw [List.getElem?_eq_getElem h1, ← h2]⟩
          have HRN := Lib.hid hR
          obtain ⟨sl3, hqb3, -⟩ := HQ3.out.keys
          have HC3 := Lib.hid hqb3.c0
          have HL3 := Lib.hid hqb3.lt
          have HF3 := Lib.hid (blk_free hqb3.blk)
          have hnI : (np : Int) < 6 := by omega
          clear h hR hqb3
          go_wp2_with fail
          haveI hIc : Nonempty (In (fun W : World => W.cell? ⟨qb, 0, none⟩ = some (.int .i64 (np : Int)) ∧ qb < W.heap.size ∧ ∀ o, W.frozen? ⟨qb, o, none⟩ = false)) := ⟨⟨_, ⟨HC3.out, HL3.out, HF3.out⟩⟩⟩
          have hFx : ∀ g : In (fun W : World => W.cell? ⟨qb, 0, none⟩ = some (.int .i64 (np : Int)) ∧ qb < W.heap.size ∧ ∀ o, W.frozen? ⟨qb, o, none⟩ = false), g.w.cell? ⟨qb, 0, none⟩ = some (.int .i64 (np : Int)) := fun g => g.h.1
          have hFl : ∀ g : In (fun W : World => W.cell? ⟨qb, 0, none⟩ = some (.int .i64 (np : Int)) ∧ qb < W.heap.size ∧ ∀ o, W.frozen? ⟨qb, o, none⟩ = false), qb < g.w.heap.size := fun g => g.h.2.1
          refine wp_region_chain (fun w' => ∃ g : In (fun W : World => W.cell? ⟨qb, 0, none⟩ = some (.int .i64 (np : Int)) ∧ qb < W.heap.size ∧ ∀ o, W.frozen? ⟨qb, o, none⟩ = false), w' = g.w) (by kernel_rfl) (by kernel_rfl) (by kernel_rfl) ?_
          refine wpG_letter (fun W => QS W qb np R 0 ∧ Below w.heap.size w W) ⟨HQ3.out.ext ((Below.refl _ _).drew), HB3.out.drew⟩ ?_
          rintro x0 ⟨hq0, hb0⟩
          repeat (refine wpG_plain (by rfl) (by rfl) (fun K hK => ?_); go_big_quiet_op; refine hK _ ?_; clear hK K)
          obtain ⟨sl0, hqb0, h60, -, -, hv0⟩ := hq0.keys
          obtain ⟨v0, hv1, -⟩ := hv0 np q [] HRN.out
          have hcp0 := hqb0.cp hv1
          have hf0 := blk_free hqb0.blk
          have hl0 := hqb0.lt
          have hc00 := hqb0.c0
          refine wpG_call (by rfl) (by rfl) ⟨⟨_, hc00, hl0, hf0⟩, rfl⟩ (fun K hK => ?_)
          go_big_op
          have hq1 := hq0.setp HRN.out p
          have hb1 : Below w.heap.size w (x0.setCell ⟨qb, 1 + np * 2, none⟩ (.int .i64 p)) := hb0.setCell (by show w.heap.size ≤ qb; omega) _
          refine hK _ _ ?_
          clear hK K
          repeat (refine wpG_plain (by rfl) (by rfl) (fun K hK => ?_); go_big_quiet_op; refine hK _ ?_; clear hK K)
          refine wpG_nil ⟨⟨_, ⟨by obtain ⟨_, h, _⟩ := hq1.keys; exact h.c0, hq1.lt, by obtain ⟨_, h, _⟩ := hq1.keys; exact blk_free h.blk⟩⟩, rfl⟩ ?_

          have HQ5 := Lib.hid hq1
          have HB5 := Lib.hid hb1
          obtain ⟨sl5, hqb5, -⟩ := hq1.keys
          have hc5 := hqb5.c0
          have hl5 := hqb5.lt
          have hf5 := blk_free hqb5.blk
          have hcast : ((np : Int) + 1) = ((np + 1 : Nat) : Int) := by omega
          have HQ6 := Lib.hid (show QS ((x0.setCell ⟨qb, 1 + np * 2, none⟩ (.int .i64 p)).setCell ⟨qb, 0, none⟩ (.int .i64 ((np : Int) + 1))) qb (np + 1) (R.set np (p, [])) 0 from by rw [hcast]; exact HQ5.out.set0 (by omega))
          have HB6 := Lib.hid (show Below w.heap.size w ((x0.setCell ⟨qb, 1 + np * 2, none⟩ (.int .i64 p)).setCell ⟨qb, 0, none⟩ (.int .i64 ((np : Int) + 1))) from HB5.out.setCell (by show w.heap.size ≤ qb; omega) _)
          have HSTEP := Lib.hid (show newM (ps.take (J + 1)) = (np + 1, R.set np (p, [])) from by rw [HST.out]; simp [newS, h6, HI.out])
          have HE6 := Lib.hid (show ∀ r ∈ R.set np (p, []), r.2 = [] from fun r hr => by
            rcases List.mem_or_eq_of_mem_set hr with hr | rfl
            · exact HE2.out r hr
            · rfl)
          clear hq1 hb1 hqb5 hcast hq0 hb0 hqb0 h60 hv0 hv1 hcp0 hf0 hl0 hc00 hFx hFl hIc
          go_wp2
          go_roundw
          case rel => exact ⟨J + 1, by omega, by go_num, by rw [HSTEP.out]; exact HQ6.out, by rw [HSTEP.out]; exact HE6.out, HB6.out⟩
          case measure => simp [intOf]; omega
        · rw [h]
          have HSTEP := Lib.hid (show newM (ps.take (J + 1)) = (np, R) from by rw [HST.out]; simp only [newS, h]; rw [if_neg (by omega)])
          have hdI : decide (((0 + i : Nat) : Int) < 0) = false := by first | (simp; done) | (simp; omega)
          clear h
          go_wp2
          go_roundw
          case rel => exact ⟨J + 1, by omega, by go_num, by rw [HSTEP.out]; exact HQ3.out, by rw [HSTEP.out]; exact HE2.out, HB3.out⟩
          case measure => simp [intOf]; omega
      · have hd6 : decide ((np : Int) < 6) = false := by simp; omega
        have HSTEP := Lib.hid (show newM (ps.take (J + 1)) = (np, R) from by rw [HST.out]; simp only [newS]; rw [if_neg (by omega)])
        go_wp2
        go_roundw
        case rel => exact ⟨J + 1, by omega, by go_num, by rw [HSTEP.out]; exact HQ2.out, by rw [HSTEP.out]; exact HE2.out, HB2.out⟩
        case measure => simp [intOf]; omega
    · obtain rfl : J = n := by omega
      have HF := Lib.hid (show ps.take J = ps from List.take_of_length_le (by have := HN.out; omega))
      rw [HF.out] at hq2 he2
      go_wp2
      go_ret
      exact ⟨by rw [HWB.out]; rfl, by rw [HWB.out]; exact hq2, he2, hb2⟩

end Go.Proofs.Ytmpkkkcoiljhpaa
