/- Layer 17's laws: queues as rows of cards; some of the chapter's runs. -/
import Derived.Test.YtmpkkkcoiljhpaaQueueN
import Derived.Laws.Runes
namespace Go.Proofs.Ytmpkkkcoiljhpaa
open Go.RowKit
set_option linter.unusedVariables false

theorem qsLen (qb np : Nat) (rs : List (Int × List Cd)) (lost k : Int) (w : World) (h : QS w qb np rs lost) (i : Nat) (p : Int) (cs : List Cd) (hix : ixQ k 0 (rs.take np) = (i : Int)) (hi : rs[i]? = some (p, cs)) :
    Calls Try.prog 17 #[.pointer (some ⟨qb, 0, none⟩), .int .i64 k] w fun e w' => e = .returned (.int .i64 (cs.length : Int)) ∧ QS w' qb np rs lost ∧ Below w.heap.size w w' := by
  obtain ⟨sl, h4, h5, hv, hx, h6⟩ := h.keys
  obtain ⟨v, h7, h8⟩ := h6 i p cs hi
  exact (queueLen qb np i sl lost k p v cs w h4 h5 h.1 hv (by rw [hx, hix]) h7 h8).mono fun e w' ⟨he, hb⟩ => ⟨he, h.ext hb, hb⟩
theorem qsLen_no (qb np : Nat) (rs : List (Int × List Cd)) (lost k : Int) (w : World) (h : QS w qb np rs lost) (hix : ixQ k 0 (rs.take np) = -1) :
    Calls Try.prog 17 #[.pointer (some ⟨qb, 0, none⟩), .int .i64 k] w fun e w' => e = .returned (.int .i64 0) ∧ QS w' qb np rs lost ∧ Below w.heap.size w w' := by
  obtain ⟨sl, h4, h5, hv, hx, h6⟩ := h.keys
  exact (queueLen_no qb np sl lost k w h4 h5 h.1 hv (by rw [hx, hix])).mono fun e w' ⟨he, hb⟩ => ⟨he, h.ext hb, hb⟩
theorem qsLost (qb np : Nat) (rs : List (Int × List Cd)) (lost : Int) (w : World) (h : QS w qb np rs lost) :
    Calls Try.prog 16 #[.pointer (some ⟨qb, 0, none⟩)] w fun e w' => e = .returned (.int .i64 lost) ∧ w = w' := by
  obtain ⟨sl, h4, h5, hv, hx, h6⟩ := h.keys
  exact queueLost qb np sl lost w h4 h5
theorem qsTake_no (qb np : Nat) (rs : List (Int × List Cd)) (lost k : Int) (w : World) (h : QS w qb np rs lost) (hix : ixQ k 0 (rs.take np) = -1) :
    Calls Try.prog 14 #[.pointer (some ⟨qb, 0, none⟩), .int .i64 k] w fun e w' => e = .returned (.slice none 0 0) ∧ QS w' qb np rs lost ∧ Below w.heap.size w w' := by
  obtain ⟨sl, h4, h5, hv, hx, h6⟩ := h.keys
  exact (queueTake_no qb np sl lost k w h4 h5 h.1 hv (by rw [hx, hix])).mono fun e w' ⟨he, hb⟩ => ⟨he, h.ext hb, hb⟩
theorem qsTake (qb np : Nat) (rs : List (Int × List Cd)) (lost k : Int) (w : World) (h : QS w qb np rs lost) (i : Nat) (p : Int) (cs : List Cd) (hix : ixQ k 0 (rs.take np) = (i : Int)) (hi : rs[i]? = some (p, cs)) :
    Calls Try.prog 14 #[.pointer (some ⟨qb, 0, none⟩), .int .i64 k] w fun e w' => ∃ t, e = .returned t ∧ OwnC w.heap.size w' t (cs.take 4) ∧ QS w' qb np (rs.set i (p, cs.drop 4)) lost ∧ Rim qb w w' := by
  have HQ := h
  obtain ⟨sl, h4, h5, hv, hx, h6⟩ := h.keys
  obtain ⟨h1, h2, h3, -⟩ := h
  obtain ⟨v, h7, h8⟩ := h6 i p cs hi
  have hc := h3 _ (List.mem_of_getElem? hi)
  simp only at hc
  have hlt : i < 6 := by
    rcases Nat.lt_or_ge i 6 with h' | h'
    · exact h'
    · rw [List.getElem?_eq_none (by omega)] at hi; cases hi
  refine (queueTake qb np i sl lost k p v cs w h4 h5 h1 hv (by rw [hx, hix]) h7 h8 (by omega)).mono ?_
  rintro e w' ⟨t, v', he, ho, hq, hs, hr⟩
  refine ⟨t, he, ho, ⟨h1, by rw [List.length_set]; exact h2, ?_, _, hq, by rw [List.length_set]; exact h5, ?_⟩, hr⟩
  · intro y hy
    rcases List.mem_or_eq_of_mem_set hy with hy | rfl
    · exact h3 y hy
    · simp; omega
  · intro j q ds hj
    by_cases e : i = j
    · subst e
      rw [List.getElem?_set_self (by omega)] at hj ⊢
      cases hj
      exact ⟨v', rfl, hs⟩
    · rw [List.getElem?_set_ne e] at hj ⊢
      obtain ⟨u, h9, h10⟩ := h6 j q ds hj
      exact ⟨u, h9, HQ.slc hr h10⟩
/-- the card whose id is this letter -/
def idc (s : ByteArray) : Cd := ⟨⟨#[97]⟩, s, 0, 0, 0, 0, 0, 0, false⟩
def ids (a : Int) (n : Nat) : List Cd := (List.range n).map (fun (i : Nat) => idc (Utf8.encode (a + (i : Int))))
theorem ids_snoc (a : Int) (n : Nat) : ids a (n + 1) = ids a n ++ [idc (Utf8.encode (a + (n : Int)))] := by simp [ids, List.range_succ]
theorem addM_app (np : Nat) (l m : List Cd) (s : List (Int × List Cd) × Nat) : addM np (l ++ m) s = addM np m (addM np l s) := by simp [addM, List.foldl_append]
theorem ids_len (a : Int) (n : Nat) : (ids a n).length = n := by simp [ids]
theorem ixQ_map (k : Int) (a b : List (Int × List Cd)) (q : Nat) (h : a.map (·.1) = b.map (·.1)) : ixQ k q a = ixQ k q b := by
  induction a generalizing q b with
  | nil => cases b with
    | nil => rfl
    | cons y ys => simp at h
  | cons x xs ih => cases b with
    | nil => simp at h
    | cons y ys =>
      simp only [List.map_cons, List.cons.injEq] at h
      unfold ixQ
      rw [h.1, ih ys (q + 1) h.2]
theorem ixQ_set (k : Int) (rs : List (Int × List Cd)) (i n q : Nat) (p : Int) (cs ds : List Cd) (h : rs[i]? = some (p, cs)) : ixQ k q ((rs.set i (p, ds)).take n) = ixQ k q (rs.take n) := by
  refine ixQ_map _ _ _ _ ?_
  rw [List.map_take, List.map_take]
  congr 1
  apply List.ext_getElem?
  intro j
  rw [List.getElem?_map, List.getElem?_map]
  by_cases e : i = j
  · subst e
    rw [h]
    have hlt : i < rs.length := by
      rcases Nat.lt_or_ge i rs.length with h' | h'
      · exact h'
      · rw [List.getElem?_eq_none h'] at h; cases h
    rw [List.getElem?_set_self hlt]
    rfl
  · rw [List.getElem?_set_ne e]
theorem cat_one (w : World) (x : Cd) : CAt (w.alloc (.cells #[.string x.a, .string x.i, .int .i64 x.s, .int .i64 x.o, .int .i64 x.l, .int .i64 x.t, .int .i64 x.k, .int .i64 x.n, .bool x.g] 39)) (some ⟨w.heap.size, 0, none⟩) [x] := by
  refine .inr ⟨_, _, rfl, ⟨_, blk_new w _ _⟩, fun q u hq => ?_⟩
  rw [Nat.zero_add, blk_cell (blk_new w _ _)]
  simpa [flat, cc] using hq
theorem cat_id (w : World) (s : ByteArray) : CAt (w.alloc (.cells #[.string ⟨#[97]⟩, .string s, .int .i64 0, .int .i64 0, .int .i64 0, .int .i64 0, .int .i64 0, .int .i64 0, .bool false] 39)) (some ⟨w.heap.size, 0, none⟩) [idc s] := cat_one w (idc s)
def R17 : List (Int × List Cd) × Nat := addM 2 (ids 97 17) ((newM [4, 4, 2]).2, 0)
theorem n442 : (newM [4, 4, 2]).1 = 2 := by decide +kernel
theorem k_lost : R17.2 = 2 := by decide +kernel
theorem k_r0 : (R17.1[0]?).map (fun r => (r.1, r.2.length)) = some (4, 16) := by decide +kernel
theorem k_r1 : (R17.1[1]?).map (fun r => (r.1, r.2.length)) = some (2, 16) := by decide +kernel
theorem k_i4 : ixQ 4 0 (R17.1.take 2) = 0 := by decide +kernel
theorem k_i2 : ixQ 2 0 (R17.1.take 2) = 1 := by decide +kernel
theorem k_i9 : ixQ 9 0 (R17.1.take 2) = -1 := by decide +kernel
theorem k_b : ((R17.1[0]?).bind (fun r => r.2[0]?)).map (fun x => x.i.data.toList) = some [98] := by decide +kernel

set_option maxRecDepth 100000 in
set_option maxHeartbeats 2000000 in
theorem law17known (w : World) :
    Calls Try.prog 9 #[] w fun e w' => e = .returned (.bool true) ∧ Below w.heap.size w w' := by
  go_enter Try.func9, Try.ntmps9
  have D0 : Below w.heap.size w (w.alloc (.cells #[.int .i64 4, .int .i64 4, .int .i64 2] 3)) := (Below.refl _ _).alloc (Nat.le_refl _) _
  have HNA := Lib.hid (show NAt (w.alloc (.cells #[.int .i64 4, .int .i64 4, .int .i64 2] 3)) (some ⟨w.heap.size, 0, none⟩) [4, 4, 2] from .inr ⟨_, _, rfl, fun i n hi => by
    have hb := blk_new w #[.int .i64 4, .int .i64 4, .int .i64 2] 3
    rw [blk_cell hb]
    match i, hi with
    | 0, hi => simp at hi; subst hi; rfl
    | 1, hi => simp at hi; subst hi; rfl
    | 2, hi => simp at hi; subst hi; rfl
    | (k + 3), hi => simp at hi⟩)
  go_wp2_with fail
  generalize (w.alloc (.cells #[.int .i64 4, .int .i64 4, .int .i64 2] 3)) = w0 at *
  refine (queueNew 3 3 _ [4, 4, 2] _ HNA.out rfl (by omega) (by unfold maxLen; omega)).mono ?_
  rintro e w1 ⟨rfl, hq, hem, hb⟩
  obtain ⟨qb, hqb⟩ : ∃ qb, w0.heap.size = qb := ⟨_, rfl⟩
  rw [hqb] at hq ⊢
  have hqw : w.heap.size ≤ qb := by have := D0.size; omega
  rw [n442] at hq
  have HQ1 := Lib.hid hq
  have B1 := Lib.hid (ext_trans D0 hb)
  clear hq hem hb D0 HNA hqb
  go_wp2_with fail
  go_loopw [2] (fun j wr => ∃ J : Nat, J ≤ 17 ∧ j = .int .i64 (J : Int) ∧ QS wr qb 2 (addM 2 (ids 97 J) ((newM [4, 4, 2]).2, 0)).1 ((addM 2 (ids 97 J) ((newM [4, 4, 2]).2, 0)).2 : Nat) ∧ Below w.heap.size w wr) (fun j _ => 17 - (intOf j).toNat)
  case atStart => exact ⟨0, by omega, rfl, HQ1.out, B1.out⟩
  case round =>
    obtain ⟨w2, rfl⟩ : ∃ y : World, y = wr := ⟨_, rfl⟩
    obtain ⟨J, hJ, rfl, hq2, hb2⟩ := hrel
    by_cases hlt : J < 17
    · have hwr : IntKind.i32.wrap (97 + (J : Int)) = 97 + (J : Int) := by
        have hm : (97 + (J : Int)) % 4294967296 = 97 + (J : Int) := by omega
        unfold IntKind.wrap
        simp [IntKind.bits, IntKind.signed, hm]
        omega
      obtain ⟨y, hy⟩ : ∃ y, idc (Utf8.encode (97 + (J : Int))) = y := ⟨_, rfl⟩
      have HY := Lib.hid hy
      have HS := Lib.hid (show addM 2 (ids 97 (J + 1)) ((newM [4, 4, 2]).2, 0) = addM 2 [idc (Utf8.encode (97 + (J : Int)))] (addM 2 (ids 97 J) ((newM [4, 4, 2]).2, 0)) from by rw [ids_snoc, addM_app])
      have HL := Lib.hid (show (addM 2 (ids 97 J) ((newM [4, 4, 2]).2, 0)).2 ≤ 1000 from by
        have := addM_le 2 (ids 97 J) ((newM [4, 4, 2]).2, 0) (by omega)
        rw [ids_len] at this
        simp only at this
        omega)
      have D0 : Below w2.heap.size w2 (w2.alloc (.cells #[.string ⟨#[97]⟩, .string (Utf8.encode (97 + (J : Int))), .int .i64 0, .int .i64 0, .int .i64 0, .int .i64 0, .int .i64 0, .int .i64 0, .bool false] 39)) := (Below.refl _ _).alloc (Nat.le_refl _) _
      have HC := Lib.hid (cat_id w2 (Utf8.encode (97 + (J : Int))))
      have HQ3 := Lib.hid (hq2.ext D0)
      have HB3 := Lib.hid (ext_trans hb2 D0)
      have Z3 := (ext_trans hb2 D0).size
      clear hq2 hb2 D0
      go_wp2_with fail
      refine (queueAdd qb 2 1 1 _ [idc (Utf8.encode (97 + (J : Int)))] _ _ _ HQ3.out HC.out rfl (by omega) (by unfold maxLen; omega) (by have := HL.out; omega)).mono ?_
      rintro e w3 ⟨rfl, hq4, hr4⟩
      have HQ4 := Lib.hid hq4
      have HB4 := Lib.hid (HB3.out.trans (hr4.below hqw Z3))
      clear hq4 hr4 Z3
      go_wp2
      go_roundw
      case rel => exact ⟨J + 1, by omega, by go_num, by rw [HS.out]; exact HQ4.out, HB4.out⟩
      case measure => simp [intOf]; omega
    · obtain rfl : J = 17 := by omega
      have HQ2 := Lib.hid (show QS w2 qb 2 R17.1 (2 : Int) from by have h := hq2; have e := k_lost; unfold R17 at e ⊢; rw [e] at h; exact h)
      have HB2 := Lib.hid hb2
      clear hq2 hb2 HQ1 B1
      obtain ⟨cs, h0, h16⟩ : ∃ cs, R17.1[0]? = some (4, cs) ∧ cs.length = 16 := by
        have h := k_r0
        cases e : R17.1[0]? with
        | none => rw [e] at h; cases h
        | some r =>
          rw [e] at h
          simp only [Option.map_some, Option.some.injEq, Prod.mk.injEq] at h
          exact ⟨r.2, by rw [← h.1], h.2⟩
      obtain ⟨ds, h1, h16d⟩ : ∃ cs, R17.1[1]? = some (2, cs) ∧ cs.length = 16 := by
        have h := k_r1
        cases e : R17.1[1]? with
        | none => rw [e] at h; cases h
        | some r =>
          rw [e] at h
          simp only [Option.map_some, Option.some.injEq, Prod.mk.injEq] at h
          exact ⟨r.2, by rw [← h.1], h.2⟩
      obtain ⟨x, hx0, hxi⟩ : ∃ x, cs[0]? = some x ∧ x.i = ⟨#[98]⟩ := by
        have h := k_b
        rw [h0] at h
        simp only [Option.bind_some] at h
        cases e : cs[0]? with
        | none => rw [e] at h; cases h
        | some x =>
          rw [e] at h
          simp only [Option.map_some, Option.some.injEq] at h
          refine ⟨x, rfl, ?_⟩
          cases hq : x.i with
          | mk d => rw [hq] at h; simp only at h; rw [← Array.toArray_toList (xs := d), h]
      have HX := Lib.hid (show (cs.take 4)[0]? = some x by rw [List.getElem?_take_of_lt (by omega)]; exact hx0)
      have HXI := Lib.hid hxi
      have HT4 := Lib.hid (show (cs.take 4).length = 4 by rw [List.length_take]; omega)
      have HD12 := Lib.hid (show ((cs.drop 4).length : Int) = 12 by rw [List.length_drop]; omega)
      have HR0 := Lib.hid h0
      have HD16 := Lib.hid (show (ds.length : Int) = 16 by omega)
      have HS0 := Lib.hid (show (R17.1.set 0 (4, cs.drop 4))[0]? = some (4, cs.drop 4) by rw [List.getElem?_set_self (by rcases Nat.lt_or_ge 0 R17.1.length with h' | h'; exact h'; rw [List.getElem?_eq_none h'] at h0; cases h0)])
      have HS1 := Lib.hid (show (R17.1.set 0 (4, cs.drop 4))[1]? = some (2, ds) by rw [List.getElem?_set_ne (by omega)]; exact h1)
      have HI4 := Lib.hid (show ixQ 4 0 ((R17.1.set 0 (4, cs.drop 4)).take 2) = 0 by rw [ixQ_set 4 _ 0 2 0 4 cs _ h0]; exact k_i4)
      have HI2 := Lib.hid (show ixQ 2 0 ((R17.1.set 0 (4, cs.drop 4)).take 2) = 1 by rw [ixQ_set 2 _ 0 2 0 4 cs _ h0]; exact k_i2)
      have HI9 := Lib.hid (show ixQ 9 0 ((R17.1.set 0 (4, cs.drop 4)).take 2) = -1 by rw [ixQ_set 9 _ 0 2 0 4 cs _ h0]; exact k_i9)
      clear h0 h1 h16 h16d hx0 hxi
      go_wp2_with fail
      refine (qsTake qb 2 R17.1 2 4 _ HQ2.out 0 4 cs k_i4 HR0.out).mono ?_
      rintro e w3 ⟨t, rfl, ho, hq3, hr3⟩
      obtain ⟨a, c, rfl, h4c, -, hat, -, h6⟩ := ho.read
      rw [HT4.out] at h4c
      obtain ⟨g, rfl⟩ : ∃ g, a = some ⟨g, 0, none⟩ := by
        rcases h6 with ⟨-, -, e⟩ | h6
        · have h := HT4.out; rw [e] at h; cases h
        · exact h6
      have HAT := Lib.hid hat
      have hcid : w3.cell? ⟨g, 1, none⟩ = some (.string ⟨#[98]⟩) := by
        obtain ⟨-, h, -⟩ := hat.at HX.out
        rw [HXI.out] at h
        exact h
      have hlg := cell_lt hcid
      rw [HT4.out]
      have HQ3 := Lib.hid hq3
      have HB3 := Lib.hid (HB2.out.trans (hr3.below hqw (by have := HB2.out.size; omega)))
      clear ho h6 hat hq3 hr3 HQ2
      go_wp2_with fail
      refine (qsLost qb 2 _ 2 _ HQ3.out).mono ?_
      rintro e w4 ⟨rfl, rfl⟩
      go_wp2_with fail
      refine (qsLen qb 2 _ 2 4 _ HQ3.out 0 4 _ HI4.out HS0.out).mono ?_
      rintro e w4 ⟨rfl, hq4, hb4⟩
      rw [HD12.out]
      have HQ4 := Lib.hid hq4
      have HB4 := Lib.hid (ext_trans HB3.out hb4)
      clear hq4 hb4 hcid hlg
      go_wp2_with fail
      refine (qsLen qb 2 _ 2 2 _ HQ4.out 1 2 _ HI2.out HS1.out).mono ?_
      rintro e w5 ⟨rfl, hq5, hb5⟩
      rw [HD16.out]
      have HQ5 := Lib.hid hq5
      have HB5 := Lib.hid (ext_trans HB4.out hb5)
      clear hq5 hb5
      go_wp2_with fail
      refine (qsTake_no qb 2 _ 2 9 _ HQ5.out HI9.out).mono ?_
      rintro e w6 ⟨rfl, hq6, hb6⟩
      have HQ6 := Lib.hid hq6
      have HB6 := Lib.hid (ext_trans HB5.out hb6)
      clear hq6 hb6
      go_wp2_with fail
      refine (qsLen_no qb 2 _ 2 9 _ HQ6.out HI9.out).mono ?_
      rintro e w7 ⟨rfl, hq7, hb7⟩
      have HB7 := Lib.hid (ext_trans HB6.out hb7)
      clear hq7 hb7
      go_wp2
      go_ret
      exact ⟨rfl, HB7.out⟩

end Go.Proofs.Ytmpkkkcoiljhpaa
