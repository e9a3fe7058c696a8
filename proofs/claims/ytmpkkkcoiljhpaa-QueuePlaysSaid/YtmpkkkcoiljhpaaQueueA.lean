/- Package queue's walks: cards are laid in each row. -/
import Derived.Test.YtmpkkkcoiljhpaaQueueY
import Derived.Test.YtmpkkkcoiljhpaaQueueF
import Derived.Test.YtmpkkkcoiljhpaaQueueT
import Derived.Test.YtmpkkkcoiljhpaaChain
namespace Go.Proofs.Ytmpkkkcoiljhpaa
open Go.RowKit
set_option linter.unusedVariables false

/-- a queue of these rows -/
def QS (w : World) (qb np : Nat) (rs : List (Int × List Cd)) (lost : Int) : Prop := np ≤ 6 ∧ rs.length = 6 ∧ (∀ x ∈ rs, x.2.length ≤ 16) ∧ ∃ sl, QB w qb np sl lost ∧ sl.length = 6 ∧ ∀ (i : Nat) (p : Int) (cs : List Cd), rs[i]? = some (p, cs) → ∃ v, sl[i]? = some (p, v) ∧ SlC w v cs
/-- the first row of peer k, from number q on -/
def ixQ (k : Int) : Nat → List (Int × List Cd) → Int
  | _, [] => -1
  | q, x :: l => if x.1 = k then (q : Int) else ixQ k (q + 1) l
/-- a card laid last in a row, and how many were lost so -/
def layC (x : Cd) (cs : List Cd) : List Cd := if (delC x cs).length < 16 then delC x cs ++ [x] else (delC x cs ++ [x]).drop 1
def ovC (x : Cd) (cs : List Cd) : Nat := if (delC x cs).length < 16 then 0 else 1
def layR (x : Cd) (r : Int × List Cd) : Int × List Cd := (r.1, layC x r.2)
def layU (x : Cd) (i : Nat) (rs : List (Int × List Cd)) : List (Int × List Cd) := (rs.take i).map (layR x) ++ rs.drop i
def ovU (x : Cd) (i : Nat) (rs : List (Int × List Cd)) : Nat := ((rs.take i).map (fun r => ovC x r.2)).sum
def addM (np : Nat) (l : List Cd) (s : List (Int × List Cd) × Nat) : List (Int × List Cd) × Nat := l.foldl (fun s x => (layU x np s.1, s.2 + ovU x np s.1)) s
theorem addM_snoc (np : Nat) (l : List Cd) (x : Cd) (s : List (Int × List Cd) × Nat) : addM np (l ++ [x]) s = (layU x np (addM np l s).1, (addM np l s).2 + ovU x np (addM np l s).1) := by simp [addM]
theorem delC_len (x : Cd) (cs : List Cd) : (delC x cs).length ≤ cs.length := List.length_filter_le _ _
theorem layC_len (x : Cd) (cs : List Cd) (h : cs.length ≤ 16) : (layC x cs).length ≤ 16 := by
  have := delC_len x cs
  unfold layC
  split
  · simp; omega
  · simp; omega
theorem ovC_le (x : Cd) (cs : List Cd) : ovC x cs ≤ 1 := by unfold ovC; split <;> omega
theorem ovU_le (x : Cd) (i : Nat) (rs : List (Int × List Cd)) : ovU x i rs ≤ i := by
  have h : ∀ l : List (Int × List Cd), (l.map (fun r => ovC x r.2)).sum ≤ l.length := by
    intro l
    induction l with
    | nil => simp
    | cons y ys ih => simp only [List.map_cons, List.sum_cons, List.length_cons]; have := ovC_le x y.2; omega
  have := h (rs.take i)
  rw [List.length_take] at this
  unfold ovU
  omega
theorem addM_le (np : Nat) (l : List Cd) (s : List (Int × List Cd) × Nat) (hn : np ≤ 6) : (addM np l s).2 ≤ s.2 + 6 * l.length := by
  induction l generalizing s with
  | nil => simp [addM]
  | cons x xs ih =>
    have h1 := ih (layU x np s.1, s.2 + ovU x np s.1)
    have h2 := ovU_le x np s.1
    simp only [addM, List.foldl_cons, List.length_cons] at h1 ⊢
    omega
theorem layU_at (x : Cd) (i : Nat) (rs : List (Int × List Cd)) (r : Int × List Cd) (h : rs[i]? = some r) : (layU x i rs)[i]? = some r ∧ (layU x i rs).set i (layR x r) = layU x (i + 1) rs ∧ ovU x (i + 1) rs = ovU x i rs + ovC x r.2 := by
  have hlt : i < rs.length := by
    rcases Nat.lt_or_ge i rs.length with h' | h'
    · exact h'
    · rw [List.getElem?_eq_none h'] at h; cases h
  have hl : ((rs.take i).map (layR x)).length = i := by simp; omega
  have hd : rs.drop i = r :: rs.drop (i + 1) := drop_at h
  have ht : rs.take (i + 1) = rs.take i ++ [r] := by rw [List.take_add_one, h]; rfl
  refine ⟨?_, ?_, ?_⟩
  · unfold layU
    rw [List.getElem?_append_right (by omega), hl, Nat.sub_self, hd]
    rfl
  · unfold layU
    rw [List.set_append_right _ _ (by omega), hl, Nat.sub_self, hd, ht]
    simp
  · unfold ovU
    rw [ht]
    simp
theorem layU_len (x : Cd) (i : Nat) (rs : List (Int × List Cd)) : (layU x i rs).length = rs.length := by
  simp [layU]; omega
section
variable {w w' : World} {qb np : Nat} {rs : List (Int × List Cd)} {lost : Int}
theorem QS.lt (h : QS w qb np rs lost) : qb < w.heap.size := by
  obtain ⟨-, -, -, sl, h1, -⟩ := h
  exact h1.lt
theorem QS.ext (h : QS w qb np rs lost) (hb : Below w.heap.size w w') : QS w' qb np rs lost := by
  obtain ⟨h1, h2, h3, sl, h4, h5, h6⟩ := h
  refine ⟨h1, h2, h3, sl, h4.ext hb, h5, fun i p cs hi => ?_⟩
  obtain ⟨v, h7, h8⟩ := h6 i p cs hi
  exact ⟨v, h7, h8.ext hb⟩
theorem QS.keys (h : QS w qb np rs lost) : ∃ sl, QB w qb np sl lost ∧ sl.length = 6 ∧ (∀ x ∈ sl, ∃ a n c, x.2 = .slice a n c) ∧ (∀ k, ixP k 0 (sl.take np) = ixQ k 0 (rs.take np)) ∧ (∀ (i : Nat) (p : Int) (cs : List Cd), rs[i]? = some (p, cs) → ∃ v, sl[i]? = some (p, v) ∧ SlC w v cs) := by
  obtain ⟨h1, h2, h3, sl, h4, h5, h6⟩ := h
  have hm : sl.map (·.1) = rs.map (·.1) := by
    apply List.ext_getElem?
    intro i
    rw [List.getElem?_map, List.getElem?_map]
    cases hr : rs[i]? with
    | none =>
      have : sl[i]? = none := by rw [List.getElem?_eq_none_iff] at hr ⊢; omega
      rw [this]; rfl
    | some r =>
      obtain ⟨v, h7, -⟩ := h6 i r.1 r.2 hr
      rw [h7]; rfl
  have hix : ∀ (k : Int) (q : Nat) (a : List (Int × Value)) (b : List (Int × List Cd)), a.map (·.1) = b.map (·.1) → ixP k q a = ixQ k q b := by
    intro k q a b
    induction a generalizing q b with
    | nil => intro e; cases b with
      | nil => rfl
      | cons y ys => simp at e
    | cons x xs ih => intro e; cases b with
      | nil => simp at e
      | cons y ys =>
        simp only [List.map_cons, List.cons.injEq] at e
        unfold ixP ixQ
        rw [e.1, ih (q + 1) ys e.2]
  refine ⟨sl, h4, h5, ?_, fun k => hix k 0 _ _ (by rw [List.map_take, List.map_take, hm]), h6⟩
  intro x hx
  obtain ⟨i, hi⟩ := List.getElem?_of_mem hx
  have hlt : i < 6 := by
    rcases Nat.lt_or_ge i 6 with h' | h'
    · exact h'
    · rw [List.getElem?_eq_none (by omega)] at hi; cases hi
  obtain ⟨r, hr⟩ : ∃ r, rs[i]? = some r := ⟨_, List.getElem?_eq_getElem (by omega)⟩
  obtain ⟨v, h7, a, c, h8, -⟩ := h6 i r.1 r.2 hr
  rw [h7] at hi
  cases hi
  exact ⟨a, _, c, h8⟩
theorem QS.blk (h : QS w qb np rs lost) (hr : Rim qb w w') {k : Nat} {cur : Array Value} {T : TypeId} (hT : T ≠ 57) (hc : w.heap[k]? = some (.cells cur T (0, 0))) : w'.heap[k]? = some (.cells cur T (0, 0)) := by
  obtain ⟨-, -, -, sl, h4, -⟩ := h
  exact (hr.block k (h4.ne hT hc) (blk_lt hc)).trans hc
theorem QS.cat (h : QS w qb np rs lost) (hr : Rim qb w w') {a : Option Addr} {cs : List Cd} (ho : CAt w a cs) : CAt w' a cs := by
  obtain ⟨-, -, -, sl, h4, -⟩ := h
  exact ho.keep (fun b cur hc _ => hr.block b (h4.ne (by decide) hc) (blk_lt hc))
theorem QS.slc (h : QS w qb np rs lost) (hr : Rim qb w w') {v : Value} {cs : List Cd} (ho : SlC w v cs) : SlC w' v cs := by
  obtain ⟨-, -, -, sl, h4, -⟩ := h
  exact h4.slc hr ho
theorem QS.own (h : QS w qb np rs lost) (hr : Rim qb w w') {base size m : Nat} {T : TypeId} {v : Value} {xs : List Value} (hT : T ≠ 57) (ho : w.ownsRow base T size v m xs) : w'.ownsRow base T size v m xs := by
  obtain ⟨-, -, -, sl, h4, -⟩ := h
  exact h4.own hr hT ho
end
theorem qsLay (qb np i : Nat) (rs : List (Int × List Cd)) (lost p : Int) (cs : List Cd) (x : Cd) (w : World) (h : QS w qb np rs lost) (hi : rs[i]? = some (p, cs)) (hl0 : 0 ≤ lost) (hl1 : lost ≤ 1000000) :
    Calls Try.prog 24 #[.pointer (some ⟨qb, 0, none⟩), .pointer (some ⟨qb, 1 + i * 2, none⟩), .agg #[.string x.a, .string x.i, .int .i64 x.s, .int .i64 x.o, .int .i64 x.l, .int .i64 x.t, .int .i64 x.k, .int .i64 x.n, .bool x.g]] w fun e w' => e = .returned (.tuple #[]) ∧ QS w' qb np (rs.set i (layR x (p, cs))) (lost + (ovC x cs : Nat)) ∧ Rim qb w w' := by
  have HQ := h
  obtain ⟨h1, h2, h3, sl, h4, h5, h6⟩ := h
  obtain ⟨v, h7, h8⟩ := h6 i p cs hi
  have hc := h3 _ (List.mem_of_getElem? hi)
  simp only at hc
  have hlt : i < 6 := by
    rcases Nat.lt_or_ge i 6 with h' | h'
    · exact h'
    · rw [List.getElem?_eq_none (by omega)] at hi; cases hi
  have key : ∀ (w' : World) (v' : Value) (cs' : List Cd), cs'.length ≤ 16 → QB w' qb np (sl.set i (p, v')) (lost + (ovC x cs : Nat)) → SlC w' v' cs' → Rim qb w w' → QS w' qb np (rs.set i (p, cs')) (lost + (ovC x cs : Nat)) := by
    intro w' v' cs' hc' hq hs hr
    refine ⟨h1, by rw [List.length_set]; exact h2, ?_, _, hq, by rw [List.length_set]; exact h5, ?_⟩
    · intro y hy
      rcases List.mem_or_eq_of_mem_set hy with hy | rfl
      · exact h3 y hy
      · exact hc'
    · intro j q ds hj
      by_cases e : i = j
      · subst e
        rw [List.getElem?_set_self (by omega)] at hj ⊢
        cases hj
        exact ⟨v', rfl, hs⟩
      · rw [List.getElem?_set_ne e] at hj ⊢
        obtain ⟨u, h9, h10⟩ := h6 j q ds hj
        exact ⟨u, h9, HQ.slc hr h10⟩
  have hd := delC_len x cs
  rcases Nat.lt_or_ge (delC x cs).length 16 with h16 | h16
  · refine (lay_in qb np i sl lost p v cs x w h4 h5 h7 h8 (by omega) h16).mono ?_
    rintro e w' ⟨he, ⟨v', hq, hs⟩, hr⟩
    have e1 : layR x (p, cs) = (p, delC x cs ++ [x]) := by simp [layR, layC, h16]
    have e2 : ovC x cs = 0 := by simp [ovC, h16]
    rw [e1]
    exact ⟨he, key w' v' _ (by simp; omega) (by rw [e2]; simpa using hq) hs hr, hr⟩
  · refine (lay_over qb np i sl lost p v cs x w h4 h5 h7 h8 (by omega) (by omega) hl0 hl1).mono ?_
    rintro e w' ⟨he, ⟨v', hq, hs⟩, hr⟩
    have e1 : layR x (p, cs) = (p, (delC x cs ++ [x]).drop 1) := by simp [layR, layC, show ¬ (delC x cs).length < 16 from by omega]
    have e2 : ovC x cs = 1 := by simp [ovC, show ¬ (delC x cs).length < 16 from by omega]
    rw [e1]
    exact ⟨he, key w' v' _ (by simp; omega) (by rw [e2]; exact hq) hs hr, hr⟩

set_option maxRecDepth 100000 in
set_option maxHeartbeats 2000000 in
theorem queueAdd (qb np n c : Nat) (a : Option Addr) (ls : List Cd) (rs : List (Int × List Cd)) (lost : Nat) (w : World) (h : QS w qb np rs lost) (ha : CAt w a ls) (hl : ls.length = n) (hc : n ≤ c) (hm : c ≤ maxLen) (hlo : lost + 6 * n ≤ 1000000) :
    Calls Try.prog 13 #[.pointer (some ⟨qb, 0, none⟩), .slice a n c] w fun e w' => e = .returned (.tuple #[]) ∧ QS w' qb np (addM np ls (rs, lost)).1 ((addM np ls (rs, lost)).2 : Nat) ∧ Rim qb w w' := by
  have HQ := Lib.hid h
  have HA := Lib.hid ha
  have HN := Lib.hid hl
  have hnp : np ≤ 6 := h.1
  unfold maxLen at hm
  clear h ha hl
  go_enter Try.func13, Try.ntmps13
  go_wp2_with fail
  go_loopw [9] (fun j wr => ∃ J : Nat, J ≤ n ∧ j = .int .i64 (J : Int) ∧ QS wr qb np (addM np (ls.take J) (rs, lost)).1 ((addM np (ls.take J) (rs, lost)).2 : Nat) ∧ CAt wr a ls ∧ Rim qb w wr) (fun j _ => n - (intOf j).toNat)
  case atStart => exact ⟨0, by omega, rfl, HQ.out, HA.out, Rim.of (Below.refl _ _)⟩
  case round =>
    obtain ⟨w2, rfl⟩ : ∃ y : World, y = wr := ⟨_, rfl⟩
    obtain ⟨J, hJ, rfl, hq2, ha2, hr2⟩ := hrel
    by_cases hlt : J < n
    · obtain ⟨x, hx⟩ : ∃ x, ls[J]? = some x := ⟨_, List.getElem?_eq_getElem (by have := HN.out; omega)⟩
      obtain ⟨R, hR⟩ : ∃ R, (addM np (ls.take J) (rs, lost)).1 = R := ⟨_, rfl⟩
      obtain ⟨L, hL⟩ : ∃ L, (addM np (ls.take J) (rs, lost)).2 = L := ⟨_, rfl⟩
      have HLB := Lib.hid (show L + 6 ≤ 1000000 from by
        have h1 := addM_le np (ls.take J) (rs, lost) hnp
        rw [hL, List.length_take] at h1
        simp only at h1
        omega)
      have HST := Lib.hid (show addM np (ls.take (J + 1)) (rs, lost) = (layU x np R, L + ovU x np R) from by
        rw [List.take_add_one, hx]
        show addM np (ls.take J ++ [x]) (rs, lost) = _
        rw [addM_snoc, hR, hL])
      rw [hR, hL] at hq2
      have hR6 := hq2.2.1
      have HR6 := Lib.hid hR6
      obtain ⟨b, o, rfl⟩ : ∃ b o, a = some ⟨b, o, none⟩ := by
        rcases HA.out with h | ⟨b, o, e, _⟩
        · rw [h] at hx; simp at hx
        · exact ⟨b, o, e⟩
      obtain ⟨x0, x1, x2, x3, x4, x5, x6, x7, x8⟩ := ha2.at hx
      have D0 : Below w2.heap.size w2 (w2.alloc (.cells #[.string x.a, .string x.i, .int .i64 x.s, .int .i64 x.o, .int .i64 x.l, .int .i64 x.t, .int .i64 x.k, .int .i64 x.n, .bool x.g] 39)) := (Below.refl _ _).alloc (Nat.le_refl _) _
      have HX := Lib.hid (blk_new w2 #[.string x.a, .string x.i, .int .i64 x.s, .int .i64 x.o, .int .i64 x.l, .int .i64 x.t, .int .i64 x.k, .int .i64 x.n, .bool x.g] 39)
      have HQ3 := Lib.hid (hq2.ext D0)
      have HA3 := Lib.hid (ha2.ext D0)
      have HR3 := Lib.hid (hr2.trans (Rim.of D0))
      obtain ⟨sl, hqb, h6, -⟩ := hq2.keys
      have hc0 := hqb.c0
      have hlb := hqb.lt
      clear hq2 ha2 hr2 hx hR hL hqb h6 D0 hR6
      go_upto_region 3 with (fail)
      obtain ⟨r, hr⟩ : ∃ r, w2.heap.size = r := ⟨_, rfl⟩
      rw [hr] at HX ⊢
      clear hr
      generalize (w2.alloc (.cells #[.string x.a, .string x.i, .int .i64 x.s, .int .i64 x.o, .int .i64 x.l, .int .i64 x.t, .int .i64 x.k, .int .i64 x.n, .bool x.g] 39)) = w3 at *
      clear x0 x1 x2 x3 x4 x5 x6 x7 x8 hc0 hlb
      obtain ⟨sl, hqb, h6, -⟩ := HQ3.out.keys
      have hc0 := hqb.c0
      have hlb := hqb.lt
      have hl3 := blk_lt HX.out
      clear hqb h6
      go_wp2_with fail
      go_loopw [17] (fun i wr => ∃ I : Nat, I ≤ np ∧ i = .int .i64 (I : Int) ∧ QS wr qb np (layU x I R) ((L : Int) + (ovU x I R : Nat)) ∧ wr.heap[r]? = some (.cells #[.string x.a, .string x.i, .int .i64 x.s, .int .i64 x.o, .int .i64 x.l, .int .i64 x.t, .int .i64 x.k, .int .i64 x.n, .bool x.g] 39 (0, 0)) ∧ CAt wr (some ⟨b, o, none⟩) ls ∧ Rim qb w wr) (fun i _ => np - (intOf i).toNat)
      case atStart => exact ⟨0, by omega, rfl, by simpa [layU, ovU] using HQ3.out, HX.out, HA3.out, HR3.out⟩
      case round =>
        obtain ⟨w4, rfl⟩ : ∃ y : World, y = wr := ⟨_, rfl⟩
        obtain ⟨I, hI, rfl, hq4, hx4, ha4, hr4⟩ := hrel
        have HQ4 := Lib.hid hq4
        have HX4 := Lib.hid hx4
        have HA4 := Lib.hid ha4
        have HR4 := Lib.hid hr4
        clear hq4 hx4 ha4 hr4
        by_cases hlt2 : I < np
        · obtain ⟨⟨p, cs⟩, hpc⟩ : ∃ y, R[I]? = some y := ⟨_, List.getElem?_eq_getElem (by have := HR6.out; omega)⟩
          have HRI := Lib.hid (layU_at x I R (p, cs) hpc)
          have hI6 : (I : Int) < 6 := by omega
          clear hpc
          go_wp2_with fail
          haveI hIc : Nonempty (In (fun W : World => W.heap[r]? = some (.cells #[.string x.a, .string x.i, .int .i64 x.s, .int .i64 x.o, .int .i64 x.l, .int .i64 x.t, .int .i64 x.k, .int .i64 x.n, .bool x.g] 39 (0, 0)))) := ⟨⟨_, HX4.out⟩⟩
          have hFx : ∀ g : In (fun W : World => W.heap[r]? = some (.cells #[.string x.a, .string x.i, .int .i64 x.s, .int .i64 x.o, .int .i64 x.l, .int .i64 x.t, .int .i64 x.k, .int .i64 x.n, .bool x.g] 39 (0, 0))), ∀ n, g.w.cell? ⟨r, n, none⟩ = (#[.string x.a, .string x.i, .int .i64 x.s, .int .i64 x.o, .int .i64 x.l, .int .i64 x.t, .int .i64 x.k, .int .i64 x.n, .bool x.g] : Array Value)[n]? := fun g n => blk_cell g.h n
          have hFl : ∀ g : In (fun W : World => W.heap[r]? = some (.cells #[.string x.a, .string x.i, .int .i64 x.s, .int .i64 x.o, .int .i64 x.l, .int .i64 x.t, .int .i64 x.k, .int .i64 x.n, .bool x.g] 39 (0, 0))), r < g.w.heap.size := fun g => blk_lt g.h
          refine wp_region_chain (fun w' => ∃ g : In (fun W : World => W.heap[r]? = some (.cells #[.string x.a, .string x.i, .int .i64 x.s, .int .i64 x.o, .int .i64 x.l, .int .i64 x.t, .int .i64 x.k, .int .i64 x.n, .bool x.g] 39 (0, 0))), w' = g.w) (by kernel_rfl) (by kernel_rfl) (by kernel_rfl) ?_
          refine wpG_letter (fun W => QS W qb np (layU x I R) ((L : Int) + (ovU x I R : Nat)) ∧ W.heap[r]? = some (.cells #[.string x.a, .string x.i, .int .i64 x.s, .int .i64 x.o, .int .i64 x.l, .int .i64 x.t, .int .i64 x.k, .int .i64 x.n, .bool x.g] 39 (0, 0)) ∧ CAt W (some ⟨b, o, none⟩) ls ∧ Rim qb w W) ⟨HQ4.out.ext ((Below.refl _ _).drew), blk_drew HX4.out, HA4.out.ext ((Below.refl _ _).drew), HR4.out.trans (Rim.kept ((Kept.refl qb w4).drew))⟩ ?_
          rintro x0 ⟨hq0, hx0, ha0, hr0⟩
          repeat (refine wpG_plain (by rfl) (by rfl) (fun K hK => ?_); go_big_quiet_op; refine hK _ ?_; clear hK K)
          refine wpG_call (by rfl) (by rfl) ⟨⟨_, hx0⟩, rfl⟩ (fun K hK => ?_)
          go_big_op
          refine (qsLay qb np I (layU x I R) ((L : Int) + (ovU x I R : Nat)) p cs x _ hq0 HRI.out.1 (by omega) (by have := ovU_le x I R; have := HLB.out; omega)).mono ?_
          rintro e x1 ⟨rfl, hqx, hrx⟩
          have hq1 := hqx
          have hx1 := hq0.blk hrx (by decide) hx0
          have ha1 := hq0.cat hrx ha0
          have hr1 := hr0.trans hrx
          clear hq0 hx0 ha0 hr0 hqx hrx
          refine hK _ _ ?_
          clear hK K
          repeat (refine wpG_plain (by rfl) (by rfl) (fun K hK => ?_); go_big_quiet_op; refine hK _ ?_; clear hK K)
          refine wpG_nil ⟨⟨_, hx1⟩, rfl⟩ ?_

          have HQ5 := Lib.hid hq1
          have HX5 := Lib.hid hx1
          have HA5 := Lib.hid ha1
          have HR5 := Lib.hid hr1
          clear hq1 hx1 ha1 hr1 hFx hFl hIc
          go_wp2
          go_roundw
          case rel => exact ⟨I + 1, by omega, by go_num, by rw [← HRI.out.2.1, HRI.out.2.2]; have := HQ5.out; rw [Int.add_assoc] at this; exact this, HX5.out, HA5.out, HR5.out⟩
          case measure => simp [intOf]; omega
        · obtain rfl : I = np := by omega
          go_wp2
          go_roundw
          case rel => exact ⟨J + 1, by omega, by go_num, by rw [HST.out]; exact HQ4.out, HA4.out, HR4.out⟩
          case measure => simp [intOf]; omega
    · obtain rfl : J = n := by omega
      have HF := Lib.hid (show ls.take J = ls from List.take_of_length_le (by have := HN.out; omega))
      go_wp2
      go_end0
      exact ⟨rfl, by rw [HF.out] at hq2; exact hq2, hr2⟩

end Go.Proofs.Ytmpkkkcoiljhpaa
