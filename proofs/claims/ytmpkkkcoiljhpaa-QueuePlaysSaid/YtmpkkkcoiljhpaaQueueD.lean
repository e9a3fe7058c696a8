/- Package queue's walks: cards of a key come out of a row. -/
import Derived.Test.YtmpkkkcoiljhpaaQueueW
namespace Go.Proofs.Ytmpkkkcoiljhpaa
open Go.RowKit
set_option linter.unusedVariables false

section
variable {α : Type} {enc : α → List Value} {k : Nat} {T : TypeId}
def setL : List Value → Nat → List Value → List Value
  | l, _, [] => l
  | l, o, v :: vs => setL (l.set o v) (o + 1) vs
theorem setL_len (l : List Value) (o : Nat) (vs : List Value) : (setL l o vs).length = l.length := by
  induction vs generalizing l o with
  | nil => rfl
  | cons v vs ih => unfold setL; rw [ih]; simp
theorem setL_out (l : List Value) (o : Nat) (vs : List Value) (h : l.length ≤ o) : setL l o vs = l := by
  induction vs generalizing l o with
  | nil => rfl
  | cons v vs ih =>
    unfold setL
    rw [List.set_eq_of_length_le h]
    exact ih l (o + 1) (by omega)
theorem setL_eq (l : List Value) (o : Nat) (vs : List Value) (h : o + vs.length ≤ l.length) : setL l o vs = l.take o ++ vs ++ l.drop (o + vs.length) := by
  induction vs generalizing l o with
  | nil => simp [setL]
  | cons v vs ih =>
    unfold setL
    rw [List.length_cons] at h
    rw [ih _ _ (by simp; omega), List.take_set, List.drop_set_of_lt (by omega)]
    rw [show (l.take (o + 1)).set o v = l.take o ++ [v] from by
      apply List.ext_getElem?
      intro i
      rw [List.getElem?_set]
      rcases Nat.lt_trichotomy i o with h' | h' | h'
      · rw [if_neg (by omega), List.getElem?_take_of_lt (by omega), List.getElem?_append_left (by simp; omega), List.getElem?_take_of_lt (by omega)]
      · subst h'
        rw [if_pos rfl, if_pos (by simp; omega), List.getElem?_append_right (by simp; omega)]
        rw [List.length_take, show i - min i l.length = 0 from by omega]
        rfl
      · rw [if_neg (by omega), List.getElem?_eq_none (by simp; omega), List.getElem?_eq_none (by simp; omega)]]
    simp [show o + 1 + vs.length = o + (vs.length + 1) from by omega]
theorem own_set1 {base size n m c g o : Nat} {w : World} {xs : List Value} (h : w.ownsRow base T size (.slice (some ⟨g, 0, none⟩) n c) m xs) (v : Value) : (w.setCell ⟨g, o, none⟩ v).ownsRow base T size (.slice (some ⟨g, 0, none⟩) n c) m (xs.set o v) := by
  rcases h with ⟨h1, ⟨e, _⟩ | ⟨g', cap, cur, e, hg, hh, hnc, hcm, hcs, ht⟩⟩
  · cases e
  · simp only [Value.slice.injEq, Option.some.injEq, Addr.mk.injEq] at e
    obtain ⟨⟨rfl, -⟩, rfl, rfl⟩ := e
    refine ⟨by simpa using h1, .inr ⟨g, c, cur.setIfInBounds o v, rfl, hg, blk_set hh rfl, hnc, hcm, by simpa using hcs, ?_⟩⟩
    rw [Array.toList_setIfInBounds, List.take_set, ht]
theorem own_sets {base size n m c g : Nat} (vs : List Value) {o : Nat} {w : World} {xs : List Value} (h : w.ownsRow base T size (.slice (some ⟨g, 0, none⟩) n c) m xs) : (w.setCells g o vs).ownsRow base T size (.slice (some ⟨g, 0, none⟩) n c) m (setL xs o vs) := by
  induction vs generalizing w o xs with
  | nil => exact h
  | cons v vs ih => exact ih (own_set1 h v)
theorem kept_sets {g : Nat} (vs : List Value) {o : Nat} {u w : World} (h : Kept g u w) : Kept g u (w.setCells g o vs) := by
  induction vs generalizing w o with
  | nil => exact h
  | cons v vs ih => exact ih (h.setCell o v)
theorem OwnR.num {base n c g : Nat} {w : World} {ls : List α} (h : OwnR enc k T base w (.slice (some ⟨g, 0, none⟩) n c) ls) : n = ls.length ∧ n ≤ c ∧ c ≤ maxLen ∧ ∃ cur, w.heap[g]? = some (.cells cur T (0, 0)) ∧ cur.size = c * k ∧ base ≤ g := by
  rcases h.2 with ⟨e, _⟩ | ⟨g', cap, cur, e, hg, hh, hnc, hcm, hcs, ht⟩
  · cases e
  · simp only [Value.slice.injEq, Option.some.injEq, Addr.mk.injEq] at e
    obtain ⟨⟨rfl, -⟩, rfl, rfl⟩ := e
    exact ⟨rfl, hnc, hcm, cur, hh, hcs, hg⟩
theorem OwnR.put (hk : ∀ x, (enc x).length = k) {base n c g i : Nat} {w : World} {ls : List α} (h : OwnR enc k T base w (.slice (some ⟨g, 0, none⟩) n c) ls) (hi : i < ls.length) (y : α) : OwnR enc k T base (w.setCells g (i * k) (enc y)) (.slice (some ⟨g, 0, none⟩) n c) (ls.set i y) := by
  have h1 := own_sets (enc y) (o := i * k) h
  have h2 : i * k + k ≤ ls.length * k := by rw [← Nat.succ_mul]; exact Nat.mul_le_mul_right k hi
  rw [setL_eq _ _ _ (by rw [hk, flat_len hk]; exact h2), hk, ← Nat.succ_mul, ← flat_set hk ls i y hi] at h1
  unfold OwnR
  rwa [List.length_set]
theorem OwnR.behind (hk : ∀ x, (enc x).length = k) {base n c g o : Nat} {w : World} {ls : List α} (vs : List Value) (h : OwnR enc k T base w (.slice (some ⟨g, 0, none⟩) n c) ls) (ho : ls.length * k ≤ o) : OwnR enc k T base (w.setCells g o vs) (.slice (some ⟨g, 0, none⟩) n c) ls := by
  have h1 := own_sets vs (o := o) h
  rwa [setL_out _ _ _ (by rw [flat_len hk]; exact ho)] at h1
end
/-- n cleared cards -/
def zs (n : Nat) : List Value := (Builtin.zeroCells (Value.agg #[.string ⟨#[]⟩, .string ⟨#[]⟩, .int .i64 0, .int .i64 0, .int .i64 0, .int .i64 0, .int .i64 0, .int .i64 0, .bool false]).cells n).toList
theorem zs_len (n : Nat) : (zs n).length = n * 9 := by
  simp only [zs, Builtin.zeroCells, Array.length_toList, Array.size_map, Array.size_range]
  rw [show (Value.agg #[.string ⟨#[]⟩, .string ⟨#[]⟩, .int .i64 0, .int .i64 0, .int .i64 0, .int .i64 0, .int .i64 0, .int .i64 0, .bool false]).cells.size = 9 from by first | kernel_rfl | decide +kernel]
theorem zs_one (n : Nat) : ∀ v ∈ zs n, v.oneCell' = true := by
  intro v hv
  have hq : ∀ q, q < 9 → ((Value.agg #[.string ⟨#[]⟩, .string ⟨#[]⟩, .int .i64 0, .int .i64 0, .int .i64 0, .int .i64 0, .int .i64 0, .int .i64 0, .bool false]).cells[q]!).oneCell' = true := by
    intro q hq
    have : q = 0 ∨ q = 1 ∨ q = 2 ∨ q = 3 ∨ q = 4 ∨ q = 5 ∨ q = 6 ∨ q = 7 ∨ q = 8 := by omega
    rcases this with rfl | rfl | rfl | rfl | rfl | rfl | rfl | rfl | rfl <;> first | kernel_rfl | decide +kernel
  have h9 : (Value.agg #[.string ⟨#[]⟩, .string ⟨#[]⟩, .int .i64 0, .int .i64 0, .int .i64 0, .int .i64 0, .int .i64 0, .int .i64 0, .bool false]).cells.size = 9 := by first | kernel_rfl | decide +kernel
  simp only [zs, Builtin.zeroCells, Array.toList_map, List.mem_map] at hv
  obtain ⟨i, -, rfl⟩ := hv
  exact hq _ (by rw [h9]; exact Nat.mod_lt _ (by omega))
theorem run_clear_cards (w : World) (ty : TypeId) (b o n c : Nat) (hn : 0 < n) (hc : ∀ j, j < n * 9 → (w.cell? ⟨b, o + j, none⟩).isSome = true) (hf : ∀ j, j < n * 9 → w.frozen? ⟨b, o + j, none⟩ = false) :
    (Builtin.clear_ #[25] ty #[.slice (some ⟨b, o, none⟩) n c]).run Try.prog w = .ok (.tuple #[]) (w.setCells b o (zs n)) := by
  obtain ⟨i0, hi, hz0, hz1, hz2⟩ := info_parts' info_card
  have hv : (zeroValue 39).run Try.prog w = .ok (.agg #[.string ⟨#[]⟩, .string ⟨#[]⟩, .int .i64 0, .int .i64 0, .int .i64 0, .int .i64 0, .int .i64 0, .int .i64 0, .bool false]) w := by simp [zeroValue, typeInfo, hi, hz0]
  have hst := run_storeCells_cells (P := Try.prog) b o (zs n) 0 w (by rw [zs_len]; simpa using hc) (by rw [zs_len]; simpa using hf) (zs_one n)
  simp only [Nat.add_zero] at hst
  obtain ⟨m, rfl⟩ : ∃ m, n = m + 1 := ⟨n - 1, by omega⟩
  have hzc : (Builtin.zeroCells (Value.agg #[.string ⟨#[]⟩, .string ⟨#[]⟩, .int .i64 0, .int .i64 0, .int .i64 0, .int .i64 0, .int .i64 0, .int .i64 0, .bool false]).cells (m + 1)).toList = zs (m + 1) := rfl
  simp [Builtin.clear_, run_underlying Try.underlying25, hv, hzc, hst]
/-- the cards of other keys -/
def delC (y : Cd) (ls : List Cd) : List Cd := ls.filter (fun x => !kq x y)
theorem delC_at (y : Cd) (ls : List Cd) (j : Nat) (x : Cd) (h : ls[j]? = some x) : delC y (ls.take (j + 1)) = delC y (ls.take j) ++ (if kq x y then [] else [x]) := by
  have hlt : j < ls.length := by
    rcases Nat.lt_or_ge j ls.length with h' | h'
    · exact h'
    · rw [List.getElem?_eq_none h'] at h; cases h
  rw [List.take_add_one, h]
  unfold delC
  rw [List.filter_append]
  cases hq : kq x y <;> simp [hq]
theorem ixF_case (y : Cd) (ls : List Cd) : ∀ q : Nat, (ixF y q ls = -1 ∧ delC y ls = ls) ∨ ∃ (k : Nat) (x : Cd), ixF y q ls = ((q + k : Nat) : Int) ∧ ls[k]? = some x ∧ delC y (ls.take k) = ls.take k ∧ delC y (ls.take (k + 1)) = ls.take k := by
  induction ls with
  | nil => intro q; exact .inl ⟨rfl, rfl⟩
  | cons z zs ih =>
    intro q
    cases hq : kq z y
    · rcases ih (q + 1) with ⟨h1, h2⟩ | ⟨k, x, h1, h2, h3, h4⟩
      · refine .inl ⟨by rw [ixF_miss _ _ _ _ hq, h1], ?_⟩
        unfold delC at h2 ⊢
        rw [List.filter_cons_of_pos (by simp [hq]), h2]
      · refine .inr ⟨k + 1, x, by rw [ixF_miss _ _ _ _ hq, h1]; congr 1; omega, by simpa using h2, ?_, ?_⟩
        · unfold delC at h3 ⊢
          rw [List.take_succ_cons, List.filter_cons_of_pos (by simp [hq]), h3]
        · unfold delC at h4 ⊢
          rw [List.take_succ_cons, List.filter_cons_of_pos (by simp [hq]), h4, List.take_succ_cons]
    · refine .inr ⟨0, z, by rw [ixF_hit _ _ _ _ hq]; rfl, by simp, by simp [delC], ?_⟩
      simp [delC, hq]

set_option maxRecDepth 100000 in
set_option maxHeartbeats 1000000 in
theorem deleteC (base n c : Nat) (a : Option Addr) (ls : List Cd) (y : Cd) (s : Nat) (w : World) (h : OwnC base w (.slice a n c) ls) (hl : ls.length = n) (hn : n ≤ 1000) (hb0 : base ≤ w.heap.size) (hsg : ∀ g, a = some ⟨g, 0, none⟩ → s ≠ g) (hs : w.heap[s]? = some (.cells #[.string y.a, .string y.i, .int .i64 y.s, .int .i64 y.o, .int .i64 y.l, .int .i64 y.t, .int .i64 y.k, .int .i64 y.n, .bool y.g] 39 (0, 0))) :
    Calls Try.prog 31 #[.slice a n c, .func (.func 32) #[] #[.pointer (some ⟨s, 0, none⟩)]] w fun e w' => ∃ v, e = .returned v ∧ OwnC base w' v (delC y ls) ∧ w'.heap[s]? = some (.cells #[.string y.a, .string y.i, .int .i64 y.s, .int .i64 y.o, .int .i64 y.l, .int .i64 y.t, .int .i64 y.k, .int .i64 y.n, .bool y.g] 39 (0, 0)) ∧ Below base w w' := by
  have HO := Lib.hid h
  have HN := Lib.hid hl
  have HS := Lib.hid hs
  have HB0 := Lib.hid hb0
  clear h hl hs hb0
  rcases ixF_case y ls 0 with ⟨h1, h2⟩ | ⟨k, x, h1, hk, h3, h4⟩
  · obtain ⟨a', c', e1, hc, hm, hat, -, h6⟩ := HO.out.read
    simp only [Value.slice.injEq] at e1
    obtain ⟨rfl, rfl, rfl⟩ := e1
    refine (deleteF_no a ls.length c ls y s w hat rfl hc hm (by rw [HN.out]; exact hn) h1 HS.out).mono ?_
    rintro e w1 ⟨rfl, hb⟩
    exact ⟨_, rfl, by rw [h2]; exact HO.out.ext hb, blk_ext hb HS.out, hb.mono HB0.out⟩
  · skip
    obtain ⟨g, rfl⟩ : ∃ g, a = some ⟨g, 0, none⟩ := by
      obtain ⟨a', c', e1, -, -, -, -, h6⟩ := HO.out.read
      simp only [Value.slice.injEq] at e1
      obtain ⟨rfl, -, -⟩ := e1
      rcases h6 with ⟨-, -, e⟩ | h6
      · rw [e] at hk; simp at hk
      · exact h6
    have hsg' : s ≠ g := hsg g rfl
    clear hsg
    have HIX := Lib.hid (show ixF y 0 ls = (k : Int) from by simpa using h1)
    have HK := Lib.hid hk
    have HT := Lib.hid h4
    have hkn : k < n := by
      rcases Nat.lt_or_ge k n with h' | h'
      · exact h'
      · rw [List.getElem?_eq_none (by have := HN.out; omega)] at hk; cases hk
    clear h1 hk h3 h4
    have hd1 : ((k : Int) == -1) = false := by first | (simp; done) | (simp; omega)
    go_enter Try.func31, Try.ntmps31
    go_wp2_with fail
    refine (indexC (some ⟨g, 0, none⟩) n c ls y s _ (by obtain ⟨_, _, e, _, _, h4, _⟩ := HO.out.read; simp only [Value.slice.injEq] at e; obtain ⟨rfl, -, -⟩ := e; exact h4) HN.out HO.out.num.2.1 HO.out.num.2.2.1 hn HS.out).mono ?_
    rintro e w1 ⟨rfl, hb⟩
    rw [HIX.out]
    have HO1 := Lib.hid (HO.out.ext hb)
    have HS1 := Lib.hid (blk_ext hb HS.out)
    have B1 := Lib.hid (hb.mono HB0.out)
    clear hb
    go_wp2_with fail
    go_loopw [5, 6] (fun i j wr => ∃ (I J : Nat) (l' : List Cd), I < J ∧ J ≤ n ∧ i = .int .i64 (I : Int) ∧ j = .int .i64 (J : Int) ∧ OwnC base wr (.slice (some ⟨g, 0, none⟩) n c) l' ∧ l'.length = n ∧ l'.take I = delC y (ls.take J) ∧ l'.drop J = ls.drop J ∧ wr.heap[s]? = some (.cells #[.string y.a, .string y.i, .int .i64 y.s, .int .i64 y.o, .int .i64 y.l, .int .i64 y.t, .int .i64 y.k, .int .i64 y.n, .bool y.g] 39 (0, 0)) ∧ Below base w wr) (fun i j _ => n - (intOf j).toNat)
    case atStart => exact ⟨k, k + 1, ls, by omega, by omega, rfl, by go_num, HO1.out, HN.out, HT.out.symm, rfl, HS1.out, B1.out⟩
    case round =>
      obtain ⟨w2, rfl⟩ : ∃ y : World, y = wr := ⟨_, rfl⟩
      obtain ⟨I, J, l', hIJ, hJ, rfl, rfl, ho, hl', ht', hd', hs2, hb2⟩ := hrel
      have HO2 := Lib.hid ho
      have HL2 := Lib.hid hl'
      have HT2 := Lib.hid ht'
      have HD2 := Lib.hid hd'
      have HS2 := Lib.hid hs2
      have HB2 := Lib.hid hb2
      clear ho hl' ht' hd' hs2 hb2
      have hIn : I < n := by omega
      have hblk := HO2.out.num.2.2.2
      obtain ⟨cur, hcur, hcs, hbg⟩ := hblk
      by_cases hlt : J < n
      · obtain ⟨x, hx⟩ : ∃ x, ls[J]? = some x := ⟨_, List.getElem?_eq_getElem (by have := HN.out; omega)⟩
        have hx2 : l'[J]? = some x := by
          have e1 : (l'.drop J)[0]? = (ls.drop J)[0]? := by rw [HD2.out]
          simpa [List.getElem?_drop, hx] using e1
        have HX1 := Lib.hid hx
        have hcat : ∀ W, OwnC base W (.slice (some ⟨g, 0, none⟩) n c) l' → CAt W (some ⟨g, 0, none⟩) l' := by
          intro W hW
          obtain ⟨_, _, e, _, _, h4, _⟩ := hW.read
          simp only [Value.slice.injEq] at e
          obtain ⟨rfl, -, -⟩ := e
          exact h4
        obtain ⟨z, hz⟩ : ∃ z, l'[I]? = some z := ⟨_, List.getElem?_eq_getElem (by have := HL2.out; omega)⟩
        have HZ := Lib.hid hz
        have HCA := Lib.hid hcat
        obtain ⟨x0, x1, x2, x3, x4, x5, x6, x7, x8⟩ := (hcat _ HO2.out).at hx2
        simp only [Nat.zero_add] at x0 x1 x2 x3 x4 x5 x6 x7 x8
        have D0 : Below w2.heap.size w2 (w2.alloc (.cells #[.string x.a, .string x.i, .int .i64 x.s, .int .i64 x.o, .int .i64 x.l, .int .i64 x.t, .int .i64 x.k, .int .i64 x.n, .bool x.g] 39)) := (Below.refl _ _).alloc (Nat.le_refl _) _
        have HXX := Lib.hid (blk_new w2 #[.string x.a, .string x.i, .int .i64 x.s, .int .i64 x.o, .int .i64 x.l, .int .i64 x.t, .int .i64 x.k, .int .i64 x.n, .bool x.g] 39)
        have HS3 := Lib.hid (blk_ext D0 HS2.out)
        have HO3 := Lib.hid (HO2.out.ext D0)
        have Z2 := HB2.out.size
        have HB3 := Lib.hid ((HB2.out.trans (D0.mono (by have := HB0.out; omega)) : Below base w _))
        have HBZ := Lib.hid (show base ≤ (w2.alloc (.cells #[.string x.a, .string x.i, .int .i64 x.s, .int .i64 x.o, .int .i64 x.l, .int .i64 x.t, .int .i64 x.k, .int .i64 x.n, .bool x.g] 39)).heap.size from by have := D0.size; have := HB0.out; omega)
        have hlg := blk_lt hcur
        clear hx hx2 hcat hz hcur hcs D0
        go_wp2_with fail
        obtain ⟨r, hr⟩ : ∃ r, w2.heap.size = r := ⟨_, rfl⟩
        rw [hr] at HXX ⊢
        have HR := Lib.hid hr
        generalize (w2.alloc (.cells #[.string x.a, .string x.i, .int .i64 x.s, .int .i64 x.o, .int .i64 x.l, .int .i64 x.t, .int .i64 x.k, .int .i64 x.n, .bool x.g] 39)) = w3 at *
        refine (keySame x y s _ HS3.out).mono ?_
        rintro e w4 ⟨rfl, hb⟩
        have HX4 := Lib.hid (blk_ext hb HXX.out)
        have HS4 := Lib.hid (blk_ext hb HS3.out)
        have HO4 := Lib.hid (HO3.out.ext hb)
        have HB4 := Lib.hid ((HB3.out.trans (hb.mono HBZ.out) : Below base w _))
        have hk7 := blk_cell HX4.out
        have hl7 := blk_lt HX4.out
        clear hb x0 x1 x2 x3 x4 x5 x6 x7 x8 HXX HS3 HO3 hlg
        rcases Bool.eq_false_or_eq_true (kq x y) with hq | hq
        · rw [hq]
          have HQ := Lib.hid hq
          clear hq
          go_wp2
          go_roundw
          case rel => exact ⟨I, J + 1, l', by omega, by omega, rfl, by go_num, HO4.out, HL2.out, by rw [delC_at y ls J x HX1.out, HQ.out, HT2.out]; simp, by rw [← List.drop_drop, HD2.out, List.drop_drop], HS4.out, HB4.out⟩
          case measure => simp [intOf]; omega
        · rw [hq]
          have HQ := Lib.hid hq
          clear hq
          obtain ⟨y0, y1, y2, y3, y4, y5, y6, y7, y8⟩ := (HCA.out _ HO4.out).at HZ.out
          simp only [Nat.zero_add] at y0 y1 y2 y3 y4 y5 y6 y7 y8
          obtain ⟨cur4, hcur4, hcs4, hbg4⟩ := HO4.out.num.2.2.2
          have hf4 := blk_free hcur4
          have hl4 := blk_lt hcur4
          have HG := Lib.hid hbg4
          clear hcur4 hcs4
          have HPUT := Lib.hid (OwnR.put cc_len HO4.out (i := I) (by have := HL2.out; omega) x)
          have HKP := Lib.hid (kept_sets (cc x) (o := I * 9) (Kept.refl g w4))
          go_wp2
          go_roundw
          case rel => exact ⟨I + 1, J + 1, l'.set I x, by omega, by omega, by go_num, by go_num, HPUT.out, by rw [List.length_set]; exact HL2.out, by
            rw [delC_at y ls J x HX1.out, HQ.out, ← HT2.out]
            have := HL2.out
            apply List.ext_getElem?
            intro q
            rcases Nat.lt_trichotomy q I with h' | h' | h'
            · rw [List.getElem?_take_of_lt (by omega), List.getElem?_set_ne (by omega), List.getElem?_append_left (by simp; omega), List.getElem?_take_of_lt (by omega)]
            · subst h'
              rw [List.getElem?_take_of_lt (by omega), List.getElem?_set_self (by omega), List.getElem?_append_right (by simp; omega)]
              rw [List.length_take, show q - min q l'.length = 0 from by omega]
              rfl
            · rw [List.getElem?_eq_none (by simp; omega), List.getElem?_eq_none (by simp; omega)], by
            rw [List.drop_set_of_lt (by omega), ← List.drop_drop, HD2.out, List.drop_drop], by
            exact (HKP.out.block s hsg').trans HS4.out, by
            exact HB4.out.trans ((Rim.kept HKP.out).below HG.out (by have := HB4.out.size; have := HB0.out; omega))⟩
          case measure => simp [intOf]; omega
      · obtain rfl : J = n := by omega
        have hne : ¬ c = I := by have := HO2.out.num.2.1; omega
        have hcn := HO2.out.num.2.1
        have hfr := blk_free hcur
        have HT3 := Lib.hid (show OwnC base w2 (.slice (some ⟨g, 0, none⟩) I c) (l'.take I) from HO2.out.take cc_len (by have := HL2.out; omega))
        have HLT := Lib.hid (show (l'.take I).length = I from by have := HL2.out; rw [List.length_take]; omega)
        have HFI := Lib.hid (show delC y ls = l'.take I from by rw [HT2.out, List.take_of_length_le (by have := HN.out; omega)])
        have HCUR := Lib.hid hcur
        have hclr := fun ty => run_clear_cards w2 ty g (I * 9) (J - I) (c - I) (by omega) (fun j hj => by rw [blk_cell HCUR.out, Array.getElem?_eq_getElem (by rw [hcs]; omega)]; rfl) (fun j hj => blk_free HCUR.out _)
        have hlg := blk_lt hcur
        clear hcur hcs hfr
        go_wp2_with fail
        have HB3 := Lib.hid (OwnR.behind cc_len (zs (J - I)) (o := I * 9) HT3.out (by have := HLT.out; omega))
        have HKP := Lib.hid (kept_sets (zs (J - I)) (o := I * 9) (Kept.refl g w2))
        go_ret
        exact ⟨_, rfl, by rw [HFI.out]; exact HB3.out, (HKP.out.block s hsg').trans HS2.out, HB2.out.trans ((Rim.kept HKP.out).below hbg (by have := HB2.out.size; have := HB0.out; omega))⟩


end Go.Proofs.Ytmpkkkcoiljhpaa
