/- Package net's walks: one out of a row. -/
import Derived.Test.YtkkmnodhmmdllaaNetL
namespace Go.Proofs.Ytkkmnodhmmdllaa
open Go.RowKit
set_option linter.unusedVariables false

theorem OwnL.take {base : Nat} {w : World} {g n c i : Nat} {ls : List Lt} (h : OwnL base w (.slice (some ⟨g, 0, none⟩) n c) ls) (hi : i ≤ ls.length) : w.ownsRow base 34 3 (.slice (some ⟨g, 0, none⟩) i c) i (lf (ls.take i)) := by
  rcases h.2 with ⟨e, _⟩ | ⟨g', cap, cur, e, hg, hh, hnc, hcm, hcs, ht⟩
  · cases e
  · simp only [Value.slice.injEq, Option.some.injEq, Addr.mk.injEq] at e
    obtain ⟨⟨rfl, -⟩, rfl, rfl⟩ := e
    refine ⟨by rw [lf_len, List.length_take]; omega, .inr ⟨_, _, cur, rfl, hg, hh, by omega, hcm, hcs, ?_⟩⟩
    rw [← lf_take, ← ht, List.take_take]
    congr 1
    omega
theorem add_off (g q j : Nat) : (⟨g, q, none⟩ : Addr).add j = ⟨g, q + j, none⟩ := by
  by_cases h0 : j = 0
  · subst h0; simp [Addr.add]
  · simp [Addr.add, h0]

theorem run_clear_letter (w : World) (ty : TypeId) (b o c : Nat) (hc : ∀ j, j < 3 → (w.cell? ⟨b, o + j, none⟩).isSome = true) (hf : ∀ j, j < 3 → w.frozen? ⟨b, o + j, none⟩ = false) :
    (Builtin.clear_ #[57] ty #[.slice (some ⟨b, o, none⟩) 1 c]).run Try.prog w = .ok (.tuple #[]) (w.setCells b o [.int .i64 0, .int .i64 0, .slice none 0 0]) := by
  obtain ⟨i0, hi, hz0, hz1, hz2⟩ := info_parts info_letter
  have hv : (zeroValue 34).run Try.prog w = .ok (.agg #[.int .i64 0, .int .i64 0, .slice none 0 0]) w := by simp [zeroValue, typeInfo, hi, hz0]
  have hzc : (Builtin.zeroCells (Value.agg #[.int .i64 0, .int .i64 0, .slice none 0 0]).cells 1).toList = [.int .i64 0, .int .i64 0, .slice none 0 0] := by first | kernel_rfl | decide +kernel
  have hst := run_storeCells_cells (P := Try.prog) b o [.int .i64 0, .int .i64 0, .slice none 0 0] 0 w (by simpa using hc) (by simpa using hf) (by intro v hv'; simp at hv'; rcases hv' with rfl | rfl | rfl <;> rfl)
  simp only [Nat.add_zero] at hst
  simp [Builtin.clear_, run_underlying Try.underlying57, hv, hzc, hst]
theorem own_blk {base : Nat} {w : World} {g n c : Nat} {xs : List Value} (h : w.ownsRow base 34 3 (.slice (some ⟨g, 0, none⟩) n c) n xs) : ∃ cur, w.heap[g]? = some (.cells cur 34 (0, 0)) ∧ cur.size = c * 3 ∧ n ≤ c := by
  rcases h.2 with ⟨e, _⟩ | ⟨g', cap, cur, e, hg, hh, hnc, hcm, hcs, ht⟩
  · cases e
  · simp only [Value.slice.injEq, Option.some.injEq, Addr.mk.injEq] at e
    obtain ⟨⟨rfl, -⟩, -, rfl⟩ := e
    exact ⟨cur, hh, hcs, hnc⟩
theorem own_behind {base : Nat} {w : World} {g n c : Nat} {xs : List Value} (h : w.ownsRow base 34 3 (.slice (some ⟨g, 0, none⟩) n c) n xs) (o : Nat) (v : Value) (ho : n * 3 ≤ o) : (w.setCell ⟨g, o, none⟩ v).ownsRow base 34 3 (.slice (some ⟨g, 0, none⟩) n c) n xs := by
  rcases h with ⟨h1, ⟨e, _⟩ | ⟨g', cap, cur, e, hg, hh, hnc, hcm, hcs, ht⟩⟩
  · cases e
  · simp only [Value.slice.injEq, Option.some.injEq, Addr.mk.injEq] at e
    obtain ⟨⟨rfl, -⟩, -, rfl⟩ := e
    refine ⟨h1, .inr ⟨g, c, cur.setIfInBounds o v, rfl, hg, blk_set hh rfl, hnc, hcm, by simpa using hcs, ?_⟩⟩
    rw [Array.toList_setIfInBounds, List.take_set_of_le ho]
    exact ht
theorem Rim.grown {w w' : World} {g : Nat} (h : w.grownBy w' (some g)) : Rim g w w' := ⟨h.os, h.tape, h.output, h.size, fun k hk hl => h.block k hl (fun e => hk (by cases e; rfl))⟩

set_option maxRecDepth 100000 in
set_option maxHeartbeats 1000000 in
theorem deleteL (base g n c i : Nat) (ls : List Lt) (w : World) (h : OwnL base w (.slice (some ⟨g, 0, none⟩) n c) ls) (hl : ls.length = n) (hc : n ≤ c) (hm : c ≤ maxLen) (hi' : i < n) (hn : n ≤ 1000) :
    Calls Try.prog 36 #[.slice (some ⟨g, 0, none⟩) n c, .int .i64 (i : Int), .int .i64 ((i : Int) + 1)] w fun e w' => e = .returned (.slice (some ⟨g, 0, none⟩) (n - 1) c) ∧ OwnL base w' (.slice (some ⟨g, 0, none⟩) (n - 1) c) (ls.eraseIdx i) ∧ Rim g w w' := by
  obtain ⟨i0, hi, hz0, hz1, hz2⟩ := info_parts info_letter
  have HO := Lib.hid h
  have HN := Lib.hid hl
  have hd : ((i : Int) == (i : Int) + 1) = false := by simp; omega
  unfold maxLen at hm
  clear h hl
  rcases Classical.propComplete (c = i + 1) with hce | hce
  · go_enter Try.func36, Try.ntmps36
    go_wp2_with fail
    haveI hIc : Nonempty (In (fun _ : World => True)) := ⟨⟨w, trivial⟩⟩
    refine wp_region_chain (fun w' => ∃ g : In (fun _ : World => True), w' = g.w) (by kernel_rfl) (by kernel_rfl) (by kernel_rfl) ?_
    have hk0 : Kept g w w.drew := (Kept.refl g w).drew
    have HO1 := Lib.hid (show OwnL base w.drew (.slice (some ⟨g, 0, none⟩) n c) ls from HO.out.ext ((Below.refl _ _).drew))
    generalize w.drew = w1 at *
    repeat (refine wpG_plain (by rfl) (by rfl) (fun K hK => ?_); go_big_quiet_op; refine hK _ ?_; clear hK K)
    refine wpG_call (by rfl) (by rfl) ⟨⟨_, trivial⟩, rfl⟩ (fun K hK => ?_)
    refine wp_append_own_spare _ _ _ 57 rfl base 34 i0 3 Try.underlying57 hi hz1 g i c (lf (ls.take i)) rfl (HO1.out.take (by have := HN.out; omega)) ⟨g, 0, none⟩ (n - (i + 1)) _ (lf (ls.drop (i + 1))) rfl ?c0 ?c1 ?c2 ?c3 ?_
    case c0 => rw [lf_len, List.length_drop, HN.out]
    case c1 => intro j u hj; rw [List.drop_eq_nil_of_le (by have := of_eq_true hce; have := HN.out; omega)] at hj; simp [lf_nil] at hj
    case c2 => exact lf_one _
    case c3 => omega
    intro w2 ho hg
    refine hK _ _ ?_
    clear hK K
    simp only [Act.put, List.setIfInBounds_toArray, List.set_cons_succ, List.set_cons_zero]
    repeat (refine wpG_plain (by rfl) (by rfl) (fun K hK => ?_); go_big_quiet_op; refine hK _ ?_; clear hK K)
    refine wpG_nil ⟨⟨_, trivial⟩, rfl⟩ ?_
    go_wp2_with fail
    have hq : i + (n - (i + 1)) = n - 1 := by omega
    rw [hq] at ho
    obtain ⟨cur, hblk, hcs, hcn⟩ := own_blk ho
    have hclr := run_clear_letter w2 0 g ((i + (n - (i + 1))) * 3) (c - (i + (n - (i + 1)))) (fun j hj => by rw [blk_cell hblk, Array.getElem?_eq_getElem (by omega)]; rfl) (fun j hj => blk_free hblk _)
    have hL : n - (i + (n - (i + 1))) = 1 := by omega
    rw [hL, hclr]
    rw [hq]
    have hk3 : Kept g w2 (w2.setCells g ((n - 1) * 3) [.int .i64 0, .int .i64 0, .slice none 0 0]) := (((Kept.refl g w2).setCell _ _).setCell _ _).setCell _ _
    have ho3 := own_behind (own_behind (own_behind ho ((n - 1) * 3) (.int .i64 0) (by omega)) ((n - 1) * 3 + 1) (.int .i64 0) (by omega)) ((n - 1) * 3 + 1 + 1) (.slice none 0 0) (by omega)
    have HO3 := Lib.hid (show OwnL base (w2.setCells g ((n - 1) * 3) [.int .i64 0, .int .i64 0, .slice none 0 0]) (.slice (some ⟨g, 0, none⟩) (n - 1) c) (ls.eraseIdx i) from by
      unfold OwnL
      rw [List.eraseIdx_eq_take_drop_succ, lf_app, List.length_append, List.length_take, List.length_drop, HN.out, show min i n + (n - (i + 1)) = n - 1 from by omega]
      exact ho3)
    have HK3 := Lib.hid ((Rim.kept hk0).trans ((Rim.grown hg).trans (Rim.kept hk3)))
    generalize (w2.setCells g ((n - 1) * 3) [.int .i64 0, .int .i64 0, .slice none 0 0]) = w3 at *
    clear ho hblk hcs hcn hclr hL hk3 ho3 hg hk0
    simp only [Result.andThen_ok, Oper.upon_value]
    go_wp2
    go_ret
    exact ⟨rfl, HO3.out, HK3.out⟩
  · go_enter Try.func36, Try.ntmps36
    go_wp2_with fail
    haveI hIc : Nonempty (In (fun _ : World => True)) := ⟨⟨w, trivial⟩⟩
    refine wp_region_chain (fun w' => ∃ g : In (fun _ : World => True), w' = g.w) (by kernel_rfl) (by kernel_rfl) (by kernel_rfl) ?_
    have hk0 : Kept g w w.drew := (Kept.refl g w).drew
    have HO1 := Lib.hid (show OwnL base w.drew (.slice (some ⟨g, 0, none⟩) n c) ls from HO.out.ext ((Below.refl _ _).drew))
    generalize w.drew = w1 at *
    repeat (refine wpG_plain (by rfl) (by rfl) (fun K hK => ?_); go_big_quiet_op; refine hK _ ?_; clear hK K)
    refine wpG_call (by rfl) (by rfl) ⟨⟨_, trivial⟩, rfl⟩ (fun K hK => ?_)
    refine wp_append_own_spare _ _ _ 57 rfl base 34 i0 3 Try.underlying57 hi hz1 g i c (lf (ls.take i)) rfl (HO1.out.take (by have := HN.out; omega)) ⟨g, (i + 1) * 3, none⟩ (n - (i + 1)) _ (lf (ls.drop (i + 1))) rfl ?c0 ?c1 ?c2 ?c3 ?_
    case c0 => rw [lf_len, List.length_drop, HN.out]
    case c1 => intro j u hj; rw [add_off]; rw [← lf_drop, List.getElem?_drop] at hj; exact own_rd HO1.out hj
    case c2 => exact lf_one _
    case c3 => omega
    intro w2 ho hg
    refine hK _ _ ?_
    clear hK K
    simp only [Act.put, List.setIfInBounds_toArray, List.set_cons_succ, List.set_cons_zero]
    repeat (refine wpG_plain (by rfl) (by rfl) (fun K hK => ?_); go_big_quiet_op; refine hK _ ?_; clear hK K)
    refine wpG_nil ⟨⟨_, trivial⟩, rfl⟩ ?_
    go_wp2_with fail
    have hq : i + (n - (i + 1)) = n - 1 := by omega
    rw [hq] at ho
    obtain ⟨cur, hblk, hcs, hcn⟩ := own_blk ho
    have hclr := run_clear_letter w2 0 g ((i + (n - (i + 1))) * 3) (c - (i + (n - (i + 1)))) (fun j hj => by rw [blk_cell hblk, Array.getElem?_eq_getElem (by omega)]; rfl) (fun j hj => blk_free hblk _)
    have hL : n - (i + (n - (i + 1))) = 1 := by omega
    rw [hL, hclr]
    rw [hq]
    have hk3 : Kept g w2 (w2.setCells g ((n - 1) * 3) [.int .i64 0, .int .i64 0, .slice none 0 0]) := (((Kept.refl g w2).setCell _ _).setCell _ _).setCell _ _
    have ho3 := own_behind (own_behind (own_behind ho ((n - 1) * 3) (.int .i64 0) (by omega)) ((n - 1) * 3 + 1) (.int .i64 0) (by omega)) ((n - 1) * 3 + 1 + 1) (.slice none 0 0) (by omega)
    have HO3 := Lib.hid (show OwnL base (w2.setCells g ((n - 1) * 3) [.int .i64 0, .int .i64 0, .slice none 0 0]) (.slice (some ⟨g, 0, none⟩) (n - 1) c) (ls.eraseIdx i) from by
      unfold OwnL
      rw [List.eraseIdx_eq_take_drop_succ, lf_app, List.length_append, List.length_take, List.length_drop, HN.out, show min i n + (n - (i + 1)) = n - 1 from by omega]
      exact ho3)
    have HK3 := Lib.hid ((Rim.kept hk0).trans ((Rim.grown hg).trans (Rim.kept hk3)))
    generalize (w2.setCells g ((n - 1) * 3) [.int .i64 0, .int .i64 0, .slice none 0 0]) = w3 at *
    clear ho hblk hcs hcn hclr hL hk3 ho3 hg hk0
    simp only [Result.andThen_ok, Oper.upon_value]
    go_wp2
    go_ret
    exact ⟨rfl, HO3.out, HK3.out⟩

end Go.Proofs.Ytkkmnodhmmdllaa
