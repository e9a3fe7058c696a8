/- Several texts as one: ShfD, ShfG. -/
import Derived.Test.YtcjpemphdgndkaaGreatBgY
import Derived.Deep.RegionLaw
/- slices.Delete of one entry; Drop. -/
namespace Go.Proofs.YtcjpemphdgndkaaGreat
open Go.RowKit
set_option linter.unusedVariables false
set_option linter.unusedSimpArgs false

theorem run_clear1 (w : World) (ty : TypeId) (b o c : Nat) (hc : ∀ j, j < 10 → (w.cell? ⟨b, o + j, none⟩).isSome = true) (hf : ∀ j, j < 10 → w.frozen? ⟨b, o + j, none⟩ = false) :
    (Builtin.clear_ #[89] ty #[.slice (some ⟨b, o, none⟩) 1 c]).run Tryz.prog w = .ok (.tuple #[]) (w.setCells b o (ec En.zero)) := by
  obtain ⟨i0, hi, hz0, hz1, hz2⟩ := info_parts' info_en
  have hv : (zeroValue 58).run Tryz.prog w = .ok En.zero.v w := by simp [zeroValue, typeInfo, hi, hz0]
  have hst := run_storeCells_cells (P := Tryz.prog) b o (ec En.zero) 0 w (by rw [ec_len]; simpa using hc) (by rw [ec_len]; simpa using hf) (ec_one _)
  simp only [Nat.add_zero] at hst
  have hzc : (Builtin.zeroCells (En.zero.v).cells 1).toList = ec En.zero := by first | kernel_rfl | (simp [Builtin.zeroCells, ec, Value.cells]; done) | (simp [Builtin.zeroCells, Array.range, Array.ofFn, ec, Value.cells]; rfl)
  simp only [En.v, En.zero, Cd.zero] at hv hzc
  simp [Builtin.clear_, run_underlying Tryz.underlying89, hv, hzc, hst]
def delAt (ls : List En) (i : Nat) : List En := ls.take i ++ ls.drop (i + 1)
set_option maxRecDepth 100000 in
set_option maxHeartbeats 2000000 in
theorem deleteE (base g n c i j : Nat) (ls : List En) (w : World) (h : OwnE base w (.slice (some ⟨g, 0, none⟩) n c) ls) (hl : ls.length = n) (hn : n ≤ 1000) (hi : i < n) (hj : j = i + 1) (hbase : base ≤ w.heap.size) :
    Calls Tryz.prog 106 #[.slice (some ⟨g, 0, none⟩) n c, .int .i64 i, .int .i64 j] w fun r w' => ∃ v', r = .returned v' ∧ OwnE base w' v' (delAt ls i) ∧ Below base w w' := by
  obtain ⟨i0, hi0, hz0, hz1, hz2⟩ := info_parts' info_en
  obtain ⟨-, hnc, hcm, cur, hcur, hcs, hbg⟩ := OwnR.num h
  have hij : i < j := by omega
  have hjn : j ≤ n := by omega
  obtain ⟨B, hB⟩ : ∃ B, flat ec (ls.drop j) = B := ⟨_, rfl⟩
  have lB : B.length = (n - j) * 10 := by rw [← hB, flat_len ec_len, List.length_drop, hl]
  have hBc : ∀ t u, B[t]? = some u → w.cell? ⟨g, j * 10 + t, none⟩ = some u := fun t u ht => by
    refine own_rd ec_len h ?_
    rw [← hB, ← flat_drop ec_len, List.getElem?_drop] at ht
    exact ht
  obtain ⟨A, hA, hsrc⟩ : ∃ A : Addr, (if c = j then some (⟨g, 0, none⟩ : Addr) else some ⟨g, j * 10, none⟩) = some A ∧ Hid (∀ t u, B[t]? = some u → w.drew.cell? (A.add t) = some u) := by
    by_cases h' : c = j
    · refine ⟨⟨g, 0, none⟩, by simp [h'], fun t u hu => ?_⟩
      have h0 : B.length = 0 := by rw [lB]; omega
      rw [List.length_eq_zero_iff.1 h0] at hu
      simp at hu
    · refine ⟨⟨g, j * 10, none⟩, by simp [h'], fun t u hu => ?_⟩
      rw [add_off]
      exact hBc t u hu
  have s1 : Hid (B.length = (n - j) * 10) := lB
  have s2 : Hid (∀ u ∈ B, u.oneCell' = true) := by rw [← hB]; exact flat_one ec_one _
  have hcell : ∀ q, q < c * 10 → (w.cell? ⟨g, q, none⟩).isSome = true := fun q hq => by
    rw [blk_cell hcur, Array.getElem?_eq_getElem (by rw [hcs]; exact hq)]; rfl
  have s3 : Hid (∀ t, t < B.length → (w.drew.cell? ⟨g, 0 + i * 10 + t, none⟩).isSome = true ∧ w.drew.frozen? ⟨g, 0 + i * 10 + t, none⟩ = false) := fun t ht => ⟨hcell _ (by rw [lB] at ht; omega), blk_free hcur _⟩
  obtain ⟨W1, hW1⟩ : ∃ W1, W1 = w.drew.setCells g (0 + i * 10) B := ⟨_, rfl⟩
  have hO1 : OwnE base W1 (.slice (some ⟨g, 0, none⟩) n c) (ls.take i ++ ls.drop j ++ ls.drop (n - 1)) := by
    have h1 := own_sets (w := w.drew) B (o := 0 + i * 10) h
    have e0 : 0 + i * 10 + B.length = (n - 1) * 10 := by rw [lB]; omega
    rw [setL_eq _ _ _ (by rw [flat_len ec_len, hl, e0]; omega), e0, Nat.zero_add, flat_take ec_len, flat_drop ec_len, ← hB, ← flat_app, ← flat_app] at h1
    unfold OwnE OwnR
    have e1 : (ls.take i ++ ls.drop j ++ ls.drop (n - 1)).length = ls.length := by simp; omega
    rw [e1, hW1, Nat.zero_add, ← hB]
    exact h1
  obtain ⟨-, -, -, cur1, hcur1, hcs1, -⟩ := OwnR.num hO1
  have lL : (ls.take i ++ ls.drop j ++ ls.drop (n - 1)).length = n := by simp; omega
  have e2 : i + (n - j) = n - 1 := by omega
  have hcl : ∀ ty, (Builtin.clear_ #[89] ty #[.slice (some ⟨g, (i + (n - j)) * 10, none⟩) (n - (i + (n - j))) (c - (i + (n - j)))]).run Tryz.prog W1 = .ok (.tuple #[]) (W1.setCells g ((i + (n - j)) * 10) (ec En.zero)) := fun ty => by
    rw [show n - (i + (n - j)) = 1 by omega]
    exact run_clear1 W1 ty g _ _ (fun t ht => by rw [blk_cell hcur1, Array.getElem?_eq_getElem (by rw [hcs1]; omega)]; rfl) (fun t ht => blk_free hcur1 _)
  have HRES := Lib.hid (show OwnE base (W1.setCells g ((i + (n - j)) * 10) (ec En.zero)) (.slice (some ⟨g, 0, none⟩) (i + (n - j)) c) (delAt ls i) from by
    rw [e2]
    have h2 := OwnR.put ec_len hO1 (i := n - 1) (by rw [lL]; omega) En.zero
    have h3 := OwnR.take ec_len h2 (i := n - 1) (by rw [List.length_set, lL]; omega)
    have e3 : ((ls.take i ++ ls.drop j ++ ls.drop (n - 1)).set (n - 1) En.zero).take (n - 1) = delAt ls i := by
      have e4 : (ls.take i ++ ls.drop j).length = n - 1 := by simp; omega
      rw [List.take_set_of_le (Nat.le_refl _), ← e4, List.take_left]
      unfold delAt
      rw [hj]
    rw [e3] at h3
    exact h3)
  have HB := Lib.hid (show Below base w (W1.setCells g ((i + (n - j)) * 10) (ec En.zero)) from by
    have k1 : Kept g w W1 := by rw [hW1]; exact kept_sets (u := w) (w := w.drew) B ⟨rfl, rfl, rfl, rfl, fun _ _ => rfl⟩
    have k2 := kept_sets (ec En.zero) (o := (i + (n - j)) * 10) k1
    exact (Rim.kept k2).below hbg hbase)
  have hW : Hid (W1 = w.drew.setCells g (0 + i * 10) B) := hW1
  have mixed : Tryz.prog.follows .mixedOrders = true := by kernel_rfl
  have hic : i ≤ c := by omega
  have hjc : j ≤ c := by omega
  have hni : ¬ n = i := by omega
  have hcm2 : c ≤ 9223372036854775807 := by simp only [maxLen] at hcm; omega
  clear hW1 hO1 hcur1 hcs1 hcell hcur hcs hBc hB lB lL h e2 hj
  go_enter Tryz.func106, Tryz.ntmps106
  go_wp2_with fail
  go_region_law_o (refine step_append_room rfl (.tmp 22) (.tmp 25) 89 rfl 58 i0 10 Tryz.underlying89 hi0 hz1 g 0 i c (by simp [Act.eval, Act.put]) A (n - j) (c - j) B (by simp [Act.eval, Act.put]) s1.out hsrc.out s2.out (by omega) s3.out ?_; rw [← hW.out])
  go_wp2
  go_ret
  exact ⟨_, rfl, HRES.out, HB.out⟩

theorem asc_del {es : List En} (h : Asc es) (i : Nat) : Asc (delAt es i) := by
  refine List.Pairwise.sublist ?_ h
  unfold delAt
  have h1 : (es.take i ++ es.drop (i + 1)).Sublist (es.take i ++ es.drop i) := List.Sublist.append (List.Sublist.refl _) (by rw [← List.drop_drop]; exact List.drop_sublist _ _)
  rwa [List.take_append_drop] at h1
theorem isIn_at {k : Ky} {es : List En} (h : isIn k es = true) : ∃ x, es[low k es]? = some x ∧ x.c.a = k.1 ∧ x.c.i = k.2 := by
  unfold isIn at h
  cases hx : es[low k es]? with
  | none => rw [hx] at h; cases h
  | some x =>
    rw [hx] at h
    simp at h
    exact ⟨x, rfl, h.1, h.2⟩
theorem asc_put {es : List En} {e : En} (h : Asc es) (hi : isIn (enK e) es = true) : Asc (es.set (low (enK e) es) e) := by
  obtain ⟨x, hx, h1, h2⟩ := isIn_at hi
  have ha : ∀ l : List En, Asc l ↔ (l.map enK).Pairwise (fun a b => kc a.1 a.2 b.1 b.2 < 0) := fun l => by
    unfold Asc
    rw [List.pairwise_map]
    rfl
  rw [ha] at h ⊢
  have e1 : (es.set (low (enK e) es) e).map enK = es.map enK := by
    rw [List.map_set]
    apply List.ext_getElem?
    intro q
    rw [List.getElem?_set]
    split
    · rename_i hq
      subst hq
      rw [List.getElem?_map, hx]
      have hlt := (List.getElem?_eq_some_iff.1 hx).1
      rw [List.length_map, if_pos hlt]
      show some (enK e) = some (x.c.a, x.c.i)
      rw [h1, h2]
    · rfl
  rw [e1]
  exact h
theorem asc_ins {es : List En} {e : En} (h : Asc es) (hi : isIn (enK e) es = false) : Asc (insAt es (low (enK e) es) e) := by
  have hl := low_iff (enK e) es h
  obtain ⟨p, hp⟩ : ∃ p, low (enK e) es = p := ⟨_, rfl⟩
  have hin : ∀ x, es[p]? = some x → ¬ (x.c.a = e.c.a ∧ x.c.i = e.c.i) := by
    rintro x hx ⟨h1, h2⟩
    unfold isIn at hi
    rw [hp, hx] at hi
    simp [enK, h1, h2] at hi
  rw [hp] at hl ⊢
  have h1 : ∀ x ∈ es.take p, kc x.c.a x.c.i e.c.a e.c.i < 0 := by
    intro x hx
    obtain ⟨q, hq⟩ := List.mem_iff_getElem?.1 hx
    rw [List.getElem?_take] at hq
    split at hq
    · rename_i hlt
      have := hl q x hq
      rw [decide_eq_true hlt] at this
      exact of_decide_eq_true this
    · cases hq
  have h2 : ∀ y ∈ es.drop p, kc e.c.a e.c.i y.c.a y.c.i < 0 := by
    intro y hy
    obtain ⟨q, hq⟩ := List.mem_iff_getElem?.1 hy
    rw [List.getElem?_drop] at hq
    have h3 := hl (p + q) y hq
    rw [decide_eq_false (by omega)] at h3
    have h4 : 0 ≤ kc y.c.a y.c.i e.c.a e.c.i := by have h5 : ¬ kc y.c.a y.c.i e.c.a e.c.i < 0 := of_decide_eq_false h3; omega
    have h5 := kc_neg e.c.a e.c.i y.c.a y.c.i
    have h6 : kc y.c.a y.c.i e.c.a e.c.i ≠ 0 := by
      intro h7
      obtain ⟨e1, e2⟩ := kc_zero h7
      cases q with
      | zero => exact hin y (by simpa using hq) ⟨e1, e2⟩
      | succ q =>
        obtain ⟨x, hx⟩ : ∃ x, es[p]? = some x := ⟨_, List.getElem?_eq_getElem (by have := (List.getElem?_eq_some_iff.1 hq).1; omega)⟩
        have h8 := hl p x hx
        rw [decide_eq_false (by omega)] at h8
        have h9 : ¬ kc x.c.a x.c.i e.c.a e.c.i < 0 := of_decide_eq_false h8
        have h10 : kc x.c.a x.c.i y.c.a y.c.i < 0 := by
          obtain ⟨l1, g1⟩ := List.getElem?_eq_some_iff.1 hx
          obtain ⟨l2, g2⟩ := List.getElem?_eq_some_iff.1 hq
          have := List.pairwise_iff_getElem.1 h p (p + (q + 1)) l1 l2 (by omega)
          rwa [g1, g2] at this
        rw [e1, e2] at h10
        exact h9 h10
    omega
  unfold insAt
  rw [List.append_assoc]
  have h0 : (es.take p ++ es.drop p).Pairwise (fun x y => kc x.c.a x.c.i y.c.a y.c.i < 0) := by rw [List.take_append_drop]; exact h
  obtain ⟨p1, p2, p3⟩ := List.pairwise_append.1 h0
  refine List.pairwise_append.2 ⟨p1, List.pairwise_append.2 ⟨List.pairwise_singleton _ _, p2, fun x hx y hy => ?_⟩, fun x hx y hy => ?_⟩
  · simp at hx; subst hx; exact h2 y hy
  · rcases List.mem_append.1 hy with hy | hy
    · simp at hy; subst hy; exact h1 x hx
    · exact p3 x hx y hy

end Go.Proofs.YtcjpemphdgndkaaGreat

/- Package shelf: Get. -/
namespace Go.Proofs.YtcjpemphdgndkaaGreat
open Go.RowKit
set_option linter.unusedVariables false
set_option linter.unusedSimpArgs false

end Go.Proofs.YtcjpemphdgndkaaGreat
