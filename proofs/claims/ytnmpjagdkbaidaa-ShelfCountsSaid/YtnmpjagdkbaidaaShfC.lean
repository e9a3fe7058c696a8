/- Entries: slices.Insert whole; slices.Clone. -/
import Derived.Test.YtnmpjagdkbaidaaShfI
namespace Go.Proofs.Ytnmpjagdkbaidaa
open Go.RowKit
set_option linter.unusedVariables false
set_option linter.unusedSimpArgs false

set_option maxRecDepth 100000 in
set_option maxHeartbeats 1000000 in
theorem insertNil (base : Nat) (e : En) (vb : Nat) (w : World) (hv : w.heap[vb]? = some (.cells #[.string e.c.a, .string e.c.i, .int .i64 e.c.s, .int .i64 e.c.o, .int .i64 e.c.l, .int .i64 e.c.t, .int .i64 e.c.k, .int .i64 e.c.n, .bool e.c.g, .int .i64 e.seen] 48 (0, 0))) (hbase : base ≤ w.heap.size) :
    Calls Try.prog 31 #[.slice none 0 0, .int .i64 0, .slice (some ⟨vb, 0, none⟩) 1 1] w fun r w' => ∃ v', r = .returned v' ∧ OwnE base w' v' [e] ∧ w.grownBy w' none := by
  obtain ⟨i0, hi0, hz0, hz1, hz2⟩ := info_parts' info_en
  have hvc : ∀ j u, (ec e)[j]? = some u → w.cell? ((⟨vb, 0, none⟩ : Addr).add j) = some u := fun j u hj => by
    rw [add_off, Nat.zero_add]
    have := blk_cell hv
    rw [this]
    simpa [ec] using hj
  have HV := Lib.hid hvc
  clear hvc hv
  go_enter Try.func31, Try.ntmps31
  go_wp2_with (first | (at_builtin; refine wpList_append_own _ rfl _ _ 50 rfl base 48 i0 En.zero.v 10 96 Try.underlying50 hi0 hz0 hz1 hz2 rfl (by decide) (.slice none 0 0) 0 (flat ec []) rfl (OwnR.nil _ _) ⟨vb, 0, none⟩ 1 1 (ec e) rfl rfl HV.out (ec_one e) (by unfold maxLen; omega) (by omega) hbase ?_) | go_in)
  intro v' w1 ho hg _
  have HR := Lib.hid (show OwnE base w1 v' [e] from by
    unfold OwnE OwnR
    simpa [flat] using ho)
  have HG := Lib.hid (show w.grownBy w1 none from hg)
  clear ho hg
  go_wp2
  go_ret
  exact ⟨_, rfl, HR.out, HG.out⟩

theorem insertE (base : Nat) (a : Option Addr) (n c i : Nat) (ls : List En) (e : En) (vb : Nat) (w : World) (h : OwnE base w (.slice a n c) ls) (hl : ls.length = n) (hn : n ≤ 1000) (hi : i ≤ n) (hv : w.heap[vb]? = some (.cells #[.string e.c.a, .string e.c.i, .int .i64 e.c.s, .int .i64 e.c.o, .int .i64 e.c.l, .int .i64 e.c.t, .int .i64 e.c.k, .int .i64 e.c.n, .bool e.c.g, .int .i64 e.seen] 48 (0, 0))) (hvb : ∀ g o, a = some ⟨g, o, none⟩ → vb ≠ g) (hbase : base ≤ w.heap.size) :
    Calls Try.prog 31 #[.slice a n c, .int .i64 i, .slice (some ⟨vb, 0, none⟩) 1 1] w fun r w' => ∃ v', r = .returned v' ∧ OwnE base w' v' (insAt ls i e) ∧ Below base w w' := by
  have R0 := Below.refl base w
  rcases h.2 with ⟨e0, hl0⟩ | ⟨g, cap, cur, e0, hg0, hcur, hnc, hcm, hcs, htk⟩
  · cases e0
    have h0 : ls = [] := List.eq_nil_of_length_eq_zero (by simpa using hl)
    subst h0
    obtain rfl : i = 0 := by omega
    exact (insertNil base e vb w hv hbase).mono (fun r w' ⟨v', e1, h1, h2⟩ => ⟨v', e1, h1, R0.grown h2 hbase (fun k hk => by cases hk)⟩)
  · simp only [Value.slice.injEq] at e0
    obtain ⟨rfl, -, rfl⟩ := e0
    have hg : ∀ w', w.grownBy w' (some g) → Below base w w' := fun w' h2 => R0.grown h2 hbase (fun k hk => by cases hk; exact hg0)
    rw [hl] at hnc
    by_cases hin : i = n
    · subst hin
      by_cases hc : i < c
      · exact (insertEnd1 base g i c ls e vb w h hl hn hv hbase hc).mono (fun r w' ⟨v', e1, h1, h2⟩ => ⟨v', e1, h1, hg w' h2⟩)
      · obtain rfl : c = i := by omega
        exact (insertEnd0 base g c ls e vb w h hl hn hv hbase).mono (fun r w' ⟨v', e1, h1, h2⟩ => ⟨v', e1, h1, hg w' h2⟩)
    · by_cases hc : n + 1 ≤ c
      · exact (insertShift base g n c i ls e vb w h hl hn hv (by omega) hc (hvb g 0 rfl) hbase).mono (fun r w' ⟨v', e1, h1, h2⟩ => ⟨v', e1, h1, hg w' h2⟩)
      · obtain rfl : c = n := by omega
        exact (insertGrow base g c i ls e vb w h hl hn hv (by omega) (hvb g 0 rfl) hbase).mono (fun r w' ⟨v', e1, h1, h2⟩ => ⟨v', e1, h1, hg w' (h2.but _)⟩)
set_option maxRecDepth 100000 in
set_option maxHeartbeats 1000000 in
theorem cloneE (a : Option Addr) (n c : Nat) (ls : List En) (w : World) (h : EAt w a ls) (hl : ls.length = n) (hn : n ≤ 1000) (hf : (a = none ∧ c = 0) ∨ ∃ b o, a = some ⟨b, o, none⟩) :
    Calls Try.prog 30 #[.slice a n c] w fun e w' => ∃ v', e = .returned v' ∧ OwnE w.heap.size w' v' ls ∧ Below w.heap.size w w' := by
  obtain ⟨i0, hi, hz0, hz1, hz2⟩ := info_parts' info_en
  rcases hf with ⟨rfl, rfl⟩ | ⟨b, o, rfl⟩
  · have h0 : ls = [] := by
      rcases h with h | ⟨b, o, e, _⟩
      · exact h
      · cases e
    subst h0
    have hn0 : n = 0 := by simpa using hl.symm
    subst hn0
    have hq := (fun w : World => Lib.run_eql_slice_nil (P := Try.prog) w 50 48 none 0 0 0 0 Try.underlying50)
    clear h hl
    go_enter Try.func30, Try.ntmps30
    go_wp2
    go_ret
    exact ⟨_, rfl, OwnR.nil _ _, Below.refl _ _⟩
  · have HN := Lib.hid hl
    have hq := (fun w : World => Lib.run_eql_slice_nil (P := Try.prog) w 50 48 (some ⟨b, o, none⟩) n c 0 0 Try.underlying50)
    have O0 := (OwnR.made (enc := ec) (k := 10) (T := 48) w.heap.size w (Nat.le_refl _))
    have B0 : Below w.heap.size w (w.alloc (.cells #[] 48)) := (Below.refl _ _).alloc (Nat.le_refl _) _
    have hcells := Lib.hid (show ∀ j u, (flat ec ls)[j]? = some u → (w.alloc (.cells #[] 48)).cell? ((⟨b, o, none⟩ : Addr).add j) = some u from fun j u hj => by
      rw [add_off]
      rcases h with h | ⟨b', o', e, _, h⟩
      · rw [h] at hj; simp [flat] at hj
      · simp at e
        obtain ⟨rfl, rfl⟩ := e
        exact ext_cell B0 (h j u hj))
    clear h hl
    go_enter Try.func30, Try.ntmps30
    go_wp2_with (at_builtin; refine wpList_append_own _ rfl _ _ 50 rfl (w.heap.size) 48 i0 En.zero.v 10 96 Try.underlying50 hi hz0 hz1 hz2 rfl (by decide) (.slice (some ⟨w.heap.size, 0, none⟩) 0 0) 0 (flat ec []) rfl O0 ⟨b, o, none⟩ n c (flat ec ls) rfl ?c0 ?c1 ?c2 ?c3 ?c4 ?c5 ?_)
    case c0 => rw [flat_len ec_len, HN.out]
    case c1 => exact hcells.out
    case c2 => exact flat_one ec_one ls
    case c3 => unfold maxLen; omega
    case c4 => omega
    case c5 => exact B0.size
    intro v' w1 ho hg _
    have B1 := B0.grown hg B0.size (fun q hq => own_ge O0 hq)
    have ho' := Lib.hid (show OwnE w.heap.size w1 v' ls by unfold OwnE OwnR; rw [HN.out]; simpa [flat_nil] using ho)
    clear ho hg O0 B0 hq
    go_wp2
    go_ret
    exact ⟨_, rfl, ho'.out, B1⟩
end Go.Proofs.Ytnmpjagdkbaidaa
