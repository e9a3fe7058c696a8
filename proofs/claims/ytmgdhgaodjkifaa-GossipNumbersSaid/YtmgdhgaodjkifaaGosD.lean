/- Package gossip's walks: digests; what one has and the other has not. -/
import Derived.Test.YtmgdhgaodjkifaaGosA
namespace Go.Proofs.Ytmgdhgaodjkifaa
open Go.RowKit
set_option linter.unusedVariables false
set_option linter.unusedSimpArgs false

theorem blk_fill13 {w : World} {b : Nat} {T : TypeId} {vs : Array Value} {v0 v1 v2 v3 v4 v5 v6 v7 v8 v9 v10 v11 v12 : Value} (h : w.heap[b]? = some (.cells vs T (0, 0))) (hs : vs.size = 13) : (((((((((((((w.setCell ⟨b, 0, none⟩ v0).setCell ⟨b, 1, none⟩ v1).setCell ⟨b, 2, none⟩ v2).setCell ⟨b, 3, none⟩ v3).setCell ⟨b, 4, none⟩ v4).setCell ⟨b, 5, none⟩ v5).setCell ⟨b, 6, none⟩ v6).setCell ⟨b, 7, none⟩ v7).setCell ⟨b, 8, none⟩ v8).setCell ⟨b, 9, none⟩ v9).setCell ⟨b, 10, none⟩ v10).setCell ⟨b, 11, none⟩ v11).setCell ⟨b, 12, none⟩ v12).heap[b]? = some (.cells #[v0, v1, v2, v3, v4, v5, v6, v7, v8, v9, v10, v11, v12] T (0, 0)) := by
  obtain ⟨l⟩ := vs
  match l, hs with
  | [x0, x1, x2, x3, x4, x5, x6, x7, x8, x9, x10, x11, x12], _ =>
    have h0 := blk_set (n := 0) (u := v0) (vs' := #[v0, x1, x2, x3, x4, x5, x6, x7, x8, x9, x10, x11, x12]) h (by simp)
    have h1 := blk_set (n := 1) (u := v1) (vs' := #[v0, v1, x2, x3, x4, x5, x6, x7, x8, x9, x10, x11, x12]) h0 (by simp)
    have h2 := blk_set (n := 2) (u := v2) (vs' := #[v0, v1, v2, x3, x4, x5, x6, x7, x8, x9, x10, x11, x12]) h1 (by simp)
    have h3 := blk_set (n := 3) (u := v3) (vs' := #[v0, v1, v2, v3, x4, x5, x6, x7, x8, x9, x10, x11, x12]) h2 (by simp)
    have h4 := blk_set (n := 4) (u := v4) (vs' := #[v0, v1, v2, v3, v4, x5, x6, x7, x8, x9, x10, x11, x12]) h3 (by simp)
    have h5 := blk_set (n := 5) (u := v5) (vs' := #[v0, v1, v2, v3, v4, v5, x6, x7, x8, x9, x10, x11, x12]) h4 (by simp)
    have h6 := blk_set (n := 6) (u := v6) (vs' := #[v0, v1, v2, v3, v4, v5, v6, x7, x8, x9, x10, x11, x12]) h5 (by simp)
    have h7 := blk_set (n := 7) (u := v7) (vs' := #[v0, v1, v2, v3, v4, v5, v6, v7, x8, x9, x10, x11, x12]) h6 (by simp)
    have h8 := blk_set (n := 8) (u := v8) (vs' := #[v0, v1, v2, v3, v4, v5, v6, v7, v8, x9, x10, x11, x12]) h7 (by simp)
    have h9 := blk_set (n := 9) (u := v9) (vs' := #[v0, v1, v2, v3, v4, v5, v6, v7, v8, v9, x10, x11, x12]) h8 (by simp)
    have h10 := blk_set (n := 10) (u := v10) (vs' := #[v0, v1, v2, v3, v4, v5, v6, v7, v8, v9, v10, x11, x12]) h9 (by simp)
    have h11 := blk_set (n := 11) (u := v11) (vs' := #[v0, v1, v2, v3, v4, v5, v6, v7, v8, v9, v10, v11, x12]) h10 (by simp)
    have h12 := blk_set (n := 12) (u := v12) (vs' := #[v0, v1, v2, v3, v4, v5, v6, v7, v8, v9, v10, v11, v12]) h11 (by simp)
    exact h12
theorem blk_over13 {w : World} {b c : Nat} {o : Obj} {v0 v1 v2 v3 v4 v5 v6 v7 v8 v9 v10 v11 v12 : Value} (hn : c ≠ b) (h : w.heap[c]? = some o) : (((((((((((((w.setCell ⟨b, 0, none⟩ v0).setCell ⟨b, 1, none⟩ v1).setCell ⟨b, 2, none⟩ v2).setCell ⟨b, 3, none⟩ v3).setCell ⟨b, 4, none⟩ v4).setCell ⟨b, 5, none⟩ v5).setCell ⟨b, 6, none⟩ v6).setCell ⟨b, 7, none⟩ v7).setCell ⟨b, 8, none⟩ v8).setCell ⟨b, 9, none⟩ v9).setCell ⟨b, 10, none⟩ v10).setCell ⟨b, 11, none⟩ v11).setCell ⟨b, 12, none⟩ v12).heap[c]? = some o := by
  exact (blk_set_other hn (blk_set_other hn (blk_set_other hn (blk_set_other hn (blk_set_other hn (blk_set_other hn (blk_set_other hn (blk_set_other hn (blk_set_other hn (blk_set_other hn (blk_set_other hn (blk_set_other hn (blk_set_other hn h)))))))))))))
theorem below_fill13 {m : Nat} {u w : World} {b : Nat} {v0 v1 v2 v3 v4 v5 v6 v7 v8 v9 v10 v11 v12 : Value} (h : Below m u w) (hb : m ≤ b) : Below m u (((((((((((((w.setCell ⟨b, 0, none⟩ v0).setCell ⟨b, 1, none⟩ v1).setCell ⟨b, 2, none⟩ v2).setCell ⟨b, 3, none⟩ v3).setCell ⟨b, 4, none⟩ v4).setCell ⟨b, 5, none⟩ v5).setCell ⟨b, 6, none⟩ v6).setCell ⟨b, 7, none⟩ v7).setCell ⟨b, 8, none⟩ v8).setCell ⟨b, 9, none⟩ v9).setCell ⟨b, 10, none⟩ v10).setCell ⟨b, 11, none⟩ v11).setCell ⟨b, 12, none⟩ v12) := (((((((((((((h.setCell hb _).setCell hb _).setCell hb _).setCell hb _).setCell hb _).setCell hb _).setCell hb _).setCell hb _).setCell hb _).setCell hb _).setCell hb _).setCell hb _).setCell hb _)


/-- what a digest is -/
def DgP (n : Nat) (ls : List Cd) (w : World) (e : Ending) (w' : World) : Prop := ∃ (a' : Option Addr) (K : Nat), K = min n 64 ∧ e = .returned (.agg #[.int .i64 4, .int .i64 0, .int .i64 0, .int .i64 0, .int .i64 0, .int .i64 0, .int .i64 0, .string ⟨#[]⟩, .string ⟨#[]⟩, .bool false, .int .u32 0, .slice a' K K, .slice none 0 0]) ∧ CAt w' a' ((srt klt ls).take K) ∧ ((a' = none ∧ n = 0) ∨ ∃ b o, a' = some ⟨b, o, none⟩) ∧ Below w.heap.size w w'
set_option maxRecDepth 100000 in
set_option maxHeartbeats 2000000 in
theorem gDigest (a : Option Addr) (n c : Nat) (ls : List Cd) (w : World) (h : CAt w a ls) (hl : ls.length = n) (hn : n ≤ 1000) (hf : (a = none ∧ c = 0) ∨ ∃ b o, a = some ⟨b, o, none⟩) :
    Calls Try.prog 13 #[.slice a n c] w (DgP n ls w) := by
  have D0 : Below w.heap.size w (w.alloc (.cells #[.int .i64 0, .int .i64 0, .int .i64 0, .int .i64 0, .int .i64 0, .int .i64 0, .int .i64 0, .string ⟨#[]⟩, .string ⟨#[]⟩, .bool false, .int .u32 0, .slice none 0 0, .slice none 0 0] 43)) := (Below.refl _ _).alloc (Nat.le_refl _) _
  have HX := Lib.hid (blk_new w #[.int .i64 0, .int .i64 0, .int .i64 0, .int .i64 0, .int .i64 0, .int .i64 0, .int .i64 0, .string ⟨#[]⟩, .string ⟨#[]⟩, .bool false, .int .u32 0, .slice none 0 0, .slice none 0 0] 43)
  have HA := Lib.hid (h.ext D0)
  have HN := Lib.hid hl
  have HB0 := Lib.hid D0
  have HF := Lib.hid hf
  clear h hl hf D0
  go_enter Try.func13, Try.ntmps13
  go_wp2_with fail
  obtain ⟨r, hr⟩ : ∃ r, w.heap.size = r := ⟨_, rfl⟩
  rw [hr] at HX ⊢
  have HRr := Lib.hid (show w.heap.size ≤ r by omega)
  clear hr
  generalize (w.alloc (.cells #[.int .i64 0, .int .i64 0, .int .i64 0, .int .i64 0, .int .i64 0, .int .i64 0, .int .i64 0, .string ⟨#[]⟩, .string ⟨#[]⟩, .bool false, .int .u32 0, .slice none 0 0, .slice none 0 0] 43)) = w0 at *
  refine (cardSortAny a n c ls _ HA.out HN.out hn HF.out).mono ?_
  rintro e w1 ⟨v1, rfl, ho1, hb1⟩
  obtain ⟨sa, sc, rfl, hsc, hsm, hsat, -, hsf⟩ := ho1.read
  rw [srt_len, HN.out] at hsc ⊢
  have HX1 := Lib.hid (blk_ext hb1 HX.out)
  have HB1 := Lib.hid (ext_trans HB0.out hb1)
  have HSA := Lib.hid hsat
  have hk1 := blk_cell HX1.out
  have hf1 := blk_free HX1.out
  have hl1 := blk_lt HX1.out
  unfold maxLen at hsm
  clear ho1 hb1 hsat HX
  rcases hsf with ⟨rfl, rfl, e0⟩ | ⟨g, rfl⟩
  · have hn0 : n = 0 := by have := congrArg List.length e0; rw [srt_len, HN.out] at this; simpa using this
    subst hn0
    clear e0
    have hmn : min (0 : Int) 64 = 0 := by decide
    go_wp2_with fail
    exact bodyPost_ret (v := .agg #[.int .i64 4, .int .i64 0, .int .i64 0, .int .i64 0, .int .i64 0, .int .i64 0, .int .i64 0, .string ⟨#[]⟩, .string ⟨#[]⟩, .bool false, .int .u32 0, .slice none 0 0, .slice none 0 0]) (by have hk2 := blk_cell (blk_fill13 (v0 := .int .i64 4) (v1 := .int .i64 0) (v2 := .int .i64 0) (v3 := .int .i64 0) (v4 := .int .i64 0) (v5 := .int .i64 0) (v6 := .int .i64 0) (v7 := .string ⟨#[]⟩) (v8 := .string ⟨#[]⟩) (v9 := .bool false) (v10 := .int .u32 0) (v11 := .slice none 0 0) (v12 := .slice none 0 0) HX1.out rfl); simp [results, Try.results13, go_sem, hk2]) rfl ⟨none, 0, by decide, rfl, .inl rfl, .inl ⟨rfl, rfl⟩, below_fill13 HB1.out HRr.out⟩
  · obtain ⟨K, hK⟩ : ∃ K : Nat, min n 64 = K := ⟨_, rfl⟩
    have hmn : min (n : Int) 64 = (K : Int) := by omega
    have hKn : K ≤ n := by omega
    have hKc : K ≤ sc := by omega
    have HK := Lib.hid hK
    clear hK
    go_wp2_with fail
    exact bodyPost_ret (v := .agg #[.int .i64 4, .int .i64 0, .int .i64 0, .int .i64 0, .int .i64 0, .int .i64 0, .int .i64 0, .string ⟨#[]⟩, .string ⟨#[]⟩, .bool false, .int .u32 0, .slice (some ⟨g, 0, none⟩) K K, .slice none 0 0]) (by have hk2 := blk_cell (blk_fill13 (v0 := .int .i64 4) (v1 := .int .i64 0) (v2 := .int .i64 0) (v3 := .int .i64 0) (v4 := .int .i64 0) (v5 := .int .i64 0) (v6 := .int .i64 0) (v7 := .string ⟨#[]⟩) (v8 := .string ⟨#[]⟩) (v9 := .bool false) (v10 := .int .u32 0) (v11 := .slice (some ⟨g, 0, none⟩) K K) (v12 := .slice none 0 0) HX1.out rfl); simp [results, Try.results13, go_sem, hk2]) rfl ⟨some ⟨g, 0, none⟩, K, HK.out.symm, rfl, (CAt.take K HSA.out).keep (fun b cur hc he => by
      obtain ⟨o, e⟩ := he
      simp only [Option.some.injEq, Addr.mk.injEq] at e
      obtain ⟨rfl, -⟩ := e
      have hne : g ≠ r := fun e' => by
        subst e'
        rw [HX1.out] at hc
        simp only [Option.some.injEq, Obj.cells.injEq] at hc
        exact absurd hc.2.1 (by decide)
      exact (blk_over13 hne hc).trans hc.symm), .inr ⟨g, 0, rfl⟩, below_fill13 HB1.out HRr.out⟩

end Go.Proofs.Ytmgdhgaodjkifaa
