/- The document's own gossip: a digest. -/
import Derived.Test.YtmgdhgaodjkifaaGosD
import Derived.Test.YtmgdhgaodjkifaaSortR
namespace Go.Proofs.Ytmgdhgaodjkifaa
open Go.RowKit
set_option linter.unusedVariables false
set_option linter.unusedSimpArgs false

/-- what a digest is -/
def DgR (n : Nat) (ls : List Cd) (w : World) (e : Ending) (w' : World) : Prop := ∃ (a' : Option Addr) (K c' : Nat), K = min n 64 ∧ K ≤ c' ∧ c' ≤ maxLen ∧ e = .returned (.agg #[.int .i64 4, .int .i64 0, .int .i64 0, .int .i64 0, .int .i64 0, .int .i64 0, .int .i64 0, .string ⟨#[]⟩, .string ⟨#[]⟩, .bool false, .int .u32 0, .slice a' K c', .slice none 0 0]) ∧ CAt w' a' ((srt klt ls).take K) ∧ ((a' = none ∧ n = 0) ∨ ∃ b o, a' = some ⟨b, o, none⟩) ∧ Below w.heap.size w w'
set_option maxRecDepth 100000 in
set_option maxHeartbeats 2000000 in
theorem refDigest (a : Option Addr) (n c : Nat) (ls : List Cd) (w : World) (h : CAt w a ls) (hl : ls.length = n) (hn : n ≤ 1000) (hnc : n ≤ c) :
    Calls Try.prog 20 #[.slice a n c] w (DgR n ls w) := by
  have D0 : Below w.heap.size w (w.alloc (.cells #[.int .i64 0, .int .i64 0, .int .i64 0, .int .i64 0, .int .i64 0, .int .i64 0, .int .i64 0, .string ⟨#[]⟩, .string ⟨#[]⟩, .bool false, .int .u32 0, .slice none 0 0, .slice none 0 0] 43)) := (Below.refl _ _).alloc (Nat.le_refl _) _
  have HX := Lib.hid (blk_new w #[.int .i64 0, .int .i64 0, .int .i64 0, .int .i64 0, .int .i64 0, .int .i64 0, .int .i64 0, .string ⟨#[]⟩, .string ⟨#[]⟩, .bool false, .int .u32 0, .slice none 0 0, .slice none 0 0] 43)
  have HA := Lib.hid (h.ext D0)
  have HN := Lib.hid hl
  have HB0 := Lib.hid D0
  clear h hl D0
  go_enter Try.func20, Try.ntmps20
  go_wp2_with fail
  obtain ⟨r, hr⟩ : ∃ r, w.heap.size = r := ⟨_, rfl⟩
  rw [hr] at HX ⊢
  have HRr := Lib.hid (show w.heap.size ≤ r by omega)
  clear hr
  generalize (w.alloc (.cells #[.int .i64 0, .int .i64 0, .int .i64 0, .int .i64 0, .int .i64 0, .int .i64 0, .int .i64 0, .string ⟨#[]⟩, .string ⟨#[]⟩, .bool false, .int .u32 0, .slice none 0 0, .slice none 0 0] 43)) = w0 at *
  refine (refSort a n c ls _ HA.out HN.out hn hnc).mono ?_
  rintro e w1 ⟨v1, rfl, ho1, hb1⟩
  obtain ⟨sa, sc, rfl, hsc, hsm, hsat, -, hsf⟩ := ho1.read
  rw [srt_len, HN.out] at hsc ⊢
  have HX1 := Lib.hid (blk_ext hb1 HX.out)
  have HB1 := Lib.hid (ext_trans HB0.out hb1)
  have HSA := Lib.hid hsat
  have hk1 := blk_cell HX1.out
  have hf1 := blk_free HX1.out
  have hl1 := blk_lt HX1.out
  unfold maxLen at hsm
  clear ho1 hb1 hsat HX
  rcases hsf with ⟨rfl, rfl, e0⟩ | ⟨g, rfl⟩
  · have hn0 : n = 0 := by have := congrArg List.length e0; rw [srt_len, HN.out] at this; simpa using this
    subst hn0
    clear e0
    have hmn : min (0 : Int) 64 = 0 := by decide
    go_wp2_with fail
    exact bodyPost_ret (v := .agg #[.int .i64 4, .int .i64 0, .int .i64 0, .int .i64 0, .int .i64 0, .int .i64 0, .int .i64 0, .string ⟨#[]⟩, .string ⟨#[]⟩, .bool false, .int .u32 0, .slice none 0 0, .slice none 0 0]) (by have hk2 := blk_cell (blk_fill13 (v0 := .int .i64 4) (v1 := .int .i64 0) (v2 := .int .i64 0) (v3 := .int .i64 0) (v4 := .int .i64 0) (v5 := .int .i64 0) (v6 := .int .i64 0) (v7 := .string ⟨#[]⟩) (v8 := .string ⟨#[]⟩) (v9 := .bool false) (v10 := .int .u32 0) (v11 := .slice none 0 0) (v12 := .slice none 0 0) HX1.out rfl); simp [results, Try.results20, go_sem, hk2]) rfl ⟨none, 0, 0, by decide, Nat.le_refl _, Nat.zero_le _, rfl, .inl rfl, .inl ⟨rfl, rfl⟩, below_fill13 HB1.out HRr.out⟩
  · obtain ⟨K, hK⟩ : ∃ K : Nat, min n 64 = K := ⟨_, rfl⟩
    have hmn : min (n : Int) 64 = (K : Int) := by omega
    have hKn : K ≤ n := by omega
    have hKc : K ≤ sc := by omega
    have HK := Lib.hid hK
    clear hK
    go_wp2_with fail
    exact bodyPost_ret (v := .agg #[.int .i64 4, .int .i64 0, .int .i64 0, .int .i64 0, .int .i64 0, .int .i64 0, .int .i64 0, .string ⟨#[]⟩, .string ⟨#[]⟩, .bool false, .int .u32 0, .slice (some ⟨g, 0, none⟩) K sc, .slice none 0 0]) (by have hk2 := blk_cell (blk_fill13 (v0 := .int .i64 4) (v1 := .int .i64 0) (v2 := .int .i64 0) (v3 := .int .i64 0) (v4 := .int .i64 0) (v5 := .int .i64 0) (v6 := .int .i64 0) (v7 := .string ⟨#[]⟩) (v8 := .string ⟨#[]⟩) (v9 := .bool false) (v10 := .int .u32 0) (v11 := .slice (some ⟨g, 0, none⟩) K sc) (v12 := .slice none 0 0) HX1.out rfl); simp [results, Try.results20, go_sem, hk2]) rfl ⟨some ⟨g, 0, none⟩, K, sc, HK.out.symm, hKc, (by unfold maxLen; omega), rfl, (CAt.take K HSA.out).keep (fun b cur hc he => by
      obtain ⟨o, e⟩ := he
      simp only [Option.some.injEq, Addr.mk.injEq] at e
      obtain ⟨rfl, -⟩ := e
      have hne : g ≠ r := fun e' => by
        subst e'
        rw [HX1.out] at hc
        simp only [Option.some.injEq, Obj.cells.injEq] at hc
        exact absurd hc.2.1 (by decide)
      exact (blk_over13 hne hc).trans hc.symm), .inr ⟨g, 0, rfl⟩, below_fill13 HB1.out HRr.out⟩

end Go.Proofs.Ytmgdhgaodjkifaa
