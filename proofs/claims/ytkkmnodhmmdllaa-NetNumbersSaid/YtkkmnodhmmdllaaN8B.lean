/- The document's own net: letters in and out. -/
import Derived.Test.YtkkmnodhmmdllaaN8A
import Derived.Test.YtkkmnodhmmdllaaFill
namespace Go.Proofs.Ytkkmnodhmmdllaa
open Go.RowKit
set_option linter.unusedVariables false
set_option linter.unusedSimpArgs false

/-- a letter of the document's: from, to, its bytes -/
structure ML where
  f : Int
  t : Int
  xs : List Int
def rlc (x : ML) : List Value := [.int .i64 x.f, .int .i64 x.t, .string (strOfNums x.xs)]
theorem rlc_len (x : ML) : (rlc x).length = 3 := rfl
theorem rlc_one (x : ML) : ∀ u ∈ rlc x, u.oneCell' = true := by
  intro u hu
  simp [rlc] at hu
  rcases hu with rfl | rfl | rfl <;> rfl
theorem info_rl : (Try.prog.info? 50).map (fun i => (i.zero, i.size, i.bytes)) = some (some (.agg #[.int .i64 0, .int .i64 0, .string ⟨#[]⟩]), 3, 32) := by kernel_rfl
abbrev OwnRL (base : Nat) (w : World) (v : Value) (ls : List ML) : Prop := OwnR rlc 3 50 base w v ls
theorem info_parts2 {t : TypeId} {z : Value} {s b : Nat} (h : (Try.prog.info? t).map (fun i => (i.zero, i.size, i.bytes)) = some (some z, s, b)) : ∃ i, Try.prog.info? t = some i ∧ i.zero = some z ∧ i.size = s ∧ i.bytes = b := by
  cases hi : Try.prog.info? t with
  | none => rw [hi] at h; cases h
  | some i => rw [hi] at h; simp at h; exact ⟨i, rfl, h.1, h.2.1, h.2.2⟩
theorem own_empty3 {w : World} {b base : Nat} (h : w.heap[b]? = some (.cells #[] 50 (0, 0))) (hb : base ≤ b) : w.ownsRow base 50 3 (.slice (some ⟨b, 0, none⟩) 0 0) 0 (flat rlc []) :=
  ⟨rfl, .inr ⟨b, 0, #[], rfl, hb, h, Nat.le_refl _, by simp [maxLen], rfl, rfl⟩⟩
theorem blk_ne3 {w : World} {b b1 : Nat} {x : ML} (h : w.heap[b]? = some (.cells #[.int .i64 x.f, .int .i64 x.t, .string (strOfNums x.xs)] 50 (0, 0))) (h1 : w.heap[b1]? = some (.cells #[] 50 (0, 0))) : b ≠ b1 := by
  rintro rfl
  rw [h] at h1
  simp at h1
theorem run_append_nilL (w : World) (ty : TypeId) (a : Option Addr) (n c : Nat) (h : n ≤ c) : (Builtin.append_ #[44, 44] ty #[.slice a n c, .slice none 0 0]).run Try.prog w = .ok (.slice a n c) w := by
  obtain ⟨i, hi, hz0, hz1, hz2⟩ := info_parts2 info_rl
  rcases a with _ | a <;> simp [Builtin.append_, run_underlying Try.underlying44, sizeOf, typeInfo, hi, Builtin.lenOf, Builtin.firstCells, h, storeCells, go_sem]
/-- the document's net, of these letters -/
def RN (w : World) (rb nodes : Nat) (bl : List ML) (p : List Bool) : Prop := nodes ≤ 6 ∧ p.length = 36 ∧ bl.length ≤ 64 ∧ ∃ (a : Option Addr) (c : Nat), RNB w rb nodes (.slice a bl.length c) p ∧ bl.length ≤ c ∧ c ≤ maxLen ∧ SAt rlc 3 50 w a bl ∧ ((a = none ∧ c = 0) ∨ ∃ b o, a = some ⟨b, o, none⟩)
theorem RN.ext {w w' : World} {rb nodes : Nat} {bl : List ML} {p : List Bool} (h : RN w rb nodes bl p) (hb : Below w.heap.size w w') : RN w' rb nodes bl p := by
  obtain ⟨h1, h2, h3, a, c, h4, h5, h6, h7, h8⟩ := h
  exact ⟨h1, h2, h3, a, c, h4.ext hb, h5, h6, h7.ext hb, h8⟩
theorem RN.lt {w : World} {rb nodes : Nat} {bl : List ML} {p : List Bool} (h : RN w rb nodes bl p) : rb < w.heap.size := by
  obtain ⟨h1, h2, h3, a, c, h4, h5⟩ := h
  exact h4.lt
/-- as RN, the row in new memory -/
def RNs (base : Nat) (w : World) (rb nodes : Nat) (bl : List ML) (p : List Bool) : Prop := nodes ≤ 6 ∧ p.length = 36 ∧ bl.length ≤ 64 ∧ ∃ (a : Option Addr) (c : Nat), RNB w rb nodes (.slice a bl.length c) p ∧ bl.length ≤ c ∧ c ≤ maxLen ∧ SAt rlc 3 50 w a bl ∧ ((a = none ∧ c = 0) ∨ ∃ b o, a = some ⟨b, o, none⟩) ∧ (∀ b o, a = some ⟨b, o, none⟩ → base ≤ b)
theorem RNs.set {w : World} {rb nodes base : Nat} {bl : List ML} {p : List Bool} {v v0 : Value} (hs : RNB w rb nodes v0 p) (h1 : nodes ≤ 6) (h2 : p.length = 36) (h3 : bl.length ≤ 64) (ho : OwnRL base w v bl) : RNs base (w.setCell ⟨rb, 1, none⟩ v) rb nodes bl p := by
  obtain ⟨a2, c2, rfl, g1, g2, g3, g5, g4⟩ := OwnR.read rlc_len ho
  refine ⟨h1, h2, h3, a2, c2, RNB.row hs _ rfl, g1, g2, ?_, ?_, fun b o e => (g5 b o e).1⟩
  · have hk := (Kept.refl rb w).setCell 1 (.slice a2 bl.length c2)
    exact g3.keep fun b cur hc _ => hk.block b (fun e => by subst e; have h9 := (RNB.blk hs).symm.trans hc; simp at h9)
  · rcases g4 with ⟨e1, e2, -⟩ | ⟨g, e⟩
    · exact .inl ⟨e1, e2⟩
    · exact .inr ⟨g, 0, e⟩
theorem RNs.of {w : World} {rb nodes base : Nat} {bl : List ML} {p : List Bool} (h : RNs base w rb nodes bl p) : RN w rb nodes bl p := by
  obtain ⟨h1, h2, h3, a, c, h4, h5, h6, h7, h8, -⟩ := h
  exact ⟨h1, h2, h3, a, c, h4, h5, h6, h7, h8⟩
/-- an elder letter is written -/
theorem RNs.rim {w w' : World} {rb nodes base r : Nat} {bl : List ML} {p : List Bool} {cs : Array Value} (h : RNs base w rb nodes bl p) (hr : Rim r w w') (h0 : w.heap[r]? = some (.cells cs 50 (0, 0))) (hb : r < base) : RN w' rb nodes bl p := by
  obtain ⟨h1, h2, h3, a, c, h4, h5, h6, h7, h8, h9⟩ := h
  have hne : rb ≠ r := by
    rintro rfl
    have := (RNB.blk h4).symm.trans h0
    simp at this
  refine ⟨h1, h2, h3, a, c, (hr.block rb hne h4.lt).trans h4, h5, h6, h7.keep fun b cur hc ho => ?_, h8⟩
  obtain ⟨o, e⟩ := ho
  have := h9 b o e
  exact hr.block b (by omega) (blk_lt hc)
theorem RNs.rimS {w w' : World} {rb nodes base r : Nat} {bl : List ML} {p : List Bool} {cs : Array Value} (h : RNs base w rb nodes bl p) (hr : Rim r w w') (h0 : w.heap[r]? = some (.cells cs 50 (0, 0))) (hb : r < base) : RNs base w' rb nodes bl p := by
  obtain ⟨h1, h2, h3, a, c, h4, h5, h6, h7, h8, h9⟩ := h
  have hne : rb ≠ r := by
    rintro rfl
    have := (RNB.blk h4).symm.trans h0
    simp at this
  refine ⟨h1, h2, h3, a, c, (hr.block rb hne h4.lt).trans h4, h5, h6, h7.keep fun b cur hc ho => ?_, h8, h9⟩
  obtain ⟨o, e⟩ := ho
  have := h9 b o e
  exact hr.block b (by omega) (blk_lt hc)
theorem RNs.base {w : World} {rb nodes base base' : Nat} {bl : List ML} {p : List Bool} (h : RNs base w rb nodes bl p) (hb : base' ≤ base) : RNs base' w rb nodes bl p := by
  obtain ⟨h1, h2, h3, a, c, h4, h5, h6, h7, h8, h9⟩ := h
  exact ⟨h1, h2, h3, a, c, h4, h5, h6, h7, h8, fun b o e => Nat.le_trans hb (h9 b o e)⟩
theorem rim_set {w w' : World} {b o : Nat} {v : Value} (h : Rim b w w') : Rim b w (w'.setCell ⟨b, o, none⟩ v) := h.trans (Rim.kept ((Kept.refl b w').setCell o v))
theorem rim_set3 {w w' : World} {b : Nat} {v0 v1 v2 : Value} (h : Rim b w w') : Rim b w (((w'.setCell ⟨b, 0, none⟩ v0).setCell ⟨b, 1, none⟩ v1).setCell ⟨b, 2, none⟩ v2) := rim_set (rim_set (rim_set h))
theorem rim_newL {w w1 w2 : World} {ab p : Nat} {c0 : Array Value} {T : TypeId} (h : Rim ab w w1) (hp : w.heap.size ≤ p) (h0 : w1.heap[p]? = some (.cells c0 T (0, 0))) (h2 : Rim p w1 w2) : Rim ab w w2 :=
  ⟨h2.os.trans h.os, h2.tape.trans h.tape, h2.output.trans h.output, Nat.le_trans h.size h2.size, fun i hi hl => (h2.block i (by omega) (Nat.lt_of_lt_of_le hl h.size)).trans (h.block i hi hl)⟩
end Go.Proofs.Ytkkmnodhmmdllaa
