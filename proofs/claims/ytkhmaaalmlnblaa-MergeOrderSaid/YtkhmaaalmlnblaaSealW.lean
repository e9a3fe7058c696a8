/- Package seal's walks. -/
import Derived.Test.YtkhmaaalmlnblaaBe
import Derived.Test.YtkhmaaalmlnblaaPackW
import Derived.Test.YtkhmaaalmlnblaaSum
namespace Go.Proofs.Ytkhmaaalmlnblaa
open Go.RowKit
set_option linter.unusedVariables false
set_option linter.unusedSimpArgs false

/-- what a card shows -/
def shw (c : Cd) : Int := if c.g then 0 else if c.o = 0 then c.s else c.o
/-- its bytes -/
def cardB (c : Cd) : List Int := txt c.a ++ txt c.i ++ [shw c % 256] ++ be c.l
/-- a card whose texts are short -/
def CdS (c : Cd) : Prop := c.a.size ≤ 1000 ∧ c.i.size ≤ 1000
theorem CdOk.s {c : Cd} (h : CdOk c) : CdS c := ⟨by have := h.1; omega, by have := h.2.1; omega⟩
theorem cardB_len (c : Cd) : (cardB c).length ≤ 521 := by
  have h1 := txt_len c.a
  have h2 := txt_len c.i
  have h3 := cut255_len c.a
  have h4 := cut255_len c.i
  simp only [cardB, List.length_append, be_len, List.length_cons, List.length_nil]
  omega
theorem cardB_wb (c : Cd) : Wb (cardB c) := (((txt_wb _).app (txt_wb _)).app (Wb.one (Int.emod_nonneg _ (by omega)) (Int.emod_lt_of_pos _ (by omega)))).app (be_wb _)
def seenL (ls : List Cd) : List Cd := srt klt (ls.filter (fun c => !c.g))
def sealB (ls : List Cd) : List Int := (seenL ls).flatMap cardB
theorem flatB_len (ls : List Cd) : (ls.flatMap cardB).length ≤ 521 * ls.length := by
  induction ls with
  | nil => simp
  | cons x xs ih => rw [List.flatMap_cons, List.length_append, List.length_cons]; have := cardB_len x; omega
theorem flatB_wb (ls : List Cd) : Wb (ls.flatMap cardB) := by
  induction ls with
  | nil => exact Wb.nil
  | cons x xs ih => rw [List.flatMap_cons]; exact (cardB_wb x).app ih
theorem seenL_len (ls : List Cd) : (seenL ls).length ≤ ls.length := by unfold seenL; rw [srt_len]; exact List.length_filter_le _ _
theorem seenL_mem {ls : List Cd} {c : Cd} (h : c ∈ seenL ls) : c ∈ ls ∧ c.g = false := by
  have := (srt_mem klt c _).1 h
  simpa using this

set_option maxRecDepth 100000 in
set_option maxHeartbeats 1000000 in
theorem refShows (c : Cd) (w : World) :
    Calls Try.prog 49 #[.agg #[.string c.a, .string c.i, .int .i64 c.s, .int .i64 c.o, .int .i64 c.l, .int .i64 c.t, .int .i64 c.k, .int .i64 c.n, .bool c.g]] w fun e w' => e = .returned (.int .i64 (shw c)) ∧ Below w.heap.size w w' := by
  have D : Below w.heap.size w (w.alloc (.cells #[.string c.a, .string c.i, .int .i64 c.s, .int .i64 c.o, .int .i64 c.l, .int .i64 c.t, .int .i64 c.k, .int .i64 c.n, .bool c.g] 33)) := (Below.refl _ _).alloc (Nat.le_refl _) _
  obtain ⟨a, i, s, o, l, t, k, n, g⟩ := c
  simp only at D ⊢
  cases g
  · by_cases h : o = 0
    · have e : shw ⟨a, i, s, o, l, t, k, n, false⟩ = s := by simp [shw, h]
      rw [e]
      subst h
      clear e
      go_enter Try.func49, Try.ntmps49
      go_wp2
      go_ret
      exact ⟨rfl, D⟩
    · have e : shw ⟨a, i, s, o, l, t, k, n, false⟩ = o := by simp [shw, h]
      rw [e]
      have hd : (o == 0) = false := by simp [h]
      clear e h
      go_enter Try.func49, Try.ntmps49
      go_wp2
      go_ret
      exact ⟨rfl, D⟩
  · have e : shw ⟨a, i, s, o, l, t, k, n, true⟩ = 0 := by simp [shw]
    rw [e]
    clear e
    go_enter Try.func49, Try.ntmps49
    go_wp2
    go_ret
    exact ⟨rfl, D⟩

end Go.Proofs.Ytkhmaaalmlnblaa
