/- A desk: Handle of any ask that is right; what becomes of the register. -/
import Derived.Test.YtcjpemphdgndkaaGreatDkRfY
import Derived.Test.YtcjpemphdgndkaaGreatDkHfY
namespace Go.Proofs.YtcjpemphdgndkaaGreat
open Go.RowKit
set_option linter.unusedVariables false
set_option linter.unusedSimpArgs false

theorem mem_put {es : List En} {e x : En} (hs : Asc es) : x ∈ putE es e ↔ x = e ∨ (x ∈ es ∧ enK x ≠ enK e) := by
  unfold putE
  by_cases hi : isIn (enK e) es = true
  · rw [if_pos hi]; exact mem_set hs hi
  · rw [if_neg hi]; exact mem_ins hs (by simpa using hi) _
theorem asc_putE {es : List En} {e : En} (hs : Asc es) : Asc (putE es e) := by
  unfold putE
  by_cases hi : isIn (enK e) es = true
  · rw [if_pos hi]; exact asc_put hs hi
  · rw [if_neg hi]; exact asc_ins hs (by simpa using hi)
theorem put_in {es : List En} {e : En} (hs : Asc es) : isIn (enK e) (putE es e) = true ∧ ge (putE es e) (enK e) = e := by
  have h1 := isIn_of (asc_putE (e := e) hs) ((mem_put hs).2 (.inl rfl))
  refine ⟨h1.1, ?_⟩
  unfold ge
  rw [if_pos h1.1, h1.2]
  rfl
theorem ge_mem {es : List En} {k : Ky} (hi : isIn k es = true) : ge es k ∈ es := List.mem_of_getElem? (ge_yes hi).1
/-- the entry of a change at a desk -/
def Neu (nd t0 k0 n0 : Int) (es : List En) (k : Ky) (now : Int) (e : En) : Prop := enK e = k ∧ (e.c.t, e.c.k, e.c.n) = nxt t0 k0 n0 es k nd now
def HQ (db : Nat) (nd t0 k0 n0 : Int) (es : List En) (g l tt : Int) (ks : List Ky) (k : Ky) (now : Int) (a : Value) (c : Int) (W : World) : Prop :=
  (∃ (e : En) (b : Nat), Neu nd t0 k0 n0 es k now e ∧ c = 0 ∧ a = .slice (some ⟨b, 0, none⟩) 1 1 ∧ W.heap[b]? = some (.cells #[.string e.c.a, .string e.c.i, .int .i64 e.c.s, .int .i64 e.c.o, .int .i64 e.c.l, .int .i64 e.c.t, .int .i64 e.c.k, .int .i64 e.c.n, .bool e.c.g] 37 (0, 0)) ∧ DkP W db nd e.c.t e.c.k e.c.n (putE es e) g l tt (ks ++ [k])) ∨
  (∃ (fs : List En) (tt' : Int), a = .slice none 0 0 ∧ DkP W db nd t0 k0 n0 fs g l tt' ks ∧ 0 ≤ tt' ∧ tt' ≤ 1048576 ∧ (fs = es ∨ (isIn k es = true ∧ (ge es k).c.g = false ∧ fs = putE es (renE (ge es k) now))))
theorem HQ.msg {db b0 : Nat} {nd t0 k0 n0 : Int} {es : List En} {g l tt : Int} {ks : List Ky} {k : Ky} {now : Int} {a : Value} {c : Int} {u v : World} {cs0 : Array Value} (h : HQ db nd t0 k0 n0 es g l tt ks k now a c u) (hne : b0 ≠ db) (h0 : u.heap[b0]? = some (.cells cs0 33 (0, 0))) (hr : Rim b0 u v) : HQ db nd t0 k0 n0 es g l tt ks k now a c v := by
  rcases h with ⟨e, b, h1, h2, h3, h4, h5⟩ | ⟨fs, tt', h1, h2, h3⟩
  · refine .inl ⟨e, b, h1, h2, h3, (hr.block b ?_ (blk_lt h4)).trans h4, h5.msg hr hne h0⟩
    rintro rfl
    rw [h4] at h0
    simp at h0
  · exact .inr ⟨fs, tt', h1, h2.msg hr hne h0, h3⟩
end Go.Proofs.YtcjpemphdgndkaaGreat
