/- Cards by key: the document's own order and sort. -/
import Derived.Test.YtibgphjadiidaaaBs
import Derived.Test.YtibgphjadiidaaaBd
import Derived.Test.YtibgphjadiidaaaBa
namespace Go.Proofs.Ytibgphjadiidaaa
open Go.RowKit
set_option linter.unusedVariables false
set_option linter.unusedSimpArgs false

theorem bytesLess_cmp : ∀ a b : List UInt8, Op.bytesLess a b = decide (Lib.compareBytes a b < 0)
  | [], [] => rfl
  | [], _ :: _ => rfl
  | _ :: _, [] => rfl
  | a :: p, b :: q => by
    unfold Op.bytesLess Lib.compareBytes
    by_cases h1 : a < b
    · simp [h1]
    · by_cases h2 : b < a
      · have h3 : ¬ a = b := fun e => by subst e; exact h1 h2
        simp [h1, h2, h3]
      · have h3 : a = b := UInt8.le_antisymm (UInt8.not_lt.1 h2) (UInt8.not_lt.1 h1)
        subst h3
        simp [h1, bytesLess_cmp p q]
theorem bl_kc (a b : ByteArray) : Op.bytesLess a.toList b.toList = decide (Lib.compareBytes a.data.toList b.data.toList < 0) := by
  rw [ByteArray.toList_eq, ByteArray.toList_eq]; exact bytesLess_cmp _ _
theorem own_empty {w : World} {b base : Nat} (h : w.heap[b]? = some (.cells #[] 83 (0, 0))) (hb : base ≤ b) : w.ownsRow base 83 9 (.slice (some ⟨b, 0, none⟩) 0 0) 0 (flat cc []) :=
  ⟨rfl, .inr ⟨b, 0, #[], rfl, hb, h, Nat.le_refl _, by simp [maxLen], rfl, rfl⟩⟩
theorem wp_append_nil9 {o : Oper} {a : Act} {w : World} {K : Act → World → Prop} {Q : Exit → Act → World → Prop} (s x : Operand) (ho : o.op = .call { callee := .builtin .append, args := #[s, x], argTypes := #[34, 34] }) (ad : Option Addr) (n c : Nat) (hs : a.eval s = .slice ad n c) (hx : a.eval x = .slice none 0 0) (hn : n ≤ c) (h : K (a.put o.dst (.slice ad n c)) w) : o.wp Try.prog a w K Q := by
  unfold Oper.wp execOp
  simp only [ho, resolve, invoke, builtin, Sem.run_bind, Sem.run_pure, Result.andThen_ok, List.map_toArray, List.map_cons, List.map_nil, hs, hx, run_append_nil w o.type ad n c hn]
  exact h
theorem blk_ne9 {w : World} {b b1 : Nat} {x : Cd} (h : w.heap[b]? = some (.cells #[.string x.a, .string x.i, .int .i64 x.s, .int .i64 x.o, .int .i64 x.l, .int .i64 x.t, .int .i64 x.k, .int .i64 x.n, .bool x.g] 83 (0, 0))) (h1 : w.heap[b1]? = some (.cells #[] 83 (0, 0))) : b ≠ b1 := by
  rintro rfl
  rw [h] at h1
  simp at h1

end Go.Proofs.Ytibgphjadiidaaa
