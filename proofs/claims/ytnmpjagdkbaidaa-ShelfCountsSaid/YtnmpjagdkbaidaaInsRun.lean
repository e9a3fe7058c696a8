/- Rows of structs: copy, append of zeros, as runs. No word of the program. -/
import Derived.Test.YtnmpjagdkbaidaaRowAt
import Derived.Laws.CopyRow
import Derived.Lib.AppendZeros
namespace Go.Proofs.Ytnmpjagdkbaidaa
open Go.RowKit
set_option linter.unusedVariables false
set_option linter.unusedSimpArgs false

theorem run_copyK {P : Program} (w : World) (dT sT ty elem : TypeId) (g o dLen dCap : Nat) (a : Addr) (sLen sCap : Nat) (cur : Array Value) (t : TypeId) (cs : List Value) (k : Nat)
    (hu : P.underlying dT = some (.slice elem)) (hs : (P.info? elem).map (·.size) = some k)
    (hg : w.heap[g]? = some (.cells cur t (0, 0))) (hn : cs.length = Nat.min sLen dLen * k)
    (hsrc : ∀ j v, cs[j]? = some v → w.cell? (a.add j) = some v) (hfit : o + cs.length ≤ cur.size) (h1 : ∀ v ∈ cs, v.oneCell' = true) :
    (Builtin.copy_ #[dT, sT] ty #[.slice (some ⟨g, o, none⟩) dLen dCap, .slice (some a) sLen sCap]).run P w =
      .ok (goInt (Nat.min sLen dLen)) (w.setRow g (cur.toList.take o ++ cs ++ cur.toList.drop (o + cs.length)).toArray) := by
  have hl := run_loadCells_list (P := P) w a cs hsrc
  have hst := run_storeCells_at P g o t cs 0 cur w hg (by simpa using hfit) h1
  cases hq : P.info? elem with
  | none => simp [hq] at hs
  | some i =>
    have hi : i.size = k := by simpa [hq] using hs
    simp [Builtin.copy_, run_underlying hu, Builtin.lenOf, Builtin.firstCells, sizeOf, typeInfo, hq, hi, ← hn, hl, hst]

theorem run_append_zeros_grow {P : Program} (w : World) (t tn ty e : TypeId) (i : TypeInfo) (z : Value) (kn : IntKind) (ht : P.underlying t = some (.slice e)) (htn : P.underlying tn = some (.int kn)) (hi : P.info? e = some i) (hz : i.zero = some z)
    (b : Addr) (sLen sCap : Nat) (olds : List Value) (hlo : olds.length = sLen * i.size) (holds : ∀ j v, olds[j]? = some v → w.cell? (b.add j) = some v)
    (n : Nat) (h0 : 0 < n) (hs : 0 < i.size) (hg : sCap < sLen + n) (h63 : ((sLen + n : Nat) : Int) ≤ 9223372036854775807) (h48 : n * i.bytes ≤ 281474976710656) (hfit : Builtin.nextslicecap (sLen + n) sCap * i.bytes ≤ 281474976710656) :
    (Builtin.append_ #[t, tn] ty #[.slice (some b) sLen sCap, .int .i64 n]).run P w =
      .ok (.slice (some ⟨w.heap.size, 0, none⟩) (sLen + n) (grownCap w (sLen + n) sCap e))
        (w.drew.alloc (.cells (olds.toArray ++ Builtin.zeroCells z.cells n ++ Builtin.zeroCells z.cells (grownCap w (sLen + n) sCap e - (sLen + n))) e)) := by
  have hn : ¬ (sLen + n ≤ sCap) := by omega
  have h63' : ¬ (9223372036854775807 < ((sLen : Int) + (n : Int))) := by omega
  have h48' : ¬ (281474976710656 < Builtin.nextslicecap (sLen + n) sCap * i.bytes) := by omega
  have hw : IntKind.i64.wrap (n : Int) = n := by rw [IntKind.wrap_i64]; omega
  have h48i : ¬ (281474976710656 < (n : Int) * (i.bytes : Int)) := by
    rw [← Int.natCast_mul]
    omega
  have hneg : ¬ ((n : Int) < 0) := by omega
  have hn0 : n ≠ 0 := by omega
  have hns : ¬ (n * i.size = 0) := Nat.mul_ne_zero hn0 (by omega)
  have hfo := run_firstCells_some (P := P) w.drew i.size sLen b sLen sCap olds hlo (by simpa using holds)
  simp [Builtin.append_, run_underlying ht, run_underlying htn, sizeOf, typeInfo, zeroValue, hi, hz, asInt, asIntOf, hw, hn, hn0, hneg, hns, h63', h48', h48i, Question.forced, hfo, newRow, grownCap]

/-- cells laid over a row -/
def lay (cur : List Value) (o : Nat) (cs : List Value) : List Value := cur.take o ++ cs ++ cur.drop (o + cs.length)
theorem lay_len (cur : List Value) (o : Nat) (cs : List Value) (h : o + cs.length ≤ cur.length) : (lay cur o cs).length = cur.length := by simp [lay]; omega
theorem lay_app (A M D cs : List Value) (h : cs.length = M.length) : lay (A ++ M ++ D) A.length cs = A ++ cs ++ D := by
  unfold lay
  rw [h, ← List.length_append, List.drop_left, List.append_assoc A M D, List.take_left]
/-- room made in place -/
theorem lay_shift (A B E D : List Value) (M : List Value) (k : Nat) (hE : E.length = k) (hk : M.length = B.length + k) : lay (lay (A ++ M ++ D) (A.length + k) B) A.length E = A ++ E ++ B ++ D := by
  have e1 : M = M.take k ++ M.drop k := (List.take_append_drop k M).symm
  have l1 : (M.take k).length = k := by simp; omega
  have l2 : (M.drop k).length = B.length := by simp; omega
  have s1 : lay (A ++ M ++ D) (A.length + k) B = A ++ M.take k ++ B ++ D := by
    have := lay_app (A ++ M.take k) (M.drop k) D B l2.symm
    rw [List.length_append, l1, List.append_assoc A, List.take_append_drop] at this
    exact this
  rw [s1]
  have := lay_app A (M.take k) (B ++ D) E (by rw [hE, l1])
  rw [← List.append_assoc, ← List.append_assoc] at this
  exact this
/-- laid into new room -/
theorem lay_new (A Z B E D : List Value) (k : Nat) (hE : E.length = k) (hz : Z.length = B.length + k) : lay (lay (A ++ Z ++ D) A.length E) (A.length + k) B = A ++ E ++ B ++ D := by
  have l1 : (Z.take k).length = k := by simp; omega
  have l2 : (Z.drop k).length = B.length := by simp; omega
  have s1 : lay (A ++ Z ++ D) A.length E = A ++ E ++ Z.drop k ++ D := by
    have := lay_app A (Z.take k) (Z.drop k ++ D) E (by rw [hE, l1])
    rw [← List.append_assoc, ← List.append_assoc, List.append_assoc A, List.take_append_drop] at this
    exact this
  rw [s1]
  have := lay_app (A ++ E) (Z.drop k) D B l2.symm
  rw [List.length_append, hE] at this
  exact this
end Go.Proofs.Ytnmpjagdkbaidaa
