/- errors.As, errors.Is, errors.Unwrap over faults that lie in one another: their contracts. -/
import Derived.Test.YtcgembfdejjliaaGreatDoorFauA
import Derived.LoopTactic
namespace Go.Proofs.YtcgembfdejjliaaGreatDoor
open Go.RowKit Go.Extern.Stop Go.Stop Go.Extern
set_option linter.unusedVariables false
set_option linter.unusedSimpArgs false

/-- faults of these ops, the outermost first, around an error -/
def FC (w : World) (base : Value) : List ByteArray → Value → Prop
  | [], e => e = base
  | op :: ops, e => ∃ p e', e = .iface 68 (.pointer (some ⟨p, 0, none⟩)) ∧ w.heap[p]? = some (.cells #[.string op, e'] 71 (0, 0)) ∧ FC w base ops e'
theorem FC.ext {w w' : World} {base : Value} (hb : Below w.heap.size w w') : ∀ {ops : List ByteArray} {e : Value}, FC w base ops e → FC w' base ops e
  | [], _, h => h
  | _ :: _, _, ⟨p, e', h1, h2, h3⟩ => ⟨p, e', h1, blk_ext hb h2, FC.ext hb h3⟩
/-- what an error is around that is no fault: nothing, an Errno, an error of errors.New -/
inductive Bs (w : World) : Value → Prop
  | nil : Bs w .nilIface
  | no (c : Int) : Bs w (.iface 39 (.int .i64 c))
  | str (s : Nat) (x : ByteArray) : w.heap[s]? = some (.cells #[.string x] 175 (0, 0)) → Bs w (.iface 173 (.pointer (some ⟨s, 0, none⟩)))
theorem Bs.ext {w w' : World} {e : Value} (h : Bs w e) (hb : Below w.heap.size w w') : Bs w' e := by
  cases h with
  | nil => exact .nil
  | no c => exact .no c
  | str s x h => exact .str s x (blk_ext hb h)
theorem Bs.no_fault {w : World} {e : Value} (h : Bs w e) (v : Value) : e ≠ .iface 68 v := by
  cases h with
  | nil => intro h; cases h
  | no c => intro h; injection h with h1; exact absurd h1 (by decide)
  | str s x h => intro h; injection h with h1; exact absurd h1 (by decide)
theorem FC.uniq {w : World} {base : Value} (hB : Bs w base) : ∀ {a b : List ByteArray} {e : Value}, FC w base a e → FC w base b e → a = b
  | [], [], _, _, _ => rfl
  | [], _ :: _, e, h, ⟨p, e', h1, _⟩ => absurd ((show e = base from h).symm.trans h1) (hB.no_fault _)
  | _ :: _, [], e, ⟨p, e', h1, _⟩, h => absurd ((show e = base from h).symm.trans h1) (hB.no_fault _)
  | x :: a, y :: b, e, ⟨p, e', h1, h2, h3⟩, ⟨q, f', k1, k2, k3⟩ => by
    have hpq : p = q := by rw [h1] at k1; simpa using k1
    subst hpq
    rw [h2] at k2
    have h4 : x = y ∧ e' = f' := by simpa using k2
    obtain ⟨rfl, rfl⟩ := h4
    rw [FC.uniq hB h3 k3]
open Classical in
/-- how many faults lie in one another -/
noncomputable def fl (w : World) (base e : Value) : Nat := if h : ∃ ops, FC w base ops e then (Classical.choose h).length else 0
theorem FC.len {w : World} {base : Value} (hB : Bs w base) {ops : List ByteArray} {e : Value} (h : FC w base ops e) : fl w base e = ops.length := by
  have hx : ∃ ops, FC w base ops e := ⟨ops, h⟩
  unfold fl
  rw [dif_pos hx, FC.uniq hB (Classical.choose_spec hx) h]
/-- the Errno that is found; none -/
def eno : Value → Option Int
  | .iface 39 (.int .i64 c) => some c
  | _ => none
theorem FC.not_nil {w : World} {base : Value} {op : ByteArray} {ops : List ByteArray} {e : Value} (h : FC w base (op :: ops) e) : e ≠ .nilIface := by
  obtain ⟨p, e', rfl, -⟩ := h
  simp

set_option maxHeartbeats 1000000 in
theorem faultUnwrap (p : Nat) (op : ByteArray) (e : Value) (w : World) (h : w.heap[p]? = some (.cells #[.string op, e] 71 (0, 0))) :
    Calls Tryz.prog 125 #[.pointer (some ⟨p, 0, none⟩)] w fun r w' => r = .returned e ∧ w' = w := by
  have hc := blk_cell h
  have hl := blk_lt h
  go_enter Tryz.func125, Tryz.ntmps125
  go_wp2
  go_ret
  exact ⟨rfl, rfl⟩
theorem run_fault_nil (v : Value) (w : World) : (binOp .eql 42 (.iface 68 v) .nilIface).run Tryz.prog w = .ok (.bool false) w := by kernel_rfl
theorem run_fault_isnil (v : Value) (w : World) : (binOp .eql 42 (.iface 39 v) .nilIface).run Tryz.prog w = .ok (.bool false) w := by kernel_rfl
theorem run_fault_snil (v : Value) (w : World) : (binOp .eql 42 (.iface 173 v) .nilIface).run Tryz.prog w = .ok (.bool false) w := by kernel_rfl
theorem run_nil_nil (w : World) : (binOp .eql 42 .nilIface .nilIface).run Tryz.prog w = .ok (.bool true) w := by kernel_rfl

/-- errors.Unwrap -/
theorem errUnwrap_fault (p : Nat) (op : ByteArray) (e : Value) (w : World) (h : w.heap[p]? = some (.cells #[.string op, e] 71 (0, 0))) :
    Calls Tryz.prog 47 #[.iface 68 (.pointer (some ⟨p, 0, none⟩))] w fun r w' => r = .returned e ∧ w' = w := by
  have hU := hasUF
  have mU := mUnw
  go_enter Tryz.func47, Tryz.ntmps47
  go_wp2_with (first | (refine (faultUnwrap p op e _ h).mono ?_; rintro r w' ⟨rfl, rfl⟩))
  go_ret
  exact ⟨rfl, rfl⟩
theorem errUnwrap_base {e : Value} (w : World) (h : Bs w e) :
    Calls Tryz.prog 47 #[e] w fun r w' => r = .returned .nilIface ∧ w' = w := by
  have hE := noUE
  have hS := noUS
  have h0 := noU0
  cases h <;>
  · go_enter Tryz.func47, Tryz.ntmps47
    go_wp2
    go_ret
    exact ⟨rfl, rfl⟩
end Go.Proofs.YtcgembfdejjliaaGreatDoor
