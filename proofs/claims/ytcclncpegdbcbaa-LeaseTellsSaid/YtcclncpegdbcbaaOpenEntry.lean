/- What comes in, opened: entries. -/
import Derived.Test.YtcclncpegdbcbaaRows
import Derived.Test.YtcclncpegdbcbaaOpen
import Derived.Test.YtcclncpegdbcbaaOpenCard
import Derived.ProofKit
import Derived.OpenShut
import Derived.ShutString
import Derived.ChangeOld
import Derived.Below
import Derived.Lib.SmallJoins
import Derived.ChangeArms
namespace Go.Proofs.Ytcclncpegdbcbaa
open Go.ChangeShapes Go.WideShapes Go.ChangeAt Go.RowKit
set_option linter.unusedVariables false

theorem open_entry_cells {H : Type} {enc : TypeId × Value → H} {w : World} {base fuel : Nat} {spare : Nat → Bool} {held : Bool} {cs : List Value} {x : DataW H × List MemPlace} (h : DataW.trod enc Try.prog w base spare held fuel 30 cs = some x) :
    ∃ (a : ByteArray) (i : ByteArray) (s : Int) (o : Int) (l : Int) (t : Int) (k : Int) (n : Int) (g : Bool) (seen : Int), cs = [.string a, .string i, .int .i64 s, .int .i64 o, .int .i64 l, .int .i64 t, .int .i64 k, .int .i64 n, .bool g, .int .i64 seen] ∧ a.size ≤ maxLen ∧ i.size ≤ maxLen ∧ (Lit.int .i64 s).wf = true ∧ (Lit.int .i64 o).wf = true ∧ (Lit.int .i64 l).wf = true ∧ (Lit.int .i64 t).wf = true ∧ (Lit.int .i64 k).wf = true ∧ (Lit.int .i64 n).wf = true ∧ True ∧ (Lit.int .i64 seen).wf = true := by
  obtain ⟨xs, m, -, -, hl, hx, hf⟩ := DataW.trod_struct Try.underlying30 h
  rw [show Try.prog.cellsOf 30 = 10 from by kernel_rfl] at hl
  match cs, hl with
  | [c0, c1, c2, c3, c4, c5, c6, c7, c8, c9], _ =>
  match xs, hx with
  | [x0, x1], _ =>
  have h0 := (hf 0 _ rfl).trans (show [x0, x1][0]? = some x0 from rfl)
  have h1 := (hf 1 _ rfl).trans (show [x0, x1][1]? = some x1 from rfl)
  have k0 : Try.prog.cellsOf 28 = 9 := by kernel_rfl
  obtain ⟨a, i, s, o, l, t, k, n, g, e0, w_a, w_i, w_s, w_o, w_l, w_t, w_k, w_n, w_g⟩ := open_card_cells h0
  simp [k0] at e0
  obtain ⟨rfl, rfl, rfl, rfl, rfl, rfl, rfl, rfl, rfl⟩ := e0
  have k1 : Try.prog.cellsOf 2 = 1 := by kernel_rfl
  obtain ⟨seen, e1, _, w_seen⟩ := DataW.trod_int (k := .i64) Try.underlying2 h1
  simp [k1] at e1
  subst e1
  exact ⟨a, i, s, o, l, t, k, n, g, seen, rfl, w_a, w_i, w_s, w_o, w_l, w_t, w_k, w_n, w_g, w_seen⟩

theorem open_entry {H : Type} {enc : TypeId × Value → H} {w : World} {r : Reach} {b0 base : Nat} {spare : Nat → Bool} {held : Bool} {v : Value} {d : DataW H} {p : List MemPlace}
    (hv : Value.okWide Try.prog w r b0 30 v) (h : DataW.Trod enc Try.prog w base spare held 30 v d p) :
    ∃ (a : ByteArray) (i : ByteArray) (s : Int) (o : Int) (l : Int) (t : Int) (k : Int) (n : Int) (g : Bool) (seen : Int), v = En.v ⟨⟨a, i, s, o, l, t, k, n, g⟩, seen⟩ ∧ a.size ≤ maxLen ∧ i.size ≤ maxLen ∧ (Lit.int .i64 s).wf = true ∧ (Lit.int .i64 o).wf = true ∧ (Lit.int .i64 l).wf = true ∧ (Lit.int .i64 t).wf = true ∧ (Lit.int .i64 k).wf = true ∧ (Lit.int .i64 n).wf = true ∧ True ∧ (Lit.int .i64 seen).wf = true := by
  obtain ⟨cs, rfl, hsz⟩ := okWide_struct Try.underlying30 hv
  obtain ⟨fuel, hf⟩ := h
  obtain ⟨a, i, s, o, l, t, k, n, g, seen, e, hw⟩ := open_entry_cells hf
  obtain ⟨lst⟩ := cs
  obtain rfl : lst = [.string a, .string i, .int .i64 s, .int .i64 o, .int .i64 l, .int .i64 t, .int .i64 k, .int .i64 n, .bool g, .int .i64 seen] := e
  exact ⟨a, i, s, o, l, t, k, n, g, seen, rfl, hw⟩

end Go.Proofs.Ytcclncpegdbcbaa
