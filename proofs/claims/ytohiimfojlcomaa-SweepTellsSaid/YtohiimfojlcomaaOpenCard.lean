/- What comes in, opened: keys, stamps, cards. -/
import Derived.Test.YtohiimfojlcomaaRows
import Derived.Test.YtohiimfojlcomaaOpen
import Derived.Test.YtohiimfojlcomaaCards
import Derived.ProofKit
import Derived.OpenShut
import Derived.ShutString
import Derived.ChangeOld
import Derived.Below
import Derived.Lib.SmallJoins
import Derived.ChangeArms
namespace Go.Proofs.Ytohiimfojlcomaa
open Go.ChangeShapes Go.WideShapes Go.ChangeAt Go.RowKit
set_option linter.unusedVariables false

theorem open_key_cells {H : Type} {enc : TypeId × Value → H} {w : World} {base fuel : Nat} {spare : Nat → Bool} {held : Bool} {cs : List Value} {x : DataW H × List MemPlace} (h : DataW.trod enc Try.prog w base spare held fuel 30 cs = some x) :
    ∃ (a : ByteArray) (i : ByteArray), cs = [.string a, .string i] ∧ a.size ≤ maxLen ∧ i.size ≤ maxLen := by
  obtain ⟨xs, m, -, -, hl, hx, hf⟩ := DataW.trod_struct Try.underlying30 h
  rw [show Try.prog.cellsOf 30 = 2 from by kernel_rfl] at hl
  match cs, hl with
  | [c0, c1], _ =>
  match xs, hx with
  | [x0, x1], _ =>
  have h0 := (hf 0 _ rfl).trans (show [x0, x1][0]? = some x0 from rfl)
  have h1 := (hf 1 _ rfl).trans (show [x0, x1][1]? = some x1 from rfl)
  have k0 : Try.prog.cellsOf 9 = 1 := by kernel_rfl
  obtain ⟨a, e0, _, w_a⟩ := DataW.trod_string Try.underlying9 h0
  simp [k0] at e0
  subst e0
  have k1 : Try.prog.cellsOf 9 = 1 := by kernel_rfl
  obtain ⟨i, e1, _, w_i⟩ := DataW.trod_string Try.underlying9 h1
  simp [k1] at e1
  subst e1
  exact ⟨a, i, rfl, w_a, w_i⟩

theorem open_stamp_cells {H : Type} {enc : TypeId × Value → H} {w : World} {base fuel : Nat} {spare : Nat → Bool} {held : Bool} {cs : List Value} {x : DataW H × List MemPlace} (h : DataW.trod enc Try.prog w base spare held fuel 32 cs = some x) :
    ∃ (t : Int) (k : Int) (n : Int), cs = [.int .i64 t, .int .i64 k, .int .i64 n] ∧ (Lit.int .i64 t).wf = true ∧ (Lit.int .i64 k).wf = true ∧ (Lit.int .i64 n).wf = true := by
  obtain ⟨xs, m, -, -, hl, hx, hf⟩ := DataW.trod_struct Try.underlying32 h
  rw [show Try.prog.cellsOf 32 = 3 from by kernel_rfl] at hl
  match cs, hl with
  | [c0, c1, c2], _ =>
  match xs, hx with
  | [x0, x1, x2], _ =>
  have h0 := (hf 0 _ rfl).trans (show [x0, x1, x2][0]? = some x0 from rfl)
  have h1 := (hf 1 _ rfl).trans (show [x0, x1, x2][1]? = some x1 from rfl)
  have h2 := (hf 2 _ rfl).trans (show [x0, x1, x2][2]? = some x2 from rfl)
  have k0 : Try.prog.cellsOf 2 = 1 := by kernel_rfl
  obtain ⟨t, e0, _, w_t⟩ := DataW.trod_int (k := .i64) Try.underlying2 h0
  simp [k0] at e0
  subst e0
  have k1 : Try.prog.cellsOf 3 = 1 := by kernel_rfl
  obtain ⟨k, e1, _, w_k⟩ := DataW.trod_int (k := .i64) Try.underlying3 h1
  simp [k1] at e1
  subst e1
  have k2 : Try.prog.cellsOf 2 = 1 := by kernel_rfl
  obtain ⟨n, e2, _, w_n⟩ := DataW.trod_int (k := .i64) Try.underlying2 h2
  simp [k2] at e2
  subst e2
  exact ⟨t, k, n, rfl, w_t, w_k, w_n⟩

theorem open_card_cells {H : Type} {enc : TypeId × Value → H} {w : World} {base fuel : Nat} {spare : Nat → Bool} {held : Bool} {cs : List Value} {x : DataW H × List MemPlace} (h : DataW.trod enc Try.prog w base spare held fuel 34 cs = some x) :
    ∃ (a : ByteArray) (i : ByteArray) (s : Int) (o : Int) (l : Int) (t : Int) (k : Int) (n : Int) (g : Bool), cs = [.string a, .string i, .int .i64 s, .int .i64 o, .int .i64 l, .int .i64 t, .int .i64 k, .int .i64 n, .bool g] ∧ a.size ≤ maxLen ∧ i.size ≤ maxLen ∧ (Lit.int .i64 s).wf = true ∧ (Lit.int .i64 o).wf = true ∧ (Lit.int .i64 l).wf = true ∧ (Lit.int .i64 t).wf = true ∧ (Lit.int .i64 k).wf = true ∧ (Lit.int .i64 n).wf = true ∧ True := by
  obtain ⟨xs, m, -, -, hl, hx, hf⟩ := DataW.trod_struct Try.underlying34 h
  rw [show Try.prog.cellsOf 34 = 9 from by kernel_rfl] at hl
  match cs, hl with
  | [c0, c1, c2, c3, c4, c5, c6, c7, c8], _ =>
  match xs, hx with
  | [x0, x1, x2, x3, x4, x5], _ =>
  have h0 := (hf 0 _ rfl).trans (show [x0, x1, x2, x3, x4, x5][0]? = some x0 from rfl)
  have h1 := (hf 1 _ rfl).trans (show [x0, x1, x2, x3, x4, x5][1]? = some x1 from rfl)
  have h2 := (hf 2 _ rfl).trans (show [x0, x1, x2, x3, x4, x5][2]? = some x2 from rfl)
  have h3 := (hf 3 _ rfl).trans (show [x0, x1, x2, x3, x4, x5][3]? = some x3 from rfl)
  have h4 := (hf 4 _ rfl).trans (show [x0, x1, x2, x3, x4, x5][4]? = some x4 from rfl)
  have h5 := (hf 5 _ rfl).trans (show [x0, x1, x2, x3, x4, x5][5]? = some x5 from rfl)
  have k0 : Try.prog.cellsOf 30 = 2 := by kernel_rfl
  obtain ⟨a, i, e0, w_a, w_i⟩ := open_key_cells h0
  simp [k0] at e0
  obtain ⟨rfl, rfl⟩ := e0
  have k1 : Try.prog.cellsOf 3 = 1 := by kernel_rfl
  obtain ⟨s, e1, _, w_s⟩ := DataW.trod_int (k := .i64) Try.underlying3 h1
  simp [k1] at e1
  subst e1
  have k2 : Try.prog.cellsOf 3 = 1 := by kernel_rfl
  obtain ⟨o, e2, _, w_o⟩ := DataW.trod_int (k := .i64) Try.underlying3 h2
  simp [k2] at e2
  subst e2
  have k3 : Try.prog.cellsOf 2 = 1 := by kernel_rfl
  obtain ⟨l, e3, _, w_l⟩ := DataW.trod_int (k := .i64) Try.underlying2 h3
  simp [k3] at e3
  subst e3
  have k4 : Try.prog.cellsOf 32 = 3 := by kernel_rfl
  obtain ⟨t, k, n, e4, w_t, w_k, w_n⟩ := open_stamp_cells h4
  simp [k4] at e4
  obtain ⟨rfl, rfl, rfl⟩ := e4
  have k5 : Try.prog.cellsOf 4 = 1 := by kernel_rfl
  obtain ⟨g, e5, _⟩ := DataW.trod_bool Try.underlying4 h5
  have w_g := trivial
  simp [k5] at e5
  subst e5
  exact ⟨a, i, s, o, l, t, k, n, g, rfl, w_a, w_i, w_s, w_o, w_l, w_t, w_k, w_n, w_g⟩

theorem open_stamp {H : Type} {enc : TypeId × Value → H} {w : World} {r : Reach} {b0 base : Nat} {spare : Nat → Bool} {held : Bool} {v : Value} {d : DataW H} {p : List MemPlace}
    (hv : Value.okWide Try.prog w r b0 32 v) (h : DataW.Trod enc Try.prog w base spare held 32 v d p) :
    ∃ (t : Int) (k : Int) (n : Int), v = stv t k n ∧ (Lit.int .i64 t).wf = true ∧ (Lit.int .i64 k).wf = true ∧ (Lit.int .i64 n).wf = true := by
  obtain ⟨cs, rfl, hsz⟩ := okWide_struct Try.underlying32 hv
  obtain ⟨fuel, hf⟩ := h
  obtain ⟨t, k, n, e, hw⟩ := open_stamp_cells hf
  obtain ⟨lst⟩ := cs
  obtain rfl : lst = [.int .i64 t, .int .i64 k, .int .i64 n] := e
  exact ⟨t, k, n, rfl, hw⟩

theorem open_card {H : Type} {enc : TypeId × Value → H} {w : World} {r : Reach} {b0 base : Nat} {spare : Nat → Bool} {held : Bool} {v : Value} {d : DataW H} {p : List MemPlace}
    (hv : Value.okWide Try.prog w r b0 34 v) (h : DataW.Trod enc Try.prog w base spare held 34 v d p) :
    ∃ (a : ByteArray) (i : ByteArray) (s : Int) (o : Int) (l : Int) (t : Int) (k : Int) (n : Int) (g : Bool), v = Cd.v ⟨a, i, s, o, l, t, k, n, g⟩ ∧ a.size ≤ maxLen ∧ i.size ≤ maxLen ∧ (Lit.int .i64 s).wf = true ∧ (Lit.int .i64 o).wf = true ∧ (Lit.int .i64 l).wf = true ∧ (Lit.int .i64 t).wf = true ∧ (Lit.int .i64 k).wf = true ∧ (Lit.int .i64 n).wf = true ∧ True := by
  obtain ⟨cs, rfl, hsz⟩ := okWide_struct Try.underlying34 hv
  obtain ⟨fuel, hf⟩ := h
  obtain ⟨a, i, s, o, l, t, k, n, g, e, hw⟩ := open_card_cells hf
  obtain ⟨lst⟩ := cs
  obtain rfl : lst = [.string a, .string i, .int .i64 s, .int .i64 o, .int .i64 l, .int .i64 t, .int .i64 k, .int .i64 n, .bool g] := e
  exact ⟨a, i, s, o, l, t, k, n, g, rfl, hw⟩

end Go.Proofs.Ytohiimfojlcomaa
