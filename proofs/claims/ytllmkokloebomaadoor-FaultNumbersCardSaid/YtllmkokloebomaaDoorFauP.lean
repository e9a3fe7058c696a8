/- FaultTells. -/
import Derived.Test.YtllmkokloebomaaDoorFauO
import Derived.Test.YtllmkokloebomaaDoorMask
namespace Go.Proofs.YtllmkokloebomaaDoor
open Go.RowKit Go.Extern.Stop Go.Stop Go.Extern
set_option linter.unusedVariables false
set_option linter.unusedSimpArgs false

theorem dg_len (k : Nat) : ∀ (m : Nat) (acc : List Int), m < 10 ^ k → (dg m acc).length ≤ acc.length + k := by
  induction k with
  | zero => intro m acc h; have : m = 0 := by simpa using h
            subst this; rw [dg_zero]; omega
  | succ k ih =>
    intro m acc h
    by_cases h0 : m = 0
    · subst h0; rw [dg_zero]; omega
    · rw [dg_step m acc h0]
      have := ih (m / 10) (((48 + m % 10 : Nat) : Int) :: acc) (by rw [Nat.pow_succ] at h; omega)
      simp only [List.length_cons] at this
      omega
theorem str_size (xs : List Int) : (strOfNums xs).size = xs.length := by
  unfold strOfNums
  show (Array.size _) = _
  simp
theorem errT_size (c : Int) (h : (Lit.int .i64 c).wf = true) : (errT c).size ≤ 40 := by
  have := bounds_i64 h
  unfold errT
  split
  · decide
  · split
    · decide
    · split
      · decide
      · rw [ByteArray.size_append, str_size]
        have h8 : (⟨#[114, 101, 102, 117, 115, 97, 108, 32]⟩ : ByteArray).size = 8 := rfl
        rw [h8]
        have h1 : (dgs c.toNat).length ≤ 20 := by
          unfold dgs
          split
          · simp
          · have h2 := dg_len 20 c.toNat [] (by omega)
            rw [List.length_nil] at h2
            omega
        omega
theorem fT_size (t : ByteArray) : ∀ ls : List ByteArray, (fT ls t).size = (ls.map ByteArray.size).sum + 2 * ls.length + t.size
  | [] => by simp [fT]
  | x :: ls => by
    have h2 : (⟨#[58, 32]⟩ : ByteArray).size = 2 := rfl
    simp only [fT, ByteArray.size_append, fT_size t ls, h2, List.map_cons, List.sum_cons, List.length_cons]
    omega
theorem sum_take (ls : List Nat) (n : Nat) : (ls.take n).sum ≤ ls.sum := by
  have h : ls.sum = (ls.take n).sum + (ls.drop n).sum := by rw [← List.sum_append, List.take_append_drop]
  omega
theorem wf_of (z : Int) (h : -9223372036854775808 ≤ z ∧ z ≤ 9223372036854775807) : (Lit.int .i64 z).wf = true := by
  simp only [Lit.wf, IntKind.min, IntKind.max, IntKind.signed, IntKind.bits, Bool.and_eq_true, decide_eq_true_eq, if_true]; omega
theorem wr_in (z : Int) : -9223372036854775808 ≤ IntKind.i64.wrap z ∧ IntKind.i64.wrap z ≤ 9223372036854775807 := by
  rw [IntKind.wrap_i64]; omega
theorem or_wf (n m : Int) : (Lit.int .i64 (bits .or .i64 n m)).wf = true := wf_of _ (wr_in _)

set_option maxRecDepth 100000 in
set_option maxHeartbeats 4000000 in
theorem tells_small (a : Option Addr) (n c : Nat) (ls : List ByteArray) (cd : Int) (w : World) (hG : EG w) (hx : TxAt w (.slice a n c) ls) (hn9 : n ≤ 12) (hc : (Lit.int .i64 cd).wf = true) (hs : (ls.map ByteArray.size).sum ≤ 1100000) :
    Calls Tryd.prog 4 #[.slice a n c, .int .i64 cd] w fun r w' => r = .returned (.bool true) ∧ Below w.heap.size w w' := by
  obtain ⟨hl, hnc, -⟩ := hx.at
  have hcb := bounds_i64 hc
  obtain ⟨X, hX⟩ : ∃ X, bits .or .i64 cd 1 = X := ⟨_, rfl⟩
  obtain ⟨Y, hY⟩ : ∃ Y, bits .and .i64 cd 31 = Y := ⟨_, rfl⟩
  have HXW := Lib.hid (show (Lit.int .i64 X).wf = true from by rw [← hX]; exact or_wf _ _)
  have HYW := Lib.hid (show (Lit.int .i64 Y).wf = true from by rw [← hY, and_31]; exact wf_of _ (by omega))
  have HSZ := Lib.hid (show ∀ z, (Lit.int .i64 z).wf = true → (fT ls (errT z)).size ≤ 8000000 from fun z hz => by
    rw [fT_size]
    have := errT_size z hz
    omega)
  have HG := Lib.hid hG
  have HX := Lib.hid hx
  clear hG hx hs hl
  go_enter Tryd.func4, Tryd.ntmps4
  go_wp2_with fail
  refine (lawSame a n c ls Y w HG.out HX.out HYW.out (by omega) (HSZ.out Y HYW.out)).mono ?_
  rintro r w1 ⟨rfl, hb1⟩
  go_wp2_with fail
  refine (lawSame a n c ls X w1 (HG.out.ext hb1) (HX.out.ext hb1) HXW.out (by omega) (HSZ.out X HXW.out)).mono ?_
  rintro r w2 ⟨rfl, hb2⟩
  go_wp2_with fail
  refine (known1 w2 (HG.out.ext (ext_trans hb1 hb2))).mono ?_
  rintro r w3 ⟨rfl, hb3⟩
  go_wp2
  go_ret
  exact ⟨rfl, ext_trans (ext_trans hb1 hb2) hb3⟩

set_option maxRecDepth 100000 in
set_option maxHeartbeats 4000000 in
theorem tells_cut (a : Option Addr) (m c : Nat) (ls : List ByteArray) (cd : Int) (w : World) (hG : EG w) (hx : TxAt w (.slice a 12 c) ls) (hm : 12 < m) (hmc : m ≤ c) (hcm : c ≤ 9223372036854775807) (hc : (Lit.int .i64 cd).wf = true) (hs : (ls.map ByteArray.size).sum ≤ 1100000) :
    Calls Tryd.prog 4 #[.slice a m c, .int .i64 cd] w fun r w' => r = .returned (.bool true) ∧ Below w.heap.size w w' := by
  obtain ⟨hl, hnc, -⟩ := hx.at
  have hcb := bounds_i64 hc
  obtain ⟨X, hX⟩ : ∃ X, bits .or .i64 cd 1 = X := ⟨_, rfl⟩
  obtain ⟨Y, hY⟩ : ∃ Y, bits .and .i64 cd 31 = Y := ⟨_, rfl⟩
  have HXW := Lib.hid (show (Lit.int .i64 X).wf = true from by rw [← hX]; exact or_wf _ _)
  have HYW := Lib.hid (show (Lit.int .i64 Y).wf = true from by rw [← hY, and_31]; exact wf_of _ (by omega))
  have HSZ := Lib.hid (show ∀ z, (Lit.int .i64 z).wf = true → (fT ls (errT z)).size ≤ 8000000 from fun z hz => by
    rw [fT_size]
    have := errT_size z hz
    omega)
  have HG := Lib.hid hG
  have HX := Lib.hid hx
  clear hG hx hs hl
  go_enter Tryd.func4, Tryd.ntmps4
  go_wp2_with fail
  refine (lawSame a 12 c ls Y w HG.out HX.out HYW.out (by omega) (HSZ.out Y HYW.out)).mono ?_
  rintro r w1 ⟨rfl, hb1⟩
  go_wp2_with fail
  refine (lawSame a 12 c ls X w1 (HG.out.ext hb1) (HX.out.ext hb1) HXW.out (by omega) (HSZ.out X HXW.out)).mono ?_
  rintro r w2 ⟨rfl, hb2⟩
  go_wp2_with fail
  refine (known1 w2 (HG.out.ext (ext_trans hb1 hb2))).mono ?_
  rintro r w3 ⟨rfl, hb3⟩
  go_wp2
  go_ret
  exact ⟨rfl, ext_trans (ext_trans hb1 hb2) hb3⟩

namespace upt
open Go.ChangeShapes Go.WideShapes Go.ChangeAt
theorem bulkAll_sum {H : Type} (ss : Nat → ByteArray) : ∀ l : List Nat, Rows.uptoBulkAll (H := H) (l.map fun i => .lit (.string (ss i).data.toList)) = (l.map fun i => (ss i).size).sum + l.length
  | [] => rfl
  | i :: l => by
    simp only [List.map_cons, Rows.uptoBulkAll, bulkAll_sum ss l, Rows.uptoBulk, List.sum_cons, List.length_cons, Array.length_toList]
    show (ss i).size + 1 + _ = _
    omega
theorem open_texts_b {H : Type} {enc : TypeId × Value → H} {w : World} {base : Nat} {spare : Nat → Bool} {held : Bool} {t e : TypeId} {a : Option Addr} {len cap : Nat} {d : DataW H} {p : List MemPlace}
    (ht : Tryd.prog.underlying t = some (.slice e)) (he : Tryd.prog.underlying e = some .string) (hc : Tryd.prog.cellsOf e = 1) (h : DataW.Trod enc Tryd.prog w base spare held t (.slice a len cap) d p) :
    ∃ ss, IsTexts w a len cap ss ∧ ((List.range len).map fun i => (ss i).size).sum ≤ Rows.uptoBulk d := by
  obtain ⟨fuel, hf⟩ := h
  rcases Go.Deep.open_strs ht he hc hf with ⟨hcs, _⟩ | ⟨x, l, c, m, Sx, hcs, _, hl, hm, hmm, hd, hcell⟩
  · simp [Value.cells] at hcs
    obtain ⟨rfl, rfl, rfl⟩ := hcs
    exact ⟨fun _ => ⟨#[]⟩, ⟨Nat.le_refl _, Nat.zero_le _, fun i hi => by omega, .inl rfl⟩, by simp⟩
  · simp [Value.cells] at hcs
    obtain ⟨rfl, rfl, rfl⟩ := hcs
    have hlm : len ≤ m := by rw [hmm]; split <;> omega
    simp only [Prod.mk.injEq] at hd
    refine ⟨Sx, ⟨hl, hm, fun i hi => (hcell i (by omega)).2, ?_⟩, ?_⟩
    · by_cases h0 : len = 0
      · exact .inl h0
      · obtain ⟨b, o, s⟩ := x
        have h1 := (hcell 0 (by omega)).1
        have hs : s = none := by simpa [Addr.add] using World.cell?_spot h1
        subst hs
        refine .inr ⟨b, o, rfl, fun i hi => ?_⟩
        have h2 := (hcell i (by omega)).1
        rw [add_off] at h2
        exact h2
    · rw [hd.1]
      simp only [Rows.uptoBulk]
      rw [bulkAll_sum]
      omega
end upt
end Go.Proofs.YtllmkokloebomaaDoor
