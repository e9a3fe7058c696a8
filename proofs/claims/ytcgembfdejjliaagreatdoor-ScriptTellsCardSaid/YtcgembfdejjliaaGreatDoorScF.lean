/- What the listed package-level variables lay, in a world that meets the condition; a world that meets it. -/
import Derived.Test.YtcgembfdejjliaaGreatDoorScL
import Derived.Test.YtcgembfdejjliaaGreatDoorRows
import Derived.Stop.LaidErr
import Derived.LaidSub
import Derived.LaidHandle
import Derived.LaidMore
import Derived.Lay
import Derived.Lib.LaidTab
import Derived.Lib.LaidU8
import Derived.OpenShut
import Derived.Shelf.Vars
namespace Go.Proofs.YtcgembfdejjliaaGreatDoor
open Go.RowKit
set_option linter.unusedVariables false
set_option linter.unusedSimpArgs false

/-- the listed variables -/
noncomputable def LL : List (String × DataW Unit) := Rows.scriptLinesRow.laid
theorem chunk4 {α : Type} : ∀ (ps : List (List α)) (cs : List α), cs.length = 4 * ps.length → (∀ i p, ps[i]? = some p → (cs.drop (i * 4)).take 4 = p) → cs = ps.flatten
  | [], cs, h, _ => by simpa using h
  | p :: ps, cs, h, hp => by
    have h0 := hp 0 p rfl
    simp only [Nat.zero_mul, List.drop_zero] at h0
    have h1 := chunk4 ps (cs.drop 4) (by simp at h ⊢; omega) (fun i q hq => by
      have := hp (i + 1) q (by simpa using hq)
      rw [List.drop_drop]
      rwa [show 4 + i * 4 = (i + 1) * 4 by omega])
    rw [List.flatten_cons, ← h1, ← h0, List.take_append_drop]
theorem cE : Tryz.prog.cellsOf 74 = 4 := by kernel_rfl
theorem cT : Tryz.prog.cellsOf 75 = 44 := by kernel_rfl
theorem cS : Tryz.prog.cellsOf 9 = 1 := by kernel_rfl
theorem cI : Tryz.prog.cellsOf 3 = 1 := by kernel_rfl
theorem len4 {α : Type} (l : List α) (h : l.length = 4) : ∃ a b c d, l = [a, b, c, d] := by
  match l, h with
  | [a, b, c, d], _ => exact ⟨a, b, c, d, rfl⟩
/-- a shape that reads so lies so -/
theorem shape_of {W : World} {fuel : Nat} {l : List Value} {s : Sh} {p : List MemPlace}
    (h : DataW.trod (fun _ => ()) Tryz.prog W 0 (fun _ => true) false fuel 74 l = some (.agg [.lit (.string s.w.data.toList), .lit (.int .i64 s.k), .lit (.int .i64 s.op), .lit (.string s.fs.data.toList)], p)) :
    l = [.string s.w, .int .i64 s.k, .int .i64 s.op, .string s.fs] := by
  obtain ⟨xs, m, -, ex, hlen, hl, hel⟩ := DataW.trod_struct Tryz.underlying74 h
  rw [cE] at hlen
  obtain ⟨v0, v1, v2, v3, rfl⟩ := len4 l hlen
  obtain ⟨x0, x1, x2, x3, rfl⟩ := len4 xs hl
  have k0 := hel 0 _ rfl
  have k1 := hel 1 _ rfl
  have k2 := hel 2 _ rfl
  have k3 := hel 3 _ rfl
  change DataW.trod _ _ _ _ _ _ _ 9 (List.take (Tryz.prog.cellsOf 9) [v0, v1, v2, v3]) = some x0 at k0
  change DataW.trod _ _ _ _ _ _ _ 3 (List.take (Tryz.prog.cellsOf 3) [v1, v2, v3]) = some x1 at k1
  change DataW.trod _ _ _ _ _ _ _ 3 (List.take (Tryz.prog.cellsOf 3) [v2, v3]) = some x2 at k2
  change DataW.trod _ _ _ _ _ _ _ 9 (List.take (Tryz.prog.cellsOf 9) [v3]) = some x3 at k3
  rw [cS] at k0 k3
  rw [cI] at k1 k2
  simp only [List.take_succ_cons, List.take_zero] at k0 k1 k2 k3
  obtain ⟨s0, e0, f0, _⟩ := DataW.trod_string Tryz.underlying9 k0
  obtain ⟨n1, e1, f1, _⟩ := DataW.trod_int Tryz.underlying3 k1
  obtain ⟨n2, e2, f2, _⟩ := DataW.trod_int Tryz.underlying3 k2
  obtain ⟨s3, e3, f3, _⟩ := DataW.trod_string Tryz.underlying9 k3
  subst f0 f1 f2 f3
  have e := DataW.agg.inj (Prod.mk.inj ex).1
  simp only [List.map_cons, List.map_nil, List.cons.injEq, DataW.lit.injEq, Lit.string.injEq, Lit.int.injEq, true_and, and_true] at e
  obtain ⟨g0, g1, g2, g3⟩ := e
  have i0 : s0 = s.w := ByteArray.ext (Array.toList_inj.1 g0.symm)
  have i3 : s3 = s.fs := ByteArray.ext (Array.toList_inj.1 g3.symm)
  simp_all
theorem shapesData : (Rows.laid_frankpledge_script_shapes : DataW Unit) = .agg (shs.map fun s => .agg [.lit (.string s.w.data.toList), .lit (.int .i64 s.k), .lit (.int .i64 s.op), .lit (.string s.fs.data.toList)]) := by kernel_rfl
theorem shapes_of {W : World} (h : Lib.VarReads Tryz.prog W "frankpledge/script.shapes" Rows.laid_frankpledge_script_shapes) : W.var? Tryz.prog "frankpledge/script.shapes" = some shC.toArray := by
  obtain ⟨g, t, cs, fuel, p, hg, ht, hv, hd⟩ := h
  obtain rfl := Option.some.inj (shs_gn.symm.trans hg)
  obtain rfl := Option.some.inj ((show (Tryz.prog.globals[0]?).map (·.type) = some 75 by kernel_rfl).symm.trans ht)
  rw [shapesData] at hd
  obtain ⟨xs, m, -, ex, hlen, hl, hel⟩ := DataW.trod_array Tryz.underlying75 hd
  rw [cT] at hlen
  rw [cE] at hel
  have e := DataW.agg.inj (Prod.mk.inj ex).1
  have hfl : cs.toList = (shs.map fun s => [Value.string s.w, .int .i64 s.k, .int .i64 s.op, .string s.fs]).flatten := by
    refine chunk4 _ _ (by rw [hlen]; rfl) fun i q hq => ?_
    rw [List.getElem?_map] at hq
    obtain ⟨s, hs, rfl⟩ := Option.map_eq_some_iff.1 hq
    have hi : i < 11 := by
      have := (List.getElem?_eq_some_iff.1 hs).1
      simpa [shs] using this
    obtain ⟨x, hx⟩ : ∃ x, xs[i]? = some x := ⟨_, List.getElem?_eq_getElem (by omega)⟩
    have h1 := hel i hi
    rw [hx] at h1
    have h2 := congrArg (·[i]?) e
    simp only [List.getElem?_map, hs, hx, Option.map_some, Option.some.injEq] at h2
    obtain ⟨d, q⟩ := x
    simp only at h2
    subst h2
    exact shape_of h1
  rw [hv]
  unfold shC
  congr 1
  rw [List.flatMap_def, ← hfl]
theorem tysize : Tryz.prog.types.size = 203 := by kernel_rfl
theorem rty : (Tryz.prog.cutTypes.find? (·.1 == "internal/reflectlite.rtype")).map (·.2) = some 129 := by kernel_rfl
theorem oneRow : ((List.range 203).filter fun t => Tryz.prog.rowNamed t [101, 114, 114, 111, 114]) = [42] := by kernel_rfl
theorem etg : Tryz.prog.globalNamed "errors.errorType" = some 1 := by kernel_rfl
theorem LLp : LL.filter (fun x => x.2.handleName?.isNone) = LL.filter (fun x => x.1 != "errors.errorType") := by kernel_rfl
theorem LLh : LL.filter (fun x => x.2.handleName?.isSome) = [("errors.errorType", Rows.laid_errors_errorType)] := by kernel_rfl
theorem egOf {W : World} (h : laidMetH Tryz.prog LL W) : EG W := by
  have h' := (laidMetH_iff.1 h).2
  rw [LLh] at h'
  obtain ⟨name, u, ty, e1, e2, e3, e4, e5⟩ := h' _ (List.mem_singleton.2 rfl)
  have en : name = [101, 114, 114, 111, 114] := (Option.some.inj e1).symm
  subst en
  obtain rfl := Option.some.inj (rty.symm.trans e2)
  have hm : ty ∈ (List.range 203).filter fun t => Tryz.prog.rowNamed t [101, 114, 114, 111, 114] := List.mem_filter.2 ⟨List.mem_range.2 (by rw [← tysize]; exact e3), e4⟩
  rw [oneRow] at hm
  obtain rfl := List.mem_singleton.1 hm
  have hh : typeHandle Tryz.prog 42 = .pointer (some ⟨10, 42, none⟩) := by kernel_rfl
  rw [hh] at e5
  have h9 := World.var?_cell etg e5 0
  unfold EG
  simpa using h9
theorem LLone (n : String) (d : DataW Unit) (e : (LL.filter (fun x => x.1 != "errors.errorType")).filter (fun x => x.1 == n) = [(n, d)]) {W : World} (h : laidMetH Tryz.prog LL W) : laidMet Tryz.prog [(n, d)] W := by
  have h' := (laidMetH_iff.1 h).1
  rw [LLp] at h'
  have := h'.filter (fun x => x.1 == n)
  rwa [e] at this
theorem errRow : ∀ u, Tryz.prog.typeName? 3 u = some "*errors.errorString" → u = 173 := by
  intro u hu
  exact typeName_ptr_named (nm := "errors.errorString") (by kernel_rfl) (by kernel_rfl) (by decide) u (by rw [show ("*" ++ "errors.errorString" : String) = "*errors.errorString" from by decide]; exact hu)
theorem swOf {W : World} (h : laidMetH Tryz.prog LL W) (hsh : W.ShapedOpen Tryz.prog) : SW W := by
  refine ⟨shapes_of (Lib.laidMet.reads ((laidMetH_iff.1 h).1) (by rw [LLp]; exact List.mem_filter.2 ⟨by unfold LL; simp [Rows.scriptLinesRow], by decide⟩)), ?_, ?_, ?_, ?_, egOf h⟩
  · obtain ⟨a, s, hv, -⟩ := laid_sentinel (LLone "strconv.ErrSyntax" Rows.laid_strconv_ErrSyntax (by kernel_rfl) h) (show Tryz.prog.globalNamed "strconv.ErrSyntax" = some 8 by kernel_rfl) (show (Tryz.prog.globals[8]?).map (·.type) = some 42 by kernel_rfl) Tryz.underlying42 errRow Tryz.underlying173 Tryz.underlying175 rfl rfl Tryz.underlying9 (by kernel_rfl) cS
    exact ⟨_, _, hv⟩
  · obtain ⟨a, s, hv, -⟩ := laid_sentinel (LLone "strconv.ErrRange" Rows.laid_strconv_ErrRange (by kernel_rfl) h) (show Tryz.prog.globalNamed "strconv.ErrRange" = some 9 by kernel_rfl) (show (Tryz.prog.globals[9]?).map (·.type) = some 42 by kernel_rfl) Tryz.underlying42 errRow Tryz.underlying173 Tryz.underlying175 rfl rfl Tryz.underlying9 (by kernel_rfl) cS
    exact ⟨_, _, hv⟩
  · exact Lib.tabIs_of_head (show Tryz.prog.globalNamed "internal/strconv.uint64pow10" = some 3 by kernel_rfl) (show (Tryz.prog.globals[3]?).map (·.type) = some 150 by kernel_rfl) Tryz.underlying150 Tryz.underlying123 (by kernel_rfl) (by kernel_rfl) (LLone "internal/strconv.uint64pow10" (Lib.tabData .u64 Lib.pow10Tab) (by kernel_rfl) h)
  · exact cell_of_shapedOpen_int (P := Tryz.prog) (g := 2) (t := 3) (zero := #[.int .i64 0]) hsh (of_decide_eq_true (by kernel_rfl)) (by kernel_rfl) rfl (by kernel_rfl) (by kernel_rfl) Tryz.underlying3

/-- the start with the handle in its place -/
noncomputable def w00 (os : Os) : World :=
  { World.holding Tryz.prog os ⟨#[], #[], []⟩ with heap := (World.holding Tryz.prog os ⟨#[], #[], []⟩).heap.modify 1 fun
      | .cells _ t frozen => .cells #[.iface 129 (.agg #[.pointer (some ⟨10, 42, none⟩)])] t frozen
      | o => o }
noncomputable def LP : List (String × DataW Unit) := LL.filter (fun x => x.1 != "errors.errorType")
/-- a world that meets the condition -/
noncomputable def laidWorld (os : Os) : World := (w00 os).layVars Tryz.prog LP
theorem laidWorld_os (os : Os) : (laidWorld os).os = os := World.layVars_os _ _ _
theorem laidWorld_met (os : Os) (args : Array Value) : laidMetH Tryz.prog LL ((laidWorld os).forCall (fun _ _ => 0) ⟨#[], args, []⟩).memory := by
  have hm : laidMet Tryz.prog LP (laidWorld os) := by
    have e1 : (LP.filter fun x => (LP.map (·.1)).contains x.1) = LP := List.filter_eq_self.2 fun x hx => List.contains_iff_mem.2 (List.mem_map.2 ⟨x, hx, rfl⟩)
    have e2 : (LP.filter fun x => !(LP.map (·.1)).contains x.1) = [] := List.filter_eq_nil_iff.2 fun x hx => by rw [List.contains_iff_mem.2 (List.mem_map.2 ⟨x, hx, rfl⟩)]; simp
    exact laidMet_layVars (w0 := w00 os) (LP.map (·.1)) [] (by rw [e1]; rfl) (by rw [e1]; kernel_rfl) (by rw [e1]; kernel_rfl) (by rw [e2]; exact LaidIn.none)
  have hh : (laidWorld os).heap = ((laidWorld os).forCall (fun _ _ => 0) ⟨#[], args, []⟩).memory.heap := by simp [World.memory, World.forCall, Input.heap]
  refine laidMetH_iff.2 ⟨?_, ?_⟩
  · rw [LLp]; exact hm.of_heap hh
  · rw [LLh]
    exact handlesMet_of_B (by kernel_rfl)
end Go.Proofs.YtcgembfdejjliaaGreatDoor
