/- Errors that are joined: what errors.Join makes, and how it is asked. -/
import Derived.Test.YtllmkokloebomaaDoorFauJ
import Derived.Test.YtllmkokloebomaaDoorFauM
namespace Go.Proofs.YtllmkokloebomaaDoor
open Go.RowKit Go.Extern.Stop Go.Stop Go.Extern
set_option linter.unusedVariables false
set_option linter.unusedSimpArgs false

theorem typeOfJ (v : Value) (w : World) : (ReflectliteType.typeOf #[.iface 55 v]).run Tryd.prog w = .ok (.iface 81 (.agg #[.pointer (some ⟨1, 55, none⟩)])) w := by kernel_rfl
theorem noAsJ (v : Value) (xT : TypeId) (w : World) : (Instr.typeAssert (.iface 55 v) xT 89 true).run Tryd.prog w = .ok (.tuple #[.nilIface, .bool false]) w := run_typeAssert_lacksB Tryd.underlying89 (by kernel_rfl) (by kernel_rfl) v xT w
theorem noUJ (v : Value) (xT : TypeId) (w : World) : (Instr.typeAssert (.iface 55 v) xT 68 true).run Tryd.prog w = .ok (.tuple #[.nilIface, .bool false]) w := run_typeAssert_lacksB Tryd.underlying68 (by kernel_rfl) (by kernel_rfl) v xT w
theorem hasUsJ (v : Value) (xT : TypeId) (w : World) : (Instr.typeAssert (.iface 55 v) xT 85 true).run Tryd.prog w = .ok (.tuple #[.iface 55 v, .bool true]) w := run_typeAssert_hasB Tryd.underlying85 (by kernel_rfl) v xT w
theorem mUnwJ (v : Value) (w : World) : (Go.method 221 55 v "Unwrap").run Tryd.prog w = .ok (63, v) w := by kernel_rfl
theorem assJF (w : World) : (ReflectliteType.relation "AssignableTo" ReflectliteType.assignableTo #[.agg #[.pointer (some ⟨1, 55, none⟩)], .iface 81 (.agg #[.pointer (some ⟨1, 29, none⟩)])]).run Tryd.prog w = .ok (.bool false) w := by kernel_rfl
theorem assJE (w : World) : (ReflectliteType.relation "AssignableTo" ReflectliteType.assignableTo #[.agg #[.pointer (some ⟨1, 55, none⟩)], .iface 81 (.agg #[.pointer (some ⟨1, 23, none⟩)])]).run Tryd.prog w = .ok (.bool false) w := by kernel_rfl
theorem run_fault_jnil (v : Value) (w : World) : (binOp .eql 26 (.iface 55 v) .nilIface).run Tryd.prog w = .ok (.bool false) w := by kernel_rfl
theorem neqS1 (v : Value) (w : World) : (binOp .neq 26 (.iface 51 v) .nilIface).run Tryd.prog w = .ok (.bool true) w := by kernel_rfl
theorem neqF1 (v : Value) (w : World) : (binOp .neq 26 (.iface 29 v) .nilIface).run Tryd.prog w = .ok (.bool true) w := by kernel_rfl
/-- two errors that are joined -/
def JN (w : World) (j : Nat) (e1 e2 : Value) : Prop := ∃ g c, w.heap[j]? = some (.cells #[.slice (some ⟨g, 0, none⟩) 2 c] 57 (0, 0)) ∧ w.cell? ⟨g, 0, none⟩ = some e1 ∧ w.cell? ⟨g, 1, none⟩ = some e2
theorem JN.ext {w w' : World} {j : Nat} {e1 e2 : Value} (h : JN w j e1 e2) (hb : Below w.heap.size w w') : JN w' j e1 e2 := by
  obtain ⟨g, c, h1, h2, h3⟩ := h
  exact ⟨g, c, blk_ext hb h1, ext_cell hb h2, ext_cell hb h3⟩
set_option maxHeartbeats 1000000 in
theorem joinUnwrap (j g c : Nat) (w : World) (h : w.heap[j]? = some (.cells #[.slice (some ⟨g, 0, none⟩) 2 c] 57 (0, 0))) :
    Calls Tryd.prog 63 #[.pointer (some ⟨j, 0, none⟩)] w fun r w' => r = .returned (.slice (some ⟨g, 0, none⟩) 2 c) ∧ w' = w := by
  have hc := blk_cell h
  have hl := blk_lt h
  go_enter Tryd.func63, Tryd.ntmps63
  go_wp2
  go_ret
  exact ⟨rfl, rfl⟩
theorem errUnwrap_join (j : Nat) (w : World) :
    Calls Tryd.prog 20 #[.iface 55 (.pointer (some ⟨j, 0, none⟩))] w fun r w' => r = .returned .nilIface ∧ w' = w := by
  have hU := noUJ
  go_enter Tryd.func20, Tryd.ntmps20
  go_wp2
  go_ret
  exact ⟨rfl, rfl⟩

set_option maxHeartbeats 2000000 in
theorem endsJ (z j : Nat) (op : ByteArray) (w : World) (hz : w.heap[z]? = some (.cells #[.string op, .iface 55 (.pointer (some ⟨j, 0, none⟩))] 31 (0, 0))) :
    Calls Tryd.prog 25 #[.iface 29 (.pointer (some ⟨z, 0, none⟩))] w fun r w' => r = .returned (.bool true) ∧ Below w.heap.size w w' := by
  have hmf : ∀ (fn : Fn) (first cap : Array Value) (w : World), (Instr.makeFunc fn first cap).run Tryd.prog w = .ok (.func fn first cap) w := fun _ _ _ _ => rfl
  have D0 := Lib.hid ((Below.refl w.heap.size w).alloc (Nat.le_refl _) (.cells #[.bool false] 4))
  have HX := Lib.hid (blk_new w #[.bool false] 4)
  have HZ := Lib.hid (blk_ext D0.out hz)
  have n0 := run_nil_nil
  have n1 := run_fault_nil
  have n2 := run_fault_jnil
  clear hz
  go_enter_defers Tryd.func25, Tryd.ntmps25
  go_wp2
  obtain ⟨p, hp⟩ : ∃ p, w.heap.size = p := ⟨_, rfl⟩
  rw [hp] at HX
  try rw [hp]
  generalize (w.alloc (.cells #[.bool false] 4)) = w1 at *
  have hxc := blk_cell HX.out
  have hxf := blk_free HX.out
  have hxl := blk_lt HX.out
  refine wp_loop_rounds 3 ?_
  rw [rounds_succ]
  go_wp2_with (first | (refine (errUnwrap_fault z op _ _ HZ.out).mono ?_; rintro r w' ⟨rfl, rfl⟩))
  rw [rounds_succ]
  go_wp2_with (first | (refine (errUnwrap_join j _).mono ?_; rintro r w' ⟨rfl, rfl⟩))
  rw [rounds_succ]
  go_wp2
  refine leaves_cons (f := 38) (args := #[.pointer (some ⟨p, 0, none⟩)]) (by simp) (by simp [go_sem]) ?_
  refine (cEnds_idle _ _).mono ?_
  rintro e u' w'' ⟨rfl, rfl, rfl⟩
  have HY := blk_set (n := 0) (u := .bool true) (vs' := #[.bool true]) HX.out (by simp)
  have hyc := blk_cell HY
  simp [Leaves, settle, results, Tryd.results25, go_sem, hyc]
  exact D0.out.setCell (p := ⟨p, 0, none⟩) (by show w.heap.size ≤ p; omega) _

set_option maxHeartbeats 4000000 in
theorem asF_join (j s p : Nat) (y ip : ByteArray) (cd : Int) (tb vb : Nat) (x : Value) (w : World) (hJ : JN w j (.iface 51 (.pointer (some ⟨s, 0, none⟩))) (.iface 29 (.pointer (some ⟨p, 0, none⟩)))) (hs : w.heap[s]? = some (.cells #[.string y] 53 (0, 0))) (hp : w.heap[p]? = some (.cells #[.string ip, .iface 23 (.int .i64 cd)] 31 (0, 0))) (hT : w.heap[tb]? = some (.cells #[x] 29 (0, 0))) (hV : w.heap[vb]? = some (.cells #[.pointer (some ⟨tb, 0, none⟩)] 49 (0, 0))) :
    Calls Tryd.prog 36 #[.iface 55 (.pointer (some ⟨j, 0, none⟩)), .iface 49 (.pointer (some ⟨tb, 0, none⟩)), .agg #[.pointer (some ⟨1, 49, none⟩), .pointer (some ⟨vb, 0, none⟩), .int .u64 150], .iface 81 (.agg #[.pointer (some ⟨1, 29, none⟩)])] w fun r w' => r = .returned (.bool true) ∧ HitF w tb ⟨p, 0, none⟩ w' := by

  have D0 := Lib.hid ((Below.refl w.heap.size w).alloc (Nat.le_refl _) (.cells #[.pointer (some ⟨1, 49, none⟩), .pointer (some ⟨vb, 0, none⟩), .int .u64 150] 73))
  have HT := Lib.hid (blk_alloc hT (.cells #[.pointer (some ⟨1, 49, none⟩), .pointer (some ⟨vb, 0, none⟩), .int .u64 150] 73))
  have HV := Lib.hid (blk_alloc hV (.cells #[.pointer (some ⟨1, 49, none⟩), .pointer (some ⟨vb, 0, none⟩), .int .u64 150] 73))
  have HX := Lib.hid (blk_new w #[.pointer (some ⟨1, 49, none⟩), .pointer (some ⟨vb, 0, none⟩), .int .u64 150] 73)
  have htl := blk_lt hT
  have hvl := blk_lt hV
  have HTW := Lib.hid hT
  have HS := Lib.hid (blk_ext D0.out hs)
  have HP := Lib.hid (blk_ext D0.out hp)
  obtain ⟨g, c, j1, j2, j3⟩ := hJ.ext D0.out
  have HJ1 := Lib.hid j1
  have l2 := cell_lt j2
  have hTO := @run_callFunc_extern Tryd.prog 27 _ ReflectliteType.typeOf Tryd.func27 (by kernel_rfl) (by kernel_rfl) (by kernel_rfl) (by kernel_rfl)
  have hVO := @run_callFunc_extern Tryd.prog 33 _ (fun args => ReflectliteValue.unpack (args.getD 0 (.tuple #[]))) Tryd.func33 (by kernel_rfl) (by kernel_rfl) (by kernel_rfl) (by kernel_rfl)
  have hAss := @run_callFunc_extern Tryd.prog 68 _ (ReflectliteType.relation "AssignableTo" ReflectliteType.assignableTo) Tryd.func68 (by kernel_rfl) (by kernel_rfl) (by kernel_rfl) (by kernel_rfl)
  have hVE := @run_callFunc_extern Tryd.prog 42 _ (ReflectliteValue.method (ReflectliteValue.valueError "reflectlite.Value.Elem" 0) ReflectliteValue.elem) Tryd.func42 (by kernel_rfl) (by kernel_rfl) (by kernel_rfl) (by kernel_rfl)
  have hSet := @run_callFunc_extern Tryd.prog 43 _ ReflectliteValue.set Tryd.func43 (by kernel_rfl) (by kernel_rfl) (by kernel_rfl) (by kernel_rfl)
  have tA := mAss'
  have s1 := noAsF
  have s2 := noAsE
  have s3 := noAsS
  have u1 := hasUF
  have u2 := noUE
  have u3 := noUS
  have v2 := noUsE
  have v3 := noUsS
  have mU := mUnw
  have s4 := noAsJ
  have u4 := noUJ
  have v4 := hasUsJ
  have mJ := mUnwJ
  have tO := typeOfJ
  have aS := assJF
  have z1 := run_fault_snil
  have z2 := run_fault_nil
  clear hT hV hs hp hJ j1
  go_enter Tryd.func36, Tryd.ntmps36
  go_wp2
  obtain ⟨q, hq⟩ : ∃ q, w.heap.size = q := ⟨_, rfl⟩
  rw [hq] at HX
  try rw [hq]
  generalize (w.alloc (.cells #[.pointer (some ⟨1, 49, none⟩), .pointer (some ⟨vb, 0, none⟩), .int .u64 150] 73)) = w1 at *
  have hxc := blk_cell HX.out
  have hxl := blk_lt HX.out
  refine wp_loop_rounds 1 ?_
  rw [rounds_succ]
  go_wp2_with (first | (refine (joinUnwrap j g c _ HJ1.out).mono ?_; rintro r w' ⟨rfl, hw'⟩; obtain rfl := hw'.symm))
  refine wp_loop_rounds 2 ?_
  rw [rounds_succ]
  go_wp2_with fail
  have DA := Lib.hid (Below.refl w1.heap.size w1)
  refine (asF_missS ⟨s, 0, none⟩ tb vb x _ (blk_ext DA.out HT.out) (blk_ext DA.out HV.out)).mono ?_
  rintro r w2 ⟨rfl, hb2⟩
  have DB := Lib.hid hb2
  have j3b := ext_cell hb2 j3
  have l3 := cell_lt j3b
  have hxc2 := blk_cell (blk_ext hb2 HX.out)
  have hxl2 := blk_lt (blk_ext hb2 HX.out)
  clear j2 l2 j3 hb2 hxc hxl
  go_wp2_with fail
  rw [rounds_succ]
  go_wp2_with fail
  refine (asF_hit ⟨p, 0, none⟩ tb vb x _ (blk_ext DB.out HT.out) (blk_ext DB.out HV.out)).mono ?_
  rintro r w3 ⟨rfl, w4, hb4, hk4, rfl⟩
  go_wp2
  go_ret
  exact ⟨rfl, w4, ext_trans D0.out (ext_trans DB.out hb4), by rw [hk4, blk_ext DB.out HT.out, HTW.out], rfl⟩

set_option maxHeartbeats 4000000 in
theorem asE_join (j s p : Nat) (y ip : ByteArray) (cd : Int) (tb vb : Nat) (x : Value) (w : World) (hJ : JN w j (.iface 51 (.pointer (some ⟨s, 0, none⟩))) (.iface 29 (.pointer (some ⟨p, 0, none⟩)))) (hs : w.heap[s]? = some (.cells #[.string y] 53 (0, 0))) (hp : w.heap[p]? = some (.cells #[.string ip, .iface 23 (.int .i64 cd)] 31 (0, 0))) (hT : w.heap[tb]? = some (.cells #[x] 23 (0, 0))) (hV : w.heap[vb]? = some (.cells #[.pointer (some ⟨tb, 0, none⟩)] 50 (0, 0))) :
    Calls Tryd.prog 36 #[.iface 55 (.pointer (some ⟨j, 0, none⟩)), .iface 50 (.pointer (some ⟨tb, 0, none⟩)), .agg #[.pointer (some ⟨1, 50, none⟩), .pointer (some ⟨vb, 0, none⟩), .int .u64 150], .iface 81 (.agg #[.pointer (some ⟨1, 23, none⟩)])] w fun r w' => r = .returned (.bool true) ∧ HitE w tb cd w' := by

  have D0 := Lib.hid ((Below.refl w.heap.size w).alloc (Nat.le_refl _) (.cells #[.pointer (some ⟨1, 50, none⟩), .pointer (some ⟨vb, 0, none⟩), .int .u64 150] 73))
  have HT := Lib.hid (blk_alloc hT (.cells #[.pointer (some ⟨1, 50, none⟩), .pointer (some ⟨vb, 0, none⟩), .int .u64 150] 73))
  have HV := Lib.hid (blk_alloc hV (.cells #[.pointer (some ⟨1, 50, none⟩), .pointer (some ⟨vb, 0, none⟩), .int .u64 150] 73))
  have HX := Lib.hid (blk_new w #[.pointer (some ⟨1, 50, none⟩), .pointer (some ⟨vb, 0, none⟩), .int .u64 150] 73)
  have htl := blk_lt hT
  have hvl := blk_lt hV
  have HTW := Lib.hid hT
  have HS := Lib.hid (blk_ext D0.out hs)
  have HP := Lib.hid (blk_ext D0.out hp)
  obtain ⟨g, c, j1, j2, j3⟩ := hJ.ext D0.out
  have HJ1 := Lib.hid j1
  have l2 := cell_lt j2
  have hTO := @run_callFunc_extern Tryd.prog 27 _ ReflectliteType.typeOf Tryd.func27 (by kernel_rfl) (by kernel_rfl) (by kernel_rfl) (by kernel_rfl)
  have hVO := @run_callFunc_extern Tryd.prog 33 _ (fun args => ReflectliteValue.unpack (args.getD 0 (.tuple #[]))) Tryd.func33 (by kernel_rfl) (by kernel_rfl) (by kernel_rfl) (by kernel_rfl)
  have hAss := @run_callFunc_extern Tryd.prog 68 _ (ReflectliteType.relation "AssignableTo" ReflectliteType.assignableTo) Tryd.func68 (by kernel_rfl) (by kernel_rfl) (by kernel_rfl) (by kernel_rfl)
  have hVE := @run_callFunc_extern Tryd.prog 42 _ (ReflectliteValue.method (ReflectliteValue.valueError "reflectlite.Value.Elem" 0) ReflectliteValue.elem) Tryd.func42 (by kernel_rfl) (by kernel_rfl) (by kernel_rfl) (by kernel_rfl)
  have hSet := @run_callFunc_extern Tryd.prog 43 _ ReflectliteValue.set Tryd.func43 (by kernel_rfl) (by kernel_rfl) (by kernel_rfl) (by kernel_rfl)
  have tA := mAss'
  have s1 := noAsF
  have s2 := noAsE
  have s3 := noAsS
  have u1 := hasUF
  have u2 := noUE
  have u3 := noUS
  have v2 := noUsE
  have v3 := noUsS
  have mU := mUnw
  have s4 := noAsJ
  have u4 := noUJ
  have v4 := hasUsJ
  have mJ := mUnwJ
  have tO := typeOfJ
  have aS := assJE
  have z1 := run_fault_snil
  have z2 := run_fault_nil
  clear hT hV hs hp hJ j1
  go_enter Tryd.func36, Tryd.ntmps36
  go_wp2
  obtain ⟨q, hq⟩ : ∃ q, w.heap.size = q := ⟨_, rfl⟩
  rw [hq] at HX
  try rw [hq]
  generalize (w.alloc (.cells #[.pointer (some ⟨1, 50, none⟩), .pointer (some ⟨vb, 0, none⟩), .int .u64 150] 73)) = w1 at *
  have hxc := blk_cell HX.out
  have hxl := blk_lt HX.out
  refine wp_loop_rounds 1 ?_
  rw [rounds_succ]
  go_wp2_with (first | (refine (joinUnwrap j g c _ HJ1.out).mono ?_; rintro r w' ⟨rfl, hw'⟩; obtain rfl := hw'.symm))
  refine wp_loop_rounds 2 ?_
  rw [rounds_succ]
  go_wp2_with fail
  have DA := Lib.hid (Below.refl w1.heap.size w1)
  refine (asE_miss [] (.iface 51 (.pointer (some ⟨s, 0, none⟩))) _ tb vb x _ rfl (by simp) (blk_ext DA.out HT.out) (blk_ext DA.out HV.out) (.str s y (blk_ext DA.out HS.out)) (fun c => by simp)).mono ?_
  rintro r w2 ⟨rfl, hb2⟩
  have DB := Lib.hid hb2
  have j3b := ext_cell hb2 j3
  have l3 := cell_lt j3b
  have hxc2 := blk_cell (blk_ext hb2 HX.out)
  have hxl2 := blk_lt (blk_ext hb2 HX.out)
  clear j2 l2 j3 hb2 hxc hxl
  go_wp2_with fail
  rw [rounds_succ]
  go_wp2_with fail
  refine (asE_hit cd [ip] _ tb vb x _ ⟨p, _, rfl, blk_ext DB.out HP.out, rfl⟩ (by simp) (blk_ext DB.out HT.out) (blk_ext DB.out HV.out)).mono ?_
  rintro r w3 ⟨rfl, w4, hb4, hk4, rfl⟩
  go_wp2
  go_ret
  exact ⟨rfl, w4, ext_trans D0.out (ext_trans DB.out hb4), by rw [hk4, blk_ext DB.out HT.out, HTW.out], rfl⟩
end Go.Proofs.YtllmkokloebomaaDoor
