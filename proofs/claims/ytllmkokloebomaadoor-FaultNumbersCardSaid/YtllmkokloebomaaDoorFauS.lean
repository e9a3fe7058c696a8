/- Package fault at joined errors. -/
import Derived.Test.YtllmkokloebomaaDoorFauR
import Derived.Deep.DeepCutAuto
namespace Go.Proofs.YtllmkokloebomaaDoor
open Go.RowKit Go.Extern.Stop Go.Stop Go.Extern
set_option linter.unusedVariables false
set_option linter.unusedSimpArgs false

set_option maxHeartbeats 4000000 in
theorem asE_zjoin (z : Nat) (op : ByteArray) (j s p : Nat) (y ip : ByteArray) (cd : Int) (tb vb : Nat) (x : Value) (w : World) (hJ : JN w j (.iface 51 (.pointer (some ⟨s, 0, none⟩))) (.iface 29 (.pointer (some ⟨p, 0, none⟩)))) (hs : w.heap[s]? = some (.cells #[.string y] 53 (0, 0))) (hp : w.heap[p]? = some (.cells #[.string ip, .iface 23 (.int .i64 cd)] 31 (0, 0))) (hz : w.heap[z]? = some (.cells #[.string op, .iface 55 (.pointer (some ⟨j, 0, none⟩))] 31 (0, 0))) (hT : w.heap[tb]? = some (.cells #[x] 23 (0, 0))) (hV : w.heap[vb]? = some (.cells #[.pointer (some ⟨tb, 0, none⟩)] 50 (0, 0))) :
    Calls Tryd.prog 36 #[.iface 29 (.pointer (some ⟨z, 0, none⟩)), .iface 50 (.pointer (some ⟨tb, 0, none⟩)), .agg #[.pointer (some ⟨1, 50, none⟩), .pointer (some ⟨vb, 0, none⟩), .int .u64 150], .iface 81 (.agg #[.pointer (some ⟨1, 23, none⟩)])] w fun r w' => r = .returned (.bool true) ∧ HitE w tb cd w' := by

  have D0 := Lib.hid ((Below.refl w.heap.size w).alloc (Nat.le_refl _) (.cells #[.pointer (some ⟨1, 50, none⟩), .pointer (some ⟨vb, 0, none⟩), .int .u64 150] 73))
  have HT := Lib.hid (blk_alloc hT (.cells #[.pointer (some ⟨1, 50, none⟩), .pointer (some ⟨vb, 0, none⟩), .int .u64 150] 73))
  have HV := Lib.hid (blk_alloc hV (.cells #[.pointer (some ⟨1, 50, none⟩), .pointer (some ⟨vb, 0, none⟩), .int .u64 150] 73))
  have HX := Lib.hid (blk_new w #[.pointer (some ⟨1, 50, none⟩), .pointer (some ⟨vb, 0, none⟩), .int .u64 150] 73)
  have htl := blk_lt hT
  have hvl := blk_lt hV
  have HTW := Lib.hid hT
  have HS := Lib.hid (blk_ext D0.out hs)
  have HP := Lib.hid (blk_ext D0.out hp)
  have HZ := Lib.hid (blk_ext D0.out hz)
  have tOF := typeOfF
  have aSF := assFE
  have z3 := run_fault_jnil
  obtain ⟨g, c, j1, j2, j3⟩ := hJ.ext D0.out
  have HJ1 := Lib.hid j1
  have l2 := cell_lt j2
  have hTO := @run_callFunc_extern Tryd.prog 27 _ ReflectliteType.typeOf Tryd.func27 (by kernel_rfl) (by kernel_rfl) (by kernel_rfl) (by kernel_rfl)
  have hVO := @run_callFunc_extern Tryd.prog 33 _ (fun args => ReflectliteValue.unpack (args.getD 0 (.tuple #[]))) Tryd.func33 (by kernel_rfl) (by kernel_rfl) (by kernel_rfl) (by kernel_rfl)
  have hAss := @run_callFunc_extern Tryd.prog 68 _ (ReflectliteType.relation "AssignableTo" ReflectliteType.assignableTo) Tryd.func68 (by kernel_rfl) (by kernel_rfl) (by kernel_rfl) (by kernel_rfl)
  have hVE := @run_callFunc_extern Tryd.prog 42 _ (ReflectliteValue.method (ReflectliteValue.valueError "reflectlite.Value.Elem" 0) ReflectliteValue.elem) Tryd.func42 (by kernel_rfl) (by kernel_rfl) (by kernel_rfl) (by kernel_rfl)
  have hSet := @run_callFunc_extern Tryd.prog 43 _ ReflectliteValue.set Tryd.func43 (by kernel_rfl) (by kernel_rfl) (by kernel_rfl) (by kernel_rfl)
  have tA := mAss'
  have s1 := noAsF
  have s2 := noAsE
  have s3 := noAsS
  have u1 := hasUF
  have u2 := noUE
  have u3 := noUS
  have v2 := noUsE
  have v3 := noUsS
  have mU := mUnw
  have s4 := noAsJ
  have u4 := noUJ
  have v4 := hasUsJ
  have mJ := mUnwJ
  have tO := typeOfJ
  have aS := assJE
  have z1 := run_fault_snil
  have z2 := run_fault_nil
  clear hT hV hs hp hJ j1 hz
  go_enter Tryd.func36, Tryd.ntmps36
  go_wp2
  obtain ⟨q, hq⟩ : ∃ q, w.heap.size = q := ⟨_, rfl⟩
  rw [hq] at HX
  try rw [hq]
  generalize (w.alloc (.cells #[.pointer (some ⟨1, 50, none⟩), .pointer (some ⟨vb, 0, none⟩), .int .u64 150] 73)) = w1 at *
  have hxc := blk_cell HX.out
  have hxl := blk_lt HX.out
  refine wp_loop_rounds 2 ?_
  rw [rounds_succ]
  go_wp2_with (first | (refine (faultUnwrap z op _ _ HZ.out).mono ?_; rintro r w' ⟨rfl, hw'⟩; obtain rfl := hw'.symm))
  rw [rounds_succ]
  go_wp2_with (first | (refine (joinUnwrap j g c _ HJ1.out).mono ?_; rintro r w' ⟨rfl, hw'⟩; obtain rfl := hw'.symm))
  refine wp_loop_rounds 2 ?_
  rw [rounds_succ]
  go_wp2_with fail
  have DA := Lib.hid (Below.refl w1.heap.size w1)
  refine (asE_miss [] (.iface 51 (.pointer (some ⟨s, 0, none⟩))) _ tb vb x _ rfl (by simp) (blk_ext DA.out HT.out) (blk_ext DA.out HV.out) (.str s y (blk_ext DA.out HS.out)) (fun c => by simp)).mono ?_
  rintro r w2 ⟨rfl, hb2⟩
  have DB := Lib.hid hb2
  have j3b := ext_cell hb2 j3
  have l3 := cell_lt j3b
  have hxc2 := blk_cell (blk_ext hb2 HX.out)
  have hxl2 := blk_lt (blk_ext hb2 HX.out)
  clear j2 l2 j3 hb2 hxc hxl
  go_wp2_with fail
  rw [rounds_succ]
  go_wp2_with fail
  refine (asE_hit cd [ip] _ tb vb x _ ⟨p, _, rfl, blk_ext DB.out HP.out, rfl⟩ (by simp) (blk_ext DB.out HT.out) (blk_ext DB.out HV.out)).mono ?_
  rintro r w3 ⟨rfl, w4, hb4, hk4, rfl⟩
  go_wp2
  go_ret
  exact ⟨rfl, w4, ext_trans D0.out (ext_trans DB.out hb4), by rw [hk4, blk_ext DB.out HT.out, HTW.out], rfl⟩

set_option maxHeartbeats 2000000 in
theorem errAsE_zjoin (z : Nat) (op : ByteArray) (j s p : Nat) (y ip : ByteArray) (cd : Int) (tb : Nat) (x : Value) (w : World) (hG : EG w) (hJ : JN w j (.iface 51 (.pointer (some ⟨s, 0, none⟩))) (.iface 29 (.pointer (some ⟨p, 0, none⟩)))) (hs : w.heap[s]? = some (.cells #[.string y] 53 (0, 0))) (hp : w.heap[p]? = some (.cells #[.string ip, .iface 23 (.int .i64 cd)] 31 (0, 0))) (hz : w.heap[z]? = some (.cells #[.string op, .iface 55 (.pointer (some ⟨j, 0, none⟩))] 31 (0, 0))) (hT : w.heap[tb]? = some (.cells #[x] 23 (0, 0))) :
    Calls Tryd.prog 23 #[.iface 29 (.pointer (some ⟨z, 0, none⟩)), .iface 50 (.pointer (some ⟨tb, 0, none⟩))] w fun r w' => r = .returned (.bool true) ∧ HitE w tb cd w' := by
  have D2 := Lib.hid (show Below w.heap.size w ((w.alloc (.cells #[.pointer (some ⟨tb, 0, none⟩)] 50)).alloc (.cells #[.pointer (some ⟨1, 50, none⟩), .pointer (some ⟨w.heap.size, 0, none⟩), .int .u64 150] 73)) from ((Below.refl w.heap.size w).alloc (Nat.le_refl _) _).alloc (by simp) _)
  have HT := Lib.hid (blk_alloc (blk_alloc hT (.cells #[.pointer (some ⟨tb, 0, none⟩)] 50)) (.cells #[.pointer (some ⟨1, 50, none⟩), .pointer (some ⟨w.heap.size, 0, none⟩), .int .u64 150] 73))
  have HV := Lib.hid (blk_alloc (blk_new w #[.pointer (some ⟨tb, 0, none⟩)] 50) (.cells #[.pointer (some ⟨1, 50, none⟩), .pointer (some ⟨w.heap.size, 0, none⟩), .int .u64 150] 73))
  have hg : ((w.alloc (.cells #[.pointer (some ⟨tb, 0, none⟩)] 50)).alloc (.cells #[.pointer (some ⟨1, 50, none⟩), .pointer (some ⟨w.heap.size, 0, none⟩), .int .u64 150] 73)).cell? ⟨0, 0, none⟩ = some (.iface 81 (.agg #[.pointer (some ⟨1, 26, none⟩)])) := hG.ext D2.out
  have hlt := hG.pos
  have hVO := @run_callFunc_extern Tryd.prog 33 _ (fun args => ReflectliteValue.unpack (args.getD 0 (.tuple #[]))) Tryd.func33 (by kernel_rfl) (by kernel_rfl) (by kernel_rfl) (by kernel_rfl)
  have hVT := @run_callFunc_extern Tryd.prog 34 _ (ReflectliteValue.methodAny (ReflectliteValue.valueError "reflectlite.Value.Type" 0) (fun t _ _ _ => ReflectliteType.toType t)) Tryd.func34 (by kernel_rfl) (by kernel_rfl) (by kernel_rfl) (by kernel_rfl)
  have hNil := @run_callFunc_extern Tryd.prog 35 _ (ReflectliteValue.method (ReflectliteValue.valueError "reflectlite.Value.IsNil" 0) ReflectliteValue.isNil) Tryd.func35 (by kernel_rfl) (by kernel_rfl) (by kernel_rfl) (by kernel_rfl)
  have hKind := @run_callFunc_extern Tryd.prog 58 _ (ReflectliteType.abiMethod fun t => do pure (.int .u8 (← Rtype.kind t))) Tryd.func58 (by kernel_rfl) (by kernel_rfl) (by kernel_rfl) (by kernel_rfl)
  have hElem := @run_callFunc_extern Tryd.prog 70 _ (ReflectliteType.method ReflectliteType.elem) Tryd.func70 (by kernel_rfl) (by kernel_rfl) (by kernel_rfl) (by kernel_rfl)
  have hImp := @run_callFunc_extern Tryd.prog 71 _ (ReflectliteType.relation "Implements" ReflectliteType.implements_) Tryd.func71 (by kernel_rfl) (by kernel_rfl) (by kernel_rfl) (by kernel_rfl)
  have xK := mKind'
  have xE := mElem'
  have xI := mImp'

  have f6 := valueOfPE
  have f7 := typePE
  have k27 := kindPE
  have k25 := kindEE
  have e27 := elemPE
  have i25 := implEE
  have n8 := isNilPE ⟨w.heap.size, 0, none⟩ ⟨tb, 0, none⟩ ((w.alloc (.cells #[.pointer (some ⟨tb, 0, none⟩)] 50)).alloc (.cells #[.pointer (some ⟨1, 50, none⟩), .pointer (some ⟨w.heap.size, 0, none⟩), .int .u64 150] 73)) (blk_cell HV.out 0)
  have hz2 := run_target_E
  have hTL := Lib.hid (blk_lt hT)
  have HJ := Lib.hid (hJ.ext D2.out)
  have HS := Lib.hid (blk_ext D2.out hs)
  have HP := Lib.hid (blk_ext D2.out hp)
  have HZ := Lib.hid (blk_ext D2.out hz)
  clear hJ hs hp hz
  have hz := run_fault_nil (.pointer (some ⟨z, 0, none⟩))
  clear hG hT
  go_enter Tryd.func23, Tryd.ntmps23
  go_wp2_with (first | (refine (asE_zjoin z op j s p y ip cd tb _ x _ HJ.out HS.out HP.out HZ.out HT.out HV.out).mono ?_; rintro r w' ⟨rfl, hw'⟩))
  go_ret
  exact ⟨rfl, by obtain ⟨w3, h1, h2, h3⟩ := hw'; exact ⟨w3, ext_trans D2.out h1, h2.trans (D2.out.block tb hTL.out), h3⟩⟩

set_option maxHeartbeats 2000000 in
theorem errAsF_join (j s p : Nat) (y ip : ByteArray) (cd : Int) (tb : Nat) (x : Value) (w : World) (hG : EG w) (hJ : JN w j (.iface 51 (.pointer (some ⟨s, 0, none⟩))) (.iface 29 (.pointer (some ⟨p, 0, none⟩)))) (hs : w.heap[s]? = some (.cells #[.string y] 53 (0, 0))) (hp : w.heap[p]? = some (.cells #[.string ip, .iface 23 (.int .i64 cd)] 31 (0, 0))) (hT : w.heap[tb]? = some (.cells #[x] 29 (0, 0))) :
    Calls Tryd.prog 23 #[.iface 55 (.pointer (some ⟨j, 0, none⟩)), .iface 49 (.pointer (some ⟨tb, 0, none⟩))] w fun r w' => r = .returned (.bool true) ∧ HitF w tb ⟨p, 0, none⟩ w' := by
  have D2 := Lib.hid (show Below w.heap.size w ((w.alloc (.cells #[.pointer (some ⟨tb, 0, none⟩)] 49)).alloc (.cells #[.pointer (some ⟨1, 49, none⟩), .pointer (some ⟨w.heap.size, 0, none⟩), .int .u64 150] 73)) from ((Below.refl w.heap.size w).alloc (Nat.le_refl _) _).alloc (by simp) _)
  have HT := Lib.hid (blk_alloc (blk_alloc hT (.cells #[.pointer (some ⟨tb, 0, none⟩)] 49)) (.cells #[.pointer (some ⟨1, 49, none⟩), .pointer (some ⟨w.heap.size, 0, none⟩), .int .u64 150] 73))
  have HV := Lib.hid (blk_alloc (blk_new w #[.pointer (some ⟨tb, 0, none⟩)] 49) (.cells #[.pointer (some ⟨1, 49, none⟩), .pointer (some ⟨w.heap.size, 0, none⟩), .int .u64 150] 73))
  have hg : ((w.alloc (.cells #[.pointer (some ⟨tb, 0, none⟩)] 49)).alloc (.cells #[.pointer (some ⟨1, 49, none⟩), .pointer (some ⟨w.heap.size, 0, none⟩), .int .u64 150] 73)).cell? ⟨0, 0, none⟩ = some (.iface 81 (.agg #[.pointer (some ⟨1, 26, none⟩)])) := hG.ext D2.out
  have hlt := hG.pos
  have hVO := @run_callFunc_extern Tryd.prog 33 _ (fun args => ReflectliteValue.unpack (args.getD 0 (.tuple #[]))) Tryd.func33 (by kernel_rfl) (by kernel_rfl) (by kernel_rfl) (by kernel_rfl)
  have hVT := @run_callFunc_extern Tryd.prog 34 _ (ReflectliteValue.methodAny (ReflectliteValue.valueError "reflectlite.Value.Type" 0) (fun t _ _ _ => ReflectliteType.toType t)) Tryd.func34 (by kernel_rfl) (by kernel_rfl) (by kernel_rfl) (by kernel_rfl)
  have hNil := @run_callFunc_extern Tryd.prog 35 _ (ReflectliteValue.method (ReflectliteValue.valueError "reflectlite.Value.IsNil" 0) ReflectliteValue.isNil) Tryd.func35 (by kernel_rfl) (by kernel_rfl) (by kernel_rfl) (by kernel_rfl)
  have hKind := @run_callFunc_extern Tryd.prog 58 _ (ReflectliteType.abiMethod fun t => do pure (.int .u8 (← Rtype.kind t))) Tryd.func58 (by kernel_rfl) (by kernel_rfl) (by kernel_rfl) (by kernel_rfl)
  have hElem := @run_callFunc_extern Tryd.prog 70 _ (ReflectliteType.method ReflectliteType.elem) Tryd.func70 (by kernel_rfl) (by kernel_rfl) (by kernel_rfl) (by kernel_rfl)
  have hImp := @run_callFunc_extern Tryd.prog 71 _ (ReflectliteType.relation "Implements" ReflectliteType.implements_) Tryd.func71 (by kernel_rfl) (by kernel_rfl) (by kernel_rfl) (by kernel_rfl)
  have xK := mKind'
  have xE := mElem'
  have xI := mImp'

  have f6 := valueOfPF
  have f7 := typePF
  have k27 := kindPF
  have k25 := kindEF
  have e27 := elemPF
  have i25 := implEF
  have n8 := isNilPF ⟨w.heap.size, 0, none⟩ ⟨tb, 0, none⟩ ((w.alloc (.cells #[.pointer (some ⟨tb, 0, none⟩)] 49)).alloc (.cells #[.pointer (some ⟨1, 49, none⟩), .pointer (some ⟨w.heap.size, 0, none⟩), .int .u64 150] 73)) (blk_cell HV.out 0)
  have hz2 := run_target_F
  have hTL := Lib.hid (blk_lt hT)
  have HJ := Lib.hid (hJ.ext D2.out)
  have HS := Lib.hid (blk_ext D2.out hs)
  have HP := Lib.hid (blk_ext D2.out hp)
  clear hJ hs hp
  have hz := run_fault_jnil (.pointer (some ⟨j, 0, none⟩))
  clear hG hT
  go_enter Tryd.func23, Tryd.ntmps23
  go_wp2_with (first | (refine (asF_join j s p y ip cd tb _ x _ HJ.out HS.out HP.out HT.out HV.out).mono ?_; rintro r w' ⟨rfl, hw'⟩))
  go_ret
  exact ⟨rfl, by obtain ⟨w3, h1, h2, h3⟩ := hw'; exact ⟨w3, ext_trans D2.out h1, h2.trans (D2.out.block tb hTL.out), h3⟩⟩

set_option maxHeartbeats 1000000 in
theorem firstFault_join (j s p : Nat) (y ip : ByteArray) (cd : Int) (w : World) (hG : EG w) (hJ : JN w j (.iface 51 (.pointer (some ⟨s, 0, none⟩))) (.iface 29 (.pointer (some ⟨p, 0, none⟩)))) (hs : w.heap[s]? = some (.cells #[.string y] 53 (0, 0))) (hp : w.heap[p]? = some (.cells #[.string ip, .iface 23 (.int .i64 cd)] 31 (0, 0))) :
    Calls Tryd.prog 26 #[.iface 55 (.pointer (some ⟨j, 0, none⟩))] w fun r w' => r = .returned (.pointer (some ⟨p, 0, none⟩)) ∧ Below w.heap.size w w' := by
  have hmf : ∀ (fn : Fn) (first cap : Array Value) (w : World), (Instr.makeFunc fn first cap).run Tryd.prog w = .ok (.func fn first cap) w := fun _ _ _ _ => rfl
  have D0 := Lib.hid ((Below.refl w.heap.size w).alloc (Nat.le_refl _) (.cells #[.pointer none] 29))
  have HX := Lib.hid (blk_new w #[.pointer none] 29)
  have HG := Lib.hid (hG.ext D0.out)
  have HJ := Lib.hid (hJ.ext D0.out)
  have HS := Lib.hid (blk_ext D0.out hs)
  have HP := Lib.hid (blk_ext D0.out hp)
  clear hG hJ hs hp
  go_enter_defers Tryd.func26, Tryd.ntmps26
  go_wp2_with fail
  obtain ⟨q, hq⟩ : ∃ q, w.heap.size = q := ⟨_, rfl⟩
  rw [hq] at HX
  try rw [hq]
  generalize (w.alloc (.cells #[.pointer none] 29)) = w1 at *
  refine (errAsF_join j s p y ip cd q _ w1 HG.out HJ.out HS.out HP.out HX.out).mono ?_
  rintro r w2 ⟨rfl, w3, hb3, hk3, rfl⟩
  have HY := Lib.hid (blk_set (n := 0) (u := .pointer (some ⟨p, 0, none⟩)) (vs' := #[.pointer (some ⟨p, 0, none⟩)]) (hk3.trans HX.out) (by simp))
  have HD := Lib.hid ((ext_trans D0.out hb3).setCell (p := ⟨q, 0, none⟩) (by show w.heap.size ≤ q; omega) (.pointer (some ⟨p, 0, none⟩)))
  clear hb3 hk3
  generalize (w3.setCell ⟨q, 0, none⟩ (.pointer (some ⟨p, 0, none⟩))) = w4 at *
  have hyc := blk_cell HY.out
  have hyf := blk_free HY.out
  have hyl := blk_lt HY.out
  go_wp2
  refine leaves_cons (f := 39) (args := #[.pointer (some ⟨q, 0, none⟩)]) (by simp) (by simp [go_sem]) ?_
  refine (cFF_idle _ _).mono ?_
  rintro e u' w'' ⟨rfl, rfl, rfl⟩
  have HZ := blk_cell (blk_set (n := 0) (u := .pointer (some ⟨p, 0, none⟩)) (vs' := #[.pointer (some ⟨p, 0, none⟩)]) HY.out (by simp))
  simp [Leaves, settle, results, Tryd.results26, go_sem, HZ]
  exact HD.out.setCell (p := ⟨q, 0, none⟩) (by show w.heap.size ≤ q; omega) _

set_option maxHeartbeats 1000000 in
theorem firstErrno_zjoin (z : Nat) (op : ByteArray) (j s p : Nat) (y ip : ByteArray) (cd : Int) (w : World) (hG : EG w) (hJ : JN w j (.iface 51 (.pointer (some ⟨s, 0, none⟩))) (.iface 29 (.pointer (some ⟨p, 0, none⟩)))) (hs : w.heap[s]? = some (.cells #[.string y] 53 (0, 0))) (hp : w.heap[p]? = some (.cells #[.string ip, .iface 23 (.int .i64 cd)] 31 (0, 0))) (hz : w.heap[z]? = some (.cells #[.string op, .iface 55 (.pointer (some ⟨j, 0, none⟩))] 31 (0, 0))) :
    Calls Tryd.prog 24 #[.iface 29 (.pointer (some ⟨z, 0, none⟩))] w fun r w' => r = .returned (.tuple #[.int .i64 cd, .bool true]) ∧ Below w.heap.size w w' := by
  have hmf : ∀ (fn : Fn) (first cap : Array Value) (w : World), (Instr.makeFunc fn first cap).run Tryd.prog w = .ok (.func fn first cap) w := fun _ _ _ _ => rfl
  have D0 := Lib.hid (((Below.refl w.heap.size w).alloc (Nat.le_refl _) (.cells #[.int .i64 0] 23)).alloc (by simp) (.cells #[.bool false] 4))
  have HX := Lib.hid (blk_alloc (blk_new w #[.int .i64 0] 23) (.cells #[.bool false] 4))
  have HY := Lib.hid (blk_new (w.alloc (.cells #[.int .i64 0] 23)) #[.bool false] 4)
  have HG := Lib.hid (hG.ext D0.out)
  have HJ := Lib.hid (hJ.ext D0.out)
  have HS := Lib.hid (blk_ext D0.out hs)
  have HP := Lib.hid (blk_ext D0.out hp)
  have HZ := Lib.hid (blk_ext D0.out hz)
  clear hG hJ hs hp hz
  go_enter_defers Tryd.func24, Tryd.ntmps24
  go_wp2_with fail
  obtain ⟨q, hq⟩ : ∃ q, w.heap.size = q := ⟨_, rfl⟩
  have hqs : (w.alloc (.cells #[.int .i64 0] 23)).heap.size = q + 1 := by simp [hq]
  rw [hq] at HX
  rw [hqs] at HY
  try rw [hq]
  generalize ((w.alloc (.cells #[.int .i64 0] 23)).alloc (.cells #[.bool false] 4)) = w1 at *
  refine (endsJ z j op w1 HZ.out).mono ?_
  rintro r w2 ⟨rfl, hb2⟩
  have HX2 := Lib.hid (blk_ext hb2 HX.out)
  have HY2 := Lib.hid (blk_ext hb2 HY.out)
  have HD2 := Lib.hid (ext_trans D0.out hb2)
  have HG2 := Lib.hid (HG.out.ext hb2)
  have HJ2 := Lib.hid (HJ.out.ext hb2)
  have HS2 := Lib.hid (blk_ext hb2 HS.out)
  have HP2 := Lib.hid (blk_ext hb2 HP.out)
  have HZ2 := Lib.hid (blk_ext hb2 HZ.out)
  clear hb2
  go_wp2_with fail
  refine (errAsE_zjoin z op j s p y ip cd q _ w2 HG2.out HJ2.out HS2.out HP2.out HZ2.out HX2.out).mono ?_
  rintro r w' ⟨rfl, w3, hb3, hk3, rfl⟩
  have HX4 := Lib.hid (blk_set (n := 0) (u := .int .i64 cd) (vs' := #[.int .i64 cd]) (hk3.trans HX2.out) (by simp))
  have HY4 := Lib.hid (blk_set_other (b := q + 1) (b' := q) (n := 0) (u := .int .i64 cd) (by omega) (blk_ext hb3 HY2.out))
  have HD4 := Lib.hid ((ext_trans HD2.out hb3).setCell (p := ⟨q, 0, none⟩) (by show w.heap.size ≤ q; omega) (.int .i64 cd))
  clear hb3 hk3
  generalize (w3.setCell ⟨q, 0, none⟩ (.int .i64 cd)) = w4 at *
  have HX5 := Lib.hid (blk_set_other (b := q) (b' := q + 1) (n := 0) (u := .bool true) (by omega) HX4.out)
  have HY5 := Lib.hid (blk_set (n := 0) (u := .bool true) (vs' := #[.bool true]) HY4.out (by simp))
  have HD5 := Lib.hid (HD4.out.setCell (p := ⟨q + 1, 0, none⟩) (by show w.heap.size ≤ q + 1; omega) (.bool true))
  have hyf := blk_free HY4.out
  have hyl := blk_lt HY4.out
  have hyc := blk_cell HY4.out
  go_upto_region 3 with (fail)
  clear hyf hyl hyc
  generalize (w4.setCell ⟨q + 1, 0, none⟩ (.bool true)) = w5 at *
  have HSS : ∀ u : World, Below w.heap.size w u → u.heap[q]? = some (.cells #[.int .i64 cd] 23 (0, 0)) → u.heap[q + 1]? = some (.cells #[.bool true] 4 (0, 0)) → (Below w.heap.size w u ∧ u.heap[q]? = some (.cells #[.int .i64 cd] 23 (0, 0)) ∧ u.heap[q + 1]? = some (.cells #[.bool true] 4 (0, 0)) ∧ u.cell? ⟨q, 0, none⟩ = some (.int .i64 cd) ∧ u.frozen? ⟨q, 0, none⟩ = false ∧ u.cell? ⟨q + 1, 0, none⟩ = some (.bool true) ∧ u.frozen? ⟨q + 1, 0, none⟩ = false) :=
    fun u a b c => ⟨a, b, c, blk_cell b 0, blk_free b 0, blk_cell c 0, blk_free c 0⟩
  have K0 : ∀ u : World, (Below w.heap.size w u ∧ u.heap[q]? = some (.cells #[.int .i64 cd] 23 (0, 0)) ∧ u.heap[q + 1]? = some (.cells #[.bool true] 4 (0, 0)) ∧ u.cell? ⟨q, 0, none⟩ = some (.int .i64 cd) ∧ u.frozen? ⟨q, 0, none⟩ = false ∧ u.cell? ⟨q + 1, 0, none⟩ = some (.bool true) ∧ u.frozen? ⟨q + 1, 0, none⟩ = false) → (Below w.heap.size w u.drew ∧ u.drew.heap[q]? = some (.cells #[.int .i64 cd] 23 (0, 0)) ∧ u.drew.heap[q + 1]? = some (.cells #[.bool true] 4 (0, 0)) ∧ u.drew.cell? ⟨q, 0, none⟩ = some (.int .i64 cd) ∧ u.drew.frozen? ⟨q, 0, none⟩ = false ∧ u.drew.cell? ⟨q + 1, 0, none⟩ = some (.bool true) ∧ u.drew.frozen? ⟨q + 1, 0, none⟩ = false) := fun u ⟨a, b, c, _⟩ => HSS _ a.drew b c
  have K1 : ∀ u : World, (Below w.heap.size w u ∧ u.heap[q]? = some (.cells #[.int .i64 cd] 23 (0, 0)) ∧ u.heap[q + 1]? = some (.cells #[.bool true] 4 (0, 0)) ∧ u.cell? ⟨q, 0, none⟩ = some (.int .i64 cd) ∧ u.frozen? ⟨q, 0, none⟩ = false ∧ u.cell? ⟨q + 1, 0, none⟩ = some (.bool true) ∧ u.frozen? ⟨q + 1, 0, none⟩ = false) → (Below w.heap.size w (u.setCell ⟨q, 0, none⟩ (.int .i64 cd)) ∧ (u.setCell ⟨q, 0, none⟩ (.int .i64 cd)).heap[q]? = some (.cells #[.int .i64 cd] 23 (0, 0)) ∧ (u.setCell ⟨q, 0, none⟩ (.int .i64 cd)).heap[q + 1]? = some (.cells #[.bool true] 4 (0, 0)) ∧ (u.setCell ⟨q, 0, none⟩ (.int .i64 cd)).cell? ⟨q, 0, none⟩ = some (.int .i64 cd) ∧ (u.setCell ⟨q, 0, none⟩ (.int .i64 cd)).frozen? ⟨q, 0, none⟩ = false ∧ (u.setCell ⟨q, 0, none⟩ (.int .i64 cd)).cell? ⟨q + 1, 0, none⟩ = some (.bool true) ∧ (u.setCell ⟨q, 0, none⟩ (.int .i64 cd)).frozen? ⟨q + 1, 0, none⟩ = false) := fun u ⟨a, b, c, _⟩ => HSS _ (a.setCell (p := ⟨q, 0, none⟩) (by show w.heap.size ≤ q; omega) _) (blk_set (n := 0) b (by simp)) (blk_set_other (by omega) c)
  have K2 : ∀ u : World, (Below w.heap.size w u ∧ u.heap[q]? = some (.cells #[.int .i64 cd] 23 (0, 0)) ∧ u.heap[q + 1]? = some (.cells #[.bool true] 4 (0, 0)) ∧ u.cell? ⟨q, 0, none⟩ = some (.int .i64 cd) ∧ u.frozen? ⟨q, 0, none⟩ = false ∧ u.cell? ⟨q + 1, 0, none⟩ = some (.bool true) ∧ u.frozen? ⟨q + 1, 0, none⟩ = false) → (Below w.heap.size w (u.setCell ⟨q + 1, 0, none⟩ (.bool true)) ∧ (u.setCell ⟨q + 1, 0, none⟩ (.bool true)).heap[q]? = some (.cells #[.int .i64 cd] 23 (0, 0)) ∧ (u.setCell ⟨q + 1, 0, none⟩ (.bool true)).heap[q + 1]? = some (.cells #[.bool true] 4 (0, 0)) ∧ (u.setCell ⟨q + 1, 0, none⟩ (.bool true)).cell? ⟨q, 0, none⟩ = some (.int .i64 cd) ∧ (u.setCell ⟨q + 1, 0, none⟩ (.bool true)).frozen? ⟨q, 0, none⟩ = false ∧ (u.setCell ⟨q + 1, 0, none⟩ (.bool true)).cell? ⟨q + 1, 0, none⟩ = some (.bool true) ∧ (u.setCell ⟨q + 1, 0, none⟩ (.bool true)).frozen? ⟨q + 1, 0, none⟩ = false) := fun u ⟨a, b, c, _⟩ => HSS _ (a.setCell (p := ⟨q + 1, 0, none⟩) (by show w.heap.size ≤ q + 1; omega) _) (blk_set_other (by omega) b) (blk_set (n := 0) c (by simp))
  have H0 := HSS w5 HD5.out HX5.out HY5.out
  clear HSS HS HG2 HX2 HY2 HD2 HX4 HY4 HD4 HX5 HY5 HD5 HX HY HG D0 HJ HP HZ HJ2 HS2 HP2 HZ2
  go_region_held3 (fun u => (Below w.heap.size w u ∧ u.heap[q]? = some (.cells #[.int .i64 cd] 23 (0, 0)) ∧ u.heap[q + 1]? = some (.cells #[.bool true] 4 (0, 0)) ∧ u.cell? ⟨q, 0, none⟩ = some (.int .i64 cd) ∧ u.frozen? ⟨q, 0, none⟩ = false ∧ u.cell? ⟨q + 1, 0, none⟩ = some (.bool true) ∧ u.frozen? ⟨q + 1, 0, none⟩ = false)) (first | exact K0 _ (by assumption) | exact K1 _ (by assumption) | exact K2 _ (by assumption)) (fail)
  have HE := K0 _ (K2 _ (K1 _ H0))
  clear K0 K1 K2 H0
  generalize ((w5.setCell ⟨q, 0, none⟩ (.int .i64 cd)).setCell ⟨q + 1, 0, none⟩ (.bool true)).drew = w6 at *
  go_wp2
  refine leaves_cons (f := 37) (args := #[.pointer (some ⟨q, 0, none⟩), .pointer (some ⟨q + 1, 0, none⟩)]) (by simp) (by simp [go_sem]) ?_
  refine (cFE_idle _ _ _).mono ?_
  rintro e u' w'' ⟨rfl, rfl, rfl⟩
  simp [Leaves, settle, results, Tryd.results24, go_sem, HE.2.2.2.1, HE.2.2.2.2.2.1]
  exact HE.1
theorem code_zjoin (z : Nat) (op : ByteArray) (j s p : Nat) (y ip : ByteArray) (cd : Int) (w : World) (hG : EG w) (hJ : JN w j (.iface 51 (.pointer (some ⟨s, 0, none⟩))) (.iface 29 (.pointer (some ⟨p, 0, none⟩)))) (hs : w.heap[s]? = some (.cells #[.string y] 53 (0, 0))) (hp : w.heap[p]? = some (.cells #[.string ip, .iface 23 (.int .i64 cd)] 31 (0, 0))) (hz : w.heap[z]? = some (.cells #[.string op, .iface 55 (.pointer (some ⟨j, 0, none⟩))] 31 (0, 0))) :
    Calls Tryd.prog 12 #[.iface 29 (.pointer (some ⟨z, 0, none⟩))] w fun r w' => r = .returned (.int .i64 cd) ∧ Below w.heap.size w w' := by
  have H := Lib.hid (show _ ∧ _ ∧ _ ∧ _ ∧ _ from ⟨hG, hJ, hs, hp, hz⟩)
  clear hG hJ hs hp hz
  have hz := run_fault_nil (.pointer (some ⟨z, 0, none⟩))
  go_enter Tryd.func12, Tryd.ntmps12
  go_wp2_with (first | (refine (firstErrno_zjoin z op j s p y ip cd _ H.out.1 H.out.2.1 H.out.2.2.1 H.out.2.2.2.1 H.out.2.2.2.2).mono ?_; rintro r w1 ⟨rfl, hb1⟩))
  go_ret
  exact ⟨rfl, hb1⟩
theorem wrapJ (op : ByteArray) (j : Addr) (w : World) : Calls Tryd.prog 9 #[.string op, .iface 55 (.pointer (some j))] w fun r w' => r = .returned (.iface 29 (.pointer (some ⟨w.heap.size, 0, none⟩))) ∧ w' = w.alloc (.cells #[.string op, .iface 55 (.pointer (some j))] 31) := by
  have hz := run_fault_jnil (.pointer (some j))
  go_enter Tryd.func9, Tryd.ntmps9
  go_wp2
  go_ret
  exact ⟨rfl, rfl⟩
end Go.Proofs.YtllmkokloebomaaDoor
