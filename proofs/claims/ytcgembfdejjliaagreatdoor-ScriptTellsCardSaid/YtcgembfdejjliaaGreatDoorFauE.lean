/- errors.As: of a fault; of an Errno. -/
import Derived.Test.YtcgembfdejjliaaGreatDoorFauD
namespace Go.Proofs.YtcgembfdejjliaaGreatDoor
open Go.RowKit Go.Extern.Stop Go.Stop Go.Extern
set_option linter.unusedVariables false
set_option linter.unusedSimpArgs false

/-- the one variable of package errors -/
def EG (w : World) : Prop := w.cell? ⟨1, 0, none⟩ = some (.iface 129 (.agg #[.pointer (some ⟨10, 42, none⟩)]))
theorem EG.ext {w w' : World} (h : EG w) (hb : Below w.heap.size w w') : EG w' := ext_cell hb h
theorem EG.pos {w : World} (h : EG w) : 1 < w.heap.size := cell_lt h
theorem errAs_nil (t : Value) (w : World) : Calls Tryz.prog 45 #[.nilIface, t] w fun e w' => e = .returned (.bool false) ∧ w' = w := by
  have hz := run_nil_nil
  go_enter Tryz.func45, Tryz.ntmps45
  go_wp2
  go_ret
  exact ⟨rfl, rfl⟩
theorem run_target_F (v : Value) (w : World) : (binOp .eql 20 (.iface 92 v) .nilIface).run Tryz.prog w = .ok (.bool false) w := by kernel_rfl
theorem run_target_E (v : Value) (w : World) : (binOp .eql 20 (.iface 90 v) .nilIface).run Tryz.prog w = .ok (.bool false) w := by kernel_rfl

set_option maxHeartbeats 2000000 in
theorem errAsF_fault (p : Addr) (tb : Nat) (x : Value) (w : World) (hG : EG w)  (hT : w.heap[tb]? = some (.cells #[x] 68 (0, 0))) :
    Calls Tryz.prog 45 #[.iface 68 (.pointer (some p)), .iface 92 (.pointer (some ⟨tb, 0, none⟩))] w fun r w' => r = .returned (.bool true) ∧ HitF w tb p w' := by
  have D2 := Lib.hid (show Below w.heap.size w ((w.alloc (.cells #[.pointer (some ⟨tb, 0, none⟩)] 92)).alloc (.cells #[.pointer (some ⟨10, 92, none⟩), .pointer (some ⟨w.heap.size, 0, none⟩), .int .u64 150] 104)) from ((Below.refl w.heap.size w).alloc (Nat.le_refl _) _).alloc (by simp) _)
  have HT := Lib.hid (blk_alloc (blk_alloc hT (.cells #[.pointer (some ⟨tb, 0, none⟩)] 92)) (.cells #[.pointer (some ⟨10, 92, none⟩), .pointer (some ⟨w.heap.size, 0, none⟩), .int .u64 150] 104))
  have HV := Lib.hid (blk_alloc (blk_new w #[.pointer (some ⟨tb, 0, none⟩)] 92) (.cells #[.pointer (some ⟨10, 92, none⟩), .pointer (some ⟨w.heap.size, 0, none⟩), .int .u64 150] 104))
  have hg : ((w.alloc (.cells #[.pointer (some ⟨tb, 0, none⟩)] 92)).alloc (.cells #[.pointer (some ⟨10, 92, none⟩), .pointer (some ⟨w.heap.size, 0, none⟩), .int .u64 150] 104)).cell? ⟨1, 0, none⟩ = some (.iface 129 (.agg #[.pointer (some ⟨10, 42, none⟩)])) := hG.ext D2.out
  have hlt := hG.pos
  have hVO := @run_callFunc_extern Tryz.prog 59 _ (fun args => ReflectliteValue.unpack (args.getD 0 (.tuple #[]))) Tryz.func59 (by kernel_rfl) (by kernel_rfl) (by kernel_rfl) (by kernel_rfl)
  have hVT := @run_callFunc_extern Tryz.prog 60 _ (ReflectliteValue.methodAny (ReflectliteValue.valueError "reflectlite.Value.Type" 0) (fun t _ _ _ => ReflectliteType.toType t)) Tryz.func60 (by kernel_rfl) (by kernel_rfl) (by kernel_rfl) (by kernel_rfl)
  have hNil := @run_callFunc_extern Tryz.prog 61 _ (ReflectliteValue.method (ReflectliteValue.valueError "reflectlite.Value.IsNil" 0) ReflectliteValue.isNil) Tryz.func61 (by kernel_rfl) (by kernel_rfl) (by kernel_rfl) (by kernel_rfl)
  have hKind := @run_callFunc_extern Tryz.prog 119 _ (ReflectliteType.abiMethod fun t => do pure (.int .u8 (← Rtype.kind t))) Tryz.func119 (by kernel_rfl) (by kernel_rfl) (by kernel_rfl) (by kernel_rfl)
  have hElem := @run_callFunc_extern Tryz.prog 132 _ (ReflectliteType.method ReflectliteType.elem) Tryz.func132 (by kernel_rfl) (by kernel_rfl) (by kernel_rfl) (by kernel_rfl)
  have hImp := @run_callFunc_extern Tryz.prog 133 _ (ReflectliteType.relation "Implements" ReflectliteType.implements_) Tryz.func133 (by kernel_rfl) (by kernel_rfl) (by kernel_rfl) (by kernel_rfl)
  have xK := mKind'
  have xE := mElem'
  have xI := mImp'

  have f6 := valueOfPF
  have f7 := typePF
  have k27 := kindPF
  have k25 := kindEF
  have e27 := elemPF
  have i25 := implEF
  have n8 := isNilPF ⟨w.heap.size, 0, none⟩ ⟨tb, 0, none⟩ ((w.alloc (.cells #[.pointer (some ⟨tb, 0, none⟩)] 92)).alloc (.cells #[.pointer (some ⟨10, 92, none⟩), .pointer (some ⟨w.heap.size, 0, none⟩), .int .u64 150] 104)) (blk_cell HV.out 0)
  have hz2 := run_target_F
  have hTL := Lib.hid (blk_lt hT)
  have hz := run_fault_nil (.pointer (some p))
  clear hG hT
  go_enter Tryz.func45, Tryz.ntmps45
  go_wp2_with (first | (refine (asF_hit p tb _ x _ HT.out HV.out).mono ?_; rintro r w' ⟨rfl, hw'⟩))
  go_ret
  exact ⟨rfl, by obtain ⟨w3, h1, h2, h3⟩ := hw'; exact ⟨w3, ext_trans D2.out h1, h2.trans (D2.out.block tb hTL.out), h3⟩⟩

set_option maxHeartbeats 2000000 in
theorem errAsF_no (c : Int) (tb : Nat) (x : Value) (w : World) (hG : EG w)  (hT : w.heap[tb]? = some (.cells #[x] 68 (0, 0))) :
    Calls Tryz.prog 45 #[.iface 39 (.int .i64 c), .iface 92 (.pointer (some ⟨tb, 0, none⟩))] w fun r w' => r = .returned (.bool false) ∧ Below w.heap.size w w' := by
  have D2 := Lib.hid (show Below w.heap.size w ((w.alloc (.cells #[.pointer (some ⟨tb, 0, none⟩)] 92)).alloc (.cells #[.pointer (some ⟨10, 92, none⟩), .pointer (some ⟨w.heap.size, 0, none⟩), .int .u64 150] 104)) from ((Below.refl w.heap.size w).alloc (Nat.le_refl _) _).alloc (by simp) _)
  have HT := Lib.hid (blk_alloc (blk_alloc hT (.cells #[.pointer (some ⟨tb, 0, none⟩)] 92)) (.cells #[.pointer (some ⟨10, 92, none⟩), .pointer (some ⟨w.heap.size, 0, none⟩), .int .u64 150] 104))
  have HV := Lib.hid (blk_alloc (blk_new w #[.pointer (some ⟨tb, 0, none⟩)] 92) (.cells #[.pointer (some ⟨10, 92, none⟩), .pointer (some ⟨w.heap.size, 0, none⟩), .int .u64 150] 104))
  have hg : ((w.alloc (.cells #[.pointer (some ⟨tb, 0, none⟩)] 92)).alloc (.cells #[.pointer (some ⟨10, 92, none⟩), .pointer (some ⟨w.heap.size, 0, none⟩), .int .u64 150] 104)).cell? ⟨1, 0, none⟩ = some (.iface 129 (.agg #[.pointer (some ⟨10, 42, none⟩)])) := hG.ext D2.out
  have hlt := hG.pos
  have hVO := @run_callFunc_extern Tryz.prog 59 _ (fun args => ReflectliteValue.unpack (args.getD 0 (.tuple #[]))) Tryz.func59 (by kernel_rfl) (by kernel_rfl) (by kernel_rfl) (by kernel_rfl)
  have hVT := @run_callFunc_extern Tryz.prog 60 _ (ReflectliteValue.methodAny (ReflectliteValue.valueError "reflectlite.Value.Type" 0) (fun t _ _ _ => ReflectliteType.toType t)) Tryz.func60 (by kernel_rfl) (by kernel_rfl) (by kernel_rfl) (by kernel_rfl)
  have hNil := @run_callFunc_extern Tryz.prog 61 _ (ReflectliteValue.method (ReflectliteValue.valueError "reflectlite.Value.IsNil" 0) ReflectliteValue.isNil) Tryz.func61 (by kernel_rfl) (by kernel_rfl) (by kernel_rfl) (by kernel_rfl)
  have hKind := @run_callFunc_extern Tryz.prog 119 _ (ReflectliteType.abiMethod fun t => do pure (.int .u8 (← Rtype.kind t))) Tryz.func119 (by kernel_rfl) (by kernel_rfl) (by kernel_rfl) (by kernel_rfl)
  have hElem := @run_callFunc_extern Tryz.prog 132 _ (ReflectliteType.method ReflectliteType.elem) Tryz.func132 (by kernel_rfl) (by kernel_rfl) (by kernel_rfl) (by kernel_rfl)
  have hImp := @run_callFunc_extern Tryz.prog 133 _ (ReflectliteType.relation "Implements" ReflectliteType.implements_) Tryz.func133 (by kernel_rfl) (by kernel_rfl) (by kernel_rfl) (by kernel_rfl)
  have xK := mKind'
  have xE := mElem'
  have xI := mImp'

  have f6 := valueOfPF
  have f7 := typePF
  have k27 := kindPF
  have k25 := kindEF
  have e27 := elemPF
  have i25 := implEF
  have n8 := isNilPF ⟨w.heap.size, 0, none⟩ ⟨tb, 0, none⟩ ((w.alloc (.cells #[.pointer (some ⟨tb, 0, none⟩)] 92)).alloc (.cells #[.pointer (some ⟨10, 92, none⟩), .pointer (some ⟨w.heap.size, 0, none⟩), .int .u64 150] 104)) (blk_cell HV.out 0)
  have hz2 := run_target_F
  have hz := run_fault_isnil (.int .i64 c)
  clear hG hT
  go_enter Tryz.func45, Tryz.ntmps45
  go_wp2_with (first | (refine (asF_missE c tb _ x _ HT.out HV.out).mono ?_; rintro r w' ⟨rfl, hw'⟩))
  go_ret
  exact ⟨rfl, ext_trans D2.out hw'⟩

set_option maxHeartbeats 2000000 in
theorem errAsF_str (p : Addr) (tb : Nat) (x : Value) (w : World) (hG : EG w)  (hT : w.heap[tb]? = some (.cells #[x] 68 (0, 0))) :
    Calls Tryz.prog 45 #[.iface 173 (.pointer (some p)), .iface 92 (.pointer (some ⟨tb, 0, none⟩))] w fun r w' => r = .returned (.bool false) ∧ Below w.heap.size w w' := by
  have D2 := Lib.hid (show Below w.heap.size w ((w.alloc (.cells #[.pointer (some ⟨tb, 0, none⟩)] 92)).alloc (.cells #[.pointer (some ⟨10, 92, none⟩), .pointer (some ⟨w.heap.size, 0, none⟩), .int .u64 150] 104)) from ((Below.refl w.heap.size w).alloc (Nat.le_refl _) _).alloc (by simp) _)
  have HT := Lib.hid (blk_alloc (blk_alloc hT (.cells #[.pointer (some ⟨tb, 0, none⟩)] 92)) (.cells #[.pointer (some ⟨10, 92, none⟩), .pointer (some ⟨w.heap.size, 0, none⟩), .int .u64 150] 104))
  have HV := Lib.hid (blk_alloc (blk_new w #[.pointer (some ⟨tb, 0, none⟩)] 92) (.cells #[.pointer (some ⟨10, 92, none⟩), .pointer (some ⟨w.heap.size, 0, none⟩), .int .u64 150] 104))
  have hg : ((w.alloc (.cells #[.pointer (some ⟨tb, 0, none⟩)] 92)).alloc (.cells #[.pointer (some ⟨10, 92, none⟩), .pointer (some ⟨w.heap.size, 0, none⟩), .int .u64 150] 104)).cell? ⟨1, 0, none⟩ = some (.iface 129 (.agg #[.pointer (some ⟨10, 42, none⟩)])) := hG.ext D2.out
  have hlt := hG.pos
  have hVO := @run_callFunc_extern Tryz.prog 59 _ (fun args => ReflectliteValue.unpack (args.getD 0 (.tuple #[]))) Tryz.func59 (by kernel_rfl) (by kernel_rfl) (by kernel_rfl) (by kernel_rfl)
  have hVT := @run_callFunc_extern Tryz.prog 60 _ (ReflectliteValue.methodAny (ReflectliteValue.valueError "reflectlite.Value.Type" 0) (fun t _ _ _ => ReflectliteType.toType t)) Tryz.func60 (by kernel_rfl) (by kernel_rfl) (by kernel_rfl) (by kernel_rfl)
  have hNil := @run_callFunc_extern Tryz.prog 61 _ (ReflectliteValue.method (ReflectliteValue.valueError "reflectlite.Value.IsNil" 0) ReflectliteValue.isNil) Tryz.func61 (by kernel_rfl) (by kernel_rfl) (by kernel_rfl) (by kernel_rfl)
  have hKind := @run_callFunc_extern Tryz.prog 119 _ (ReflectliteType.abiMethod fun t => do pure (.int .u8 (← Rtype.kind t))) Tryz.func119 (by kernel_rfl) (by kernel_rfl) (by kernel_rfl) (by kernel_rfl)
  have hElem := @run_callFunc_extern Tryz.prog 132 _ (ReflectliteType.method ReflectliteType.elem) Tryz.func132 (by kernel_rfl) (by kernel_rfl) (by kernel_rfl) (by kernel_rfl)
  have hImp := @run_callFunc_extern Tryz.prog 133 _ (ReflectliteType.relation "Implements" ReflectliteType.implements_) Tryz.func133 (by kernel_rfl) (by kernel_rfl) (by kernel_rfl) (by kernel_rfl)
  have xK := mKind'
  have xE := mElem'
  have xI := mImp'

  have f6 := valueOfPF
  have f7 := typePF
  have k27 := kindPF
  have k25 := kindEF
  have e27 := elemPF
  have i25 := implEF
  have n8 := isNilPF ⟨w.heap.size, 0, none⟩ ⟨tb, 0, none⟩ ((w.alloc (.cells #[.pointer (some ⟨tb, 0, none⟩)] 92)).alloc (.cells #[.pointer (some ⟨10, 92, none⟩), .pointer (some ⟨w.heap.size, 0, none⟩), .int .u64 150] 104)) (blk_cell HV.out 0)
  have hz2 := run_target_F
  have hz := run_fault_snil (.pointer (some p))
  clear hG hT
  go_enter Tryz.func45, Tryz.ntmps45
  go_wp2_with (first | (refine (asF_missS p tb _ x _ HT.out HV.out).mono ?_; rintro r w' ⟨rfl, hw'⟩))
  go_ret
  exact ⟨rfl, ext_trans D2.out hw'⟩

set_option maxHeartbeats 2000000 in
theorem errAsE_hitF (ops : List ByteArray) (c : Int) (p : Addr) (tb : Nat) (x : Value) (w : World) (hG : EG w) (h : FC w (.iface 39 (.int .i64 c)) ops (.iface 68 (.pointer (some p)))) (hT : w.heap[tb]? = some (.cells #[x] 39 (0, 0))) :
    Calls Tryz.prog 45 #[.iface 68 (.pointer (some p)), .iface 90 (.pointer (some ⟨tb, 0, none⟩))] w fun r w' => r = .returned (.bool true) ∧ HitE w tb c w' := by
  have D2 := Lib.hid (show Below w.heap.size w ((w.alloc (.cells #[.pointer (some ⟨tb, 0, none⟩)] 90)).alloc (.cells #[.pointer (some ⟨10, 90, none⟩), .pointer (some ⟨w.heap.size, 0, none⟩), .int .u64 150] 104)) from ((Below.refl w.heap.size w).alloc (Nat.le_refl _) _).alloc (by simp) _)
  have HT := Lib.hid (blk_alloc (blk_alloc hT (.cells #[.pointer (some ⟨tb, 0, none⟩)] 90)) (.cells #[.pointer (some ⟨10, 90, none⟩), .pointer (some ⟨w.heap.size, 0, none⟩), .int .u64 150] 104))
  have HV := Lib.hid (blk_alloc (blk_new w #[.pointer (some ⟨tb, 0, none⟩)] 90) (.cells #[.pointer (some ⟨10, 90, none⟩), .pointer (some ⟨w.heap.size, 0, none⟩), .int .u64 150] 104))
  have hg : ((w.alloc (.cells #[.pointer (some ⟨tb, 0, none⟩)] 90)).alloc (.cells #[.pointer (some ⟨10, 90, none⟩), .pointer (some ⟨w.heap.size, 0, none⟩), .int .u64 150] 104)).cell? ⟨1, 0, none⟩ = some (.iface 129 (.agg #[.pointer (some ⟨10, 42, none⟩)])) := hG.ext D2.out
  have hlt := hG.pos
  have hVO := @run_callFunc_extern Tryz.prog 59 _ (fun args => ReflectliteValue.unpack (args.getD 0 (.tuple #[]))) Tryz.func59 (by kernel_rfl) (by kernel_rfl) (by kernel_rfl) (by kernel_rfl)
  have hVT := @run_callFunc_extern Tryz.prog 60 _ (ReflectliteValue.methodAny (ReflectliteValue.valueError "reflectlite.Value.Type" 0) (fun t _ _ _ => ReflectliteType.toType t)) Tryz.func60 (by kernel_rfl) (by kernel_rfl) (by kernel_rfl) (by kernel_rfl)
  have hNil := @run_callFunc_extern Tryz.prog 61 _ (ReflectliteValue.method (ReflectliteValue.valueError "reflectlite.Value.IsNil" 0) ReflectliteValue.isNil) Tryz.func61 (by kernel_rfl) (by kernel_rfl) (by kernel_rfl) (by kernel_rfl)
  have hKind := @run_callFunc_extern Tryz.prog 119 _ (ReflectliteType.abiMethod fun t => do pure (.int .u8 (← Rtype.kind t))) Tryz.func119 (by kernel_rfl) (by kernel_rfl) (by kernel_rfl) (by kernel_rfl)
  have hElem := @run_callFunc_extern Tryz.prog 132 _ (ReflectliteType.method ReflectliteType.elem) Tryz.func132 (by kernel_rfl) (by kernel_rfl) (by kernel_rfl) (by kernel_rfl)
  have hImp := @run_callFunc_extern Tryz.prog 133 _ (ReflectliteType.relation "Implements" ReflectliteType.implements_) Tryz.func133 (by kernel_rfl) (by kernel_rfl) (by kernel_rfl) (by kernel_rfl)
  have xK := mKind'
  have xE := mElem'
  have xI := mImp'

  have f6 := valueOfPE
  have f7 := typePE
  have k27 := kindPE
  have k25 := kindEE
  have e27 := elemPE
  have i25 := implEE
  have n8 := isNilPE ⟨w.heap.size, 0, none⟩ ⟨tb, 0, none⟩ ((w.alloc (.cells #[.pointer (some ⟨tb, 0, none⟩)] 90)).alloc (.cells #[.pointer (some ⟨10, 90, none⟩), .pointer (some ⟨w.heap.size, 0, none⟩), .int .u64 150] 104)) (blk_cell HV.out 0)
  have hz2 := run_target_E
  have hTL := Lib.hid (blk_lt hT)
  have HF := Lib.hid (h.ext D2.out)
  have hz := run_fault_nil (.pointer (some p))
  clear hG hT
  go_enter Tryz.func45, Tryz.ntmps45
  go_wp2_with (first | (refine (asE_hit c ops _ tb _ x _ HF.out (by simp) HT.out HV.out).mono ?_; rintro r w' ⟨rfl, hw'⟩))
  go_ret
  exact ⟨rfl, by obtain ⟨w3, h1, h2, h3⟩ := hw'; exact ⟨w3, ext_trans D2.out h1, h2.trans (D2.out.block tb hTL.out), h3⟩⟩

set_option maxHeartbeats 2000000 in
theorem errAsE_missF (ops : List ByteArray) (base : Value) (p : Addr) (tb : Nat) (x : Value) (w : World) (hG : EG w) (h : FC w base ops (.iface 68 (.pointer (some p)))) (hB : Bs w base) (hno : ∀ c, base ≠ .iface 39 (.int .i64 c)) (hT : w.heap[tb]? = some (.cells #[x] 39 (0, 0))) :
    Calls Tryz.prog 45 #[.iface 68 (.pointer (some p)), .iface 90 (.pointer (some ⟨tb, 0, none⟩))] w fun r w' => r = .returned (.bool false) ∧ Below w.heap.size w w' := by
  have D2 := Lib.hid (show Below w.heap.size w ((w.alloc (.cells #[.pointer (some ⟨tb, 0, none⟩)] 90)).alloc (.cells #[.pointer (some ⟨10, 90, none⟩), .pointer (some ⟨w.heap.size, 0, none⟩), .int .u64 150] 104)) from ((Below.refl w.heap.size w).alloc (Nat.le_refl _) _).alloc (by simp) _)
  have HT := Lib.hid (blk_alloc (blk_alloc hT (.cells #[.pointer (some ⟨tb, 0, none⟩)] 90)) (.cells #[.pointer (some ⟨10, 90, none⟩), .pointer (some ⟨w.heap.size, 0, none⟩), .int .u64 150] 104))
  have HV := Lib.hid (blk_alloc (blk_new w #[.pointer (some ⟨tb, 0, none⟩)] 90) (.cells #[.pointer (some ⟨10, 90, none⟩), .pointer (some ⟨w.heap.size, 0, none⟩), .int .u64 150] 104))
  have hg : ((w.alloc (.cells #[.pointer (some ⟨tb, 0, none⟩)] 90)).alloc (.cells #[.pointer (some ⟨10, 90, none⟩), .pointer (some ⟨w.heap.size, 0, none⟩), .int .u64 150] 104)).cell? ⟨1, 0, none⟩ = some (.iface 129 (.agg #[.pointer (some ⟨10, 42, none⟩)])) := hG.ext D2.out
  have hlt := hG.pos
  have hVO := @run_callFunc_extern Tryz.prog 59 _ (fun args => ReflectliteValue.unpack (args.getD 0 (.tuple #[]))) Tryz.func59 (by kernel_rfl) (by kernel_rfl) (by kernel_rfl) (by kernel_rfl)
  have hVT := @run_callFunc_extern Tryz.prog 60 _ (ReflectliteValue.methodAny (ReflectliteValue.valueError "reflectlite.Value.Type" 0) (fun t _ _ _ => ReflectliteType.toType t)) Tryz.func60 (by kernel_rfl) (by kernel_rfl) (by kernel_rfl) (by kernel_rfl)
  have hNil := @run_callFunc_extern Tryz.prog 61 _ (ReflectliteValue.method (ReflectliteValue.valueError "reflectlite.Value.IsNil" 0) ReflectliteValue.isNil) Tryz.func61 (by kernel_rfl) (by kernel_rfl) (by kernel_rfl) (by kernel_rfl)
  have hKind := @run_callFunc_extern Tryz.prog 119 _ (ReflectliteType.abiMethod fun t => do pure (.int .u8 (← Rtype.kind t))) Tryz.func119 (by kernel_rfl) (by kernel_rfl) (by kernel_rfl) (by kernel_rfl)
  have hElem := @run_callFunc_extern Tryz.prog 132 _ (ReflectliteType.method ReflectliteType.elem) Tryz.func132 (by kernel_rfl) (by kernel_rfl) (by kernel_rfl) (by kernel_rfl)
  have hImp := @run_callFunc_extern Tryz.prog 133 _ (ReflectliteType.relation "Implements" ReflectliteType.implements_) Tryz.func133 (by kernel_rfl) (by kernel_rfl) (by kernel_rfl) (by kernel_rfl)
  have xK := mKind'
  have xE := mElem'
  have xI := mImp'

  have f6 := valueOfPE
  have f7 := typePE
  have k27 := kindPE
  have k25 := kindEE
  have e27 := elemPE
  have i25 := implEE
  have n8 := isNilPE ⟨w.heap.size, 0, none⟩ ⟨tb, 0, none⟩ ((w.alloc (.cells #[.pointer (some ⟨tb, 0, none⟩)] 90)).alloc (.cells #[.pointer (some ⟨10, 90, none⟩), .pointer (some ⟨w.heap.size, 0, none⟩), .int .u64 150] 104)) (blk_cell HV.out 0)
  have hz2 := run_target_E
  have HF := Lib.hid (h.ext D2.out)
  have HB := Lib.hid (hB.ext D2.out)
  have HNO := Lib.hid hno
  clear hno
  have hz := run_fault_nil (.pointer (some p))
  clear hG hT
  go_enter Tryz.func45, Tryz.ntmps45
  go_wp2_with (first | (refine (asE_miss ops base _ tb _ x _ HF.out (by simp) HT.out HV.out HB.out HNO.out).mono ?_; rintro r w' ⟨rfl, hw'⟩))
  go_ret
  exact ⟨rfl, ext_trans D2.out hw'⟩

set_option maxHeartbeats 2000000 in
theorem errAsE_hitE (ops : List ByteArray) (c : Int) (p : Int) (tb : Nat) (x : Value) (w : World) (hG : EG w) (h : FC w (.iface 39 (.int .i64 c)) ops (.iface 39 (.int .i64 p))) (hT : w.heap[tb]? = some (.cells #[x] 39 (0, 0))) :
    Calls Tryz.prog 45 #[.iface 39 (.int .i64 p), .iface 90 (.pointer (some ⟨tb, 0, none⟩))] w fun r w' => r = .returned (.bool true) ∧ HitE w tb c w' := by
  have D2 := Lib.hid (show Below w.heap.size w ((w.alloc (.cells #[.pointer (some ⟨tb, 0, none⟩)] 90)).alloc (.cells #[.pointer (some ⟨10, 90, none⟩), .pointer (some ⟨w.heap.size, 0, none⟩), .int .u64 150] 104)) from ((Below.refl w.heap.size w).alloc (Nat.le_refl _) _).alloc (by simp) _)
  have HT := Lib.hid (blk_alloc (blk_alloc hT (.cells #[.pointer (some ⟨tb, 0, none⟩)] 90)) (.cells #[.pointer (some ⟨10, 90, none⟩), .pointer (some ⟨w.heap.size, 0, none⟩), .int .u64 150] 104))
  have HV := Lib.hid (blk_alloc (blk_new w #[.pointer (some ⟨tb, 0, none⟩)] 90) (.cells #[.pointer (some ⟨10, 90, none⟩), .pointer (some ⟨w.heap.size, 0, none⟩), .int .u64 150] 104))
  have hg : ((w.alloc (.cells #[.pointer (some ⟨tb, 0, none⟩)] 90)).alloc (.cells #[.pointer (some ⟨10, 90, none⟩), .pointer (some ⟨w.heap.size, 0, none⟩), .int .u64 150] 104)).cell? ⟨1, 0, none⟩ = some (.iface 129 (.agg #[.pointer (some ⟨10, 42, none⟩)])) := hG.ext D2.out
  have hlt := hG.pos
  have hVO := @run_callFunc_extern Tryz.prog 59 _ (fun args => ReflectliteValue.unpack (args.getD 0 (.tuple #[]))) Tryz.func59 (by kernel_rfl) (by kernel_rfl) (by kernel_rfl) (by kernel_rfl)
  have hVT := @run_callFunc_extern Tryz.prog 60 _ (ReflectliteValue.methodAny (ReflectliteValue.valueError "reflectlite.Value.Type" 0) (fun t _ _ _ => ReflectliteType.toType t)) Tryz.func60 (by kernel_rfl) (by kernel_rfl) (by kernel_rfl) (by kernel_rfl)
  have hNil := @run_callFunc_extern Tryz.prog 61 _ (ReflectliteValue.method (ReflectliteValue.valueError "reflectlite.Value.IsNil" 0) ReflectliteValue.isNil) Tryz.func61 (by kernel_rfl) (by kernel_rfl) (by kernel_rfl) (by kernel_rfl)
  have hKind := @run_callFunc_extern Tryz.prog 119 _ (ReflectliteType.abiMethod fun t => do pure (.int .u8 (← Rtype.kind t))) Tryz.func119 (by kernel_rfl) (by kernel_rfl) (by kernel_rfl) (by kernel_rfl)
  have hElem := @run_callFunc_extern Tryz.prog 132 _ (ReflectliteType.method ReflectliteType.elem) Tryz.func132 (by kernel_rfl) (by kernel_rfl) (by kernel_rfl) (by kernel_rfl)
  have hImp := @run_callFunc_extern Tryz.prog 133 _ (ReflectliteType.relation "Implements" ReflectliteType.implements_) Tryz.func133 (by kernel_rfl) (by kernel_rfl) (by kernel_rfl) (by kernel_rfl)
  have xK := mKind'
  have xE := mElem'
  have xI := mImp'

  have f6 := valueOfPE
  have f7 := typePE
  have k27 := kindPE
  have k25 := kindEE
  have e27 := elemPE
  have i25 := implEE
  have n8 := isNilPE ⟨w.heap.size, 0, none⟩ ⟨tb, 0, none⟩ ((w.alloc (.cells #[.pointer (some ⟨tb, 0, none⟩)] 90)).alloc (.cells #[.pointer (some ⟨10, 90, none⟩), .pointer (some ⟨w.heap.size, 0, none⟩), .int .u64 150] 104)) (blk_cell HV.out 0)
  have hz2 := run_target_E
  have hTL := Lib.hid (blk_lt hT)
  have HF := Lib.hid (h.ext D2.out)
  have hz := run_fault_isnil (.int .i64 p)
  clear hG hT
  go_enter Tryz.func45, Tryz.ntmps45
  go_wp2_with (first | (refine (asE_hit c ops _ tb _ x _ HF.out (by simp) HT.out HV.out).mono ?_; rintro r w' ⟨rfl, hw'⟩))
  go_ret
  exact ⟨rfl, by obtain ⟨w3, h1, h2, h3⟩ := hw'; exact ⟨w3, ext_trans D2.out h1, h2.trans (D2.out.block tb hTL.out), h3⟩⟩

set_option maxHeartbeats 2000000 in
theorem errAsE_missE (ops : List ByteArray) (base : Value) (p : Int) (tb : Nat) (x : Value) (w : World) (hG : EG w) (h : FC w base ops (.iface 39 (.int .i64 p))) (hB : Bs w base) (hno : ∀ c, base ≠ .iface 39 (.int .i64 c)) (hT : w.heap[tb]? = some (.cells #[x] 39 (0, 0))) :
    Calls Tryz.prog 45 #[.iface 39 (.int .i64 p), .iface 90 (.pointer (some ⟨tb, 0, none⟩))] w fun r w' => r = .returned (.bool false) ∧ Below w.heap.size w w' := by
  have D2 := Lib.hid (show Below w.heap.size w ((w.alloc (.cells #[.pointer (some ⟨tb, 0, none⟩)] 90)).alloc (.cells #[.pointer (some ⟨10, 90, none⟩), .pointer (some ⟨w.heap.size, 0, none⟩), .int .u64 150] 104)) from ((Below.refl w.heap.size w).alloc (Nat.le_refl _) _).alloc (by simp) _)
  have HT := Lib.hid (blk_alloc (blk_alloc hT (.cells #[.pointer (some ⟨tb, 0, none⟩)] 90)) (.cells #[.pointer (some ⟨10, 90, none⟩), .pointer (some ⟨w.heap.size, 0, none⟩), .int .u64 150] 104))
  have HV := Lib.hid (blk_alloc (blk_new w #[.pointer (some ⟨tb, 0, none⟩)] 90) (.cells #[.pointer (some ⟨10, 90, none⟩), .pointer (some ⟨w.heap.size, 0, none⟩), .int .u64 150] 104))
  have hg : ((w.alloc (.cells #[.pointer (some ⟨tb, 0, none⟩)] 90)).alloc (.cells #[.pointer (some ⟨10, 90, none⟩), .pointer (some ⟨w.heap.size, 0, none⟩), .int .u64 150] 104)).cell? ⟨1, 0, none⟩ = some (.iface 129 (.agg #[.pointer (some ⟨10, 42, none⟩)])) := hG.ext D2.out
  have hlt := hG.pos
  have hVO := @run_callFunc_extern Tryz.prog 59 _ (fun args => ReflectliteValue.unpack (args.getD 0 (.tuple #[]))) Tryz.func59 (by kernel_rfl) (by kernel_rfl) (by kernel_rfl) (by kernel_rfl)
  have hVT := @run_callFunc_extern Tryz.prog 60 _ (ReflectliteValue.methodAny (ReflectliteValue.valueError "reflectlite.Value.Type" 0) (fun t _ _ _ => ReflectliteType.toType t)) Tryz.func60 (by kernel_rfl) (by kernel_rfl) (by kernel_rfl) (by kernel_rfl)
  have hNil := @run_callFunc_extern Tryz.prog 61 _ (ReflectliteValue.method (ReflectliteValue.valueError "reflectlite.Value.IsNil" 0) ReflectliteValue.isNil) Tryz.func61 (by kernel_rfl) (by kernel_rfl) (by kernel_rfl) (by kernel_rfl)
  have hKind := @run_callFunc_extern Tryz.prog 119 _ (ReflectliteType.abiMethod fun t => do pure (.int .u8 (← Rtype.kind t))) Tryz.func119 (by kernel_rfl) (by kernel_rfl) (by kernel_rfl) (by kernel_rfl)
  have hElem := @run_callFunc_extern Tryz.prog 132 _ (ReflectliteType.method ReflectliteType.elem) Tryz.func132 (by kernel_rfl) (by kernel_rfl) (by kernel_rfl) (by kernel_rfl)
  have hImp := @run_callFunc_extern Tryz.prog 133 _ (ReflectliteType.relation "Implements" ReflectliteType.implements_) Tryz.func133 (by kernel_rfl) (by kernel_rfl) (by kernel_rfl) (by kernel_rfl)
  have xK := mKind'
  have xE := mElem'
  have xI := mImp'

  have f6 := valueOfPE
  have f7 := typePE
  have k27 := kindPE
  have k25 := kindEE
  have e27 := elemPE
  have i25 := implEE
  have n8 := isNilPE ⟨w.heap.size, 0, none⟩ ⟨tb, 0, none⟩ ((w.alloc (.cells #[.pointer (some ⟨tb, 0, none⟩)] 90)).alloc (.cells #[.pointer (some ⟨10, 90, none⟩), .pointer (some ⟨w.heap.size, 0, none⟩), .int .u64 150] 104)) (blk_cell HV.out 0)
  have hz2 := run_target_E
  have HF := Lib.hid (h.ext D2.out)
  have HB := Lib.hid (hB.ext D2.out)
  have HNO := Lib.hid hno
  clear hno
  have hz := run_fault_isnil (.int .i64 p)
  clear hG hT
  go_enter Tryz.func45, Tryz.ntmps45
  go_wp2_with (first | (refine (asE_miss ops base _ tb _ x _ HF.out (by simp) HT.out HV.out HB.out HNO.out).mono ?_; rintro r w' ⟨rfl, hw'⟩))
  go_ret
  exact ⟨rfl, ext_trans D2.out hw'⟩

set_option maxHeartbeats 2000000 in
theorem errAsE_hitS (ops : List ByteArray) (c : Int) (p : Addr) (tb : Nat) (x : Value) (w : World) (hG : EG w) (h : FC w (.iface 39 (.int .i64 c)) ops (.iface 173 (.pointer (some p)))) (hT : w.heap[tb]? = some (.cells #[x] 39 (0, 0))) :
    Calls Tryz.prog 45 #[.iface 173 (.pointer (some p)), .iface 90 (.pointer (some ⟨tb, 0, none⟩))] w fun r w' => r = .returned (.bool true) ∧ HitE w tb c w' := by
  have D2 := Lib.hid (show Below w.heap.size w ((w.alloc (.cells #[.pointer (some ⟨tb, 0, none⟩)] 90)).alloc (.cells #[.pointer (some ⟨10, 90, none⟩), .pointer (some ⟨w.heap.size, 0, none⟩), .int .u64 150] 104)) from ((Below.refl w.heap.size w).alloc (Nat.le_refl _) _).alloc (by simp) _)
  have HT := Lib.hid (blk_alloc (blk_alloc hT (.cells #[.pointer (some ⟨tb, 0, none⟩)] 90)) (.cells #[.pointer (some ⟨10, 90, none⟩), .pointer (some ⟨w.heap.size, 0, none⟩), .int .u64 150] 104))
  have HV := Lib.hid (blk_alloc (blk_new w #[.pointer (some ⟨tb, 0, none⟩)] 90) (.cells #[.pointer (some ⟨10, 90, none⟩), .pointer (some ⟨w.heap.size, 0, none⟩), .int .u64 150] 104))
  have hg : ((w.alloc (.cells #[.pointer (some ⟨tb, 0, none⟩)] 90)).alloc (.cells #[.pointer (some ⟨10, 90, none⟩), .pointer (some ⟨w.heap.size, 0, none⟩), .int .u64 150] 104)).cell? ⟨1, 0, none⟩ = some (.iface 129 (.agg #[.pointer (some ⟨10, 42, none⟩)])) := hG.ext D2.out
  have hlt := hG.pos
  have hVO := @run_callFunc_extern Tryz.prog 59 _ (fun args => ReflectliteValue.unpack (args.getD 0 (.tuple #[]))) Tryz.func59 (by kernel_rfl) (by kernel_rfl) (by kernel_rfl) (by kernel_rfl)
  have hVT := @run_callFunc_extern Tryz.prog 60 _ (ReflectliteValue.methodAny (ReflectliteValue.valueError "reflectlite.Value.Type" 0) (fun t _ _ _ => ReflectliteType.toType t)) Tryz.func60 (by kernel_rfl) (by kernel_rfl) (by kernel_rfl) (by kernel_rfl)
  have hNil := @run_callFunc_extern Tryz.prog 61 _ (ReflectliteValue.method (ReflectliteValue.valueError "reflectlite.Value.IsNil" 0) ReflectliteValue.isNil) Tryz.func61 (by kernel_rfl) (by kernel_rfl) (by kernel_rfl) (by kernel_rfl)
  have hKind := @run_callFunc_extern Tryz.prog 119 _ (ReflectliteType.abiMethod fun t => do pure (.int .u8 (← Rtype.kind t))) Tryz.func119 (by kernel_rfl) (by kernel_rfl) (by kernel_rfl) (by kernel_rfl)
  have hElem := @run_callFunc_extern Tryz.prog 132 _ (ReflectliteType.method ReflectliteType.elem) Tryz.func132 (by kernel_rfl) (by kernel_rfl) (by kernel_rfl) (by kernel_rfl)
  have hImp := @run_callFunc_extern Tryz.prog 133 _ (ReflectliteType.relation "Implements" ReflectliteType.implements_) Tryz.func133 (by kernel_rfl) (by kernel_rfl) (by kernel_rfl) (by kernel_rfl)
  have xK := mKind'
  have xE := mElem'
  have xI := mImp'

  have f6 := valueOfPE
  have f7 := typePE
  have k27 := kindPE
  have k25 := kindEE
  have e27 := elemPE
  have i25 := implEE
  have n8 := isNilPE ⟨w.heap.size, 0, none⟩ ⟨tb, 0, none⟩ ((w.alloc (.cells #[.pointer (some ⟨tb, 0, none⟩)] 90)).alloc (.cells #[.pointer (some ⟨10, 90, none⟩), .pointer (some ⟨w.heap.size, 0, none⟩), .int .u64 150] 104)) (blk_cell HV.out 0)
  have hz2 := run_target_E
  have hTL := Lib.hid (blk_lt hT)
  have HF := Lib.hid (h.ext D2.out)
  have hz := run_fault_snil (.pointer (some p))
  clear hG hT
  go_enter Tryz.func45, Tryz.ntmps45
  go_wp2_with (first | (refine (asE_hit c ops _ tb _ x _ HF.out (by simp) HT.out HV.out).mono ?_; rintro r w' ⟨rfl, hw'⟩))
  go_ret
  exact ⟨rfl, by obtain ⟨w3, h1, h2, h3⟩ := hw'; exact ⟨w3, ext_trans D2.out h1, h2.trans (D2.out.block tb hTL.out), h3⟩⟩

set_option maxHeartbeats 2000000 in
theorem errAsE_missS (ops : List ByteArray) (base : Value) (p : Addr) (tb : Nat) (x : Value) (w : World) (hG : EG w) (h : FC w base ops (.iface 173 (.pointer (some p)))) (hB : Bs w base) (hno : ∀ c, base ≠ .iface 39 (.int .i64 c)) (hT : w.heap[tb]? = some (.cells #[x] 39 (0, 0))) :
    Calls Tryz.prog 45 #[.iface 173 (.pointer (some p)), .iface 90 (.pointer (some ⟨tb, 0, none⟩))] w fun r w' => r = .returned (.bool false) ∧ Below w.heap.size w w' := by
  have D2 := Lib.hid (show Below w.heap.size w ((w.alloc (.cells #[.pointer (some ⟨tb, 0, none⟩)] 90)).alloc (.cells #[.pointer (some ⟨10, 90, none⟩), .pointer (some ⟨w.heap.size, 0, none⟩), .int .u64 150] 104)) from ((Below.refl w.heap.size w).alloc (Nat.le_refl _) _).alloc (by simp) _)
  have HT := Lib.hid (blk_alloc (blk_alloc hT (.cells #[.pointer (some ⟨tb, 0, none⟩)] 90)) (.cells #[.pointer (some ⟨10, 90, none⟩), .pointer (some ⟨w.heap.size, 0, none⟩), .int .u64 150] 104))
  have HV := Lib.hid (blk_alloc (blk_new w #[.pointer (some ⟨tb, 0, none⟩)] 90) (.cells #[.pointer (some ⟨10, 90, none⟩), .pointer (some ⟨w.heap.size, 0, none⟩), .int .u64 150] 104))
  have hg : ((w.alloc (.cells #[.pointer (some ⟨tb, 0, none⟩)] 90)).alloc (.cells #[.pointer (some ⟨10, 90, none⟩), .pointer (some ⟨w.heap.size, 0, none⟩), .int .u64 150] 104)).cell? ⟨1, 0, none⟩ = some (.iface 129 (.agg #[.pointer (some ⟨10, 42, none⟩)])) := hG.ext D2.out
  have hlt := hG.pos
  have hVO := @run_callFunc_extern Tryz.prog 59 _ (fun args => ReflectliteValue.unpack (args.getD 0 (.tuple #[]))) Tryz.func59 (by kernel_rfl) (by kernel_rfl) (by kernel_rfl) (by kernel_rfl)
  have hVT := @run_callFunc_extern Tryz.prog 60 _ (ReflectliteValue.methodAny (ReflectliteValue.valueError "reflectlite.Value.Type" 0) (fun t _ _ _ => ReflectliteType.toType t)) Tryz.func60 (by kernel_rfl) (by kernel_rfl) (by kernel_rfl) (by kernel_rfl)
  have hNil := @run_callFunc_extern Tryz.prog 61 _ (ReflectliteValue.method (ReflectliteValue.valueError "reflectlite.Value.IsNil" 0) ReflectliteValue.isNil) Tryz.func61 (by kernel_rfl) (by kernel_rfl) (by kernel_rfl) (by kernel_rfl)
  have hKind := @run_callFunc_extern Tryz.prog 119 _ (ReflectliteType.abiMethod fun t => do pure (.int .u8 (← Rtype.kind t))) Tryz.func119 (by kernel_rfl) (by kernel_rfl) (by kernel_rfl) (by kernel_rfl)
  have hElem := @run_callFunc_extern Tryz.prog 132 _ (ReflectliteType.method ReflectliteType.elem) Tryz.func132 (by kernel_rfl) (by kernel_rfl) (by kernel_rfl) (by kernel_rfl)
  have hImp := @run_callFunc_extern Tryz.prog 133 _ (ReflectliteType.relation "Implements" ReflectliteType.implements_) Tryz.func133 (by kernel_rfl) (by kernel_rfl) (by kernel_rfl) (by kernel_rfl)
  have xK := mKind'
  have xE := mElem'
  have xI := mImp'

  have f6 := valueOfPE
  have f7 := typePE
  have k27 := kindPE
  have k25 := kindEE
  have e27 := elemPE
  have i25 := implEE
  have n8 := isNilPE ⟨w.heap.size, 0, none⟩ ⟨tb, 0, none⟩ ((w.alloc (.cells #[.pointer (some ⟨tb, 0, none⟩)] 90)).alloc (.cells #[.pointer (some ⟨10, 90, none⟩), .pointer (some ⟨w.heap.size, 0, none⟩), .int .u64 150] 104)) (blk_cell HV.out 0)
  have hz2 := run_target_E
  have HF := Lib.hid (h.ext D2.out)
  have HB := Lib.hid (hB.ext D2.out)
  have HNO := Lib.hid hno
  clear hno
  have hz := run_fault_snil (.pointer (some p))
  clear hG hT
  go_enter Tryz.func45, Tryz.ntmps45
  go_wp2_with (first | (refine (asE_miss ops base _ tb _ x _ HF.out (by simp) HT.out HV.out HB.out HNO.out).mono ?_; rintro r w' ⟨rfl, hw'⟩))
  go_ret
  exact ⟨rfl, ext_trans D2.out hw'⟩

theorem errAsE_hit (ops : List ByteArray) (c : Int) (e : Value) (tb : Nat) (x : Value) (w : World) (hG : EG w) (hT : w.heap[tb]? = some (.cells #[x] 39 (0, 0))) (h : FC w (.iface 39 (.int .i64 c)) ops e) :
    Calls Tryz.prog 45 #[e, .iface 90 (.pointer (some ⟨tb, 0, none⟩))] w fun r w' => r = .returned (.bool true) ∧ HitE w tb c w' := by
  rcases FC.shape (.no c) h with rfl | ⟨p, rfl⟩ | ⟨p, rfl⟩ | ⟨p, rfl⟩
  · exact absurd (FC.base_nil h) (by simp)
  · exact errAsE_hitF ops c p tb x w hG h hT
  · exact errAsE_hitE ops c p tb x w hG h hT
  · exact errAsE_hitS ops c p tb x w hG h hT
theorem errAsE_miss (ops : List ByteArray) (base e : Value) (tb : Nat) (x : Value) (w : World) (hG : EG w) (hT : w.heap[tb]? = some (.cells #[x] 39 (0, 0))) (h : FC w base ops e) (hB : Bs w base) (hno : ∀ c, base ≠ .iface 39 (.int .i64 c)) :
    Calls Tryz.prog 45 #[e, .iface 90 (.pointer (some ⟨tb, 0, none⟩))] w fun r w' => r = .returned (.bool false) ∧ Below w.heap.size w w' := by
  rcases FC.shape hB h with rfl | ⟨p, rfl⟩ | ⟨p, rfl⟩ | ⟨p, rfl⟩
  · exact (errAs_nil _ w).mono fun r w' ⟨h1, h2⟩ => ⟨h1, by rw [h2]; exact Below.refl _ _⟩
  · exact errAsE_missF ops base p tb x w hG h hB hno hT
  · exact errAsE_missE ops base p tb x w hG h hB hno hT
  · exact errAsE_missS ops base p tb x w hG h hB hno hT
theorem errAsF_base (base : Value) (tb : Nat) (x : Value) (w : World) (hG : EG w) (hT : w.heap[tb]? = some (.cells #[x] 68 (0, 0))) (hB : Bs w base) :
    Calls Tryz.prog 45 #[base, .iface 92 (.pointer (some ⟨tb, 0, none⟩))] w fun r w' => r = .returned (.bool false) ∧ Below w.heap.size w w' := by
  cases hB with
  | nil => exact (errAs_nil _ w).mono fun r w' ⟨h1, h2⟩ => ⟨h1, by rw [h2]; exact Below.refl _ _⟩
  | no c => exact errAsF_no c tb x w hG hT
  | str s y h => exact errAsF_str _ tb x w hG hT
end Go.Proofs.YtcgembfdejjliaaGreatDoor
