/- errors.as: at a fault; at an Errno. -/
import Derived.Test.YtcgembfdejjliaaGreatDoorFauC
namespace Go.Proofs.YtcgembfdejjliaaGreatDoor
open Go.RowKit Go.Extern.Stop Go.Stop Go.Extern
set_option linter.unusedVariables false
set_option linter.unusedSimpArgs false


/-- what is found is laid down -/
def HitF (w : World) (tb : Nat) (p : Addr) (w' : World) : Prop := ∃ w1, Below w.heap.size w w1 ∧ w1.heap[tb]? = w.heap[tb]? ∧ w' = w1.setCell ⟨tb, 0, none⟩ (.pointer (some p))

set_option maxHeartbeats 1000000 in
theorem asF_hit (p : Addr) (tb vb : Nat) (x : Value) (w : World) (hT : w.heap[tb]? = some (.cells #[x] 68 (0, 0))) (hV : w.heap[vb]? = some (.cells #[.pointer (some ⟨tb, 0, none⟩)] 92 (0, 0))) :
    Calls Tryz.prog 62 #[.iface 68 (.pointer (some p)), .iface 92 (.pointer (some ⟨tb, 0, none⟩)), .agg #[.pointer (some ⟨10, 92, none⟩), .pointer (some ⟨vb, 0, none⟩), .int .u64 150], .iface 129 (.agg #[.pointer (some ⟨10, 68, none⟩)])] w fun r w' => r = .returned (.bool true) ∧ HitF w tb p w' := by

  have D0 := Lib.hid ((Below.refl w.heap.size w).alloc (Nat.le_refl _) (.cells #[.pointer (some ⟨10, 92, none⟩), .pointer (some ⟨vb, 0, none⟩), .int .u64 150] 104))
  have HT := Lib.hid (blk_alloc hT (.cells #[.pointer (some ⟨10, 92, none⟩), .pointer (some ⟨vb, 0, none⟩), .int .u64 150] 104))
  have HV := Lib.hid (blk_alloc hV (.cells #[.pointer (some ⟨10, 92, none⟩), .pointer (some ⟨vb, 0, none⟩), .int .u64 150] 104))
  have HX := Lib.hid (blk_new w #[.pointer (some ⟨10, 92, none⟩), .pointer (some ⟨vb, 0, none⟩), .int .u64 150] 104)
  have htl := blk_lt hT
  have hvl := blk_lt hV
  have hTO := @run_callFunc_extern Tryz.prog 67 _ ReflectliteType.typeOf Tryz.func67 (by kernel_rfl) (by kernel_rfl) (by kernel_rfl) (by kernel_rfl)
  have hVO := @run_callFunc_extern Tryz.prog 59 _ (fun args => ReflectliteValue.unpack (args.getD 0 (.tuple #[]))) Tryz.func59 (by kernel_rfl) (by kernel_rfl) (by kernel_rfl) (by kernel_rfl)
  have hAss := @run_callFunc_extern Tryz.prog 130 _ (ReflectliteType.relation "AssignableTo" ReflectliteType.assignableTo) Tryz.func130 (by kernel_rfl) (by kernel_rfl) (by kernel_rfl) (by kernel_rfl)
  have hVE := @run_callFunc_extern Tryz.prog 77 _ (ReflectliteValue.method (ReflectliteValue.valueError "reflectlite.Value.Elem" 0) ReflectliteValue.elem) Tryz.func77 (by kernel_rfl) (by kernel_rfl) (by kernel_rfl) (by kernel_rfl)
  have hSet := @run_callFunc_extern Tryz.prog 78 _ ReflectliteValue.set Tryz.func78 (by kernel_rfl) (by kernel_rfl) (by kernel_rfl) (by kernel_rfl)
  have tA := mAss'

  have tO := typeOfF
  have aS := assFF
  have n1 := elemVF ⟨vb, 0, none⟩ ⟨tb, 0, none⟩ (w.alloc (.cells #[.pointer (some ⟨10, 92, none⟩), .pointer (some ⟨vb, 0, none⟩), .int .u64 150] 104)) (blk_cell HV.out 0)
  have n2 := valueOfEF
  have n3 := setEF ⟨tb, 0, none⟩ ⟨(w.alloc (.cells #[.pointer (some ⟨10, 92, none⟩), .pointer (some ⟨vb, 0, none⟩), .int .u64 150] 104)).heap.size, 0, none⟩ p x ((w.alloc (.cells #[.pointer (some ⟨10, 92, none⟩), .pointer (some ⟨vb, 0, none⟩), .int .u64 150] 104)).alloc (.cells #[.pointer (some p)] 68)) (blk_cell (blk_new _ _ _) 0) (blk_cell (blk_alloc HT.out _) 0) (blk_free (blk_alloc HT.out _) 0)

  go_enter Tryz.func62, Tryz.ntmps62
  go_wp2
  obtain ⟨q, hq⟩ : ∃ q, w.heap.size = q := ⟨_, rfl⟩
  rw [hq] at HX
  try rw [hq]
  generalize (w.alloc (.cells #[.pointer (some ⟨10, 92, none⟩), .pointer (some ⟨vb, 0, none⟩), .int .u64 150] 104)) = w1 at *
  have hxc := blk_cell HX.out
  have hxl := blk_lt HX.out
  go_loopw [0] (fun ev wr => ev = .iface 68 (.pointer (some p)) ∧ wr = w1) (fun _ _ => 0)
  · exact ⟨rfl, rfl⟩
  obtain ⟨rfl, rfl⟩ := hrel
  go_wp2
  go_ret
  exact ⟨rfl, _, D0.out.alloc (by have := D0.out.size; omega) _, by rw [blk_alloc HT.out, hT], rfl⟩

/-- what is found is laid down -/
def HitE (w : World) (tb : Nat) (c : Int) (w' : World) : Prop := ∃ w1, Below w.heap.size w w1 ∧ w1.heap[tb]? = w.heap[tb]? ∧ w' = w1.setCell ⟨tb, 0, none⟩ (.int .i64 c)

set_option maxHeartbeats 1000000 in
theorem asF_missE (c : Int) (tb vb : Nat) (x : Value) (w : World) (hT : w.heap[tb]? = some (.cells #[x] 68 (0, 0))) (hV : w.heap[vb]? = some (.cells #[.pointer (some ⟨tb, 0, none⟩)] 92 (0, 0))) :
    Calls Tryz.prog 62 #[.iface 39 (.int .i64 c), .iface 92 (.pointer (some ⟨tb, 0, none⟩)), .agg #[.pointer (some ⟨10, 92, none⟩), .pointer (some ⟨vb, 0, none⟩), .int .u64 150], .iface 129 (.agg #[.pointer (some ⟨10, 68, none⟩)])] w fun r w' => r = .returned (.bool false) ∧ Below w.heap.size w w' := by

  have D0 := Lib.hid ((Below.refl w.heap.size w).alloc (Nat.le_refl _) (.cells #[.pointer (some ⟨10, 92, none⟩), .pointer (some ⟨vb, 0, none⟩), .int .u64 150] 104))
  have HT := Lib.hid (blk_alloc hT (.cells #[.pointer (some ⟨10, 92, none⟩), .pointer (some ⟨vb, 0, none⟩), .int .u64 150] 104))
  have HV := Lib.hid (blk_alloc hV (.cells #[.pointer (some ⟨10, 92, none⟩), .pointer (some ⟨vb, 0, none⟩), .int .u64 150] 104))
  have HX := Lib.hid (blk_new w #[.pointer (some ⟨10, 92, none⟩), .pointer (some ⟨vb, 0, none⟩), .int .u64 150] 104)
  have htl := blk_lt hT
  have hvl := blk_lt hV
  have hTO := @run_callFunc_extern Tryz.prog 67 _ ReflectliteType.typeOf Tryz.func67 (by kernel_rfl) (by kernel_rfl) (by kernel_rfl) (by kernel_rfl)
  have hVO := @run_callFunc_extern Tryz.prog 59 _ (fun args => ReflectliteValue.unpack (args.getD 0 (.tuple #[]))) Tryz.func59 (by kernel_rfl) (by kernel_rfl) (by kernel_rfl) (by kernel_rfl)
  have hAss := @run_callFunc_extern Tryz.prog 130 _ (ReflectliteType.relation "AssignableTo" ReflectliteType.assignableTo) Tryz.func130 (by kernel_rfl) (by kernel_rfl) (by kernel_rfl) (by kernel_rfl)
  have hVE := @run_callFunc_extern Tryz.prog 77 _ (ReflectliteValue.method (ReflectliteValue.valueError "reflectlite.Value.Elem" 0) ReflectliteValue.elem) Tryz.func77 (by kernel_rfl) (by kernel_rfl) (by kernel_rfl) (by kernel_rfl)
  have hSet := @run_callFunc_extern Tryz.prog 78 _ ReflectliteValue.set Tryz.func78 (by kernel_rfl) (by kernel_rfl) (by kernel_rfl) (by kernel_rfl)
  have tA := mAss'
  have s1 := noAsF
  have s2 := noAsE
  have s3 := noAsS
  have u1 := hasUF
  have u2 := noUE
  have u3 := noUS
  have v2 := noUsE
  have v3 := noUsS
  have mU := mUnw

  have tO := typeOfE
  have aS := assEF

  go_enter Tryz.func62, Tryz.ntmps62
  go_wp2
  obtain ⟨q, hq⟩ : ∃ q, w.heap.size = q := ⟨_, rfl⟩
  rw [hq] at HX
  try rw [hq]
  generalize (w.alloc (.cells #[.pointer (some ⟨10, 92, none⟩), .pointer (some ⟨vb, 0, none⟩), .int .u64 150] 104)) = w1 at *
  have hxc := blk_cell HX.out
  have hxl := blk_lt HX.out

  go_loopw [0] (fun ev wr => ev = .iface 39 (.int .i64 c) ∧ wr = w1) (fun _ _ => 0)
  · exact ⟨rfl, rfl⟩
  obtain ⟨rfl, rfl⟩ := hrel
  go_wp2
  go_ret
  exact ⟨rfl, D0.out⟩

set_option maxHeartbeats 1000000 in
theorem asF_missS (p : Addr) (tb vb : Nat) (x : Value) (w : World) (hT : w.heap[tb]? = some (.cells #[x] 68 (0, 0))) (hV : w.heap[vb]? = some (.cells #[.pointer (some ⟨tb, 0, none⟩)] 92 (0, 0))) :
    Calls Tryz.prog 62 #[.iface 173 (.pointer (some p)), .iface 92 (.pointer (some ⟨tb, 0, none⟩)), .agg #[.pointer (some ⟨10, 92, none⟩), .pointer (some ⟨vb, 0, none⟩), .int .u64 150], .iface 129 (.agg #[.pointer (some ⟨10, 68, none⟩)])] w fun r w' => r = .returned (.bool false) ∧ Below w.heap.size w w' := by

  have D0 := Lib.hid ((Below.refl w.heap.size w).alloc (Nat.le_refl _) (.cells #[.pointer (some ⟨10, 92, none⟩), .pointer (some ⟨vb, 0, none⟩), .int .u64 150] 104))
  have HT := Lib.hid (blk_alloc hT (.cells #[.pointer (some ⟨10, 92, none⟩), .pointer (some ⟨vb, 0, none⟩), .int .u64 150] 104))
  have HV := Lib.hid (blk_alloc hV (.cells #[.pointer (some ⟨10, 92, none⟩), .pointer (some ⟨vb, 0, none⟩), .int .u64 150] 104))
  have HX := Lib.hid (blk_new w #[.pointer (some ⟨10, 92, none⟩), .pointer (some ⟨vb, 0, none⟩), .int .u64 150] 104)
  have htl := blk_lt hT
  have hvl := blk_lt hV
  have hTO := @run_callFunc_extern Tryz.prog 67 _ ReflectliteType.typeOf Tryz.func67 (by kernel_rfl) (by kernel_rfl) (by kernel_rfl) (by kernel_rfl)
  have hVO := @run_callFunc_extern Tryz.prog 59 _ (fun args => ReflectliteValue.unpack (args.getD 0 (.tuple #[]))) Tryz.func59 (by kernel_rfl) (by kernel_rfl) (by kernel_rfl) (by kernel_rfl)
  have hAss := @run_callFunc_extern Tryz.prog 130 _ (ReflectliteType.relation "AssignableTo" ReflectliteType.assignableTo) Tryz.func130 (by kernel_rfl) (by kernel_rfl) (by kernel_rfl) (by kernel_rfl)
  have hVE := @run_callFunc_extern Tryz.prog 77 _ (ReflectliteValue.method (ReflectliteValue.valueError "reflectlite.Value.Elem" 0) ReflectliteValue.elem) Tryz.func77 (by kernel_rfl) (by kernel_rfl) (by kernel_rfl) (by kernel_rfl)
  have hSet := @run_callFunc_extern Tryz.prog 78 _ ReflectliteValue.set Tryz.func78 (by kernel_rfl) (by kernel_rfl) (by kernel_rfl) (by kernel_rfl)
  have tA := mAss'
  have s1 := noAsF
  have s2 := noAsE
  have s3 := noAsS
  have u1 := hasUF
  have u2 := noUE
  have u3 := noUS
  have v2 := noUsE
  have v3 := noUsS
  have mU := mUnw

  have tO := typeOfS
  have aS := assSF

  go_enter Tryz.func62, Tryz.ntmps62
  go_wp2
  obtain ⟨q, hq⟩ : ∃ q, w.heap.size = q := ⟨_, rfl⟩
  rw [hq] at HX
  try rw [hq]
  generalize (w.alloc (.cells #[.pointer (some ⟨10, 92, none⟩), .pointer (some ⟨vb, 0, none⟩), .int .u64 150] 104)) = w1 at *
  have hxc := blk_cell HX.out
  have hxl := blk_lt HX.out

  go_loopw [0] (fun ev wr => ev = .iface 173 (.pointer (some p)) ∧ wr = w1) (fun _ _ => 0)
  · exact ⟨rfl, rfl⟩
  obtain ⟨rfl, rfl⟩ := hrel
  go_wp2
  go_ret
  exact ⟨rfl, D0.out⟩

theorem FC.shape {w : World} {base : Value} (hB : Bs w base) : ∀ {l : List ByteArray} {e : Value}, FC w base l e → e = .nilIface ∨ (∃ p, e = .iface 68 (.pointer (some p))) ∨ (∃ c, e = .iface 39 (.int .i64 c)) ∨ (∃ s, e = .iface 173 (.pointer (some s)))
  | [], e, h => by
    obtain rfl : e = base := h
    cases hB with
    | nil => exact .inl rfl
    | no c => exact .inr (.inr (.inl ⟨c, rfl⟩))
    | str s x h => exact .inr (.inr (.inr ⟨_, rfl⟩))
  | _ :: _, _, ⟨p, _, h, _⟩ => .inr (.inl ⟨_, h⟩)
theorem FC.base_nil {w : World} {base : Value} : ∀ {l : List ByteArray}, FC w base l .nilIface → base = .nilIface
  | [], h => (show Value.nilIface = base from h).symm
  | _ :: _, ⟨_, _, h, _⟩ => by cases h
set_option maxHeartbeats 2000000 in
theorem asE_hit (c : Int) (ops : List ByteArray) (e : Value) (tb vb : Nat) (x : Value) (w : World) (h : FC w (.iface 39 (.int .i64 c)) ops e) (hne : e ≠ .nilIface) (hT : w.heap[tb]? = some (.cells #[x] 39 (0, 0))) (hV : w.heap[vb]? = some (.cells #[.pointer (some ⟨tb, 0, none⟩)] 90 (0, 0))) :
    Calls Tryz.prog 62 #[e, .iface 90 (.pointer (some ⟨tb, 0, none⟩)), .agg #[.pointer (some ⟨10, 90, none⟩), .pointer (some ⟨vb, 0, none⟩), .int .u64 150], .iface 129 (.agg #[.pointer (some ⟨10, 39, none⟩)])] w fun r w' => r = .returned (.bool true) ∧ HitE w tb c w' := by
  obtain ⟨base, hbase⟩ : ∃ b : Value, b = .iface 39 (.int .i64 c) := ⟨_, rfl⟩
  rw [← hbase] at h
  have HBS := Lib.hid hbase
  have hB0 : ∀ w, Bs w base := fun w => by rw [hbase]; exact .no c
  have HB := Lib.hid (hB0 (w.alloc (.cells #[.pointer (some ⟨10, 90, none⟩), .pointer (some ⟨vb, 0, none⟩), .int .u64 150] 104)))
  clear hbase hB0

  have D0 := Lib.hid ((Below.refl w.heap.size w).alloc (Nat.le_refl _) (.cells #[.pointer (some ⟨10, 90, none⟩), .pointer (some ⟨vb, 0, none⟩), .int .u64 150] 104))
  have HT := Lib.hid (blk_alloc hT (.cells #[.pointer (some ⟨10, 90, none⟩), .pointer (some ⟨vb, 0, none⟩), .int .u64 150] 104))
  have HV := Lib.hid (blk_alloc hV (.cells #[.pointer (some ⟨10, 90, none⟩), .pointer (some ⟨vb, 0, none⟩), .int .u64 150] 104))
  have HX := Lib.hid (blk_new w #[.pointer (some ⟨10, 90, none⟩), .pointer (some ⟨vb, 0, none⟩), .int .u64 150] 104)
  have htl := blk_lt hT
  have hvl := blk_lt hV
  have HF := Lib.hid (h.ext D0.out)
  have hTO := @run_callFunc_extern Tryz.prog 67 _ ReflectliteType.typeOf Tryz.func67 (by kernel_rfl) (by kernel_rfl) (by kernel_rfl) (by kernel_rfl)
  have hVO := @run_callFunc_extern Tryz.prog 59 _ (fun args => ReflectliteValue.unpack (args.getD 0 (.tuple #[]))) Tryz.func59 (by kernel_rfl) (by kernel_rfl) (by kernel_rfl) (by kernel_rfl)
  have hAss := @run_callFunc_extern Tryz.prog 130 _ (ReflectliteType.relation "AssignableTo" ReflectliteType.assignableTo) Tryz.func130 (by kernel_rfl) (by kernel_rfl) (by kernel_rfl) (by kernel_rfl)
  have hVE := @run_callFunc_extern Tryz.prog 77 _ (ReflectliteValue.method (ReflectliteValue.valueError "reflectlite.Value.Elem" 0) ReflectliteValue.elem) Tryz.func77 (by kernel_rfl) (by kernel_rfl) (by kernel_rfl) (by kernel_rfl)
  have hSet := @run_callFunc_extern Tryz.prog 78 _ ReflectliteValue.set Tryz.func78 (by kernel_rfl) (by kernel_rfl) (by kernel_rfl) (by kernel_rfl)
  have tA := mAss'
  have s1 := noAsF
  have s2 := noAsE
  have s3 := noAsS
  have u1 := hasUF
  have u2 := noUE
  have u3 := noUS
  have v2 := noUsE
  have v3 := noUsS
  have mU := mUnw

  have n1 := elemVE ⟨vb, 0, none⟩ ⟨tb, 0, none⟩ (w.alloc (.cells #[.pointer (some ⟨10, 90, none⟩), .pointer (some ⟨vb, 0, none⟩), .int .u64 150] 104)) (blk_cell HV.out 0)
  have n2 := valueOfEE
  have n3 := setEE ⟨tb, 0, none⟩ ⟨(w.alloc (.cells #[.pointer (some ⟨10, 90, none⟩), .pointer (some ⟨vb, 0, none⟩), .int .u64 150] 104)).heap.size, 0, none⟩ c x ((w.alloc (.cells #[.pointer (some ⟨10, 90, none⟩), .pointer (some ⟨vb, 0, none⟩), .int .u64 150] 104)).alloc (.cells #[.int .i64 c] 39)) (blk_cell (blk_new _ _ _) 0) (blk_cell (blk_alloc HT.out _) 0) (blk_free (blk_alloc HT.out _) 0)

  go_enter Tryz.func62, Tryz.ntmps62
  go_wp2
  obtain ⟨q, hq⟩ : ∃ q, w.heap.size = q := ⟨_, rfl⟩
  rw [hq] at HX
  try rw [hq]
  generalize (w.alloc (.cells #[.pointer (some ⟨10, 90, none⟩), .pointer (some ⟨vb, 0, none⟩), .int .u64 150] 104)) = w1 at *
  have hxc := blk_cell HX.out
  have hxl := blk_lt HX.out

  go_loopw [0] (fun ev wr => ev ≠ .nilIface ∧ (∃ l, FC w1 base l ev) ∧ wr = w1) (fun ev _ => fl w1 base ev)
  · exact ⟨hne, ⟨ops, HF.out⟩, rfl⟩
  obtain ⟨hn, ⟨l, hl⟩, rfl⟩ := hrel
  cases l with
  | cons op l =>
    have HL0 := Lib.hid (FC.len HB.out hl)
    obtain ⟨q2, e', rfl, hq2, hl⟩ := hl
    have HQ := Lib.hid hq2
    have HL := Lib.hid hl
    have tO := typeOfF
    have aS := assFE
    clear hq2 hl hn
    rcases FC.shape HB.out HL.out with rfl | ⟨y, rfl⟩ | ⟨y, rfl⟩ | ⟨y, rfl⟩
    · have hz := run_nil_nil
      go_wp2_with (first | (refine (faultUnwrap q2 op _ _ HQ.out).mono ?_; rintro r w' ⟨rfl, rfl⟩))
      exact absurd (FC.base_nil HL.out) (by rw [HBS.out]; simp)
    · have hz := run_fault_nil (.pointer (some y)) wr
      go_wp2_with (first | (refine (faultUnwrap q2 op _ _ HQ.out).mono ?_; rintro r w' ⟨rfl, rfl⟩))
      go_roundw
      case rel => exact ⟨by simp, ⟨l, HL.out⟩, trivial⟩
      case measure => rw [HL0.out, FC.len HB.out HL.out]; simp
    · have hz := run_fault_isnil (.int .i64 y) wr
      go_wp2_with (first | (refine (faultUnwrap q2 op _ _ HQ.out).mono ?_; rintro r w' ⟨rfl, rfl⟩))
      go_roundw
      case rel => exact ⟨by simp, ⟨l, HL.out⟩, trivial⟩
      case measure => rw [HL0.out, FC.len HB.out HL.out]; simp
    · have hz := run_fault_snil (.pointer (some y)) wr
      go_wp2_with (first | (refine (faultUnwrap q2 op _ _ HQ.out).mono ?_; rintro r w' ⟨rfl, rfl⟩))
      go_roundw
      case rel => exact ⟨by simp, ⟨l, HL.out⟩, trivial⟩
      case measure => rw [HL0.out, FC.len HB.out HL.out]; simp
  | nil =>
    obtain rfl : u0 = base := hl
    have hb := HBS.out
    subst hb
    have tO := typeOfE
    have aS := assEE
    clear hn
    go_wp2
    go_ret
    exact ⟨rfl, _, D0.out.alloc (by have := D0.out.size; omega) _, by rw [blk_alloc HT.out, hT], rfl⟩

set_option maxHeartbeats 2000000 in
theorem asE_miss (ops : List ByteArray) (base e : Value) (tb vb : Nat) (x : Value) (w : World) (h : FC w base ops e) (hne : e ≠ .nilIface) (hT : w.heap[tb]? = some (.cells #[x] 39 (0, 0))) (hV : w.heap[vb]? = some (.cells #[.pointer (some ⟨tb, 0, none⟩)] 90 (0, 0))) (hB : Bs w base) (hno : ∀ c, base ≠ .iface 39 (.int .i64 c)) :
    Calls Tryz.prog 62 #[e, .iface 90 (.pointer (some ⟨tb, 0, none⟩)), .agg #[.pointer (some ⟨10, 90, none⟩), .pointer (some ⟨vb, 0, none⟩), .int .u64 150], .iface 129 (.agg #[.pointer (some ⟨10, 39, none⟩)])] w fun r w' => r = .returned (.bool false) ∧ Below w.heap.size w w' := by

  have D0 := Lib.hid ((Below.refl w.heap.size w).alloc (Nat.le_refl _) (.cells #[.pointer (some ⟨10, 90, none⟩), .pointer (some ⟨vb, 0, none⟩), .int .u64 150] 104))
  have HT := Lib.hid (blk_alloc hT (.cells #[.pointer (some ⟨10, 90, none⟩), .pointer (some ⟨vb, 0, none⟩), .int .u64 150] 104))
  have HV := Lib.hid (blk_alloc hV (.cells #[.pointer (some ⟨10, 90, none⟩), .pointer (some ⟨vb, 0, none⟩), .int .u64 150] 104))
  have HX := Lib.hid (blk_new w #[.pointer (some ⟨10, 90, none⟩), .pointer (some ⟨vb, 0, none⟩), .int .u64 150] 104)
  have htl := blk_lt hT
  have hvl := blk_lt hV
  have HF := Lib.hid (h.ext D0.out)
  have HB := Lib.hid (hB.ext D0.out)
  have HNO := Lib.hid hno
  clear hno
  have hTO := @run_callFunc_extern Tryz.prog 67 _ ReflectliteType.typeOf Tryz.func67 (by kernel_rfl) (by kernel_rfl) (by kernel_rfl) (by kernel_rfl)
  have hVO := @run_callFunc_extern Tryz.prog 59 _ (fun args => ReflectliteValue.unpack (args.getD 0 (.tuple #[]))) Tryz.func59 (by kernel_rfl) (by kernel_rfl) (by kernel_rfl) (by kernel_rfl)
  have hAss := @run_callFunc_extern Tryz.prog 130 _ (ReflectliteType.relation "AssignableTo" ReflectliteType.assignableTo) Tryz.func130 (by kernel_rfl) (by kernel_rfl) (by kernel_rfl) (by kernel_rfl)
  have hVE := @run_callFunc_extern Tryz.prog 77 _ (ReflectliteValue.method (ReflectliteValue.valueError "reflectlite.Value.Elem" 0) ReflectliteValue.elem) Tryz.func77 (by kernel_rfl) (by kernel_rfl) (by kernel_rfl) (by kernel_rfl)
  have hSet := @run_callFunc_extern Tryz.prog 78 _ ReflectliteValue.set Tryz.func78 (by kernel_rfl) (by kernel_rfl) (by kernel_rfl) (by kernel_rfl)
  have tA := mAss'
  have s1 := noAsF
  have s2 := noAsE
  have s3 := noAsS
  have u1 := hasUF
  have u2 := noUE
  have u3 := noUS
  have v2 := noUsE
  have v3 := noUsS
  have mU := mUnw

  go_enter Tryz.func62, Tryz.ntmps62
  go_wp2
  obtain ⟨q, hq⟩ : ∃ q, w.heap.size = q := ⟨_, rfl⟩
  rw [hq] at HX
  try rw [hq]
  generalize (w.alloc (.cells #[.pointer (some ⟨10, 90, none⟩), .pointer (some ⟨vb, 0, none⟩), .int .u64 150] 104)) = w1 at *
  have hxc := blk_cell HX.out
  have hxl := blk_lt HX.out

  go_loopw [0] (fun ev wr => ev ≠ .nilIface ∧ (∃ l, FC w1 base l ev) ∧ wr = w1) (fun ev _ => fl w1 base ev)
  · exact ⟨hne, ⟨ops, HF.out⟩, rfl⟩
  obtain ⟨hn, ⟨l, hl⟩, rfl⟩ := hrel
  cases l with
  | cons op l =>
    have HL0 := Lib.hid (FC.len HB.out hl)
    obtain ⟨q2, e', rfl, hq2, hl⟩ := hl
    have HQ := Lib.hid hq2
    have HL := Lib.hid hl
    have tO := typeOfF
    have aS := assFE
    clear hq2 hl hn
    rcases FC.shape HB.out HL.out with rfl | ⟨y, rfl⟩ | ⟨y, rfl⟩ | ⟨y, rfl⟩
    · have hz := run_nil_nil
      go_wp2_with (first | (refine (faultUnwrap q2 op _ _ HQ.out).mono ?_; rintro r w' ⟨rfl, rfl⟩))
      go_ret
      exact ⟨rfl, D0.out⟩
    · have hz := run_fault_nil (.pointer (some y)) wr
      go_wp2_with (first | (refine (faultUnwrap q2 op _ _ HQ.out).mono ?_; rintro r w' ⟨rfl, rfl⟩))
      go_roundw
      case rel => exact ⟨by simp, ⟨l, HL.out⟩, trivial⟩
      case measure => rw [HL0.out, FC.len HB.out HL.out]; simp
    · have hz := run_fault_isnil (.int .i64 y) wr
      go_wp2_with (first | (refine (faultUnwrap q2 op _ _ HQ.out).mono ?_; rintro r w' ⟨rfl, rfl⟩))
      go_roundw
      case rel => exact ⟨by simp, ⟨l, HL.out⟩, trivial⟩
      case measure => rw [HL0.out, FC.len HB.out HL.out]; simp
    · have hz := run_fault_snil (.pointer (some y)) wr
      go_wp2_with (first | (refine (faultUnwrap q2 op _ _ HQ.out).mono ?_; rintro r w' ⟨rfl, rfl⟩))
      go_roundw
      case rel => exact ⟨by simp, ⟨l, HL.out⟩, trivial⟩
      case measure => rw [HL0.out, FC.len HB.out HL.out]; simp
  | nil =>
    obtain rfl : u0 = base := hl
    have hb := HB.out
    cases hb with
    | nil => exact absurd rfl hn
    | no c => exact absurd rfl (HNO.out c)
    | str s x hs =>
      have tO := typeOfS
      have aS := assSE
      clear hn hs
      go_wp2
      go_ret
      exact ⟨rfl, D0.out⟩

end Go.Proofs.YtcgembfdejjliaaGreatDoor
