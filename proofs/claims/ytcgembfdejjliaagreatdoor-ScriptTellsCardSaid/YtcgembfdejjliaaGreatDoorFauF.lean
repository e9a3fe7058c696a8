/- errors.Is along faults that lie in one another. -/
import Derived.Test.YtcgembfdejjliaaGreatDoorFauC
import Derived.Laws.Concat
namespace Go.Proofs.YtcgembfdejjliaaGreatDoor
open Go.RowKit Go.Extern.Stop Go.Stop Go.Extern
set_option linter.unusedVariables false
set_option linter.unusedSimpArgs false

theorem run_equalIn_iface_int {P : Program} (w : World) (d : Nat) {ti tn : TypeId} {ms : Array (String × TypeId)} {i : TypeInfo} {k : IntKind} (a b : Int)
    (hi : P.underlying ti = some (.interface ms)) (hn : P.underlying tn = some (.int k)) (hinfo : P.info? tn = some i) (hcomp : i.comparable = true) :
    (Op.equalIn (d + 2) ti (.iface tn (.int k a)) (.iface tn (.int k b))).run P w = .ok (a == b) w := by
  simp [Op.equalIn, run_underlying hi, run_underlying hn, typeInfo, hinfo, hcomp]
theorem run_eql_iface_int {P : Program} (w : World) {ti tn : TypeId} {ms : Array (String × TypeId)} {i : TypeInfo} {k : IntKind} (a b : Int)
    (hi : P.underlying ti = some (.interface ms)) (hn : P.underlying tn = some (.int k)) (hinfo : P.info? tn = some i) (hcomp : i.comparable = true) :
    (binOp .eql ti (.iface tn (.int k a)) (.iface tn (.int k b))).run P w = .ok (.bool (a == b)) w := by
  simp only [binOp]
  simp [Op.equal, Op.maxDepth, run_equalIn_iface_int w 9998 a b hi hn hinfo hcomp]
theorem compE : (Tryz.prog.info? 39).map (·.comparable) = some true := by kernel_rfl
theorem compS : (Tryz.prog.info? 173).map (·.comparable) = some true := by kernel_rfl
theorem compF : (Tryz.prog.info? 68).map (·.comparable) = some true := by kernel_rfl
theorem sizeES : (Tryz.prog.info? 175).map (·.size) = some 1 := by kernel_rfl
theorem sizeTB : (Tryz.prog.info? 71).map (·.size) = some 2 := by kernel_rfl
theorem eqEE (w : World) (a b : Int) : (binOp .eql 42 (.iface 39 (.int .i64 a)) (.iface 39 (.int .i64 b))).run Tryz.prog w = .ok (.bool (a == b)) w := by
  obtain ⟨i, hi, hc⟩ := Option.map_eq_some_iff.1 compE
  exact run_eql_iface_int w a b Tryz.underlying42 Tryz.underlying39 hi hc
theorem eqFE (w : World) (a b : Value) : (binOp .eql 42 (.iface 68 a) (.iface 39 b)).run Tryz.prog w = .ok (.bool false) w := run_eql_iface_types _ _ _ _ Tryz.underlying42 (by decide) w
theorem eqSE (w : World) (a b : Value) : (binOp .eql 42 (.iface 173 a) (.iface 39 b)).run Tryz.prog w = .ok (.bool false) w := run_eql_iface_types _ _ _ _ Tryz.underlying42 (by decide) w
theorem eqFS (w : World) (a b : Value) : (binOp .eql 42 (.iface 68 a) (.iface 173 b)).run Tryz.prog w = .ok (.bool false) w := run_eql_iface_types _ _ _ _ Tryz.underlying42 (by decide) w
theorem eqSS (w : World) (a : Addr) : (binOp .eql 42 (.iface 173 (.pointer (some a))) (.iface 173 (.pointer (some a)))).run Tryz.prog w = .ok (.bool true) w := by
  obtain ⟨i, hi, hc⟩ := Option.map_eq_some_iff.1 compS
  obtain ⟨j, hj, -⟩ := Option.map_eq_some_iff.1 sizeES
  exact run_eql_iface_ptr_same w a Tryz.underlying42 Tryz.underlying173 hi hc hj
theorem eqFF (w : World) (a : Addr) : (binOp .eql 42 (.iface 68 (.pointer (some a))) (.iface 68 (.pointer (some a)))).run Tryz.prog w = .ok (.bool true) w := by
  obtain ⟨i, hi, hc⟩ := Option.map_eq_some_iff.1 compF
  obtain ⟨j, hj, -⟩ := Option.map_eq_some_iff.1 sizeTB
  exact run_eql_iface_ptr_same w a Tryz.underlying42 Tryz.underlying68 hi hc hj
theorem eq0E (w : World) (v : Value) : (binOp .eql 42 .nilIface (.iface 39 v)).run Tryz.prog w = .ok (.bool false) w := run_eql_iface_nil_left w 39 v Tryz.underlying42
noncomputable def cmpEntry : Array Value → Sem Value := Extern.ReflectliteType.method fun t => do Extern.Rtype.noPackHeld "Comparable" t; pure (.bool (← typeInfo t).comparable)
theorem comparableE (w : World) : (cmpEntry #[.agg #[.pointer (some ⟨10, 39, none⟩)]]).run Tryz.prog w = .ok (.bool true) w := by kernel_rfl
theorem comparableS (w : World) : (cmpEntry #[.agg #[.pointer (some ⟨10, 173, none⟩)]]).run Tryz.prog w = .ok (.bool true) w := by kernel_rfl
theorem xCmp : ∀ (args : Array Value) (w : World), Sem.run Tryz.prog (callFunc 131 args) w = (Sem.run Tryz.prog (cmpEntry args) w).andThen fun v w' => Result.ok (Next.value v) w' := @run_callFunc_extern Tryz.prog 131 _ cmpEntry Tryz.func131 (by kernel_rfl) (by kernel_rfl) (by kernel_rfl) (by kernel_rfl)
theorem xTypeOf : ∀ (args : Array Value) (w : World), Sem.run Tryz.prog (callFunc 67 args) w = (Sem.run Tryz.prog (ReflectliteType.typeOf args) w).andThen fun v w' => Result.ok (Next.value v) w' := @run_callFunc_extern Tryz.prog 67 _ ReflectliteType.typeOf Tryz.func67 (by kernel_rfl) (by kernel_rfl) (by kernel_rfl) (by kernel_rfl)
theorem FC.shapeI {w : World} {base : Value} (hB : Bs w base) : ∀ {l : List ByteArray} {e : Value}, FC w base l e → e = .nilIface ∨ (∃ p, e = .iface 68 (.pointer (some p))) ∨ (∃ c, e = .iface 39 (.int .i64 c)) ∨ (∃ s, e = .iface 173 (.pointer (some s)))
  | [], e, h => by
    obtain rfl : e = base := h
    cases hB with
    | nil => exact .inl rfl
    | no c => exact .inr (.inr (.inl ⟨c, rfl⟩))
    | str s x h => exact .inr (.inr (.inr ⟨_, rfl⟩))
  | _ :: _, _, ⟨p, _, h, _⟩ => .inr (.inl ⟨_, h⟩)
theorem FC.base_nilI {w : World} {base : Value} : ∀ {l : List ByteArray}, FC w base l .nilIface → base = .nilIface
  | [], h => (show Value.nilIface = base from h).symm
  | _ :: _, ⟨_, _, h, _⟩ => by cases h

set_option maxHeartbeats 2000000 in
theorem isE (c : Int) (ops : List ByteArray) (base e : Value) (w : World) (h : FC w base ops e) (hne : e ≠ .nilIface) (hB : Bs w base) (b : Bool) (hb : (∃ d, base = .iface 39 (.int .i64 d) ∧ b = (d == c)) ∨ ((∀ d, base ≠ .iface 39 (.int .i64 d)) ∧ b = false)) :
    Calls Tryz.prog 68 #[e, .iface 39 (.int .i64 c), .bool true] w fun r w' => r = .returned (.bool b) ∧ w' = w := by
  have HF := Lib.hid h
  have HB := Lib.hid hB
  have HBB := Lib.hid hb
  clear h hB hb
  have s1 := noIsF
  have s2 := noIsE
  have s3 := noIsS
  have u1 := hasUF
  have u2 := noUE
  have u3 := noUS
  have v2 := noUsE
  have v3 := noUsS
  have mU := mUnw

  go_enter Tryz.func68, Tryz.ntmps68
  go_wp2
  go_loopw [0] (fun ev wr => ev ≠ .nilIface ∧ (∃ l, FC w base l ev) ∧ wr = w) (fun ev _ => fl w base ev)
  · exact ⟨hne, ⟨ops, HF.out⟩, rfl⟩
  obtain ⟨hn, ⟨l, hl⟩, rfl⟩ := hrel
  cases l with
  | cons op l =>
    have HL0 := Lib.hid (FC.len HB.out hl)
    obtain ⟨q2, e', rfl, hq2, hl⟩ := hl
    have HQ := Lib.hid hq2
    have HL := Lib.hid hl
    have hz2 := eqFE wr (.pointer (some ⟨q2, 0, none⟩)) (.int .i64 c)
    clear hq2 hl hn
    rcases FC.shapeI HB.out HL.out with rfl | ⟨y, rfl⟩ | ⟨y, rfl⟩ | ⟨y, rfl⟩
    · have hz := run_nil_nil
      go_wp2_with (first | (refine (faultUnwrap q2 op _ _ HQ.out).mono ?_; rintro r w' ⟨rfl, rfl⟩))
      go_ret
      rcases HBB.out with ⟨d, h1, h2⟩ | ⟨h1, h2⟩
      · exact absurd (FC.base_nilI HL.out) (by rw [h1]; simp)
      · exact ⟨by subst h2; rfl, rfl⟩
    · have hz := run_fault_nil (.pointer (some y)) wr
      go_wp2_with (first | (refine (faultUnwrap q2 op _ _ HQ.out).mono ?_; rintro r w' ⟨rfl, rfl⟩))
      go_roundw
      case rel => exact ⟨by simp, ⟨l, HL.out⟩, trivial⟩
      case measure => rw [HL0.out, FC.len HB.out HL.out]; simp
    · have hz := run_fault_isnil (.int .i64 y) wr
      go_wp2_with (first | (refine (faultUnwrap q2 op _ _ HQ.out).mono ?_; rintro r w' ⟨rfl, rfl⟩))
      go_roundw
      case rel => exact ⟨by simp, ⟨l, HL.out⟩, trivial⟩
      case measure => rw [HL0.out, FC.len HB.out HL.out]; simp
    · have hz := run_fault_snil (.pointer (some y)) wr
      go_wp2_with (first | (refine (faultUnwrap q2 op _ _ HQ.out).mono ?_; rintro r w' ⟨rfl, rfl⟩))
      go_roundw
      case rel => exact ⟨by simp, ⟨l, HL.out⟩, trivial⟩
      case measure => rw [HL0.out, FC.len HB.out HL.out]; simp
  | nil =>
    obtain rfl : u0 = base := hl
    have hb := HB.out
    cases hb with
    | nil => exact absurd rfl hn
    | no c' =>
      have hz := eqEE wr c' c
      have hbe : (c' == c) = b := by
        rcases HBB.out with ⟨d, h1, h2⟩ | ⟨h1, h2⟩
        · have : c' = d := by simpa using h1
          rw [this, h2]
        · exact absurd rfl (h1 c')
      rw [hbe] at hz
      clear hn hbe
      cases b
      · go_wp2
        go_ret
        exact ⟨rfl, rfl⟩
      · go_wp2
        go_ret
        exact ⟨rfl, rfl⟩
    | str s x hs =>
      have hz := eqSE wr (.pointer (some ⟨s, 0, none⟩)) (.int .i64 c)
      have hbe : b = false := by
        rcases HBB.out with ⟨d, h1, h2⟩ | ⟨h1, h2⟩
        · simp at h1
        · exact h2
      subst hbe
      clear hn hs
      go_wp2
      go_ret
      exact ⟨rfl, rfl⟩

set_option maxHeartbeats 2000000 in
theorem isS (s : Nat) (y : ByteArray) (ops : List ByteArray) (e : Value) (w : World) (hs : w.heap[s]? = some (.cells #[.string y] 175 (0, 0))) (h : FC w (.iface 173 (.pointer (some ⟨s, 0, none⟩))) ops e) :
    Calls Tryz.prog 68 #[e, .iface 173 (.pointer (some ⟨s, 0, none⟩)), .bool true] w fun r w' => r = .returned (.bool true) ∧ w' = w := by
  obtain ⟨base, hbase⟩ : ∃ b : Value, b = .iface 173 (.pointer (some ⟨s, 0, none⟩)) := ⟨_, rfl⟩
  rw [← hbase] at h
  have HBS := Lib.hid hbase
  have hB : Bs w base := by rw [hbase]; exact .str s y hs
  have hne : e ≠ .nilIface := fun h0 => by subst h0; exact absurd (FC.base_nilI h) (by rw [hbase]; simp)
  have HF := Lib.hid h
  have HB := Lib.hid hB
  clear h hB hbase hs
  have s1 := noIsF
  have s2 := noIsE
  have s3 := noIsS
  have u1 := hasUF
  have u2 := noUE
  have u3 := noUS
  have v2 := noUsE
  have v3 := noUsS
  have mU := mUnw

  go_enter Tryz.func68, Tryz.ntmps68
  go_wp2
  go_loopw [0] (fun ev wr => ev ≠ .nilIface ∧ (∃ l, FC w base l ev) ∧ wr = w) (fun ev _ => fl w base ev)
  · exact ⟨hne, ⟨ops, HF.out⟩, rfl⟩
  obtain ⟨hn, ⟨l, hl⟩, rfl⟩ := hrel
  cases l with
  | cons op l =>
    have HL0 := Lib.hid (FC.len HB.out hl)
    obtain ⟨q2, e', rfl, hq2, hl⟩ := hl
    have HQ := Lib.hid hq2
    have HL := Lib.hid hl
    have hz2 := eqFS wr (.pointer (some ⟨q2, 0, none⟩)) (.pointer (some ⟨s, 0, none⟩))
    clear hq2 hl hn
    rcases FC.shapeI HB.out HL.out with rfl | ⟨y, rfl⟩ | ⟨y, rfl⟩ | ⟨y, rfl⟩
    · have hz := run_nil_nil
      go_wp2_with (first | (refine (faultUnwrap q2 op _ _ HQ.out).mono ?_; rintro r w' ⟨rfl, rfl⟩))
      exact absurd (FC.base_nilI HL.out) (by rw [HBS.out]; simp)
    · have hz := run_fault_nil (.pointer (some y)) wr
      go_wp2_with (first | (refine (faultUnwrap q2 op _ _ HQ.out).mono ?_; rintro r w' ⟨rfl, rfl⟩))
      go_roundw
      case rel => exact ⟨by simp, ⟨l, HL.out⟩, trivial⟩
      case measure => rw [HL0.out, FC.len HB.out HL.out]; simp
    · have hz := run_fault_isnil (.int .i64 y) wr
      go_wp2_with (first | (refine (faultUnwrap q2 op _ _ HQ.out).mono ?_; rintro r w' ⟨rfl, rfl⟩))
      go_roundw
      case rel => exact ⟨by simp, ⟨l, HL.out⟩, trivial⟩
      case measure => rw [HL0.out, FC.len HB.out HL.out]; simp
    · have hz := run_fault_snil (.pointer (some y)) wr
      go_wp2_with (first | (refine (faultUnwrap q2 op _ _ HQ.out).mono ?_; rintro r w' ⟨rfl, rfl⟩))
      go_roundw
      case rel => exact ⟨by simp, ⟨l, HL.out⟩, trivial⟩
      case measure => rw [HL0.out, FC.len HB.out HL.out]; simp
  | nil =>
    obtain rfl : u0 = base := hl
    have hb := HBS.out
    subst hb
    have hz := eqSS wr ⟨s, 0, none⟩
    clear hn
    go_wp2
    go_ret
    exact ⟨rfl, rfl⟩


set_option maxHeartbeats 1000000 in
theorem errIsE_F (c : Int) (b : Bool) (ops : List ByteArray) (base : Value) (p : Addr) (w : World) (h : FC w base ops (.iface 68 (.pointer (some p)))) (hB : Bs w base) (hb : (∃ d, base = .iface 39 (.int .i64 d) ∧ b = (d == c)) ∨ ((∀ d, base ≠ .iface 39 (.int .i64 d)) ∧ b = false)) :
    Calls Tryz.prog 55 #[.iface 68 (.pointer (some p)), .iface 39 (.int .i64 c)] w fun r w' => r = .returned (.bool b) ∧ w' = w := by
  have hz := run_fault_nil (.pointer (some p))
  have hz2 := run_fault_isnil (.int .i64 c)
  have h8 := xTypeOf
  have h32 := xCmp
  have tT := typeOfE
  have cT := comparableE
  have mR := mCmp'
  have HH := Lib.hid (show _ ∧ _ ∧ _ from ⟨h, hB, hb⟩)
  clear h hB hb
  go_enter Tryz.func55, Tryz.ntmps55
  go_wp2_with (first | (refine (isE c ops base _ _ HH.out.1 (by simp) HH.out.2.1 b HH.out.2.2).mono ?_; rintro r w' ⟨rfl, rfl⟩))
  go_ret
  exact ⟨rfl, rfl⟩

set_option maxHeartbeats 1000000 in
theorem errIsE_E (c : Int) (b : Bool) (ops : List ByteArray) (base : Value) (p : Int) (w : World) (h : FC w base ops (.iface 39 (.int .i64 p))) (hB : Bs w base) (hb : (∃ d, base = .iface 39 (.int .i64 d) ∧ b = (d == c)) ∨ ((∀ d, base ≠ .iface 39 (.int .i64 d)) ∧ b = false)) :
    Calls Tryz.prog 55 #[.iface 39 (.int .i64 p), .iface 39 (.int .i64 c)] w fun r w' => r = .returned (.bool b) ∧ w' = w := by
  have hz := run_fault_isnil (.int .i64 p)
  have hz2 := run_fault_isnil (.int .i64 c)
  have h8 := xTypeOf
  have h32 := xCmp
  have tT := typeOfE
  have cT := comparableE
  have mR := mCmp'
  have HH := Lib.hid (show _ ∧ _ ∧ _ from ⟨h, hB, hb⟩)
  clear h hB hb
  go_enter Tryz.func55, Tryz.ntmps55
  go_wp2_with (first | (refine (isE c ops base _ _ HH.out.1 (by simp) HH.out.2.1 b HH.out.2.2).mono ?_; rintro r w' ⟨rfl, rfl⟩))
  go_ret
  exact ⟨rfl, rfl⟩

set_option maxHeartbeats 1000000 in
theorem errIsE_S (c : Int) (b : Bool) (ops : List ByteArray) (base : Value) (p : Addr) (w : World) (h : FC w base ops (.iface 173 (.pointer (some p)))) (hB : Bs w base) (hb : (∃ d, base = .iface 39 (.int .i64 d) ∧ b = (d == c)) ∨ ((∀ d, base ≠ .iface 39 (.int .i64 d)) ∧ b = false)) :
    Calls Tryz.prog 55 #[.iface 173 (.pointer (some p)), .iface 39 (.int .i64 c)] w fun r w' => r = .returned (.bool b) ∧ w' = w := by
  have hz := run_fault_snil (.pointer (some p))
  have hz2 := run_fault_isnil (.int .i64 c)
  have h8 := xTypeOf
  have h32 := xCmp
  have tT := typeOfE
  have cT := comparableE
  have mR := mCmp'
  have HH := Lib.hid (show _ ∧ _ ∧ _ from ⟨h, hB, hb⟩)
  clear h hB hb
  go_enter Tryz.func55, Tryz.ntmps55
  go_wp2_with (first | (refine (isE c ops base _ _ HH.out.1 (by simp) HH.out.2.1 b HH.out.2.2).mono ?_; rintro r w' ⟨rfl, rfl⟩))
  go_ret
  exact ⟨rfl, rfl⟩

set_option maxHeartbeats 1000000 in
theorem errIsS_F (s : Nat) (y : ByteArray) (ops : List ByteArray) (p : Addr) (w : World) (hs : w.heap[s]? = some (.cells #[.string y] 175 (0, 0))) (h : FC w (.iface 173 (.pointer (some ⟨s, 0, none⟩))) ops (.iface 68 (.pointer (some p)))) :
    Calls Tryz.prog 55 #[.iface 68 (.pointer (some p)), .iface 173 (.pointer (some ⟨s, 0, none⟩))] w fun r w' => r = .returned (.bool true) ∧ w' = w := by
  have hz := run_fault_nil (.pointer (some p))
  have hz2 := run_fault_snil (.pointer (some ⟨s, 0, none⟩))
  have h8 := xTypeOf
  have h32 := xCmp
  have tT := typeOfS
  have cT := comparableS
  have mR := mCmp'
  have HH := Lib.hid (show _ ∧ _ from ⟨hs, h⟩)
  clear h hs
  go_enter Tryz.func55, Tryz.ntmps55
  go_wp2_with (first | (refine (isS s y ops _ _ HH.out.1 HH.out.2).mono ?_; rintro r w' ⟨rfl, rfl⟩))
  go_ret
  exact ⟨rfl, rfl⟩

set_option maxHeartbeats 1000000 in
theorem errIsS_S (s : Nat) (y : ByteArray) (ops : List ByteArray) (p : Addr) (w : World) (hs : w.heap[s]? = some (.cells #[.string y] 175 (0, 0))) (h : FC w (.iface 173 (.pointer (some ⟨s, 0, none⟩))) ops (.iface 173 (.pointer (some p)))) :
    Calls Tryz.prog 55 #[.iface 173 (.pointer (some p)), .iface 173 (.pointer (some ⟨s, 0, none⟩))] w fun r w' => r = .returned (.bool true) ∧ w' = w := by
  have hz := run_fault_snil (.pointer (some p))
  have hz2 := run_fault_snil (.pointer (some ⟨s, 0, none⟩))
  have h8 := xTypeOf
  have h32 := xCmp
  have tT := typeOfS
  have cT := comparableS
  have mR := mCmp'
  have HH := Lib.hid (show _ ∧ _ from ⟨hs, h⟩)
  clear h hs
  go_enter Tryz.func55, Tryz.ntmps55
  go_wp2_with (first | (refine (isS s y ops _ _ HH.out.1 HH.out.2).mono ?_; rintro r w' ⟨rfl, rfl⟩))
  go_ret
  exact ⟨rfl, rfl⟩

theorem errIsE_nil (c : Int) (w : World) : Calls Tryz.prog 55 #[.nilIface, .iface 39 (.int .i64 c)] w fun r w' => r = .returned (.bool false) ∧ w' = w := by
  have hz := run_nil_nil
  have hz2 := eq0E
  go_enter Tryz.func55, Tryz.ntmps55
  go_wp2
  go_ret
  exact ⟨rfl, rfl⟩
theorem errIsE (c : Int) (b : Bool) (ops : List ByteArray) (base e : Value) (w : World) (h : FC w base ops (e)) (hB : Bs w base) (hb : (∃ d, base = .iface 39 (.int .i64 d) ∧ b = (d == c)) ∨ ((∀ d, base ≠ .iface 39 (.int .i64 d)) ∧ b = false)) :
    Calls Tryz.prog 55 #[e, .iface 39 (.int .i64 c)] w fun r w' => r = .returned (.bool b) ∧ w' = w := by
  rcases FC.shapeI hB h with rfl | ⟨p, rfl⟩ | ⟨p, rfl⟩ | ⟨p, rfl⟩
  · refine (errIsE_nil c w).mono fun r w' ⟨h1, h2⟩ => ⟨?_, h2⟩
    rcases hb with ⟨d, h3, h4⟩ | ⟨h3, h4⟩
    · exact absurd (FC.base_nilI h) (by rw [h3]; simp)
    · rw [h1, h4]
  · exact errIsE_F c b ops base p w h hB hb
  · exact errIsE_E c b ops base p w h hB hb
  · exact errIsE_S c b ops base p w h hB hb
theorem errIsS (s : Nat) (y : ByteArray) (ops : List ByteArray) (e : Value) (w : World) (hs : w.heap[s]? = some (.cells #[.string y] 175 (0, 0))) (h : FC w (.iface 173 (.pointer (some ⟨s, 0, none⟩))) ops (e)) :
    Calls Tryz.prog 55 #[e, .iface 173 (.pointer (some ⟨s, 0, none⟩))] w fun r w' => r = .returned (.bool true) ∧ w' = w := by
  rcases FC.shapeI (.str s y hs) h with rfl | ⟨p, rfl⟩ | ⟨p, rfl⟩ | ⟨p, rfl⟩
  · exact absurd (FC.base_nilI h) (by simp)
  · exact errIsS_F s y ops p w hs h
  · exfalso
    cases ops with
    | nil => have : (Value.iface 39 (.int .i64 p)) = .iface 173 (.pointer (some ⟨s, 0, none⟩)) := h; simp at this
    | cons a l => obtain ⟨q, e', h1, -⟩ := h; simp at h1
  · exact errIsS_S s y ops p w hs h
end Go.Proofs.YtcgembfdejjliaaGreatDoor
