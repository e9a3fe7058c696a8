/- Package fault by contracts: New, Wrap, firstFault, firstErrno, is, itself, Code, Has. -/
import Derived.Test.YtcgembfdejjliaaGreatDoorFauE
import Derived.Test.YtcgembfdejjliaaGreatDoorFauF
namespace Go.Proofs.YtcgembfdejjliaaGreatDoor
open Go.RowKit Go.Extern.Stop Go.Stop Go.Extern
set_option linter.unusedVariables false
set_option linter.unusedSimpArgs false

theorem errNew (s : ByteArray) (w : World) : Calls Tryz.prog 104 #[.string s] w fun r w' => r = .returned (.iface 173 (.pointer (some ⟨w.heap.size, 0, none⟩))) ∧ w' = w.alloc (.cells #[.string s] 175) := by
  go_enter Tryz.func104, Tryz.ntmps104
  go_wp2
  go_ret
  exact ⟨rfl, rfl⟩
theorem wrap_nil (op : ByteArray) (w : World) : Calls Tryz.prog 26 #[.string op, .nilIface] w fun r w' => r = .returned .nilIface ∧ w' = w := by
  have hz := run_nil_nil
  go_enter Tryz.func26, Tryz.ntmps26
  go_wp2
  go_ret
  exact ⟨rfl, rfl⟩
theorem wrapF (op : ByteArray) (p : Addr) (w : World) : Calls Tryz.prog 26 #[.string op, .iface 68 (.pointer (some p))] w fun r w' => r = .returned (.iface 68 (.pointer (some ⟨w.heap.size, 0, none⟩))) ∧ w' = w.alloc (.cells #[.string op, .iface 68 (.pointer (some p))] 71) := by
  have hz := run_fault_nil (.pointer (some p))
  go_enter Tryz.func26, Tryz.ntmps26
  go_wp2
  go_ret
  exact ⟨rfl, rfl⟩
theorem wrapS (op : ByteArray) (p : Addr) (w : World) : Calls Tryz.prog 26 #[.string op, .iface 173 (.pointer (some p))] w fun r w' => r = .returned (.iface 68 (.pointer (some ⟨w.heap.size, 0, none⟩))) ∧ w' = w.alloc (.cells #[.string op, .iface 173 (.pointer (some p))] 71) := by
  have hz := run_fault_snil (.pointer (some p))
  go_enter Tryz.func26, Tryz.ntmps26
  go_wp2
  go_ret
  exact ⟨rfl, rfl⟩
theorem wrapE (op : ByteArray) (p : Int) (w : World) : Calls Tryz.prog 26 #[.string op, .iface 39 (.int .i64 p)] w fun r w' => r = .returned (.iface 68 (.pointer (some ⟨w.heap.size, 0, none⟩))) ∧ w' = w.alloc (.cells #[.string op, .iface 39 (.int .i64 p)] 71) := by
  have hz := run_fault_isnil (.int .i64 p)
  go_enter Tryz.func26, Tryz.ntmps26
  go_wp2
  go_ret
  exact ⟨rfl, rfl⟩
theorem newE (op : ByteArray) (c : Int) (w : World) (hc : c ≠ 0) : Calls Tryz.prog 34 #[.string op, .int .i64 c] w fun r w' => r = .returned (.iface 68 (.pointer (some ⟨w.heap.size, 0, none⟩))) ∧ w' = w.alloc (.cells #[.string op, .iface 39 (.int .i64 c)] 71) := by
  have hz : (c == 0) = false := by simpa using hc
  go_enter Tryz.func34, Tryz.ntmps34
  go_wp2
  go_ret
  exact ⟨rfl, rfl⟩
theorem new0 (op : ByteArray) (w : World) : Calls Tryz.prog 34 #[.string op, .int .i64 0] w fun r w' => r = .returned .nilIface ∧ w' = w := by
  go_enter Tryz.func34, Tryz.ntmps34
  go_wp2
  go_ret
  exact ⟨rfl, rfl⟩
/-- one more around -/
theorem faultWrap (op : ByteArray) (ops : List ByteArray) (base e : Value) (w : World) (hB : Bs w base) (h : FC w base ops e) (hn : e ≠ .nilIface) :
    Calls Tryz.prog 26 #[.string op, e] w fun r w' => ∃ e', r = .returned e' ∧ FC w' base (op :: ops) e' ∧ Below w.heap.size w w' := by
  rcases FC.shape hB h with rfl | ⟨p, rfl⟩ | ⟨p, rfl⟩ | ⟨p, rfl⟩
  · exact absurd rfl hn
  · exact (wrapF op p w).mono fun r w' ⟨h1, h2⟩ => ⟨_, h1, by rw [h2]; exact ⟨_, _, rfl, blk_new _ _ _, h.ext ((Below.refl _ _).alloc (Nat.le_refl _) _)⟩, by rw [h2]; exact (Below.refl _ _).alloc (Nat.le_refl _) _⟩
  · exact (wrapE op p w).mono fun r w' ⟨h1, h2⟩ => ⟨_, h1, by rw [h2]; exact ⟨_, _, rfl, blk_new _ _ _, h.ext ((Below.refl _ _).alloc (Nat.le_refl _) _)⟩, by rw [h2]; exact (Below.refl _ _).alloc (Nat.le_refl _) _⟩
  · exact (wrapS op p w).mono fun r w' ⟨h1, h2⟩ => ⟨_, h1, by rw [h2]; exact ⟨_, _, rfl, blk_new _ _ _, h.ext ((Below.refl _ _).alloc (Nat.le_refl _) _)⟩, by rw [h2]; exact (Below.refl _ _).alloc (Nat.le_refl _) _⟩
theorem faultNew (op : ByteArray) (c : Int) (w : World) (hc : c ≠ 0) :
    Calls Tryz.prog 34 #[.string op, .int .i64 c] w fun r w' => ∃ e', r = .returned e' ∧ FC w' (.iface 39 (.int .i64 c)) [op] e' ∧ Below w.heap.size w w' :=
  (newE op c w hc).mono fun r w' ⟨h1, h2⟩ => ⟨_, h1, by rw [h2]; exact ⟨_, _, rfl, blk_new _ _ _, rfl⟩, by rw [h2]; exact (Below.refl _ _).alloc (Nat.le_refl _) _⟩

set_option maxHeartbeats 1000000 in
theorem firstFault_fault (p : Addr) (w : World) (hG : EG w)  :
    Calls Tryz.prog 30 #[.iface 68 (.pointer (some p))] w fun r w' => r = .returned (.pointer (some p)) ∧ Below w.heap.size w w' := by
  have hmf : ∀ (fn : Fn) (first cap : Array Value) (w : World), (Instr.makeFunc fn first cap).run Tryz.prog w = .ok (.func fn first cap) w := fun _ _ _ _ => rfl
  have D0 := Lib.hid ((Below.refl w.heap.size w).alloc (Nat.le_refl _) (.cells #[.pointer none] 68))
  have HX := Lib.hid (blk_new w #[.pointer none] 68)
  have HG := Lib.hid (hG.ext D0.out)
  clear hG
  go_enter_defers Tryz.func30, Tryz.ntmps30
  go_wp2_with fail
  obtain ⟨q, hq⟩ : ∃ q, w.heap.size = q := ⟨_, rfl⟩
  rw [hq] at HX
  try rw [hq]
  generalize (w.alloc (.cells #[.pointer none] 68)) = w1 at *
  refine (errAsF_fault p q _ w1 HG.out HX.out).mono ?_
  rintro r w2 ⟨rfl, w3, hb3, hk3, rfl⟩
  have HY := Lib.hid (blk_set (n := 0) (u := .pointer (some p)) (vs' := #[.pointer (some p)]) (hk3.trans HX.out) (by simp))
  have HD := Lib.hid ((ext_trans D0.out hb3).setCell (p := ⟨q, 0, none⟩) (by show w.heap.size ≤ q; omega) (.pointer (some p)))
  clear hb3 hk3
  generalize (w3.setCell ⟨q, 0, none⟩ (.pointer (some p))) = w4 at *
  have hyc := blk_cell HY.out
  have hyf := blk_free HY.out
  have hyl := blk_lt HY.out
  go_wp2
  refine leaves_cons (f := 48) (args := #[.pointer (some ⟨q, 0, none⟩)]) (by simp) (by simp [go_sem]) ?_
  refine (cFF_idle _ _).mono ?_
  rintro e u' w'' ⟨rfl, rfl, rfl⟩
  have HZ := blk_cell (blk_set (n := 0) (u := .pointer (some p)) (vs' := #[.pointer (some p)]) HY.out (by simp))
  simp [Leaves, settle, results, Tryz.results30, go_sem, HZ]
  exact HD.out.setCell (p := ⟨q, 0, none⟩) (by show w.heap.size ≤ q; omega) _

set_option maxHeartbeats 1000000 in
theorem firstFault_base (base : Value) (w : World) (hG : EG w) (hB : Bs w base) :
    Calls Tryz.prog 30 #[base] w fun r w' => r = .returned (.pointer none) ∧ Below w.heap.size w w' := by
  have hmf : ∀ (fn : Fn) (first cap : Array Value) (w : World), (Instr.makeFunc fn first cap).run Tryz.prog w = .ok (.func fn first cap) w := fun _ _ _ _ => rfl
  have D0 := Lib.hid ((Below.refl w.heap.size w).alloc (Nat.le_refl _) (.cells #[.pointer none] 68))
  have HX := Lib.hid (blk_new w #[.pointer none] 68)
  have HG := Lib.hid (hG.ext D0.out)
  have HB := Lib.hid (hB.ext D0.out)
  clear hG hB
  go_enter_defers Tryz.func30, Tryz.ntmps30
  go_wp2_with fail
  obtain ⟨q, hq⟩ : ∃ q, w.heap.size = q := ⟨_, rfl⟩
  rw [hq] at HX
  try rw [hq]
  generalize (w.alloc (.cells #[.pointer none] 68)) = w1 at *
  refine (errAsF_base base q _ w1 HG.out HX.out HB.out).mono ?_
  rintro r w4 ⟨rfl, hb3⟩
  have HY := Lib.hid (blk_ext hb3 HX.out)
  have HD := Lib.hid (ext_trans D0.out hb3)
  clear hb3
  have hyc := blk_cell HY.out
  have hyf := blk_free HY.out
  have hyl := blk_lt HY.out
  go_wp2
  refine leaves_cons (f := 48) (args := #[.pointer (some ⟨q, 0, none⟩)]) (by simp) (by simp [go_sem]) ?_
  refine (cFF_idle _ _).mono ?_
  rintro e u' w'' ⟨rfl, rfl, rfl⟩
  have HZ := blk_cell (blk_set (n := 0) (u := .pointer none) (vs' := #[.pointer none]) HY.out (by simp))
  simp [Leaves, settle, results, Tryz.results30, go_sem, HZ]
  exact HD.out.setCell (p := ⟨q, 0, none⟩) (by show w.heap.size ≤ q; omega) _

set_option maxHeartbeats 1000000 in
theorem faultIs (c : Int) (b : Bool) (ops : List ByteArray) (base e : Value) (w : World) (h : FC w base ops e) (hB : Bs w base) (hb : (∃ d, base = .iface 39 (.int .i64 d) ∧ b = (d == c)) ∨ ((∀ d, base ≠ .iface 39 (.int .i64 d)) ∧ b = false)) :
    Calls Tryz.prog 40 #[e, .int .i64 c] w fun r w' => r = .returned (.bool b) ∧ Below w.heap.size w w' := by
  have hmf : ∀ (fn : Fn) (first cap : Array Value) (w : World), (Instr.makeFunc fn first cap).run Tryz.prog w = .ok (.func fn first cap) w := fun _ _ _ _ => rfl
  have D0 := Lib.hid ((Below.refl w.heap.size w).alloc (Nat.le_refl _) (.cells #[.bool false] 4))
  have HX := Lib.hid (blk_new w #[.bool false] 4)
  have HF := Lib.hid (h.ext D0.out)
  have HB := Lib.hid (hB.ext D0.out)
  have HBB := Lib.hid hb
  clear h hB hb
  go_enter_defers Tryz.func40, Tryz.ntmps40
  go_wp2_with fail
  obtain ⟨q, hq⟩ : ∃ q, w.heap.size = q := ⟨_, rfl⟩
  rw [hq] at HX
  try rw [hq]
  generalize (w.alloc (.cells #[.bool false] 4)) = w1 at *
  refine (errIsE c b ops base e w1 HF.out HB.out HBB.out).mono ?_
  rintro r w4 ⟨rfl, rfl⟩
  have hyc := blk_cell HX.out
  have hyf := blk_free HX.out
  have hyl := blk_lt HX.out
  go_wp2
  refine leaves_cons (f := 54) (args := #[.pointer (some ⟨q, 0, none⟩)]) (by simp) (by simp [go_sem]) ?_
  refine (cIs_idle _ _).mono ?_
  rintro e u' w'' ⟨rfl, rfl, rfl⟩
  have HZ := blk_cell (blk_set (n := 0) (u := .bool b) (vs' := #[.bool b]) HX.out (by simp))
  simp [Leaves, settle, results, Tryz.results40, go_sem, HZ]
  exact D0.out.setCell (p := ⟨q, 0, none⟩) (by show w.heap.size ≤ q; omega) _
theorem faultHas (c : Int) (b : Bool) (ops : List ByteArray) (base e : Value) (w : World) (h : FC w base ops e) (hB : Bs w base) (hn : ops.length ≤ 100) (hb : (∃ d, base = .iface 39 (.int .i64 d) ∧ b = (d == c)) ∨ ((∀ d, base ≠ .iface 39 (.int .i64 d)) ∧ b = false)) :
    Calls Tryz.prog 21 #[e, .int .i64 c] w fun r w' => r = .returned (.bool b) ∧ Below w.heap.size w w' := by
  have H := Lib.hid (show _ ∧ _ ∧ _ from ⟨h, hB, hb⟩)
  clear h hB hb
  go_enter Tryz.func21, Tryz.ntmps21
  go_wp2_with (first
    | (refine (faultEnds ops base e _ H.out.2.1 H.out.1 hn).mono ?_; rintro r w1 ⟨rfl, hb1⟩)
    | (refine (faultIs c b ops base e w1 (H.out.1.ext hb1) (H.out.2.1.ext hb1) H.out.2.2).mono ?_; rintro r w2 ⟨rfl, hb2⟩))
  go_ret
  exact ⟨rfl, ext_trans hb1 hb2⟩

theorem ptr_nil (p : Addr) (w : World) : (binOp .eql 68 (.pointer (some p)) (.pointer none)).run Tryz.prog w = .ok (.bool false) w := by kernel_rfl
theorem ptr_nil0 (w : World) : (binOp .eql 68 (.pointer none) (.pointer none)).run Tryz.prog w = .ok (.bool true) w := by kernel_rfl
theorem neqFF (w : World) (a : Addr) : (binOp .neq 42 (.iface 68 (.pointer (some a))) (.iface 68 (.pointer (some a)))).run Tryz.prog w = .ok (.bool false) w := by
  have h := eqFF w a
  simp only [binOp] at h ⊢
  simp only [Sem.run_bind, Result.andThen] at h ⊢
  revert h
  generalize (Op.equal 42 (.iface 68 (.pointer (some a))) (.iface 68 (.pointer (some a)))).run Tryz.prog w = r
  intro h
  cases r <;> simp_all
end Go.Proofs.YtcgembfdejjliaaGreatDoor
