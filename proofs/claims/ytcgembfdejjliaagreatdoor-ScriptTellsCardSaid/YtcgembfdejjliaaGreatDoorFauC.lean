/- Faults: the deferred closures; whether the way ends. -/
import Derived.Test.YtcgembfdejjliaaGreatDoorFauB
import Derived.LoopTactic
import Derived.Tactics
import Derived.Tactics2
import Derived.Defers
import Derived.Recover
import Derived.Laws.Pointers
import Derived.Below
namespace Go.Proofs.YtcgembfdejjliaaGreatDoor
open Go.RowKit Go.Extern.Stop Go.Stop Go.Extern
set_option linter.unusedVariables false
set_option linter.unusedSimpArgs false

theorem cEnds_idle (v0 : Value) (w : World) :
    CallsD Tryz.prog 46 #[v0] .returning w fun e u' w' => e = .returned (.tuple #[]) ∧ u' = .returning ∧ w' = w := by
  refine callsD_of_wpS Tryz.func46 rfl fun c₀ cs hu => ?_
  apply wpS_seq
  apply wpS_region
  simp [wpOpsS, go_sem, recoverD, hu, Tryz.ntmps46, Exit.thenS]
  refine wpS_cond (t := false) (by simp [Act.eval, Array.replicate]) ?_
  simp only [Bool.false_eq_true, if_false]
  refine wpS_of_wp (wp_skip ?_)
  cases c₀
  simp_all [bodyPostS, results, Tryz.results46]
theorem cFE_idle (v0 v1 : Value) (w : World) :
    CallsD Tryz.prog 44 #[v0, v1] .returning w fun e u' w' => e = .returned (.tuple #[]) ∧ u' = .returning ∧ w' = w := by
  refine callsD_of_wpS Tryz.func44 rfl fun c₀ cs hu => ?_
  apply wpS_seq
  apply wpS_region
  simp [wpOpsS, go_sem, recoverD, hu, Tryz.ntmps44, Exit.thenS]
  refine wpS_cond (t := false) (by simp [Act.eval, Array.replicate]) ?_
  simp only [Bool.false_eq_true, if_false]
  refine wpS_of_wp (wp_skip ?_)
  cases c₀
  simp_all [bodyPostS, results, Tryz.results44]
theorem cFF_idle (v0 : Value) (w : World) :
    CallsD Tryz.prog 48 #[v0] .returning w fun e u' w' => e = .returned (.tuple #[]) ∧ u' = .returning ∧ w' = w := by
  refine callsD_of_wpS Tryz.func48 rfl fun c₀ cs hu => ?_
  apply wpS_seq
  apply wpS_region
  simp [wpOpsS, go_sem, recoverD, hu, Tryz.ntmps48, Exit.thenS]
  refine wpS_cond (t := false) (by simp [Act.eval, Array.replicate]) ?_
  simp only [Bool.false_eq_true, if_false]
  refine wpS_of_wp (wp_skip ?_)
  cases c₀
  simp_all [bodyPostS, results, Tryz.results48]
theorem cIs_idle (v0 : Value) (w : World) :
    CallsD Tryz.prog 54 #[v0] .returning w fun e u' w' => e = .returned (.tuple #[]) ∧ u' = .returning ∧ w' = w := by
  refine callsD_of_wpS Tryz.func54 rfl fun c₀ cs hu => ?_
  apply wpS_seq
  apply wpS_region
  simp [wpOpsS, go_sem, recoverD, hu, Tryz.ntmps54, Exit.thenS]
  refine wpS_cond (t := false) (by simp [Act.eval, Array.replicate]) ?_
  simp only [Bool.false_eq_true, if_false]
  refine wpS_of_wp (wp_skip ?_)
  cases c₀
  simp_all [bodyPostS, results, Tryz.results54]

set_option maxHeartbeats 1000000 in
theorem faultEnds (ops : List ByteArray) (base e : Value) (w : World) (hB : Bs w base) (h : FC w base ops e) (hn : ops.length ≤ 100) :
    Calls Tryz.prog 29 #[e] w fun r w' => r = .returned (.bool true) ∧ Below w.heap.size w w' := by
  have hmf : ∀ (fn : Fn) (first cap : Array Value) (w : World), (Instr.makeFunc fn first cap).run Tryz.prog w = .ok (.func fn first cap) w := fun _ _ _ _ => rfl
  have D0 := Lib.hid ((Below.refl w.heap.size w).alloc (Nat.le_refl _) (.cells #[.bool false] 4))
  have HB := Lib.hid (hB.ext D0.out)
  have HF := Lib.hid (h.ext D0.out)
  have HX := Lib.hid (blk_new w #[.bool false] 4)
  clear h hB
  go_enter_defers Tryz.func29, Tryz.ntmps29
  go_wp2
  obtain ⟨p, hp⟩ : ∃ p, w.heap.size = p := ⟨_, rfl⟩
  rw [hp] at HX
  try rw [hp]
  generalize (w.alloc (.cells #[.bool false] 4)) = w1 at *
  go_loopw [0, 4] (fun ev j wr => ∃ J : Nat, j = .int .i64 (J : Int) ∧ J ≤ ops.length + 1 ∧ (ev = .nilIface ∨ ∃ l, FC w1 base l ev ∧ J + l.length ≤ ops.length) ∧ wr = w1) (fun _ j _ => 300 - (intOf j).toNat)
  · exact ⟨0, rfl, by omega, .inr ⟨ops, HF.out, by omega⟩, rfl⟩
  obtain ⟨J, rfl, hJ, hr, rfl⟩ := hrel
  have hJ2 : (J : Int) < 131072 := by omega
  have hxc := blk_cell HX.out
  have hxf := blk_free HX.out
  have hxl := blk_lt HX.out
  rcases hr with rfl | ⟨l, hl, hle⟩
  · have hz := run_nil_nil
    go_wp2
    refine leaves_cons (f := 46) (args := #[.pointer (some ⟨p, 0, none⟩)]) (by simp) (by simp [go_sem]) ?_
    refine (cEnds_idle _ _).mono ?_
    rintro e u' w'' ⟨rfl, rfl, rfl⟩
    have HY := blk_set (n := 0) (u := .bool true) (vs' := #[.bool true]) HX.out (by simp)
    have hyc := blk_cell HY
    simp [Leaves, settle, results, Tryz.results29, go_sem, hyc]
    exact D0.out.setCell (p := ⟨p, 0, none⟩) (by show w.heap.size ≤ p; omega) _
  · have HLE := Lib.hid hle
    clear hle
    cases l with
    | nil =>
      obtain rfl : u0 = base := hl
      have hb := HB.out
      cases hb with
      | nil =>
        have hz := run_nil_nil
        go_wp2
        refine leaves_cons (f := 46) (args := #[.pointer (some ⟨p, 0, none⟩)]) (by simp) (by simp [go_sem]) ?_
        refine (cEnds_idle _ _).mono ?_
        rintro e u' w'' ⟨rfl, rfl, rfl⟩
        have HY := blk_set (n := 0) (u := .bool true) (vs' := #[.bool true]) HX.out (by simp)
        have hyc := blk_cell HY
        simp [Leaves, settle, results, Tryz.results29, go_sem, hyc]
        exact D0.out.setCell (p := ⟨p, 0, none⟩) (by show w.heap.size ≤ p; omega) _
      | no c =>
        have hz := run_fault_isnil (.int .i64 c)
        go_wp2_with (first | (refine (errUnwrap_base _ (.no c)).mono ?_; rintro r w' ⟨rfl, rfl⟩))
        go_roundw
        case rel => have := HLE.out; exact ⟨J + 1, by simp, by simp at this; omega, .inl rfl, trivial⟩
        case measure => simp [intOf]; omega
      | str s x hs =>
        have hz := run_fault_snil (.pointer (some ⟨s, 0, none⟩))
        have HS := Lib.hid hs
        clear hs
        go_wp2_with (first | (refine (errUnwrap_base _ (.str s x HS.out)).mono ?_; rintro r w' ⟨rfl, rfl⟩))
        go_roundw
        case rel => have := HLE.out; exact ⟨J + 1, by simp, by simp at this; omega, .inl rfl, trivial⟩
        case measure => simp [intOf]; omega
    | cons op l =>
      obtain ⟨q, e', rfl, hq, hl⟩ := hl
      have HQ := Lib.hid hq
      have HL := Lib.hid hl
      have hz := run_fault_nil (.pointer (some ⟨q, 0, none⟩)) wr
      clear hq hl
      go_wp2_with (first | (refine (errUnwrap_fault q op e' _ HQ.out).mono ?_; rintro r w' ⟨rfl, rfl⟩))
      go_roundw
      case rel => have := HLE.out; exact ⟨J + 1, by simp, by simp at this; omega, .inr ⟨l, HL.out, by simp at this; omega⟩, trivial⟩
      case measure => simp [intOf]; omega
end Go.Proofs.YtcgembfdejjliaaGreatDoor
