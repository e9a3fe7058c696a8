/- What of the package-level variables a script's functions read; script.number, for any word. -/
import Derived.Test.YtcgembfdejjliaaGreatDoorScM
import Derived.Test.YtcgembfdejjliaaGreatDoorScLib
import Derived.Test.YtcgembfdejjliaaGreatDoorStrs
import Derived.Test.YtcgembfdejjliaaGreatDoorFauE
import Derived.Lib.AppendIntMem
import Derived.Lib.SmallJoins
namespace Go.Proofs.YtcgembfdejjliaaGreatDoor
open Go.RowKit Go.Lib
set_option linter.unusedVariables false

def shC : List Value := shs.flatMap fun s => [.string s.w, .int .i64 s.k, .int .i64 s.op, .string s.fs]
/-- the script's shapes, the library's tables and errors lie as they are laid -/
structure SW (w : World) : Prop where
  sh : w.var? Tryz.prog "frankpledge/script.shapes" = some shC.toArray
  syn : ∃ tp p, w.var? Tryz.prog "strconv.ErrSyntax" = some #[.iface tp p]
  rng : ∃ tp p, w.var? Tryz.prog "strconv.ErrRange" = some #[.iface tp p]
  tab : Lib.TabIs Tryz.prog w "internal/strconv.uint64pow10" .u64 Lib.pow10Tab
  ml : ∃ m, w.cell? ⟨2, 0, none⟩ = some (.int .i64 m)
  eg : EG w
theorem var_ext {w w' : World} (hb : Below w.heap.size w w') {n : String} {cs : Array Value} (h : w.var? Tryz.prog n = some cs) : w'.var? Tryz.prog n = some cs := by
  unfold World.var? at *
  cases hg : Program.globalNamed Tryz.prog n with
  | none => simp [hg] at h
  | some g =>
    simp only [hg, Option.bind_some] at h ⊢
    cases hh : w.heap[g]? with
    | none => simp [hh] at h
    | some o => rw [hb.block g (blk_lt hh), hh]; simpa [hh] using h
theorem SW.ext {w w' : World} (h : SW w) (hb : Below w.heap.size w w') : SW w' := by
  obtain ⟨tp, p, h2⟩ := h.syn
  obtain ⟨tq, q, h3⟩ := h.rng
  obtain ⟨m, h5⟩ := h.ml
  exact ⟨var_ext hb h.sh, ⟨_, _, var_ext hb h2⟩, ⟨_, _, var_ext hb h3⟩, var_ext hb h.tab, ⟨m, ext_cell hb h5⟩, h.eg.ext hb⟩
theorem pi_below {w w1 : World} (h : w1 = w ∨ ∃ t, w1 = Lib.bytesWorld w 5 t) : Below w.heap.size w w1 := by
  rcases h with rfl | ⟨t, rfl⟩
  · exact Below.refl _ _
  · exact Go.Joins.below_bytesWorld _ _ _ _ (Nat.le_refl _)
theorem neq_num (v : Value) (w : World) : (binOp .neq 42 (.iface 163 v) .nilIface).run Tryz.prog w = .ok (.bool true) w := by kernel_rfl
theorem neq_nil (w : World) : (binOp .neq 42 .nilIface .nilIface).run Tryz.prog w = .ok (.bool false) w := by kernel_rfl

set_option maxHeartbeats 1000000 in
theorem number_ok (s : ByteArray) (hs : s.size ≤ 1048576) (v : Int) (h : Lib.parseIntB 64 s.data.toList = .ok v) (w : World) (hw : SW w) :
    Calls Tryz.prog 65 #[.string s] w fun e w' => e = .returned (.tuple #[.int .i64 ((num s.data.toList).getD 0), .bool (num s.data.toList).isSome]) ∧ Below w.heap.size w w' := by
  have hv := Lib.parseIntB_bounds h
  have hnn := neq_nil
  have HW := Lib.hid hw
  clear hw
  have HN := Lib.hid (show num s.data.toList = if Lib.itoa v = s.data.toList then some v else none by unfold num; rw [h])
  go_enter Tryz.func65, Tryz.ntmps65
  go_wp2_with (first
    | (go_at_call 82; refine (Tryz.strconv_ParseInt_10_at64_ok s (by omega) v h _).mono ?_; rintro e w1 ⟨rfl, hw1⟩; have htab := (show SW w1 from HW.out.ext (pi_below hw1)).tab)
    | (go_at_call 52; refine (Tryz.strconv_FormatInt_10 v (by have := hv.1; simpa using this) (by have := hv.2; simp at this; omega) _ (by assumption)).mono ?_; rintro e w2 ⟨rfl, k, os, hw2⟩))
  · rename_i hb
    have hne : ¬ Lib.itoa v = s.data.toList := fun e => by rw [← ByteArray.toList_eq] at e; simp [e] at hb
    have h1 := HN.out
    rw [if_neg hne] at h1
    rw [h1]
    go_ret2
    exact ⟨rfl, (pi_below hw1).trans (((below_grow w1.heap.size w1 (Nat.le_refl _) k os)).mono (pi_below hw1).size)⟩
  · rename_i hb
    have he : Lib.itoa v = s.data.toList := by rw [← ByteArray.toList_eq]; simpa using hb
    have h1 := HN.out
    rw [if_pos he] at h1
    rw [h1]
    go_ret2
    exact ⟨rfl, (pi_below hw1).trans (((below_grow w1.heap.size w1 (Nat.le_refl _) k os)).mono (pi_below hw1).size)⟩

set_option maxHeartbeats 1000000 in
theorem number_no (s : ByteArray) (hs : s.size ≤ 1048576) (hv : ∀ v, Lib.parseIntB 64 s.data.toList ≠ .ok v) (w : World) (hw : SW w) :
    Calls Tryz.prog 65 #[.string s] w fun e w' => e = .returned (.tuple #[.int .i64 ((num s.data.toList).getD 0), .bool (num s.data.toList).isSome]) ∧ Below w.heap.size w w' := by
  have hnn := neq_num
  obtain ⟨tp, p, hsyn⟩ := hw.syn
  obtain ⟨tq, q, hrng⟩ := hw.rng
  have HS := Lib.hid hsyn
  have HR := Lib.hid hrng
  clear hsyn hrng hw
  have HN : num s.data.toList = none := by
    unfold num
    cases h : Lib.parseIntB 64 s.data.toList with
    | ok v => exact absurd h (hv v)
    | «syntax» => rfl
    | range => rfl
  rw [HN]
  clear HN
  cases h : Lib.parseIntB 64 s.data.toList with
  | ok v => exact absurd h (hv v)
  | «syntax» =>
    go_enter Tryz.func65, Tryz.ntmps65
    go_wp2_with (first
      | (go_at_call 82; refine (Tryz.strconv_ParseInt_10_at64_syntax_var s (by omega) h tp p _ HS.out).mono ?_; rintro e w1 ⟨N, rfl, -, -, hw1⟩))
    go_ret2
    exact ⟨rfl, hw1⟩
  | range =>
    go_enter Tryz.func65, Tryz.ntmps65
    go_wp2_with (first
      | (go_at_call 82; refine (Tryz.strconv_ParseInt_10_at64_range_var s (by omega) h tq q _ HR.out).mono ?_; rintro e w1 ⟨N, rfl, -, -, hw1⟩))
    go_ret2
    exact ⟨rfl, hw1⟩
theorem numberP (s : ByteArray) (hs : s.size ≤ 1048576) (w : World) (hw : SW w) :
    Calls Tryz.prog 65 #[.string s] w fun e w' => e = .returned (.tuple #[.int .i64 ((num s.data.toList).getD 0), .bool (num s.data.toList).isSome]) ∧ Below w.heap.size w w' := by
  by_cases h : ∃ v, Lib.parseIntB 64 s.data.toList = .ok v
  · obtain ⟨v, h⟩ := h; exact number_ok s hs v h w hw
  · exact number_no s hs (fun v e => h ⟨v, e⟩) w hw
theorem num_in {l : List UInt8} {n : Int} (h : num l = some n) : -9223372036854775808 ≤ n ∧ n ≤ 9223372036854775807 := by
  unfold num at h
  split at h
  · rename_i v hv
    split at h
    · obtain rfl := Option.some.inj h
      have := Lib.parseIntB_bounds hv
      simp at this
      omega
    · cases h
  · cases h
end Go.Proofs.YtcgembfdejjliaaGreatDoor
