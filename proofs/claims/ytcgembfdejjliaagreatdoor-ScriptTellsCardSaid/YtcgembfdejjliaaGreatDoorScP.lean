/- script.put: a word put into a field of an act. -/
import Derived.Test.YtcgembfdejjliaaGreatDoorScN
namespace Go.Proofs.YtcgembfdejjliaaGreatDoor
open Go.RowKit Go.Lib
set_option linter.unusedVariables false

/-- an act's cells -/
def acC (a : Ac) : Array Value := #[.int .i64 a.k, .int .i64 a.a, .int .i64 a.b, .int .i64 a.op, .int .i64 a.st, .int .i64 a.n, .string a.app]
/-- what is put into field f -/
def PutP (a : Ac) (f : UInt8) (x : ByteArray) : Prop :=
  ∀ (ab B : Nat) (w : World), SW w → w.heap[ab]? = some (.cells (acC a) 29 (0, 0)) → B ≤ ab → B ≤ w.heap.size →
    Calls Tryz.prog 51 #[.pointer (some ⟨ab, 0, none⟩), .int .u8 f.toNat, .string x] w fun e w' =>
      ∃ b ok, e = .returned (.bool ok) ∧ w'.heap[ab]? = some (.cells (acC b) 29 (0, 0)) ∧ Below B w w' ∧ a.put f x = if ok then some b else none
theorem size_empty (x : ByteArray) : (!x.toList.isEmpty) = decide (x.size ≠ 0) := by
  rw [ByteArray.toList_eq]
  have h : x.size = x.data.toList.length := rfl
  cases hx : x.data.toList with
  | nil => rw [hx] at h; simp [h]
  | cons c l => rw [hx] at h; simp [h]

set_option maxHeartbeats 1000000 in
theorem put_t (a : Ac) (x : ByteArray) : PutP a 116 x := fun ab B w hw hb hB hBw => by
  have hc := blk_cell hb
  have hf := blk_free hb
  have hl := blk_lt hb
  have HB := Lib.hid hb
  clear hb hw
  simp only [acC] at hc
  go_enter Tryz.func51, Tryz.ntmps51
  go_wp2
  go_ret
  refine ⟨{ a with app := x }, !x.toList.isEmpty, rfl, blk_set HB.out rfl, (Below.refl _ _).setCell hB _, ?_⟩
  unfold Ac.put
  rw [if_pos rfl, size_empty]
  by_cases h : x.size = 0 <;> simp [h]

set_option maxHeartbeats 1000000 in
theorem put_n (a : Ac) (x : ByteArray) (hx : x.size ≤ 1048576) : PutP a 110 x := fun ab B w hw hb hB hBw => by
  have H := Lib.hid (show _ ∧ _ from ⟨hw, hb⟩)
  have hl := blk_lt hb
  clear hb hw
  cases hn : num x.data.toList with
  | none =>
    go_enter Tryz.func51, Tryz.ntmps51
    go_wp2_with (first
      | (go_at_call 65; refine (numberP x hx _ H.out.1).mono ?_; rintro e w1 ⟨rfl, hb1⟩; have hc := blk_cell (blk_ext hb1 H.out.2); have hf := blk_free (blk_ext hb1 H.out.2); have hl1 := blk_lt (blk_ext hb1 H.out.2); have H1 := Lib.hid (blk_ext hb1 H.out.2); simp only [acC] at hc; rw [hn]))
    go_ret
    refine ⟨{ a with n := 0 }, false, rfl, blk_set H1.out rfl, (hb1.mono hBw).setCell hB _, ?_⟩
    unfold Ac.put
    rw [if_neg (by decide), hn]
    rfl
  | some v =>
    go_enter Tryz.func51, Tryz.ntmps51
    go_wp2_with (first
      | (go_at_call 65; refine (numberP x hx _ H.out.1).mono ?_; rintro e w1 ⟨rfl, hb1⟩; have hc := blk_cell (blk_ext hb1 H.out.2); have hf := blk_free (blk_ext hb1 H.out.2); have hl1 := blk_lt (blk_ext hb1 H.out.2); have H1 := Lib.hid (blk_ext hb1 H.out.2); simp only [acC] at hc; rw [hn]))
    go_ret
    refine ⟨{ a with n := v }, true, by simp, blk_set H1.out rfl, (hb1.mono hBw).setCell hB _, ?_⟩
    unfold Ac.put
    rw [if_neg (by decide), hn]
    rfl

set_option maxHeartbeats 1000000 in
theorem put_a (a : Ac) (x : ByteArray) (hx : x.size ≤ 1048576) : PutP a 97 x := fun ab B w hw hb hB hBw => by
  have H := Lib.hid (show _ ∧ _ from ⟨hw, hb⟩)
  have hl := blk_lt hb
  clear hb hw
  cases hn : num x.data.toList with
  | none =>
    go_enter Tryz.func51, Tryz.ntmps51
    go_wp2_with (first
      | (go_at_call 65; refine (numberP x hx _ H.out.1).mono ?_; rintro e w1 ⟨rfl, hb1⟩; have hc := blk_cell (blk_ext hb1 H.out.2); have hf := blk_free (blk_ext hb1 H.out.2); have hl1 := blk_lt (blk_ext hb1 H.out.2); have H1 := Lib.hid (blk_ext hb1 H.out.2); simp only [acC] at hc; rw [hn]))
    go_ret
    refine ⟨{ a with a := 0 }, false, rfl, blk_set H1.out rfl, (hb1.mono hBw).setCell hB _, ?_⟩
    unfold Ac.put
    rw [if_neg (by decide), hn]
    rfl
  | some v =>
    go_enter Tryz.func51, Tryz.ntmps51
    go_wp2_with (first
      | (go_at_call 65; refine (numberP x hx _ H.out.1).mono ?_; rintro e w1 ⟨rfl, hb1⟩; have hc := blk_cell (blk_ext hb1 H.out.2); have hf := blk_free (blk_ext hb1 H.out.2); have hl1 := blk_lt (blk_ext hb1 H.out.2); have H1 := Lib.hid (blk_ext hb1 H.out.2); simp only [acC] at hc; rw [hn]))
    go_ret
    refine ⟨{ a with a := v }, true, by simp, blk_set H1.out rfl, (hb1.mono hBw).setCell hB _, ?_⟩
    unfold Ac.put
    rw [if_neg (by decide), hn]
    rfl

set_option maxHeartbeats 1000000 in
theorem put_b (a : Ac) (x : ByteArray) (hx : x.size ≤ 1048576) : PutP a 98 x := fun ab B w hw hb hB hBw => by
  have H := Lib.hid (show _ ∧ _ from ⟨hw, hb⟩)
  have hl := blk_lt hb
  clear hb hw
  cases hn : num x.data.toList with
  | none =>
    go_enter Tryz.func51, Tryz.ntmps51
    go_wp2_with (first
      | (go_at_call 65; refine (numberP x hx _ H.out.1).mono ?_; rintro e w1 ⟨rfl, hb1⟩; have hc := blk_cell (blk_ext hb1 H.out.2); have hf := blk_free (blk_ext hb1 H.out.2); have hl1 := blk_lt (blk_ext hb1 H.out.2); have H1 := Lib.hid (blk_ext hb1 H.out.2); simp only [acC] at hc; rw [hn]))
    go_ret
    refine ⟨{ a with b := 0 }, false, rfl, blk_set H1.out rfl, (hb1.mono hBw).setCell hB _, ?_⟩
    unfold Ac.put
    rw [if_neg (by decide), hn]
    rfl
  | some v =>
    go_enter Tryz.func51, Tryz.ntmps51
    go_wp2_with (first
      | (go_at_call 65; refine (numberP x hx _ H.out.1).mono ?_; rintro e w1 ⟨rfl, hb1⟩; have hc := blk_cell (blk_ext hb1 H.out.2); have hf := blk_free (blk_ext hb1 H.out.2); have hl1 := blk_lt (blk_ext hb1 H.out.2); have H1 := Lib.hid (blk_ext hb1 H.out.2); simp only [acC] at hc; rw [hn]))
    go_ret
    refine ⟨{ a with b := v }, true, by simp, blk_set H1.out rfl, (hb1.mono hBw).setCell hB _, ?_⟩
    unfold Ac.put
    rw [if_neg (by decide), hn]
    rfl

set_option maxHeartbeats 1000000 in
theorem put_s (a : Ac) (x : ByteArray) (hx : x.size ≤ 1048576) : PutP a 115 x := fun ab B w hw hb hB hBw => by
  have H := Lib.hid (show _ ∧ _ from ⟨hw, hb⟩)
  have hl := blk_lt hb
  clear hb hw
  cases hn : num x.data.toList with
  | none =>
    go_enter Tryz.func51, Tryz.ntmps51
    go_wp2_with (first
      | (go_at_call 65; refine (numberP x hx _ H.out.1).mono ?_; rintro e w1 ⟨rfl, hb1⟩; have hc := blk_cell (blk_ext hb1 H.out.2); have hf := blk_free (blk_ext hb1 H.out.2); have hl1 := blk_lt (blk_ext hb1 H.out.2); have H1 := Lib.hid (blk_ext hb1 H.out.2); simp only [acC] at hc; rw [hn]))
    go_ret
    refine ⟨{ a with st := 0 }, false, rfl, blk_set H1.out rfl, (hb1.mono hBw).setCell hB _, ?_⟩
    unfold Ac.put
    rw [if_neg (by decide), hn]
    rfl
  | some v =>
    go_enter Tryz.func51, Tryz.ntmps51
    go_wp2_with (first
      | (go_at_call 65; refine (numberP x hx _ H.out.1).mono ?_; rintro e w1 ⟨rfl, hb1⟩; have hc := blk_cell (blk_ext hb1 H.out.2); have hf := blk_free (blk_ext hb1 H.out.2); have hl1 := blk_lt (blk_ext hb1 H.out.2); have H1 := Lib.hid (blk_ext hb1 H.out.2); simp only [acC] at hc; rw [hn]))
    go_ret
    refine ⟨{ a with st := v }, true, by simp, blk_set H1.out rfl, (hb1.mono hBw).setCell hB _, ?_⟩
    unfold Ac.put
    rw [if_neg (by decide), hn]
    rfl

/-- the fields that there are -/
theorem putP (a : Ac) (f : UInt8) (hf : f ∈ ([97, 98, 110, 115, 116] : List UInt8)) (x : ByteArray) (hx : x.size ≤ 1048576) : PutP a f x := by
  simp only [List.mem_cons, List.mem_nil_iff, or_false] at hf
  rcases hf with rfl | rfl | rfl | rfl | rfl
  · exact put_a a x hx
  · exact put_b a x hx
  · exact put_n a x hx
  · exact put_s a x hx
  · exact put_t a x
end Go.Proofs.YtcgembfdejjliaaGreatDoor
