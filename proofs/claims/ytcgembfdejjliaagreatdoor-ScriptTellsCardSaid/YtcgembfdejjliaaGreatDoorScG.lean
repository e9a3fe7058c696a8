/- script.get: a field of an act as text; the law's why. -/
import Derived.Test.YtcgembfdejjliaaGreatDoorScQ
namespace Go.Proofs.YtcgembfdejjliaaGreatDoor
open Go.RowKit
set_option linter.unusedVariables false

/-- an act's numbers are ints -/
def AcOk (a : Ac) : Prop := (-9223372036854775808 ≤ a.a ∧ a.a ≤ 9223372036854775807) ∧ (-9223372036854775808 ≤ a.b ∧ a.b ≤ 9223372036854775807) ∧ (-9223372036854775808 ≤ a.st ∧ a.st ≤ 9223372036854775807) ∧ (-9223372036854775808 ≤ a.n ∧ a.n ≤ 9223372036854775807)
def itoB (n : Int) : ByteArray := ⟨(Lib.itoa n).toArray⟩
/-- a field as text -/
def getM (a : Ac) (f : UInt8) : ByteArray := if f = 97 then itoB a.a else if f = 98 then itoB a.b else if f = 110 then itoB a.n else if f = 115 then itoB a.st else a.app
theorem dec_log : ∀ (k u : Nat), u < 10 ^ (k + 1) → (Lib.decDigits u).length ≤ k + 1
  | 0, u, h => by rw [Lib.decDigits, dif_pos (by omega)]; simp
  | k + 1, u, h => by
    rw [Lib.decDigits]
    split
    · simp
    · have := dec_log k (u / 10) (by rw [Nat.pow_succ] at h; omega)
      rw [List.length_append]
      simp
      omega
theorem ito_len (n : Int) (h : -9223372036854775808 ≤ n ∧ n ≤ 9223372036854775807) : (itoB n).size ≤ 20 := by
  show (Lib.itoa n).toArray.size ≤ 20
  unfold Lib.itoa
  split
  · have := dec_log 18 n.natAbs (by omega)
    simp; omega
  · have := dec_log 18 n.toNat (by omega)
    simp; omega
theorem itoI (n : Int) (h : -9223372036854775808 ≤ n ∧ n ≤ 9223372036854775807) (w : World) (hw : SW w) :
    Calls Tryz.prog 27 #[.int .i64 n] w fun e w' => e = .returned (.string (itoB n)) ∧ Below w.heap.size w w' := by
  refine (Tryz.strconv_Itoa n h.1 h.2 w hw.tab).mono ?_
  rintro e w' ⟨rfl, k, os, rfl⟩
  exact ⟨rfl, Lib.below_grow _ _ (Nat.le_refl _) _ _⟩
theorem fmtI (n : Int) (h : -9223372036854775808 ≤ n ∧ n ≤ 9223372036854775807) (w : World) (hw : SW w) :
    Calls Tryz.prog 52 #[.int .i64 n, .int .i64 10] w fun e w' => e = .returned (.string (itoB n)) ∧ Below w.heap.size w w' := by
  refine (Tryz.strconv_FormatInt_10 n h.1 h.2 w hw.tab).mono ?_
  rintro e w' ⟨rfl, k, os, rfl⟩
  exact ⟨rfl, Lib.below_grow _ _ (Nat.le_refl _) _ _⟩
set_option maxRecDepth 100000 in
set_option maxHeartbeats 2000000 in
theorem getP (a : Ac) (ha : AcOk a) (f : UInt8) (hf : f ∈ ([97, 98, 110, 115, 116] : List UInt8)) (w : World) (hw : SW w) :
    Calls Tryz.prog 38 #[.agg #[.int .i64 a.k, .int .i64 a.a, .int .i64 a.b, .int .i64 a.op, .int .i64 a.st, .int .i64 a.n, .string a.app], .int .u8 f.toNat] w fun e w' => e = .returned (.string (getM a f)) ∧ Below w.heap.size w w' := by
  have hb1 : Below w.heap.size w (w.alloc (.cells #[.int .i64 a.k, .int .i64 a.a, .int .i64 a.b, .int .i64 a.op, .int .i64 a.st, .int .i64 a.n, .string a.app] 29)) := (Below.refl _ _).alloc (Nat.le_refl _) _
  have HB := Lib.hid (show _ ∧ _ from ⟨hb1, hw.ext hb1⟩)
  clear hb1 hw
  obtain ⟨h1, h2, h3, h4⟩ := ha
  have HA := Lib.hid (show _ ∧ _ ∧ _ ∧ _ from ⟨h1, h2, h3, h4⟩)
  clear h1 h2 h3 h4
  simp only [List.mem_cons, List.mem_nil_iff, or_false] at hf
  rcases hf with rfl | rfl | rfl | rfl | rfl
  · go_enter Tryz.func38, Tryz.ntmps38
    go_wp2_with (first | (go_at_call 27; refine (itoI a.a HA.out.1 _ HB.out.2).mono ?_; rintro e w2 ⟨rfl, hb2⟩))
    go_ret
    exact ⟨rfl, ext_trans HB.out.1 hb2⟩
  · go_enter Tryz.func38, Tryz.ntmps38
    go_wp2_with (first | (go_at_call 27; refine (itoI a.b HA.out.2.1 _ HB.out.2).mono ?_; rintro e w2 ⟨rfl, hb2⟩))
    go_ret
    exact ⟨rfl, ext_trans HB.out.1 hb2⟩
  · go_enter Tryz.func38, Tryz.ntmps38
    go_wp2_with (first | (go_at_call 52; refine (fmtI a.n HA.out.2.2.2 _ HB.out.2).mono ?_; rintro e w2 ⟨rfl, hb2⟩))
    go_ret
    exact ⟨rfl, ext_trans HB.out.1 hb2⟩
  · go_enter Tryz.func38, Tryz.ntmps38
    go_wp2_with (first | (go_at_call 27; refine (itoI a.st HA.out.2.2.1 _ HB.out.2).mono ?_; rintro e w2 ⟨rfl, hb2⟩))
    go_ret
    exact ⟨rfl, ext_trans HB.out.1 hb2⟩
  · go_enter Tryz.func38, Tryz.ntmps38
    go_wp2
    go_ret
    exact ⟨rfl, HB.out.1⟩

/-- the law's look at an error: of whom, and where -/
theorem whyP (p1 : List ByteArray) (e v : Value) (w : World) (hw : SW w) (hf : FC w (.iface 39 (.int .i64 12)) p1 e) (hn : p1.length ≤ 100) (hp : p1 ≠ []) (hv : TxAt w v p1) :
    Calls Tryz.prog 19 #[e, v] w fun r w' => r = .returned (.bool true) ∧ Below w.heap.size w w' := by
  have H := Lib.hid (show _ ∧ _ ∧ _ from ⟨hw, hf, hv⟩)
  obtain ⟨x, l, rfl⟩ : ∃ x l, p1 = x :: l := by cases p1 with
    | nil => exact absurd rfl hp
    | cons x l => exact ⟨x, l, rfl⟩
  obtain ⟨eb, e', rfl, -, -⟩ := hf
  have hq := neq_flt (.pointer (some ⟨eb, 0, none⟩))
  clear hv hw
  go_enter Tryz.func19, Tryz.ntmps19
  go_wp2_with fail
  refine (faultCode_hit (x :: l) 12 _ w H.out.1.eg H.out.2.1 hn).mono ?_
  rintro r w1 ⟨rfl, hb1⟩
  have B1 := Lib.hid hb1
  clear hb1
  go_wp2_with fail
  refine (faultPath (x :: l) (.iface 39 (.int .i64 12)) _ w1 (H.out.1.ext B1.out).eg (H.out.2.1.ext B1.out) (.no 12) hn).mono ?_
  rintro r w2 ⟨u, rfl, ho, hb2⟩
  have B2 := Lib.hid (show _ ∧ _ from ⟨ho, ext_trans B1.out hb2⟩)
  clear ho hb2
  go_wp2_with fail
  refine (sameTexts u v (x :: l) w2 (OwnT.tx B2.out.1) (H.out.2.2.ext B2.out.2)).mono ?_
  rintro r w3 ⟨rfl, hb3⟩
  go_wp2
  go_ret
  exact ⟨rfl, ext_trans B2.out.2 hb3⟩
end Go.Proofs.YtcgembfdejjliaaGreatDoor
