/- The document's own net: its nodes; who is parted. -/
import Derived.Test.YtkkmnodhmmdllaaNetK
import Derived.Test.YtkkmnodhmmdllaaSat
import Derived.Test.YtkkmnodhmmdllaaHist
import Derived.Deep.DeepCutAuto
namespace Go.Proofs.Ytkkmnodhmmdllaa
open Go.RowKit
set_option linter.unusedVariables false
set_option linter.unusedSimpArgs false

/-- a net at block nb -/
def RNB (w : World) (nb nodes : Nat) (v : Value) (p : List Bool) : Prop := w.heap[nb]? = some (.cells (ncells nodes v p) 48 (0, 0))

theorem RNB.lt {w : World} {nb nodes : Nat} {v : Value} {p : List Bool} (h : RNB w nb nodes v p) : nb < w.heap.size := blk_lt h

theorem RNB.blk {w : World} {nb nodes : Nat} {v : Value} {p : List Bool} (h : RNB w nb nodes v p) : w.heap[nb]? = some (.cells (ncells nodes v p) 48 (0, 0)) := h

theorem RNB.c0 {w : World} {nb nodes : Nat} {v : Value} {p : List Bool} (h : RNB w nb nodes v p) : w.cell? ⟨nb, 0, none⟩ = some (.int .i64 nodes) := by rw [blk_cell h]; rfl

theorem RNB.c1 {w : World} {nb nodes : Nat} {v : Value} {p : List Bool} (h : RNB w nb nodes v p) : w.cell? ⟨nb, 1, none⟩ = some v := by rw [blk_cell h]; rfl

theorem RNB.cp {w : World} {nb nodes : Nat} {v : Value} {p : List Bool} (h : RNB w nb nodes v p) (k : Nat) (b : Bool) (hk : p[k]? = some b) : w.cell? ⟨nb, 2 + k, none⟩ = some (.bool b) := by rw [blk_cell h]; exact ncells_p _ _ _ _ _ hk

theorem RNB.ext {w w' : World} {nb nodes : Nat} {v : Value} {p : List Bool} (h : RNB w nb nodes v p) (hb : Below w.heap.size w w') : RNB w' nb nodes v p := blk_ext hb h

theorem RNB.row {w : World} {nb nodes : Nat} {v : Value} {p : List Bool} (h : RNB w nb nodes v p) (v' : Value) (h1 : v'.oneCell' = true) : RNB (w.setCell ⟨nb, 1, none⟩ v') nb nodes v' p := by
  unfold RNB
  rw [← ncells_row nodes v v' p]
  exact blk_set h rfl

theorem RNB.part {w : World} {nb nodes : Nat} {v : Value} {p : List Bool} (h : RNB w nb nodes v p) (k : Nat) (b : Bool) : RNB (w.setCell ⟨nb, 2 + k, none⟩ (.bool b)) nb nodes v (p.set k b) := by
  unfold RNB
  rw [← ncells_set nodes v p k b]
  exact blk_set h rfl

set_option maxRecDepth 100000 in
set_option maxHeartbeats 1000000 in
theorem rnIn (nb nodes : Nat) (v : Value) (p : List Bool) (k : Int) (w : World) (h : RNB w nb nodes v p) :
    Calls Try.prog 32 #[.pointer (some ⟨nb, 0, none⟩), .int .i64 k] w fun e w' => e = .returned (.bool (hnB nodes k)) ∧ w = w' := by
  have c0 := h.c0
  have hl := h.lt
  clear h
  by_cases h0 : 0 ≤ k
  · by_cases h1 : k < nodes
    · rw [hnB_yes h0 h1]
      go_enter Try.func32, Try.ntmps32
      go_wp2
      go_ret
      exact ⟨rfl, rfl⟩
    · rw [hnB_no (by omega)]
      go_enter Try.func32, Try.ntmps32
      go_wp2
      go_ret
      exact ⟨rfl, rfl⟩
  · rw [hnB_no (by omega)]
    go_enter Try.func32, Try.ntmps32
    go_wp2
    go_ret
    exact ⟨rfl, rfl⟩

set_option maxRecDepth 100000 in
set_option maxHeartbeats 1000000 in
theorem rnParted (nb nodes : Nat) (v : Value) (p : List Bool) (a b : Int) (w : World) (h : RNB w nb nodes v p) (hn : nodes ≤ 6) (hp : p.length = 36) :
    Calls Try.prog 30 #[.pointer (some ⟨nb, 0, none⟩), .int .i64 a, .int .i64 b] w fun e w' => e = .returned (.bool (prB nodes p a b)) ∧ w = w' := by
  have HB := Lib.hid h
  have hl := h.lt
  have HP := Lib.hid hp
  clear h hp
  by_cases ha : 0 ≤ a ∧ a < nodes
  · obtain ⟨ha0, ha1⟩ := ha
    obtain ⟨A, rfl⟩ := Int.eq_ofNat_of_zero_le ha0
    have hya := hnB_yes ha0 ha1
    by_cases hb : 0 ≤ b ∧ b < nodes
    · obtain ⟨hb0, hb1⟩ := hb
      obtain ⟨B, rfl⟩ := Int.eq_ofNat_of_zero_le hb0
      have hyb := hnB_yes hb0 hb1
      obtain ⟨y, hy⟩ : ∃ y, p[A * 6 + B]? = some y := ⟨_, List.getElem?_eq_getElem (by have := HP.out; omega)⟩
      have hcp := HB.out.cp _ _ hy
      have HR := Lib.hid (show prB nodes p A B = y by unfold prB; rw [hya, hyb]; simp [List.getD, hy])
      have HYA := Lib.hid hya
      have HYB := Lib.hid hyb
      rw [← Nat.add_assoc] at hcp
      have hA6 : (A : Int) < 6 := by omega
      have hB6 : (B : Int) < 6 := by omega
      clear hy hya hyb
      rw [HR.out]
      go_enter Try.func30, Try.ntmps30
      go_wp2_with fail
      refine (rnIn nb nodes v p A _ HB.out).mono ?_
      rintro e w1 ⟨rfl, rfl⟩
      rw [HYA.out]
      go_wp2_with fail
      refine (rnIn nb nodes v p B _ HB.out).mono ?_
      rintro e w1 ⟨rfl, rfl⟩
      rw [HYB.out]
      go_wp2
      go_ret
      exact ⟨rfl, rfl⟩
    · have HN := Lib.hid (hnB_no (nodes := nodes) (k := b) (by omega))
      have HYA := Lib.hid hya
      have HR := Lib.hid (show prB nodes p A b = false by unfold prB; rw [HN.out]; simp)
      clear hya
      rw [HR.out]
      go_enter Try.func30, Try.ntmps30
      go_wp2_with fail
      refine (rnIn nb nodes v p A _ HB.out).mono ?_
      rintro e w1 ⟨rfl, rfl⟩
      rw [HYA.out]
      go_wp2_with fail
      refine (rnIn nb nodes v p b _ HB.out).mono ?_
      rintro e w1 ⟨rfl, rfl⟩
      rw [HN.out]
      go_wp2
      go_ret
      exact ⟨rfl, rfl⟩
  · have HN := Lib.hid (hnB_no (nodes := nodes) (k := a) (by omega))
    have HR := Lib.hid (show prB nodes p a b = false by unfold prB; rw [HN.out]; simp)
    rw [HR.out]
    go_enter Try.func30, Try.ntmps30
    go_wp2_with fail
    refine (rnIn nb nodes v p a _ HB.out).mono ?_
    rintro e w1 ⟨rfl, rfl⟩
    rw [HN.out]
    go_wp2
    go_ret
    exact ⟨rfl, rfl⟩

set_option maxRecDepth 100000 in
set_option maxHeartbeats 1000000 in
theorem rnSet (nb nodes : Nat) (v : Value) (p : List Bool) (A B : Nat) (y : Bool) (w : World) (h : RNB w nb nodes v p) (hn : nodes ≤ 6) (hp : p.length = 36) (ha : A < nodes) (hb : B < nodes) (hab : A ≠ B) :
    Calls Try.prog 21 #[.pointer (some ⟨nb, 0, none⟩), .int .i64 (A : Int), .int .i64 (B : Int), .bool y] w fun e w' => e = .returned (.int .i64 0) ∧ RNB w' nb nodes v ((p.set (A * 6 + B) y).set (B * 6 + A) y) ∧ Kept nb w w' := by
  have HB := Lib.hid h
  have hl := h.lt
  have HP := Lib.hid hp
  have HYA := Lib.hid (hnB_yes (nodes := nodes) (k := (A : Int)) (by omega) (by omega))
  have HYB := Lib.hid (hnB_yes (nodes := nodes) (k := (B : Int)) (by omega) (by omega))
  have hA6 : (A : Int) < 6 := by omega
  have hB6 : (B : Int) < 6 := by omega
  have hd : ((A : Int) == (B : Int)) = false := by simp; omega
  clear h hp
  go_enter Try.func21, Try.ntmps21
  go_wp2_with fail
  refine (rnIn nb nodes v p A _ HB.out).mono ?_
  rintro e w1 ⟨rfl, rfl⟩
  rw [HYA.out]
  go_wp2_with fail
  refine (rnIn nb nodes v p B _ HB.out).mono ?_
  rintro e w1 ⟨rfl, rfl⟩
  rw [HYB.out]
  go_wp2_with fail
  haveI hIc : Nonempty (In (fun _ : World => True)) := ⟨⟨w, trivial⟩⟩
  refine wp_region_chain (fun w' => ∃ g : In (fun _ : World => True), w' = g.w) (by kernel_rfl) (by kernel_rfl) (by kernel_rfl) ?_
  have hk0 : Kept nb w w.drew := (Kept.refl nb w).drew
  have HB1 := Lib.hid (show RNB w.drew nb nodes v p from blk_drew HB.out)
  generalize w.drew = w1 at *
  obtain ⟨k1, hk1⟩ : ∃ k, A * 6 + B = k := ⟨_, rfl⟩
  obtain ⟨k2, hk2⟩ : ∃ k, B * 6 + A = k := ⟨_, rfl⟩
  have h11 : 2 + A * 6 + B = 2 + k1 := by omega
  have h22 : 2 + B * 6 + A = 2 + k2 := by omega
  obtain ⟨y1, hy1⟩ : ∃ y, p[k1]? = some y := ⟨_, List.getElem?_eq_getElem (by have := HP.out; omega)⟩
  obtain ⟨y2, hy2⟩ : ∃ z, (p.set k1 y)[k2]? = some z := ⟨_, List.getElem?_eq_getElem (by rw [List.length_set]; have := HP.out; omega)⟩
  have hc1 := HB1.out.cp _ _ hy1
  have hf1 := blk_free HB1.out.blk
  have hl1 := HB1.out.lt
  have HB2 := Lib.hid (HB1.out.part k1 y)
  have hk2' := hk0.setCell (2 + k1) (.bool y)
  have hc2 := HB2.out.cp _ _ hy2
  have hf2 := blk_free HB2.out.blk
  have HB3 := Lib.hid (HB2.out.part k2 y)
  have hk3 := hk2'.setCell (2 + k2) (.bool y)
  rw [← h11] at hc1 hc2 hf2 HB2 hk2' HB3 hk3
  rw [← h22] at hc2 HB3 hk3
  clear h11 h22 hy1 hy2
  repeat (refine wpG_plain (by rfl) (by rfl) (fun K hK => ?_); go_big_quiet_op; refine hK _ ?_; clear hK K)
  refine wpG_call (by rfl) (by rfl) ⟨⟨_, trivial⟩, rfl⟩ (fun K hK => ?_)
  go_big_op
  refine hK _ _ ?_
  clear hK K
  repeat (refine wpG_plain (by rfl) (by rfl) (fun K hK => ?_); go_big_quiet_op; refine hK _ ?_; clear hK K)
  refine wpG_call (by rfl) (by rfl) ⟨⟨_, trivial⟩, rfl⟩ (fun K hK => ?_)
  go_big_op
  refine hK _ _ ?_
  clear hK K
  refine wpG_nil ⟨⟨_, trivial⟩, rfl⟩ ?_
  go_wp2
  go_ret
  exact ⟨rfl, by rw [hk1, hk2]; exact HB3.out, hk3⟩

set_option maxRecDepth 100000 in
set_option maxHeartbeats 1000000 in
theorem rnSet_same (nb nodes : Nat) (v : Value) (p : List Bool) (A B : Nat) (y : Bool) (w : World) (h : RNB w nb nodes v p) (ha : A < nodes) (hab : A = B) (hn : nodes ≤ 6) :
    Calls Try.prog 21 #[.pointer (some ⟨nb, 0, none⟩), .int .i64 (A : Int), .int .i64 (B : Int), .bool y] w fun e w' => e = .returned (.int .i64 23) ∧ w = w' := by
  subst hab
  have HB := Lib.hid h
  have HYA := Lib.hid (hnB_yes (nodes := nodes) (k := (A : Int)) (by omega) (by omega))
  clear h
  go_enter Try.func21, Try.ntmps21
  go_wp2_with fail
  refine (rnIn nb nodes v p A _ HB.out).mono ?_
  rintro e w1 ⟨rfl, rfl⟩
  rw [HYA.out]
  go_wp2_with fail
  refine (rnIn nb nodes v p A _ HB.out).mono ?_
  rintro e w1 ⟨rfl, rfl⟩
  rw [HYA.out]
  go_wp2
  go_ret
  exact ⟨rfl, rfl⟩

/-- what comes of Cut, Heal -/
def setM (nodes : Nat) (p : List Bool) (a b : Int) (y : Bool) : Int × List Bool := if hnB nodes a = true ∧ hnB nodes b = true ∧ a ≠ b then (0, partP p a.toNat b.toNat y) else (23, p)
theorem setM_len {nodes : Nat} {p : List Bool} {a b : Int} {y : Bool} (h : p.length = 36) : (setM nodes p a b y).2.length = 36 := by
  unfold setM
  split
  · simp [partP, h]
  · exact h
set_option maxRecDepth 100000 in
set_option maxHeartbeats 1000000 in
theorem netPartG (nb nodes : Nat) (v : Value) (p : List Bool) (A B : Int) (y : Bool) (w : World) (h : NetB w nb nodes v p) (hn : nodes ≤ 6) (hp : p.length = 36) :
    Calls Try.prog 29 #[.pointer (some ⟨nb, 0, none⟩), .int .i64 A, .int .i64 B, .bool y] w fun r w' => r = .returned (.int .i64 (setM nodes p A B y).1) ∧ NetB w' nb nodes v (setM nodes p A B y).2 ∧ Rim nb w w' := by
  by_cases ha : 0 ≤ A ∧ A < nodes
  · obtain ⟨ha0, ha1⟩ := ha
    obtain ⟨A, rfl⟩ := Int.eq_ofNat_of_zero_le ha0
    by_cases hb : 0 ≤ B ∧ B < nodes
    · obtain ⟨hb0, hb1⟩ := hb
      obtain ⟨B, rfl⟩ := Int.eq_ofNat_of_zero_le hb0
      by_cases hab : A = B
      · have e : setM nodes p (A : Int) (B : Int) y = (23, p) := by unfold setM; rw [if_neg (by rintro ⟨_, _, h⟩; exact h (by omega))]
        rw [e]
        refine (netPart_same nb nodes v p A B y w h (by omega) hab hn).mono ?_
        rintro r w' ⟨rfl, rfl⟩
        exact ⟨rfl, h, Rim.of (Below.refl _ _)⟩
      · have e : setM nodes p (A : Int) (B : Int) y = (0, partP p A B y) := by unfold setM; rw [if_pos ⟨hnB_yes ha0 ha1, hnB_yes hb0 hb1, by omega⟩]; rfl
        rw [e]
        refine (netPart nb nodes v p A B y w h hn hp (by omega) (by omega) hab).mono ?_
        rintro r w' ⟨rfl, h2, hk⟩
        exact ⟨rfl, h2, Rim.kept hk⟩
    · have HN := Lib.hid (hnB_no (nodes := nodes) (k := B) (by omega))
      have HYA := Lib.hid (hnB_yes ha0 ha1)
      have e : setM nodes p (A : Int) B y = (23, p) := by unfold setM; rw [if_neg (by rintro ⟨_, h, _⟩; rw [HN.out] at h; cases h)]
      rw [e]
      have HB := Lib.hid h
      clear h e
      go_enter Try.func29, Try.ntmps29
      go_wp2_with fail
      refine (netHas nb nodes v p A _ HB.out).mono ?_
      rintro e w1 ⟨rfl, rfl⟩
      rw [HYA.out]
      go_wp2_with fail
      refine (netHas nb nodes v p B _ HB.out).mono ?_
      rintro e w1 ⟨rfl, rfl⟩
      rw [HN.out]
      go_wp2
      go_ret
      exact ⟨rfl, HB.out, Rim.of (Below.refl _ _)⟩
  · have HN := Lib.hid (hnB_no (nodes := nodes) (k := A) (by omega))
    have e : setM nodes p A B y = (23, p) := by unfold setM; rw [if_neg (by rintro ⟨h, _⟩; rw [HN.out] at h; cases h)]
    rw [e]
    have HB := Lib.hid h
    clear h e
    go_enter Try.func29, Try.ntmps29
    go_wp2_with fail
    refine (netHas nb nodes v p A _ HB.out).mono ?_
    rintro e w1 ⟨rfl, rfl⟩
    rw [HN.out]
    go_wp2
    go_ret
    exact ⟨rfl, HB.out, Rim.of (Below.refl _ _)⟩

set_option maxRecDepth 100000 in
set_option maxHeartbeats 1000000 in
theorem rnSetG (nb nodes : Nat) (v : Value) (p : List Bool) (A B : Int) (y : Bool) (w : World) (h : RNB w nb nodes v p) (hn : nodes ≤ 6) (hp : p.length = 36) :
    Calls Try.prog 21 #[.pointer (some ⟨nb, 0, none⟩), .int .i64 A, .int .i64 B, .bool y] w fun r w' => r = .returned (.int .i64 (setM nodes p A B y).1) ∧ RNB w' nb nodes v (setM nodes p A B y).2 ∧ Rim nb w w' := by
  by_cases ha : 0 ≤ A ∧ A < nodes
  · obtain ⟨ha0, ha1⟩ := ha
    obtain ⟨A, rfl⟩ := Int.eq_ofNat_of_zero_le ha0
    by_cases hb : 0 ≤ B ∧ B < nodes
    · obtain ⟨hb0, hb1⟩ := hb
      obtain ⟨B, rfl⟩ := Int.eq_ofNat_of_zero_le hb0
      by_cases hab : A = B
      · have e : setM nodes p (A : Int) (B : Int) y = (23, p) := by unfold setM; rw [if_neg (by rintro ⟨_, _, h⟩; exact h (by omega))]
        rw [e]
        refine (rnSet_same nb nodes v p A B y w h (by omega) hab hn).mono ?_
        rintro r w' ⟨rfl, rfl⟩
        exact ⟨rfl, h, Rim.of (Below.refl _ _)⟩
      · have e : setM nodes p (A : Int) (B : Int) y = (0, partP p A B y) := by unfold setM; rw [if_pos ⟨hnB_yes ha0 ha1, hnB_yes hb0 hb1, by omega⟩]; rfl
        rw [e]
        refine (rnSet nb nodes v p A B y w h hn hp (by omega) (by omega) hab).mono ?_
        rintro r w' ⟨rfl, h2, hk⟩
        exact ⟨rfl, h2, Rim.kept hk⟩
    · have HN := Lib.hid (hnB_no (nodes := nodes) (k := B) (by omega))
      have HYA := Lib.hid (hnB_yes ha0 ha1)
      have e : setM nodes p (A : Int) B y = (23, p) := by unfold setM; rw [if_neg (by rintro ⟨_, h, _⟩; rw [HN.out] at h; cases h)]
      rw [e]
      have HB := Lib.hid h
      clear h e
      go_enter Try.func21, Try.ntmps21
      go_wp2_with fail
      refine (rnIn nb nodes v p A _ HB.out).mono ?_
      rintro e w1 ⟨rfl, rfl⟩
      rw [HYA.out]
      go_wp2_with fail
      refine (rnIn nb nodes v p B _ HB.out).mono ?_
      rintro e w1 ⟨rfl, rfl⟩
      rw [HN.out]
      go_wp2
      go_ret
      exact ⟨rfl, HB.out, Rim.of (Below.refl _ _)⟩
  · have HN := Lib.hid (hnB_no (nodes := nodes) (k := A) (by omega))
    have e : setM nodes p A B y = (23, p) := by unfold setM; rw [if_neg (by rintro ⟨h, _⟩; rw [HN.out] at h; cases h)]
    rw [e]
    have HB := Lib.hid h
    clear h e
    go_enter Try.func21, Try.ntmps21
    go_wp2_with fail
    refine (rnIn nb nodes v p A _ HB.out).mono ?_
    rintro e w1 ⟨rfl, rfl⟩
    rw [HN.out]
    go_wp2
    go_ret
    exact ⟨rfl, HB.out, Rim.of (Below.refl _ _)⟩

set_option maxRecDepth 100000 in
set_option maxHeartbeats 1000000 in
theorem netCutG (nb nodes : Nat) (v : Value) (p : List Bool) (A B : Int) (w : World) (h : NetB w nb nodes v p) (hn : nodes ≤ 6) (hp : p.length = 36) :
    Calls Try.prog 13 #[.pointer (some ⟨nb, 0, none⟩), .int .i64 A, .int .i64 B] w fun r w' => r = .returned (.int .i64 (setM nodes p A B true).1) ∧ NetB w' nb nodes v (setM nodes p A B true).2 ∧ Rim nb w w' := by
  have HB := Lib.hid h
  have HP := Lib.hid hp
  clear h hp
  go_enter Try.func13, Try.ntmps13
  go_wp2_with fail
  refine (netPartG nb nodes v p A B true _ HB.out hn HP.out).mono ?_
  rintro e w1 ⟨rfl, h2, hr⟩
  have H2 := Lib.hid h2
  have HR := Lib.hid hr
  clear h2 hr
  go_wp2
  go_ret
  exact ⟨rfl, H2.out, HR.out⟩

set_option maxRecDepth 100000 in
set_option maxHeartbeats 1000000 in
theorem netHealG (nb nodes : Nat) (v : Value) (p : List Bool) (A B : Int) (w : World) (h : NetB w nb nodes v p) (hn : nodes ≤ 6) (hp : p.length = 36) :
    Calls Try.prog 15 #[.pointer (some ⟨nb, 0, none⟩), .int .i64 A, .int .i64 B] w fun r w' => r = .returned (.int .i64 (setM nodes p A B false).1) ∧ NetB w' nb nodes v (setM nodes p A B false).2 ∧ Rim nb w w' := by
  have HB := Lib.hid h
  have HP := Lib.hid hp
  clear h hp
  go_enter Try.func15, Try.ntmps15
  go_wp2_with fail
  refine (netPartG nb nodes v p A B false _ HB.out hn HP.out).mono ?_
  rintro e w1 ⟨rfl, h2, hr⟩
  have H2 := Lib.hid h2
  have HR := Lib.hid hr
  clear h2 hr
  go_wp2
  go_ret
  exact ⟨rfl, H2.out, HR.out⟩

end Go.Proofs.Ytkkmnodhmmdllaa
