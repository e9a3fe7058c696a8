/- Package net's walks. -/
import Derived.Test.YtkkmnodhmmdllaaNetM
import Derived.Test.YtkkmnodhmmdllaaSplit
import Derived.Test.YtkkmnodhmmdllaaBlk
namespace Go.Proofs.Ytkkmnodhmmdllaa
open Go.RowKit
set_option linter.unusedVariables false

/-- a net's cells: the nodes, the row, who is parted -/
def ncells (nodes : Nat) (v : Value) (p : List Bool) : Array Value := (Value.int .i64 nodes :: v :: p.map Value.bool).toArray
theorem ncells_0 (nodes : Nat) (v : Value) (p : List Bool) : (ncells nodes v p)[0]? = some (.int .i64 nodes) := rfl
theorem ncells_1 (nodes : Nat) (v : Value) (p : List Bool) : (ncells nodes v p)[1]? = some v := rfl
theorem ncells_p (nodes : Nat) (v : Value) (p : List Bool) (k : Nat) (b : Bool) (h : p[k]? = some b) : (ncells nodes v p)[2 + k]? = some (.bool b) := by
  rw [show 2 + k = k + 1 + 1 from by omega]
  simp [ncells, h]
theorem ncells_row (nodes : Nat) (v v' : Value) (p : List Bool) : (ncells nodes v p).setIfInBounds 1 v' = ncells nodes v' p := by simp [ncells]
theorem ncells_set (nodes : Nat) (v : Value) (p : List Bool) (k : Nat) (b : Bool) : (ncells nodes v p).setIfInBounds (2 + k) (.bool b) = ncells nodes v (p.set k b) := by
  rw [show 2 + k = k + 1 + 1 from by omega]
  simp [ncells, List.map_set]
/-- a net at block nb -/
def NetB (w : World) (nb nodes : Nat) (v : Value) (p : List Bool) : Prop := w.heap[nb]? = some (.cells (ncells nodes v p) 59 (0, 0))
theorem NetB.lt {w : World} {nb nodes : Nat} {v : Value} {p : List Bool} (h : NetB w nb nodes v p) : nb < w.heap.size := blk_lt h
theorem NetB.blk {w : World} {nb nodes : Nat} {v : Value} {p : List Bool} (h : NetB w nb nodes v p) : w.heap[nb]? = some (.cells (ncells nodes v p) 59 (0, 0)) := h
theorem NetB.c0 {w : World} {nb nodes : Nat} {v : Value} {p : List Bool} (h : NetB w nb nodes v p) : w.cell? ⟨nb, 0, none⟩ = some (.int .i64 nodes) := by rw [blk_cell h]; rfl
theorem NetB.c1 {w : World} {nb nodes : Nat} {v : Value} {p : List Bool} (h : NetB w nb nodes v p) : w.cell? ⟨nb, 1, none⟩ = some v := by rw [blk_cell h]; rfl
theorem NetB.cp {w : World} {nb nodes : Nat} {v : Value} {p : List Bool} (h : NetB w nb nodes v p) (k : Nat) (b : Bool) (hk : p[k]? = some b) : w.cell? ⟨nb, 2 + k, none⟩ = some (.bool b) := by rw [blk_cell h]; exact ncells_p _ _ _ _ _ hk
theorem NetB.ext {w w' : World} {nb nodes : Nat} {v : Value} {p : List Bool} (h : NetB w nb nodes v p) (hb : Below w.heap.size w w') : NetB w' nb nodes v p := blk_ext hb h
theorem NetB.row {w : World} {nb nodes : Nat} {v : Value} {p : List Bool} (h : NetB w nb nodes v p) (v' : Value) (h1 : v'.oneCell' = true) : NetB (w.setCell ⟨nb, 1, none⟩ v') nb nodes v' p := by
  unfold NetB
  rw [← ncells_row nodes v v' p]
  exact blk_set h rfl
theorem NetB.part {w : World} {nb nodes : Nat} {v : Value} {p : List Bool} (h : NetB w nb nodes v p) (k : Nat) (b : Bool) : NetB (w.setCell ⟨nb, 2 + k, none⟩ (.bool b)) nb nodes v (p.set k b) := by
  unfold NetB
  rw [← ncells_set nodes v p k b]
  exact blk_set h rfl

/-- is there such a node? -/
def hnB (nodes : Nat) (k : Int) : Bool := decide (0 ≤ k) && decide (k < (nodes : Int))
theorem hnB_yes {nodes : Nat} {k : Int} (h : 0 ≤ k) (h1 : k < nodes) : hnB nodes k = true := by simp [hnB, h, h1]
theorem hnB_no {nodes : Nat} {k : Int} (h : k < 0 ∨ (nodes : Int) ≤ k) : hnB nodes k = false := by simp [hnB]; omega
/-- are the two parted? -/
def prB (nodes : Nat) (p : List Bool) (a b : Int) : Bool := hnB nodes a && hnB nodes b && p.getD (a.toNat * 6 + b.toNat) false

set_option maxRecDepth 100000 in
set_option maxHeartbeats 1000000 in
theorem netHas (nb nodes : Nat) (v : Value) (p : List Bool) (k : Int) (w : World) (h : NetB w nb nodes v p) :
    Calls Try.prog 24 #[.pointer (some ⟨nb, 0, none⟩), .int .i64 k] w fun e w' => e = .returned (.bool (hnB nodes k)) ∧ w = w' := by
  have c0 := h.c0
  have hl := h.lt
  clear h
  by_cases h0 : 0 ≤ k
  · by_cases h1 : k < nodes
    · rw [hnB_yes h0 h1]
      go_enter Try.func24, Try.ntmps24
      go_wp2
      go_ret
      exact ⟨rfl, rfl⟩
    · rw [hnB_no (by omega)]
      go_enter Try.func24, Try.ntmps24
      go_wp2
      go_ret
      exact ⟨rfl, rfl⟩
  · rw [hnB_no (by omega)]
    go_enter Try.func24, Try.ntmps24
    go_wp2
    go_ret
    exact ⟨rfl, rfl⟩

set_option maxRecDepth 100000 in
set_option maxHeartbeats 1000000 in
theorem netParted (nb nodes : Nat) (v : Value) (p : List Bool) (a b : Int) (w : World) (h : NetB w nb nodes v p) (hn : nodes ≤ 6) (hp : p.length = 36) :
    Calls Try.prog 14 #[.pointer (some ⟨nb, 0, none⟩), .int .i64 a, .int .i64 b] w fun e w' => e = .returned (.bool (prB nodes p a b)) ∧ w = w' := by
  have HB := Lib.hid h
  have hl := h.lt
  have HP := Lib.hid hp
  clear h hp
  by_cases ha : 0 ≤ a ∧ a < nodes
  · obtain ⟨ha0, ha1⟩ := ha
    obtain ⟨A, rfl⟩ := Int.eq_ofNat_of_zero_le ha0
    have hya := hnB_yes ha0 ha1
    by_cases hb : 0 ≤ b ∧ b < nodes
    · obtain ⟨hb0, hb1⟩ := hb
      obtain ⟨B, rfl⟩ := Int.eq_ofNat_of_zero_le hb0
      have hyb := hnB_yes hb0 hb1
      obtain ⟨y, hy⟩ : ∃ y, p[A * 6 + B]? = some y := ⟨_, List.getElem?_eq_getElem (by have := HP.out; omega)⟩
      have hcp := HB.out.cp _ _ hy
      have HR := Lib.hid (show prB nodes p A B = y by unfold prB; rw [hya, hyb]; simp [List.getD, hy])
      have HYA := Lib.hid hya
      have HYB := Lib.hid hyb
      rw [← Nat.add_assoc] at hcp
      have hA6 : (A : Int) < 6 := by omega
      have hB6 : (B : Int) < 6 := by omega
      clear hy hya hyb
      rw [HR.out]
      go_enter Try.func14, Try.ntmps14
      go_wp2_with fail
      refine (netHas nb nodes v p A _ HB.out).mono ?_
      rintro e w1 ⟨rfl, rfl⟩
      rw [HYA.out]
      go_wp2_with fail
      refine (netHas nb nodes v p B _ HB.out).mono ?_
      rintro e w1 ⟨rfl, rfl⟩
      rw [HYB.out]
      go_wp2
      go_ret
      exact ⟨rfl, rfl⟩
    · have HN := Lib.hid (hnB_no (nodes := nodes) (k := b) (by omega))
      have HYA := Lib.hid hya
      have HR := Lib.hid (show prB nodes p A b = false by unfold prB; rw [HN.out]; simp)
      clear hya
      rw [HR.out]
      go_enter Try.func14, Try.ntmps14
      go_wp2_with fail
      refine (netHas nb nodes v p A _ HB.out).mono ?_
      rintro e w1 ⟨rfl, rfl⟩
      rw [HYA.out]
      go_wp2_with fail
      refine (netHas nb nodes v p b _ HB.out).mono ?_
      rintro e w1 ⟨rfl, rfl⟩
      rw [HN.out]
      go_wp2
      go_ret
      exact ⟨rfl, rfl⟩
  · have HN := Lib.hid (hnB_no (nodes := nodes) (k := a) (by omega))
    have HR := Lib.hid (show prB nodes p a b = false by unfold prB; rw [HN.out]; simp)
    rw [HR.out]
    go_enter Try.func14, Try.ntmps14
    go_wp2_with fail
    refine (netHas nb nodes v p a _ HB.out).mono ?_
    rintro e w1 ⟨rfl, rfl⟩
    rw [HN.out]
    go_wp2
    go_ret
    exact ⟨rfl, rfl⟩

set_option maxRecDepth 100000 in
set_option maxHeartbeats 1000000 in
theorem netLen (nb nodes : Nat) (a : Option Addr) (n c : Nat) (p : List Bool) (w : World) (h : NetB w nb nodes (.slice a n c) p) :
    Calls Try.prog 11 #[.pointer (some ⟨nb, 0, none⟩)] w fun e w' => e = .returned (.int .i64 (n : Int)) ∧ w = w' := by
  have c1 := h.c1
  have hl := h.lt
  clear h
  go_enter Try.func11, Try.ntmps11
  go_wp2
  go_ret
  exact ⟨rfl, rfl⟩

set_option maxRecDepth 100000 in
set_option maxHeartbeats 1000000 in
theorem netHasI (nb nodes : Nat) (a : Option Addr) (n c : Nat) (p : List Bool) (i : Int) (w : World) (h : NetB w nb nodes (.slice a n c) p) (hn : n ≤ 9223372036854775807) :
    Calls Try.prog 27 #[.pointer (some ⟨nb, 0, none⟩), .int .i64 i] w fun e w' => e = .returned (.bool (hnB n i)) ∧ w = w' := by
  have c1 := h.c1
  have hl := h.lt
  clear h
  by_cases h0 : 0 ≤ i
  · by_cases h1 : i < n
    · rw [hnB_yes h0 h1]
      go_enter Try.func27, Try.ntmps27
      go_wp2
      go_ret
      exact ⟨rfl, rfl⟩
    · rw [hnB_no (by omega)]
      go_enter Try.func27, Try.ntmps27
      go_wp2
      go_ret
      exact ⟨rfl, rfl⟩
  · rw [hnB_no (by omega)]
    go_enter Try.func27, Try.ntmps27
    go_wp2
    go_ret
    exact ⟨rfl, rfl⟩

set_option maxRecDepth 100000 in
set_option maxHeartbeats 1000000 in
theorem netNew (nodes : Nat) (w : World) (h1 : 1 ≤ nodes) (h6 : nodes ≤ 6) :
    Calls Try.prog 8 #[.int .i64 (nodes : Int)] w fun e w' => e = .returned (.pointer (some ⟨w.heap.size, 0, none⟩)) ∧ NetB w' w.heap.size nodes (.slice none 0 0) (List.replicate 36 false) ∧ Below w.heap.size w w' := by
  have hd1 : decide ((nodes : Int) < 1) = false := by simp; omega
  have hd2 : decide (6 < (nodes : Int)) = false := by simp; omega
  go_enter Try.func8, Try.ntmps8
  go_wp2
  go_ret
  exact ⟨rfl, blk_new _ _ _, (Below.refl _ _).alloc (Nat.le_refl _) _⟩

set_option maxRecDepth 100000 in
set_option maxHeartbeats 1000000 in
theorem netNew_no (k : Int) (w : World) (h : k < 1 ∨ 6 < k) :
    Calls Try.prog 8 #[.int .i64 k] w fun e w' => e = .returned (.pointer none) ∧ w = w' := by
  by_cases h1 : k < 1
  · clear h
    go_enter Try.func8, Try.ntmps8
    go_wp2
    go_ret
    exact ⟨rfl, rfl⟩
  · have h2 : 6 < k := by omega
    clear h
    go_enter Try.func8, Try.ntmps8
    go_wp2
    go_ret
    exact ⟨rfl, rfl⟩

set_option maxRecDepth 100000 in
set_option maxHeartbeats 1000000 in
theorem netPart (nb nodes : Nat) (v : Value) (p : List Bool) (A B : Nat) (y : Bool) (w : World) (h : NetB w nb nodes v p) (hn : nodes ≤ 6) (hp : p.length = 36) (ha : A < nodes) (hb : B < nodes) (hab : A ≠ B) :
    Calls Try.prog 29 #[.pointer (some ⟨nb, 0, none⟩), .int .i64 (A : Int), .int .i64 (B : Int), .bool y] w fun e w' => e = .returned (.int .i64 0) ∧ NetB w' nb nodes v ((p.set (A * 6 + B) y).set (B * 6 + A) y) ∧ Kept nb w w' := by
  have HB := Lib.hid h
  have hl := h.lt
  have HP := Lib.hid hp
  have HYA := Lib.hid (hnB_yes (nodes := nodes) (k := (A : Int)) (by omega) (by omega))
  have HYB := Lib.hid (hnB_yes (nodes := nodes) (k := (B : Int)) (by omega) (by omega))
  have hA6 : (A : Int) < 6 := by omega
  have hB6 : (B : Int) < 6 := by omega
  have hd : ((A : Int) == (B : Int)) = false := by simp; omega
  clear h hp
  go_enter Try.func29, Try.ntmps29
  go_wp2_with fail
  refine (netHas nb nodes v p A _ HB.out).mono ?_
  rintro e w1 ⟨rfl, rfl⟩
  rw [HYA.out]
  go_wp2_with fail
  refine (netHas nb nodes v p B _ HB.out).mono ?_
  rintro e w1 ⟨rfl, rfl⟩
  rw [HYB.out]
  go_wp2_with fail
  haveI hIc : Nonempty (In (fun _ : World => True)) := ⟨⟨w, trivial⟩⟩
  refine wp_region_chain (fun w' => ∃ g : In (fun _ : World => True), w' = g.w) (by kernel_rfl) (by kernel_rfl) (by kernel_rfl) ?_
  have hk0 : Kept nb w w.drew := (Kept.refl nb w).drew
  have HB1 := Lib.hid (show NetB w.drew nb nodes v p from blk_drew HB.out)
  generalize w.drew = w1 at *
  obtain ⟨k1, hk1⟩ : ∃ k, A * 6 + B = k := ⟨_, rfl⟩
  obtain ⟨k2, hk2⟩ : ∃ k, B * 6 + A = k := ⟨_, rfl⟩
  have h11 : 2 + A * 6 + B = 2 + k1 := by omega
  have h22 : 2 + B * 6 + A = 2 + k2 := by omega
  obtain ⟨y1, hy1⟩ : ∃ y, p[k1]? = some y := ⟨_, List.getElem?_eq_getElem (by have := HP.out; omega)⟩
  obtain ⟨y2, hy2⟩ : ∃ z, (p.set k1 y)[k2]? = some z := ⟨_, List.getElem?_eq_getElem (by rw [List.length_set]; have := HP.out; omega)⟩
  have hc1 := HB1.out.cp _ _ hy1
  have hf1 := blk_free HB1.out.blk
  have hl1 := HB1.out.lt
  have HB2 := Lib.hid (HB1.out.part k1 y)
  have hk2' := hk0.setCell (2 + k1) (.bool y)
  have hc2 := HB2.out.cp _ _ hy2
  have hf2 := blk_free HB2.out.blk
  have HB3 := Lib.hid (HB2.out.part k2 y)
  have hk3 := hk2'.setCell (2 + k2) (.bool y)
  rw [← h11] at hc1 hc2 hf2 HB2 hk2' HB3 hk3
  rw [← h22] at hc2 HB3 hk3
  clear h11 h22 hy1 hy2
  repeat (refine wpG_plain (by rfl) (by rfl) (fun K hK => ?_); go_big_quiet_op; refine hK _ ?_; clear hK K)
  refine wpG_call (by rfl) (by rfl) ⟨⟨_, trivial⟩, rfl⟩ (fun K hK => ?_)
  go_big_op
  refine hK _ _ ?_
  clear hK K
  repeat (refine wpG_plain (by rfl) (by rfl) (fun K hK => ?_); go_big_quiet_op; refine hK _ ?_; clear hK K)
  refine wpG_call (by rfl) (by rfl) ⟨⟨_, trivial⟩, rfl⟩ (fun K hK => ?_)
  go_big_op
  refine hK _ _ ?_
  clear hK K
  refine wpG_nil ⟨⟨_, trivial⟩, rfl⟩ ?_
  go_wp2
  go_ret
  exact ⟨rfl, by rw [hk1, hk2]; exact HB3.out, hk3⟩

set_option maxRecDepth 100000 in
set_option maxHeartbeats 1000000 in
theorem netCut (nb nodes : Nat) (v : Value) (p : List Bool) (A B : Nat) (w : World) (h : NetB w nb nodes v p) (hn : nodes ≤ 6) (hp : p.length = 36) (ha : A < nodes) (hb : B < nodes) (hab : A ≠ B) :
    Calls Try.prog 13 #[.pointer (some ⟨nb, 0, none⟩), .int .i64 (A : Int), .int .i64 (B : Int)] w fun e w' => e = .returned (.int .i64 0) ∧ NetB w' nb nodes v ((p.set (A * 6 + B) true).set (B * 6 + A) true) ∧ Kept nb w w' := by
  have HB := Lib.hid h
  have HP := Lib.hid hp
  clear h hp
  go_enter Try.func13, Try.ntmps13
  go_wp2_with fail
  refine (netPart nb nodes v p A B true _ HB.out hn HP.out ha hb hab).mono ?_
  rintro e w1 ⟨rfl, hB, hK⟩
  have HB1 := Lib.hid hB
  have HK1 := Lib.hid hK
  clear hB hK
  go_wp2
  go_ret
  exact ⟨rfl, HB1.out, HK1.out⟩

set_option maxRecDepth 100000 in
set_option maxHeartbeats 1000000 in
theorem netHeal (nb nodes : Nat) (v : Value) (p : List Bool) (A B : Nat) (w : World) (h : NetB w nb nodes v p) (hn : nodes ≤ 6) (hp : p.length = 36) (ha : A < nodes) (hb : B < nodes) (hab : A ≠ B) :
    Calls Try.prog 15 #[.pointer (some ⟨nb, 0, none⟩), .int .i64 (A : Int), .int .i64 (B : Int)] w fun e w' => e = .returned (.int .i64 0) ∧ NetB w' nb nodes v ((p.set (A * 6 + B) false).set (B * 6 + A) false) ∧ Kept nb w w' := by
  have HB := Lib.hid h
  have HP := Lib.hid hp
  clear h hp
  go_enter Try.func15, Try.ntmps15
  go_wp2_with fail
  refine (netPart nb nodes v p A B false _ HB.out hn HP.out ha hb hab).mono ?_
  rintro e w1 ⟨rfl, hB, hK⟩
  have HB1 := Lib.hid hB
  have HK1 := Lib.hid hK
  clear hB hK
  go_wp2
  go_ret
  exact ⟨rfl, HB1.out, HK1.out⟩

set_option maxRecDepth 100000 in
set_option maxHeartbeats 1000000 in
theorem netPart_same (nb nodes : Nat) (v : Value) (p : List Bool) (A B : Nat) (y : Bool) (w : World) (h : NetB w nb nodes v p) (ha : A < nodes) (hab : A = B) (hn : nodes ≤ 6) :
    Calls Try.prog 29 #[.pointer (some ⟨nb, 0, none⟩), .int .i64 (A : Int), .int .i64 (B : Int), .bool y] w fun e w' => e = .returned (.int .i64 23) ∧ w = w' := by
  subst hab
  have HB := Lib.hid h
  have HYA := Lib.hid (hnB_yes (nodes := nodes) (k := (A : Int)) (by omega) (by omega))
  clear h
  go_enter Try.func29, Try.ntmps29
  go_wp2_with fail
  refine (netHas nb nodes v p A _ HB.out).mono ?_
  rintro e w1 ⟨rfl, rfl⟩
  rw [HYA.out]
  go_wp2_with fail
  refine (netHas nb nodes v p A _ HB.out).mono ?_
  rintro e w1 ⟨rfl, rfl⟩
  rw [HYA.out]
  go_wp2
  go_ret
  exact ⟨rfl, rfl⟩

set_option maxRecDepth 100000 in
set_option maxHeartbeats 1000000 in
theorem netCut_same (nb nodes : Nat) (v : Value) (p : List Bool) (A : Nat) (w : World) (h : NetB w nb nodes v p) (ha : A < nodes) (hn : nodes ≤ 6) :
    Calls Try.prog 13 #[.pointer (some ⟨nb, 0, none⟩), .int .i64 (A : Int), .int .i64 (A : Int)] w fun e w' => e = .returned (.int .i64 23) ∧ w = w' := by
  have HB := Lib.hid h
  clear h
  go_enter Try.func13, Try.ntmps13
  go_wp2_with fail
  refine (netPart_same nb nodes v p A A true _ HB.out ha rfl hn).mono ?_
  rintro e w1 ⟨rfl, rfl⟩
  go_wp2
  go_ret
  exact ⟨rfl, rfl⟩

end Go.Proofs.Ytkkmnodhmmdllaa
