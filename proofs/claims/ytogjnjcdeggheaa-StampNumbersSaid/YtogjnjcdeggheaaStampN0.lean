/- Layer 4's laws, walked: the row of stamps that StampNumbers makes. -/
import Derived.Test.YtogjnjcdeggheaaStampW
import Derived.Test.YtogjnjcdeggheaaBlk
import Derived.Test.YtogjnjcdeggheaaOwn
import Derived.Laws.AppendOwn
import Derived.ChangeAlike
namespace Go.Proofs.Ytogjnjcdeggheaa
open Go.RowKit
set_option linter.unusedVariables false

theorem info_parts {t : TypeId} {z : Value} {s b : Nat} (h : (Try.prog.info? t).map (fun i => (i.zero, i.size, i.bytes)) = some (some z, s, b)) : ∃ i, Try.prog.info? t = some i ∧ i.zero = some z ∧ i.size = s ∧ i.bytes = b := by
  cases e : Try.prog.info? t with
  | none => rw [e] at h; cases h
  | some i =>
    rw [e] at h
    simp only [Option.map_some, Option.some.injEq, Prod.mk.injEq] at h
    exact ⟨i, rfl, h.1, h.2.1, h.2.2⟩
theorem info_stamp : (Try.prog.info? 25).map (fun i => (i.zero, i.size, i.bytes)) = some (some (.agg #[.int .i64 0, .int .i64 0, .int .i64 0]), 3, 24) := by kernel_rfl

def scells (x : Int × Int × Int) : List Value := [.int .i64 x.1, .int .i64 x.2.1, .int .i64 x.2.2]
def flat3 (xs : List (Int × Int × Int)) : List Value := xs.flatMap scells
theorem flat3_len (xs : List (Int × Int × Int)) : (flat3 xs).length = xs.length * 3 := by
  induction xs with
  | nil => rfl
  | cons x xs ih => simp only [flat3, List.flatMap_cons, List.length_append, scells, List.length_cons, List.length_nil] at *; omega
theorem flat3_at (xs : List (Int × Int × Int)) (i : Nat) (hi : i < xs.length) : (flat3 xs)[i * 3]? = some (.int .i64 xs[i].1) ∧ (flat3 xs)[i * 3 + 1]? = some (.int .i64 xs[i].2.1) ∧ (flat3 xs)[i * 3 + 2]? = some (.int .i64 xs[i].2.2) := by
  induction xs generalizing i with
  | nil => simp at hi
  | cons x xs ih =>
    cases i with
    | zero => simp [flat3, scells]
    | succ i =>
      have h := ih i (by simpa using hi)
      have e : ∀ j, (flat3 (x :: xs))[j + 3]? = (flat3 xs)[j]? := fun j => by simp [flat3, scells]
      have e0 : (i + 1) * 3 = i * 3 + 3 := by omega
      refine ⟨?_, ?_, ?_⟩
      · rw [e0, e]; simpa using h.1
      · rw [show (i + 1) * 3 + 1 = i * 3 + 1 + 3 from by omega, e]; simpa using h.2.1
      · rw [show (i + 1) * 3 + 2 = i * 3 + 2 + 3 from by omega, e]; simpa using h.2.2

/-- a row of the call's own is no block of another type -/
theorem own_ne {w : World} {base size n : Nat} {e e' : TypeId} {v : Value} {xs : List Value} (h : w.ownsRow base e size v n xs) {b : Nat} {cur : Array Value} (hb : w.heap[b]? = some (.cells cur e' (0, 0))) (he : e' ≠ e) : some b ≠ v.ownBlock := by
  obtain ⟨_, h2⟩ := h
  rcases h2 with ⟨rfl, _⟩ | ⟨g, cap, cur', rfl, hg, hh, _⟩
  · simp [Value.ownBlock]
  · simp only [Value.ownBlock, ne_eq, Option.some.injEq]
    intro e1
    subst e1
    rw [hb] at hh
    simp at hh
    exact he hh.2
theorem lit_cell {w : World} {b : Nat} {l : List Int} {T : TypeId} (h : w.heap[b]? = some (.cells (l.map (Value.int .i64)).toArray T (0, 0))) {k : Nat} (hk : k < l.length) : w.cell? ⟨b, k, none⟩ = some (.int .i64 (l.getD k 0)) := by
  simp [World.cell?, h, hk, List.getD]

/-- a row of stamps that may be -/
def SRow (base : Nat) (v : Value) (j : Nat) (w : World) : Prop := ∃ xs : List (Int × Int × Int), xs.length = j ∧ (∀ x ∈ xs, StWf x.1 x.2.1 x.2.2) ∧ w.ownsRow base 25 3 v j (flat3 xs)
def Stamps (w : World) (e : Ending) (w' : World) : Prop := ∃ v j, e = .returned v ∧ SRow w.heap.size v j w' ∧ j ≤ 64 ∧ Below w.heap.size w w'

theorem SRow.blk {base j : Nat} {v : Value} {w w' : World} {x : Obj} (h : SRow base v j w) (hg : (w.alloc x).grownBy w' v.ownBlock) {b : Nat} {cur : Array Value} {T : TypeId} (hT : T ≠ 25) (hb : w.heap[b]? = some (.cells cur T (0, 0))) : w'.heap[b]? = some (.cells cur T (0, 0)) := by
  obtain ⟨xs, _, _, ho⟩ := h
  exact (hg.block b (blk_lt (blk_alloc hb x)) (own_ne ho hb hT)).trans (blk_alloc hb x)
theorem SRow.below {j : Nat} {v : Value} {u w w' : World} {x : Obj} (h : SRow u.heap.size v j w) (hg : (w.alloc x).grownBy w' v.ownBlock) (hB : Below u.heap.size u w) : Below u.heap.size u w' := by
  obtain ⟨xs, _, _, ho⟩ := h
  exact (hB.alloc hB.size _).grown hg (by have := hB.size; simp; omega) (fun k hk => own_ge ho hk)
theorem SRow.alloc {base j : Nat} {v : Value} {w : World} (h : SRow base v j w) (x : Obj) : SRow base v j (w.alloc x) := by
  obtain ⟨xs, h1, h2, h3⟩ := h
  exact ⟨xs, h1, h2, h3.alloc x⟩
theorem lit_new {w : World} {b : Nat} {l : List Int} {T : TypeId} {vs : Array Value} (e : w.heap.size = b) (ev : vs = (l.map (Value.int .i64)).toArray) : (w.alloc (.cells vs T)).heap[b]? = some (.cells (l.map (Value.int .i64)).toArray T (0, 0)) := by
  subst ev; exact blk_new_at e _ _

set_option maxRecDepth 100000 in
set_option maxHeartbeats 4000000 in
theorem law4stamps (w : World) : Calls Try.prog 7 #[] w (Stamps w) := by
  obtain ⟨i0, hi, hz0, hz1, hz2⟩ := info_parts info_stamp
  go_enter Try.func7, Try.ntmps7
  go_wp2_with fail
  have a01 : (w.alloc (.cells #[.int .i64 (-1), .int .i64 0, .int .i64 1, .int .i64 9223372036854775807] 2)).heap[w.heap.size]? = some (.cells ([-1, 0, 1, 9223372036854775807].map (Value.int .i64)).toArray 2 (0, 0)) := lit_new rfl rfl
  have Z0 : SRow w.heap.size (.slice none 0 0) 0 (w.alloc (.cells #[.int .i64 (-1), .int .i64 0, .int .i64 1, .int .i64 9223372036854775807] 2)) := ⟨[], rfl, by simp, World.ownsRow_nil _ _ _ _⟩
  have B0 : Below w.heap.size w (w.alloc (.cells #[.int .i64 (-1), .int .i64 0, .int .i64 1, .int .i64 9223372036854775807] 2)) := (Below.refl _ _).alloc (Nat.le_refl _) _
  have A01 := Lib.hid a01
  have S0 := Lib.hid Z0
  clear a01 Z0
  generalize (w.alloc (.cells #[.int .i64 (-1), .int .i64 0, .int .i64 1, .int .i64 9223372036854775807] 2)) = w0 at *
  go_loopw [1, 10] (fun v i wr => ∃ k j : Nat, k ≤ 4 ∧ i = .int .i64 k ∧ j ≤ 16 * k ∧ SRow w.heap.size v j wr ∧ Below w.heap.size w wr ∧ wr.heap[w.heap.size]? = some (.cells ([-1, 0, 1, 9223372036854775807].map (Value.int .i64)).toArray 2 (0, 0))) (fun _ i _ => 4 - (intOf i).toNat)
  case atStart => exact ⟨0, 0, by omega, rfl, by omega, S0.out, B0, A01.out⟩
  case round =>
    clear S0 B0 A01
    obtain ⟨w1, rfl⟩ : ∃ y : World, y = wr := ⟨_, rfl⟩
    obtain ⟨k1, j1, hk1, rfl, hj1, R1, B1z, a11⟩ := hrel
    have A11 := Lib.hid a11
    clear a11
    have S1 := Lib.hid R1
    have sz1 := B1z.size
    clear R1
    by_cases hlk1 : k1 < 4
    · have hx1 := lit_cell A11.out (k := k1) hlk1
      have hw1 : (Lit.int .i64 ([-1, 0, 1, 9223372036854775807].getD k1 0)).wf = true := getD_wf (by decide)
      generalize [-1, 0, 1, 9223372036854775807].getD k1 0 = x1 at hx1 hw1
      have hd1 : decide ((k1 : Int) < 4) = true := by simp; omega
      go_wp2_with fail
      have a0 : (w1.alloc (.cells #[.int .i64 (-1), .int .i64 0, .int .i64 1, .int .i64 9223372036854775807] 2)).heap[w1.heap.size]? = some (.cells ([-1, 0, 1, 9223372036854775807].map (Value.int .i64)).toArray 2 (0, 0)) := lit_new rfl rfl
      have b1 : (w1.alloc (.cells #[.int .i64 (-1), .int .i64 0, .int .i64 1, .int .i64 9223372036854775807] 2)).heap[w.heap.size]? = some (.cells ([-1, 0, 1, 9223372036854775807].map (Value.int .i64)).toArray 2 (0, 0)) := blk_alloc A11.out _
      have Z0 := S1.out.alloc (.cells #[.int .i64 (-1), .int .i64 0, .int .i64 1, .int .i64 9223372036854775807] 2)
      have Bn := B1z.alloc B1z.size (.cells #[.int .i64 (-1), .int .i64 0, .int .i64 1, .int .i64 9223372036854775807] 2)
      have P0 := Lib.hid a0
      have PS := Lib.hid Z0
      have P1 := Lib.hid b1
      clear a0 Z0 b1
      generalize (w1.alloc (.cells #[.int .i64 (-1), .int .i64 0, .int .i64 1, .int .i64 9223372036854775807] 2)) = wn at *
      go_loopw [1, 16] (fun v i wr => ∃ k j : Nat, k ≤ 4 ∧ i = .int .i64 k ∧ j ≤ 16 * k1 + 4 * k ∧ SRow w.heap.size v j wr ∧ Below w.heap.size w wr ∧ wr.heap[w.heap.size]? = some (.cells ([-1, 0, 1, 9223372036854775807].map (Value.int .i64)).toArray 2 (0, 0)) ∧ wr.heap[w1.heap.size]? = some (.cells ([-1, 0, 1, 9223372036854775807].map (Value.int .i64)).toArray 2 (0, 0))) (fun _ i _ => 4 - (intOf i).toNat)
      case atStart => exact ⟨0, j1, by omega, rfl, by omega, PS.out, Bn, P1.out, P0.out⟩
      case round =>
        clear PS Bn P0 P1
        obtain ⟨w2, rfl⟩ : ∃ y : World, y = wr := ⟨_, rfl⟩
        obtain ⟨k2, j2, hk2, rfl, hj2, R2, B2z, a21, a22⟩ := hrel
        have A21 := Lib.hid a21
        have A22 := Lib.hid a22
        clear a21 a22
        have S2 := Lib.hid R2
        have sz2 := B2z.size
        clear R2
        by_cases hlk2 : k2 < 4
        · have hx2 := lit_cell A22.out (k := k2) hlk2
          have hw2 : (Lit.int .i64 ([-1, 0, 1, 9223372036854775807].getD k2 0)).wf = true := getD_wf (by decide)
          generalize [-1, 0, 1, 9223372036854775807].getD k2 0 = x2 at hx2 hw2
          have hd2 : decide ((k2 : Int) < 4) = true := by simp; omega
          go_wp2_with fail
          have a0 : (w2.alloc (.cells #[.int .i64 (-1), .int .i64 0, .int .i64 1, .int .i64 6] 3)).heap[w2.heap.size]? = some (.cells ([-1, 0, 1, 6].map (Value.int .i64)).toArray 3 (0, 0)) := lit_new rfl rfl
          have b1 : (w2.alloc (.cells #[.int .i64 (-1), .int .i64 0, .int .i64 1, .int .i64 6] 3)).heap[w.heap.size]? = some (.cells ([-1, 0, 1, 9223372036854775807].map (Value.int .i64)).toArray 2 (0, 0)) := blk_alloc A21.out _
          have b2 : (w2.alloc (.cells #[.int .i64 (-1), .int .i64 0, .int .i64 1, .int .i64 6] 3)).heap[w1.heap.size]? = some (.cells ([-1, 0, 1, 9223372036854775807].map (Value.int .i64)).toArray 2 (0, 0)) := blk_alloc A22.out _
          have Z0 := S2.out.alloc (.cells #[.int .i64 (-1), .int .i64 0, .int .i64 1, .int .i64 6] 3)
          have Bn := B2z.alloc B2z.size (.cells #[.int .i64 (-1), .int .i64 0, .int .i64 1, .int .i64 6] 3)
          have P0 := Lib.hid a0
          have PS := Lib.hid Z0
          have P1 := Lib.hid b1
          have P2 := Lib.hid b2
          clear a0 Z0 b1 b2
          generalize (w2.alloc (.cells #[.int .i64 (-1), .int .i64 0, .int .i64 1, .int .i64 6] 3)) = wn at *
          go_loopw [1, 22] (fun v i wr => ∃ k j : Nat, k ≤ 4 ∧ i = .int .i64 k ∧ j ≤ 16 * k1 + 4 * k2 + k ∧ SRow w.heap.size v j wr ∧ Below w.heap.size w wr ∧ wr.heap[w.heap.size]? = some (.cells ([-1, 0, 1, 9223372036854775807].map (Value.int .i64)).toArray 2 (0, 0)) ∧ wr.heap[w1.heap.size]? = some (.cells ([-1, 0, 1, 9223372036854775807].map (Value.int .i64)).toArray 2 (0, 0)) ∧ wr.heap[w2.heap.size]? = some (.cells ([-1, 0, 1, 6].map (Value.int .i64)).toArray 3 (0, 0))) (fun _ i _ => 4 - (intOf i).toNat)
          case atStart => exact ⟨0, j2, by omega, rfl, by omega, PS.out, Bn, P1.out, P2.out, P0.out⟩
          case round =>
            clear PS Bn P0 P1 P2
            obtain ⟨w3, rfl⟩ : ∃ y : World, y = wr := ⟨_, rfl⟩
            obtain ⟨k3, j3, hk3, rfl, hj3, R3, B3z, a31, a32, a33⟩ := hrel
            have A31 := Lib.hid a31
            have A32 := Lib.hid a32
            have A33 := Lib.hid a33
            clear a31 a32 a33
            have S3 := Lib.hid R3
            have sz3 := B3z.size
            clear R3
            by_cases hlk3 : k3 < 4
            · have hx3 := lit_cell A33.out (k := k3) hlk3
              have hw3 : (Lit.int .i64 ([-1, 0, 1, 6].getD k3 0)).wf = true := getD_wf (by decide)
              generalize [-1, 0, 1, 6].getD k3 0 = x3 at hx3 hw3
              have hd3 : decide ((k3 : Int) < 4) = true := by simp; omega
              obtain ⟨xs, hxl, hxw, ho3⟩ := S3.out
              go_wp2_with (first | (at_builtin; refine wpList_append_own _ rfl _ _ 22 rfl (w.heap.size) 25 i0 (.agg #[.int .i64 0, .int .i64 0, .int .i64 0]) 3 24 Try.underlying22 hi hz0 hz1 hz2 rfl (by decide) _ _ _ rfl (ho3.alloc _) ⟨w3.heap.size, 0, none⟩ 1 1 [.int .i64 x1, .int .i64 x3, .int .i64 x2] rfl rfl ?c1 ?c2 ?c3 ?c4 ?c5 ?_))
              case c1 =>
                intro j' u hj'
                match j', hj' with
                | 0, hj' => simp at hj'; subst hj'; simp [Addr.add, go_sem]
                | 1, hj' => simp at hj'; subst hj'; simp [Addr.add, go_sem]
                | 2, hj' => simp at hj'; subst hj'; simp [Addr.add, go_sem]
              case c2 => intro u hu; simp at hu; rcases hu with rfl | rfl | rfl <;> rfl
              case c3 => unfold maxLen; omega
              case c4 => omega
              case c5 => simp; omega
              intro v' w4 hown' hgrow _
              have B4 := S3.out.below hgrow B3z
              have C1 := S3.out.blk hgrow (by decide) A31.out
              have C2 := S3.out.blk hgrow (by decide) A32.out
              have C3 := S3.out.blk hgrow (by decide) A33.out
              have R4 : SRow w.heap.size v' (j3 + 1) w4 := ⟨xs ++ [(x1, x3, x2)], by simp [hxl], by intro x hx; rcases List.mem_append.1 hx with h | h; (· exact hxw x h); (· simp at h; subst h; exact ⟨hw1, hw3, hw2⟩), by simpa [flat3, scells] using hown'⟩
              have D1 := Lib.hid C1
              have D2 := Lib.hid C2
              have D3 := Lib.hid C3
              have D4 := Lib.hid R4
              clear hgrow hown' C1 C2 C3 R4 ho3
              go_wp2
              go_roundw
              case rel => exact ⟨k3 + 1, j3 + 1, by omega, by go_num, by omega, D4.out, B4, D1.out, D2.out, D3.out⟩
              case measure => simp [intOf]; omega
            · go_wp2
              go_roundw
              case rel => exact ⟨k2 + 1, j3, by omega, by go_num, by omega, S3.out, B3z, A31.out, A32.out⟩
              case measure => simp [intOf]; omega
        · go_wp2
          go_roundw
          case rel => exact ⟨k1 + 1, j2, by omega, by go_num, by omega, S2.out, B2z, A21.out⟩
          case measure => simp [intOf]; omega
    · go_wp2
      go_ret
      exact ⟨_, j1, rfl, S1.out, by omega, B1z⟩
theorem SRow.read {base j : Nat} {v : Value} {w : World} (h : SRow base v j w) : ∃ a cap, v = .slice a j cap ∧ (j = 0 ∨ ∃ g, a = some ⟨g, 0, none⟩ ∧ ∀ i, i < j → ∃ t k n : Int, StWf t k n ∧ w.cell? ⟨g, i * 3, none⟩ = some (.int .i64 t) ∧ w.cell? ⟨g, i * 3 + 1, none⟩ = some (.int .i64 k) ∧ w.cell? ⟨g, i * 3 + 2, none⟩ = some (.int .i64 n)) := by
  obtain ⟨xs, hl, hw, _, h2⟩ := h
  rcases h2 with ⟨rfl, rfl⟩ | ⟨g, cap, cur, rfl, hg, hh, hnc, hcm, hcs, ht⟩
  · exact ⟨none, 0, rfl, .inl rfl⟩
  · refine ⟨_, _, rfl, .inr ⟨g, rfl, fun i hi => ?_⟩⟩
    subst hl
    have f := flat3_at xs i hi
    have fl := flat3_len xs
    have rd : ∀ q u, (flat3 xs)[q]? = some u → w.cell? ⟨g, q, none⟩ = some u := fun q u hq => by
      rw [← ht] at hq
      have hq1 : q < xs.length * 3 := by
        rcases Nat.lt_or_ge q (xs.length * 3) with h | h
        · exact h
        · rw [List.getElem?_eq_none (by simp; omega)] at hq; cases hq
      rw [List.getElem?_take_of_lt hq1] at hq
      simp only [World.cell?, hh]
      simpa using hq
    exact ⟨_, _, _, hw _ (List.getElem_mem hi), rd _ _ f.1, rd _ _ f.2.1, rd _ _ f.2.2⟩


end Go.Proofs.Ytogjnjcdeggheaa
