/- Layer 7: clocks, walked. -/
import Derived.Test.YtjnkchilgdhlaaaOwn
namespace Go.Proofs.Ytjnkchilgdhlaaa
open Go.RowKit
set_option linter.unusedVariables false

/-- the greatest, the least, of the first k + 1 numbers -/
def mxTo (zs : List Int) : Nat → Int
  | 0 => zs.getD 0 0
  | k + 1 => if mxTo zs k < zs.getD (k + 1) 0 then zs.getD (k + 1) 0 else mxTo zs k
def mnTo (zs : List Int) : Nat → Int
  | 0 => zs.getD 0 0
  | k + 1 => if zs.getD (k + 1) 0 < mnTo zs k then zs.getD (k + 1) 0 else mnTo zs k

/-- clocks in block b: so many nodes, and their six times -/
structure CIs (b : Nat) (n : Int) (xs : List Int) (w : World) : Prop where
  len : xs.length = 6
  n1 : 1 ≤ n
  n6 : n ≤ 6
  c : w.cell? ⟨b, 0, none⟩ = some (.int .i64 n)
  x : ∀ k, k < 6 → w.cell? ⟨b, 1 + k, none⟩ = some (.int .i64 (xs.getD k 0))
  f : ∀ k, k < 7 → w.frozen? ⟨b, k, none⟩ = false
  lo : ∀ k, 0 ≤ xs.getD k 0
  hi : ∀ k, xs.getD k 0 ≤ 4611686018427387904

theorem CIs.ext {b : Nat} {n : Int} {xs : List Int} {w w' : World} (h : CIs b n xs w) (hb : Below w.heap.size w w') : CIs b n xs w' :=
  ⟨h.len, h.n1, h.n6, ext_cell hb h.c, fun k hk => ext_cell hb (h.x k hk), fun k hk => (hb.frozen (p := ⟨b, k, none⟩) (cell_lt h.c)).trans (h.f k hk), h.lo, h.hi⟩

set_option maxHeartbeats 400000 in
theorem clockNew (n : Int) (w : World) (h1 : 1 ≤ n) (h6 : n ≤ 6) :
    Calls Try.prog 10 #[.int .i64 n] w fun e w' => e = .returned (.pointer (some ⟨w.heap.size, 0, none⟩)) ∧ Below w.heap.size w w' ∧ CIs w.heap.size n [0, 0, 0, 0, 0, 0] w' := by
  go_enter Try.func10, Try.ntmps10
  go_wp2
  go_ret
  refine ⟨rfl, by go_grown, rfl, h1, h6, by go_cell, ?_, ?_, ?_, ?_⟩
  · intro k hk
    match k, hk with
    | 0, _ => go_cell
    | 1, _ => go_cell
    | 2, _ => go_cell
    | 3, _ => go_cell
    | 4, _ => go_cell
    | 5, _ => go_cell
  · intro k hk
    match k, hk with
    | 0, _ => go_cell
    | 1, _ => go_cell
    | 2, _ => go_cell
    | 3, _ => go_cell
    | 4, _ => go_cell
    | 5, _ => go_cell
    | 6, _ => go_cell
  · intro k; match k with
    | 0 => decide
    | 1 => decide
    | 2 => decide
    | 3 => decide
    | 4 => decide
    | 5 => decide
    | _ + 6 => simp
  · intro k; match k with
    | 0 => decide
    | 1 => decide
    | 2 => decide
    | 3 => decide
    | 4 => decide
    | 5 => decide
    | _ + 6 => simp

set_option maxHeartbeats 400000 in
theorem clockNew_no (n : Int) (w : World) (h : n < 1 ∨ 6 < n) :
    Calls Try.prog 10 #[.int .i64 n] w fun e w' => e = .returned (.pointer none) ∧ w = w' := by
  by_cases h1 : n < 1
  · go_enter Try.func10, Try.ntmps10
    go_wp2
    all_goals (go_ret; exact ⟨rfl, rfl⟩)
  · have h2 : 6 < n := by omega
    go_enter Try.func10, Try.ntmps10
    go_wp2
    all_goals (go_ret; exact ⟨rfl, rfl⟩)

set_option maxHeartbeats 400000 in
theorem clockHas (b : Nat) (n k : Int) (w : World) (hc : w.cell? ⟨b, 0, none⟩ = some (.int .i64 n)) :
    Calls Try.prog 14 #[.pointer (some ⟨b, 0, none⟩), .int .i64 k] w fun e w' => e = .returned (.bool (decide (0 ≤ k ∧ k < n))) ∧ w = w' := by
  by_cases h1 : 0 ≤ k
  · by_cases h2 : k < n
    all_goals
      go_enter Try.func14, Try.ntmps14
      go_wp2
      all_goals (go_ret; exact ⟨by simp [*], rfl⟩)
  · go_enter Try.func14, Try.ntmps14
    go_wp2
    all_goals (go_ret; exact ⟨by simp; omega, rfl⟩)

set_option maxHeartbeats 800000 in
theorem slicesMax (a : Option Addr) (len cap : Nat) (zs : List Int) (w : World) (hr : IsRow .i64 w a len cap zs) (h1 : 1 ≤ len) :
    Calls Try.prog 15 #[.slice a len cap] w fun e w' => e = .returned (.int .i64 (mxTo zs (len - 1))) ∧ w = w' := by
  obtain ⟨hlc, hcm, hzl, hwz, hcell⟩ := hr
  unfold maxLen at hcm
  obtain ⟨b, o, rfl, hc⟩ := hcell.resolve_left (by omega)
  have hc0 : w.cell? ⟨b, o, none⟩ = some (.int .i64 (mxTo zs 0)) := hc 0 (by omega)
  have hl1 : ¬ (len : Int) < 1 := by omega
  have HC := Lib.hid hc
  clear hc hcell hwz
  go_enter Try.func15, Try.ntmps15
  go_wp2
  go_loop [3, 4] (fun m i => ∃ k : Nat, k + 1 ≤ len ∧ i = .int .i64 ((k : Int) + 1) ∧ m = .int .i64 (mxTo zs k)) (fun _ i => len - (intOf i).toNat)
  case atStart => exact ⟨0, by omega, rfl, rfl⟩
  case round =>
    obtain ⟨k, hk, rfl, rfl⟩ := hrel
    by_cases hlt : k + 1 < len
    · have hx : w.cell? ⟨b, o + (k + 1), none⟩ = some (.int .i64 (zs.getD (k + 1) 0)) := HC.out (k + 1) hlt
      generalize hy : zs.getD (k + 1) 0 = y at hx
      generalize hm : mxTo zs k = m
      have Hy := Lib.hid hy
      have Hm := Lib.hid hm
      clear hy hm
      go_wp2
      all_goals
        go_round
        case rel => exact ⟨k + 1, by omega, by go_num, by simp only [mxTo, Hy.out, Hm.out] <;> first | (rw [if_pos (by omega)]) | (rw [if_neg (by omega)])⟩
        case measure => simp [intOf]; omega
    · obtain rfl : len = k + 1 := by omega
      go_wp2
      go_ret
      exact ⟨by simp, rfl⟩

set_option maxHeartbeats 800000 in
theorem slicesMin (a : Option Addr) (len cap : Nat) (zs : List Int) (w : World) (hr : IsRow .i64 w a len cap zs) (h1 : 1 ≤ len) :
    Calls Try.prog 16 #[.slice a len cap] w fun e w' => e = .returned (.int .i64 (mnTo zs (len - 1))) ∧ w = w' := by
  obtain ⟨hlc, hcm, hzl, hwz, hcell⟩ := hr
  unfold maxLen at hcm
  obtain ⟨b, o, rfl, hc⟩ := hcell.resolve_left (by omega)
  have hc0 : w.cell? ⟨b, o, none⟩ = some (.int .i64 (mnTo zs 0)) := hc 0 (by omega)
  have hl1 : ¬ (len : Int) < 1 := by omega
  have HC := Lib.hid hc
  clear hc hcell hwz
  go_enter Try.func16, Try.ntmps16
  go_wp2
  go_loop [3, 4] (fun m i => ∃ k : Nat, k + 1 ≤ len ∧ i = .int .i64 ((k : Int) + 1) ∧ m = .int .i64 (mnTo zs k)) (fun _ i => len - (intOf i).toNat)
  case atStart => exact ⟨0, by omega, rfl, rfl⟩
  case round =>
    obtain ⟨k, hk, rfl, rfl⟩ := hrel
    by_cases hlt : k + 1 < len
    · have hx : w.cell? ⟨b, o + (k + 1), none⟩ = some (.int .i64 (zs.getD (k + 1) 0)) := HC.out (k + 1) hlt
      generalize hy : zs.getD (k + 1) 0 = y at hx
      generalize hm : mnTo zs k = m
      have Hy := Lib.hid hy
      have Hm := Lib.hid hm
      clear hy hm
      go_wp2
      all_goals
        go_round
        case rel => exact ⟨k + 1, by omega, by go_num, by simp only [mnTo, Hy.out, Hm.out] <;> first | (rw [if_pos (by omega)]) | (rw [if_neg (by omega)])⟩
        case measure => simp [intOf]; omega
    · obtain rfl : len = k + 1 := by omega
      go_wp2
      go_ret
      exact ⟨by simp, rfl⟩

end Go.Proofs.Ytjnkchilgdhlaaa
