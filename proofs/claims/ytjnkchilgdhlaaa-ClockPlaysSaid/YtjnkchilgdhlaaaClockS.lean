/- Layer 7: ClockSums, walked. -/
import Derived.Test.YtjnkchilgdhlaaaClockK
import Derived.Test.YtjnkchilgdhlaaaMask
namespace Go.Proofs.Ytjnkchilgdhlaaa
open Go.RowKit
set_option linter.unusedVariables false

/-- a number brought into lo .. hi -/
def within (n lo hi : Int) : Int := if lo ≤ n ∧ n ≤ hi then n else if n.tmod (hi - lo + 1) < 0 then lo + (n.tmod (hi - lo + 1) + hi - lo + 1) else lo + n.tmod (hi - lo + 1)
theorem within_in {n lo hi : Int} (h : lo ≤ hi) : lo ≤ within n lo hi ∧ within n lo hi ≤ hi := by
  unfold within
  have h1 := Int.tmod_lt_of_pos n (b := hi - lo + 1) (by omega)
  have h2 := Int.lt_tmod_of_pos n (b := hi - lo + 1) (by omega)
  split
  · omega
  · split <;> omega

set_option maxHeartbeats 800000 in
theorem bookWithin (n lo hi : Int) (w : World) (h : lo ≤ hi) (hlo : -1000000 ≤ lo) (hhi : hi ≤ 1000000) :
    Calls Try.prog 9 #[.int .i64 n, .int .i64 lo, .int .i64 hi] w fun e w' => e = .returned (.int .i64 (within n lo hi)) ∧ w = w' := by
  have h1 := Int.tmod_lt_of_pos n (b := hi - lo + 1) (by omega)
  have h2 := Int.lt_tmod_of_pos n (b := hi - lo + 1) (by omega)
  by_cases ha : lo ≤ n
  · by_cases hb : n ≤ hi
    · go_enter Try.func9, Try.ntmps9
      go_wp2
      go_ret
      exact ⟨by simp [within, ha, hb], rfl⟩
    · by_cases hc : n.tmod (hi - lo + 1) < 0
      all_goals
        go_enter Try.func9, Try.ntmps9
        go_wp2
        all_goals (go_ret; exact ⟨by simp [within, ha, hc]; omega, rfl⟩)
  · by_cases hc : n.tmod (hi - lo + 1) < 0
    all_goals
      go_enter Try.func9, Try.ntmps9
      go_wp2
      all_goals (go_ret; exact ⟨by simp [within, hc]; omega, rfl⟩)

/-- of four numbers -/
def mx4 (a b c d : Int) : Int := let p := if a < b then b else a; let q := if p < c then c else p; if q < d then d else q
def mn4 (a b c d : Int) : Int := let p := if b < a then b else a; let q := if c < p then c else p; if d < q then d else q
theorem apart4 {xs : List Int} (h : 4 ≤ xs.length) : mxTo (xs.take (Int.toNat 4)) (Int.toNat 4 - 1) - mnTo (xs.take (Int.toNat 4)) (Int.toNat 4 - 1) = mx4 (xs.getD 0 0) (xs.getD 1 0) (xs.getD 2 0) (xs.getD 3 0) - mn4 (xs.getD 0 0) (xs.getD 1 0) (xs.getD 2 0) (xs.getD 3 0) := by
  match xs, h with
  | a :: b :: c :: d :: r, _ => rfl
theorem mx4_in {a b c d h : Int} (ha : 0 ≤ a ∧ a ≤ h) (hb : 0 ≤ b ∧ b ≤ h) (hc : 0 ≤ c ∧ c ≤ h) (hd : 0 ≤ d ∧ d ≤ h) : (0 ≤ mx4 a b c d ∧ mx4 a b c d ≤ h) ∧ 0 ≤ mn4 a b c d ∧ mn4 a b c d ≤ h := by
  simp only [mx4, mn4]
  refine ⟨?_, ?_⟩ <;> (repeat' split) <;> omega
theorem run_max4 {P : Program} (ts : Array TypeId) (t : TypeId) (a b c d : Int) (w : World) : (Builtin.max_ ts t #[.int .i64 a, .int .i64 b, .int .i64 c, .int .i64 d]).run P w = .ok (.int .i64 (mx4 a b c d)) w := by
  simp [Builtin.max_, Builtin.max2, go_sem, mx4]
theorem run_min4 {P : Program} (ts : Array TypeId) (t : TypeId) (a b c d : Int) (w : World) : (Builtin.min_ ts t #[.int .i64 a, .int .i64 b, .int .i64 c, .int .i64 d]).run P w = .ok (.int .i64 (mn4 a b c d)) w := by
  simp [Builtin.min_, Builtin.min2, go_sem, mn4]
theorem clockNow_in (b : Nat) (n : Int) (k : Nat) (xs : List Int) (w : World) (h : CIs b n xs w) (hk : (k : Int) < n) :
    Calls Try.prog 12 #[.pointer (some ⟨b, 0, none⟩), .int .i64 k] w fun e w' => e = .returned (.int .i64 (xs.getD k 0)) ∧ w = w' :=
  (clockNow b n k xs w h).mono fun e w' ⟨he, hw⟩ => ⟨by rw [he, if_pos ⟨by omega, hk⟩]; rfl, hw⟩

/-- four sums in block s -/
structure SIs (s : Nat) (xs : List Int) (w : World) : Prop where
  x : ∀ k, k < 4 → w.cell? ⟨s, k, none⟩ = some (.int .i64 (xs.getD k 0))
  f : ∀ k, k < 4 → w.frozen? ⟨s, k, none⟩ = false
theorem SIs.ext {s : Nat} {xs : List Int} {w w' : World} (h : SIs s xs w) (hb : Below w.heap.size w w') : SIs s xs w' :=
  ⟨fun k hk => ext_cell hb (h.x k hk), fun k hk => ext_frozen hb (h.x k hk) (h.f k hk)⟩
theorem SIs.kept {s b : Nat} {xs : List Int} {w w' : World} (h : SIs s xs w) (hk : Kept b w w') (hn : s ≠ b) : SIs s xs w' :=
  ⟨fun k hk' => hk.cell hn (h.x k hk'), fun k hk' => hk.frozen hn (h.f k hk')⟩
theorem CIs.kept {b b' : Nat} {n : Int} {xs : List Int} {w w' : World} (h : CIs b n xs w) (hk : Kept b' w w') (hn : b ≠ b') : CIs b n xs w' :=
  ⟨h.len, h.n1, h.n6, hk.cell hn h.c, fun k hk' => hk.cell hn (h.x k hk'), fun k hk' => hk.frozen hn (h.f k hk'), h.lo, h.hi⟩
theorem CIs.ext' {b s : Nat} {n : Int} {xs : List Int} {w : World} (h : CIs b n xs w) {o : Nat} {v : Value} (hn : b < w.heap.size) (hb : b ≠ s) : CIs b n xs (w.setCell ⟨s, o, none⟩ v) := h.kept ((Kept.refl _ _).setCell _ _) hb
theorem SIs.set {s : Nat} {xs : List Int} {w : World} (h : SIs s xs w) (hl : 4 ≤ xs.length) {k : Nat} (hk : k < 4) (v : Int) : SIs s (xs.set k v) (w.setCell ⟨s, k, none⟩ (.int .i64 v)) := by
  refine ⟨?_, ?_⟩
  · intro j hj
    rw [getD_set (by omega)]
    by_cases e : j = k
    · subst e; rw [if_pos rfl]; exact World.cell?_setCell_same _ _ _ (h.x j hj)
    · rw [if_neg e, World.cell?_setCell_other _ _ _ _ (by simp)]; exact h.x j hj
  · intro j hj; rw [World.frozen?_setCell]; exact h.f j hj

set_option maxRecDepth 100000 in
set_option maxHeartbeats 4000000 in
theorem clockSums_walk (a1 : Option Addr) (len1 cap1 : Nat) (zs1 : List Int) (a2 : Option Addr) (len2 cap2 : Nat) (zs2 : List Int) (w : World) (h1 : IsRow .i64 w a1 len1 cap1 zs1) (_ : len1 * 8 ≤ 140737488351232) (h2 : IsRow .i64 w a2 len2 cap2 zs2) (_ : len2 * 8 ≤ 140737488351232) :
    Calls Try.prog 5 #[.slice a1 len1 cap1, .slice a2 len2 cap2] w fun e w' => e = .returned (.bool true) ∧ Below w.heap.size w w' := by
  obtain ⟨hlc1, hcm1, hzl1, hwz1, hcell1⟩ := h1
  obtain ⟨hlc2, hcm2, hzl2, hwz2, hcell2⟩ := h2
  unfold maxLen at hcm1 hcm2
  go_enter Try.func5, Try.ntmps5
  go_wp2_with fail
  refine (clockNew _ _ (by decide) (by decide)).mono ?_
  rintro e u1 ⟨rfl, B1, c1⟩
  have hs := B1.size
  have hlt : w.heap.size < u1.heap.size := cell_lt c1.c
  go_wp2_with fail
  have c2 : CIs w.heap.size 4 [0, 0, 0, 0, 0, 0] (u1.alloc (.cells #[.int .i64 0, .int .i64 0, .int .i64 0, .int .i64 0] 29)) := c1.ext (by go_grown)
  have s2 : SIs u1.heap.size [0, 0, 0, 0, 0, 0] (u1.alloc (.cells #[.int .i64 0, .int .i64 0, .int .i64 0, .int .i64 0] 29)) := by
    refine ⟨?_, ?_⟩
    · intro k hk
      match k, hk with
      | 0, _ => go_cell
      | 1, _ => go_cell
      | 2, _ => go_cell
      | 3, _ => go_cell
    · intro k hk
      match k, hk with
      | 0, _ => go_cell
      | 1, _ => go_cell
      | 2, _ => go_cell
      | 3, _ => go_cell
  have B2 : Below w.heap.size w (u1.alloc (.cells #[.int .i64 0, .int .i64 0, .int .i64 0, .int .i64 0] 29)) := by go_grown
  obtain ⟨S, hS⟩ : ∃ S, u1.heap.size = S := ⟨_, rfl⟩
  rw [hS] at s2 hs hlt
  have HS := Lib.hid hS
  clear hS c1 B1
  go_loopw [7] (fun i wr => ∃ (j : Nat) (xs : List Int), j ≤ len1 ∧ j ≤ len2 ∧ j ≤ 50 ∧ i = .int .i64 j ∧ Below w.heap.size w wr ∧ CIs w.heap.size 4 xs wr ∧ SIs u1.heap.size xs wr ∧ ∀ k, xs.getD k 0 ≤ 1024 * j) (fun i _ => 50 - (intOf i).toNat)
  case atStart => exact ⟨0, [0, 0, 0, 0, 0, 0], by omega, by omega, by omega, rfl, B2, c2, by rw [HS.out]; exact s2, by
    intro k; match k with
    | 0 => decide
    | 1 => decide
    | 2 => decide
    | 3 => decide
    | 4 => decide
    | 5 => decide
    | _ + 6 => simp⟩
  case round =>
    clear c2 s2 B2
    obtain ⟨j, xs, hj1, hj2, hj50, rfl, B, hc, hs1, hb⟩ := hrel
    by_cases hlt1 : j < len1
    · by_cases hlt2 : j < len2
      · by_cases h50 : j < 50
        · obtain ⟨b1, o1, rfl, hc1⟩ := hcell1.resolve_left (by omega)
          obtain ⟨b2, o2, rfl, hc2⟩ := hcell2.resolve_left (by omega)
          have hx := ext_cell B (hc1 j hlt1)
          have hk := ext_cell B (hc2 j hlt2)
          clear hc1 hc2 hcell1 hcell2
          generalize zs1.getD j 0 = x at hx
          generalize zs2.getD j 0 = y at hk
          have hy := within_in (n := y) (lo := 0) (hi := 3) (by omega)
          have hm : 0 ≤ bits BinOp.and IntKind.i64 x 1023 ∧ bits BinOp.and IntKind.i64 x 1023 ≤ 1023 := by rw [and_1023]; omega
          have hmw : IntKind.i64.wrap (1 + bits BinOp.and IntKind.i64 x 1023) = 1 + bits BinOp.and IntKind.i64 x 1023 := IntWalk.i64_in _ (by omega)
          have Hb := Lib.hid hb
          clear hb
          go_wp2_with fail
          have HS2 : ∀ u', Below wr.heap.size wr u' → Below wr.heap.size wr u' ∧ u'.cell? ⟨b2, o2 + j, none⟩ = some (.int .i64 y) ∧ u'.cell? ⟨b1, o1 + j, none⟩ = some (.int .i64 x) := fun u' h => ⟨h, ext_cell h (b := b2) (o := o2 + j) (v := .int .i64 y) (by first | (with_reducible assumption) | (with_reducible (refine ext_cell ((Below.refl _ _).alloc (Nat.le_refl _) _) ?_; assumption)) | (go_cell; done) | (go_keep; done)), ext_cell h (b := b1) (o := o1 + j) (v := .int .i64 x) (by first | (with_reducible assumption) | (with_reducible (refine ext_cell ((Below.refl _ _).alloc (Nat.le_refl _) _) ?_; assumption)) | (go_cell; done) | (go_keep; done))⟩
          go_region_held3 (fun u' => Below wr.heap.size wr u' ∧ u'.cell? ⟨b2, o2 + j, none⟩ = some (.int .i64 y) ∧ u'.cell? ⟨b1, o1 + j, none⟩ = some (.int .i64 x)) (first | exact HS2 _ (by go_grown) | exact HS2 _ (And.left ‹Below wr.heap.size wr _ ∧ _›))
            (first | (go_at_call 9; refine (bookWithin _ _ _ _ (by omega) (by omega) (by omega)).mono ?_; rintro e u2 ⟨rfl, rfl⟩))
          clear hmw HS2 hk hx
          have hn : 1 ≤ 1 + bits BinOp.and IntKind.i64 x 1023 ∧ 1 + bits BinOp.and IntKind.i64 x 1023 ≤ 1024 := by omega
          go_wp2_with fail
          generalize 1 + bits BinOp.and IntKind.i64 x 1023 = n at *
          generalize within y 0 3 = q at *
          obtain ⟨k, rfl⟩ := Int.eq_ofNat_of_zero_le hy.1
          have hk3 : k < 4 := by omega
          have hroom := Hb.out k
          refine (clockTick _ _ _ _ _ _ (hc.ext (Below.refl _ _).drew) (by omega) (by omega) hn.1 hn.2 (by simp only [Int.toNat_natCast]; omega)).mono ?_
          rintro e u3 ⟨rfl, k3, h3⟩
          simp only [Int.toNat_natCast] at h3
          have s3 := (hs1.ext (Below.refl _ _).drew).kept k3 (by have := HS.out; omega)
          have B3 := (B.drew).trans (k3.below (Nat.le_refl _))
          have sx := s3.x k hk3
          have sf := s3.f k hk3
          generalize hv : xs.getD k 0 = v at *
          have Hv := Lib.hid hv
          have hv0 := hc.lo k
          rw [Hv.out] at hv0
          have hxl := hc.len
          have Hl := Lib.hid hxl
          clear hv k3 hc hs1 B hxl
          go_wp2
          go_roundw
          case rel => exact ⟨j + 1, xs.set k (v + n), by omega, by omega, by omega, by go_num, B3.setCell (by have := HS.out; show w.heap.size ≤ u1.heap.size; omega) _, h3.ext' (cell_lt h3.c) (by have := HS.out; omega), s3.set (by have := Hl.out; omega) hk3 _, by
            intro m
            rw [getD_set (by have := Hl.out; omega)]
            have := Hb.out m
            split <;> omega⟩
          case measure => simp [intOf]; omega
        · go_wp2
          clear hb hcell1 hcell2
          obtain ⟨wo, rfl⟩ : ∃ wo : World, wo = wr := ⟨_, rfl⟩
          go_loopw [53] (fun i wq => ∃ m : Nat, m ≤ 4 ∧ i = .int .i64 m ∧ Below wo.heap.size wo wq) (fun i _ => 4 - (intOf i).toNat)
          case atStart => exact ⟨0, by omega, rfl, Below.refl _ _⟩
          case round =>
            obtain ⟨wq, rfl⟩ : ∃ wq : World, wq = wr := ⟨_, rfl⟩
            obtain ⟨m, hm, rfl, D⟩ := hrel
            have hcq := hc.ext D
            have hsq := hs1.ext D
            by_cases hm4 : m < 4
            · have sx := hsq.x m hm4
              have hm4' : (m : Int) < 4 := by omega
              generalize hv : xs.getD m 0 = v at sx
              have Hv := Lib.hid hv
              clear hv
              go_wp2
              have HS2 : ∀ u', Below wq.heap.size wq u' → Below wq.heap.size wq u' ∧ u'.cell? ⟨u1.heap.size, m, none⟩ = some (.int .i64 v) := fun u' h => ⟨h, ext_cell h (b := u1.heap.size) (o := m) (v := .int .i64 v) (by first | (with_reducible assumption) | (with_reducible (refine ext_cell ((Below.refl _ _).alloc (Nat.le_refl _) _) ?_; assumption)) | (go_cell; done) | (go_keep; done))⟩
              go_region_held3 (fun u' => Below wq.heap.size wq u' ∧ u'.cell? ⟨u1.heap.size, m, none⟩ = some (.int .i64 v)) (first | exact HS2 _ (by go_grown) | exact HS2 _ (And.left ‹Below wq.heap.size wq _ ∧ _›))
                (first | (go_at_call 12; refine (clockNow_in _ _ m _ _ (hcq.ext (by go_split_ands; assumption)) hm4').mono ?_; rintro e u5 ⟨rfl, rfl⟩; rw [Hv.out]))
              go_wp2
              go_roundw
              case rel => exact ⟨m + 1, by omega, by go_num, ext_trans D (by first | (go_grown; done) | (go_split_ands; assumption))⟩
              case measure => simp [intOf]; omega
            · obtain rfl : m = 4 := by omega
              have t0 := hsq.x 0 (by omega)
              have t1 := hsq.x 1 (by omega)
              have t2 := hsq.x 2 (by omega)
              have t3 := hsq.x 3 (by omega)
              have hal : mxTo (xs.take (Int.toNat 4)) (Int.toNat 4 - 1) - mnTo (xs.take (Int.toNat 4)) (Int.toNat 4 - 1) = mx4 (xs.getD 0 0) (xs.getD 1 0) (xs.getD 2 0) (xs.getD 3 0) - mn4 (xs.getD 0 0) (xs.getD 1 0) (xs.getD 2 0) (xs.getD 3 0) := apart4 (by have := hc.len; omega)
              have hin := mx4_in (h := 4611686018427387904) ⟨hc.lo 0, hc.hi 0⟩ ⟨hc.lo 1, hc.hi 1⟩ ⟨hc.lo 2, hc.hi 2⟩ ⟨hc.lo 3, hc.hi 3⟩
              generalize hv0 : xs.getD 0 0 = v0 at *
              generalize hv1 : xs.getD 1 0 = v1 at *
              generalize hv2 : xs.getD 2 0 = v2 at *
              generalize hv3 : xs.getD 3 0 = v3 at *
              have Hal := Lib.hid hal
              clear hal hv0 hv1 hv2 hv3
              have hmx : ∀ u : World, (Builtin.max_ #[2, 2, 2, 2] 2 #[.int .i64 v0, .int .i64 v1, .int .i64 v2, .int .i64 v3]).run Try.prog u = .ok (.int .i64 (mx4 v0 v1 v2 v3)) u := fun u => run_max4 _ _ _ _ _ _ u
              have hmn : ∀ u : World, (Builtin.min_ #[2, 2, 2, 2] 2 #[.int .i64 v0, .int .i64 v1, .int .i64 v2, .int .i64 v3]).run Try.prog u = .ok (.int .i64 (mn4 v0 v1 v2 v3)) u := fun u => run_min4 _ _ _ _ _ _ u
              have hwd : IntKind.i64.wrap (mx4 v0 v1 v2 v3 - mn4 v0 v1 v2 v3) = mx4 v0 v1 v2 v3 - mn4 v0 v1 v2 v3 := IntWalk.i64_in _ (by omega)
              go_wp2
              have HS2 : ∀ u', Below wq.heap.size wq u' → Below wq.heap.size wq u' ∧ u'.cell? ⟨u1.heap.size, 0, none⟩ = some (.int .i64 v0) ∧ u'.cell? ⟨u1.heap.size, 1, none⟩ = some (.int .i64 v1) ∧ u'.cell? ⟨u1.heap.size, 2, none⟩ = some (.int .i64 v2) ∧ u'.cell? ⟨u1.heap.size, 3, none⟩ = some (.int .i64 v3) := fun u' h => ⟨h, ext_cell h (b := u1.heap.size) (o := 0) (v := .int .i64 v0) (by first | (with_reducible assumption) | (with_reducible (refine ext_cell ((Below.refl _ _).alloc (Nat.le_refl _) _) ?_; assumption)) | (go_cell; done) | (go_keep; done)), ext_cell h (b := u1.heap.size) (o := 1) (v := .int .i64 v1) (by first | (with_reducible assumption) | (with_reducible (refine ext_cell ((Below.refl _ _).alloc (Nat.le_refl _) _) ?_; assumption)) | (go_cell; done) | (go_keep; done)), ext_cell h (b := u1.heap.size) (o := 2) (v := .int .i64 v2) (by first | (with_reducible assumption) | (with_reducible (refine ext_cell ((Below.refl _ _).alloc (Nat.le_refl _) _) ?_; assumption)) | (go_cell; done) | (go_keep; done)), ext_cell h (b := u1.heap.size) (o := 3) (v := .int .i64 v3) (by first | (with_reducible assumption) | (with_reducible (refine ext_cell ((Below.refl _ _).alloc (Nat.le_refl _) _) ?_; assumption)) | (go_cell; done) | (go_keep; done))⟩
              go_region_held3 (fun u' => Below wq.heap.size wq u' ∧ u'.cell? ⟨u1.heap.size, 0, none⟩ = some (.int .i64 v0) ∧ u'.cell? ⟨u1.heap.size, 1, none⟩ = some (.int .i64 v1) ∧ u'.cell? ⟨u1.heap.size, 2, none⟩ = some (.int .i64 v2) ∧ u'.cell? ⟨u1.heap.size, 3, none⟩ = some (.int .i64 v3)) (exact HS2 _ (by go_grown))
                (first | (go_at_call 13; refine (clockApart _ _ _ _ (hcq.ext (by go_split_ands; assumption))).mono ?_; rintro e u5 ⟨rfl, hb⟩; rw [Hal.out]; have hB1 := ext_trans (a := wq) (And.left (by assumption)) hb) | (go_at_call 8; refine (law7known _).mono ?_; rintro e u6 ⟨rfl, hb⟩; have hB1 := ext_trans (a := wq) (And.left (by assumption)) hb))
              all_goals go_wp2
              all_goals go_ret
              all_goals exact ⟨rfl, ext_trans (ext_trans B D) (by go_split_ands; assumption)⟩
      · go_wp2
        clear hb hcell1 hcell2
        obtain ⟨wo, rfl⟩ : ∃ wo : World, wo = wr := ⟨_, rfl⟩
        go_loopw [53] (fun i wq => ∃ m : Nat, m ≤ 4 ∧ i = .int .i64 m ∧ Below wo.heap.size wo wq) (fun i _ => 4 - (intOf i).toNat)
        case atStart => exact ⟨0, by omega, rfl, Below.refl _ _⟩
        case round =>
          obtain ⟨wq, rfl⟩ : ∃ wq : World, wq = wr := ⟨_, rfl⟩
          obtain ⟨m, hm, rfl, D⟩ := hrel
          have hcq := hc.ext D
          have hsq := hs1.ext D
          by_cases hm4 : m < 4
          · have sx := hsq.x m hm4
            have hm4' : (m : Int) < 4 := by omega
            generalize hv : xs.getD m 0 = v at sx
            have Hv := Lib.hid hv
            clear hv
            go_wp2
            have HS2 : ∀ u', Below wq.heap.size wq u' → Below wq.heap.size wq u' ∧ u'.cell? ⟨u1.heap.size, m, none⟩ = some (.int .i64 v) := fun u' h => ⟨h, ext_cell h (b := u1.heap.size) (o := m) (v := .int .i64 v) (by first | (with_reducible assumption) | (with_reducible (refine ext_cell ((Below.refl _ _).alloc (Nat.le_refl _) _) ?_; assumption)) | (go_cell; done) | (go_keep; done))⟩
            go_region_held3 (fun u' => Below wq.heap.size wq u' ∧ u'.cell? ⟨u1.heap.size, m, none⟩ = some (.int .i64 v)) (first | exact HS2 _ (by go_grown) | exact HS2 _ (And.left ‹Below wq.heap.size wq _ ∧ _›))
              (first | (go_at_call 12; refine (clockNow_in _ _ m _ _ (hcq.ext (by go_split_ands; assumption)) hm4').mono ?_; rintro e u5 ⟨rfl, rfl⟩; rw [Hv.out]))
            go_wp2
            go_roundw
            case rel => exact ⟨m + 1, by omega, by go_num, ext_trans D (by first | (go_grown; done) | (go_split_ands; assumption))⟩
            case measure => simp [intOf]; omega
          · obtain rfl : m = 4 := by omega
            have t0 := hsq.x 0 (by omega)
            have t1 := hsq.x 1 (by omega)
            have t2 := hsq.x 2 (by omega)
            have t3 := hsq.x 3 (by omega)
            have hal : mxTo (xs.take (Int.toNat 4)) (Int.toNat 4 - 1) - mnTo (xs.take (Int.toNat 4)) (Int.toNat 4 - 1) = mx4 (xs.getD 0 0) (xs.getD 1 0) (xs.getD 2 0) (xs.getD 3 0) - mn4 (xs.getD 0 0) (xs.getD 1 0) (xs.getD 2 0) (xs.getD 3 0) := apart4 (by have := hc.len; omega)
            have hin := mx4_in (h := 4611686018427387904) ⟨hc.lo 0, hc.hi 0⟩ ⟨hc.lo 1, hc.hi 1⟩ ⟨hc.lo 2, hc.hi 2⟩ ⟨hc.lo 3, hc.hi 3⟩
            generalize hv0 : xs.getD 0 0 = v0 at *
            generalize hv1 : xs.getD 1 0 = v1 at *
            generalize hv2 : xs.getD 2 0 = v2 at *
            generalize hv3 : xs.getD 3 0 = v3 at *
            have Hal := Lib.hid hal
            clear hal hv0 hv1 hv2 hv3
            have hmx : ∀ u : World, (Builtin.max_ #[2, 2, 2, 2] 2 #[.int .i64 v0, .int .i64 v1, .int .i64 v2, .int .i64 v3]).run Try.prog u = .ok (.int .i64 (mx4 v0 v1 v2 v3)) u := fun u => run_max4 _ _ _ _ _ _ u
            have hmn : ∀ u : World, (Builtin.min_ #[2, 2, 2, 2] 2 #[.int .i64 v0, .int .i64 v1, .int .i64 v2, .int .i64 v3]).run Try.prog u = .ok (.int .i64 (mn4 v0 v1 v2 v3)) u := fun u => run_min4 _ _ _ _ _ _ u
            have hwd : IntKind.i64.wrap (mx4 v0 v1 v2 v3 - mn4 v0 v1 v2 v3) = mx4 v0 v1 v2 v3 - mn4 v0 v1 v2 v3 := IntWalk.i64_in _ (by omega)
            go_wp2
            have HS2 : ∀ u', Below wq.heap.size wq u' → Below wq.heap.size wq u' ∧ u'.cell? ⟨u1.heap.size, 0, none⟩ = some (.int .i64 v0) ∧ u'.cell? ⟨u1.heap.size, 1, none⟩ = some (.int .i64 v1) ∧ u'.cell? ⟨u1.heap.size, 2, none⟩ = some (.int .i64 v2) ∧ u'.cell? ⟨u1.heap.size, 3, none⟩ = some (.int .i64 v3) := fun u' h => ⟨h, ext_cell h (b := u1.heap.size) (o := 0) (v := .int .i64 v0) (by first | (with_reducible assumption) | (with_reducible (refine ext_cell ((Below.refl _ _).alloc (Nat.le_refl _) _) ?_; assumption)) | (go_cell; done) | (go_keep; done)), ext_cell h (b := u1.heap.size) (o := 1) (v := .int .i64 v1) (by first | (with_reducible assumption) | (with_reducible (refine ext_cell ((Below.refl _ _).alloc (Nat.le_refl _) _) ?_; assumption)) | (go_cell; done) | (go_keep; done)), ext_cell h (b := u1.heap.size) (o := 2) (v := .int .i64 v2) (by first | (with_reducible assumption) | (with_reducible (refine ext_cell ((Below.refl _ _).alloc (Nat.le_refl _) _) ?_; assumption)) | (go_cell; done) | (go_keep; done)), ext_cell h (b := u1.heap.size) (o := 3) (v := .int .i64 v3) (by first | (with_reducible assumption) | (with_reducible (refine ext_cell ((Below.refl _ _).alloc (Nat.le_refl _) _) ?_; assumption)) | (go_cell; done) | (go_keep; done))⟩
            go_region_held3 (fun u' => Below wq.heap.size wq u' ∧ u'.cell? ⟨u1.heap.size, 0, none⟩ = some (.int .i64 v0) ∧ u'.cell? ⟨u1.heap.size, 1, none⟩ = some (.int .i64 v1) ∧ u'.cell? ⟨u1.heap.size, 2, none⟩ = some (.int .i64 v2) ∧ u'.cell? ⟨u1.heap.size, 3, none⟩ = some (.int .i64 v3)) (exact HS2 _ (by go_grown))
              (first | (go_at_call 13; refine (clockApart _ _ _ _ (hcq.ext (by go_split_ands; assumption))).mono ?_; rintro e u5 ⟨rfl, hb⟩; rw [Hal.out]; have hB1 := ext_trans (a := wq) (And.left (by assumption)) hb) | (go_at_call 8; refine (law7known _).mono ?_; rintro e u6 ⟨rfl, hb⟩; have hB1 := ext_trans (a := wq) (And.left (by assumption)) hb))
            all_goals go_wp2
            all_goals go_ret
            all_goals exact ⟨rfl, ext_trans (ext_trans B D) (by go_split_ands; assumption)⟩
    · go_wp2
      clear hb hcell1 hcell2
      obtain ⟨wo, rfl⟩ : ∃ wo : World, wo = wr := ⟨_, rfl⟩
      go_loopw [53] (fun i wq => ∃ m : Nat, m ≤ 4 ∧ i = .int .i64 m ∧ Below wo.heap.size wo wq) (fun i _ => 4 - (intOf i).toNat)
      case atStart => exact ⟨0, by omega, rfl, Below.refl _ _⟩
      case round =>
        obtain ⟨wq, rfl⟩ : ∃ wq : World, wq = wr := ⟨_, rfl⟩
        obtain ⟨m, hm, rfl, D⟩ := hrel
        have hcq := hc.ext D
        have hsq := hs1.ext D
        by_cases hm4 : m < 4
        · have sx := hsq.x m hm4
          have hm4' : (m : Int) < 4 := by omega
          generalize hv : xs.getD m 0 = v at sx
          have Hv := Lib.hid hv
          clear hv
          go_wp2
          have HS2 : ∀ u', Below wq.heap.size wq u' → Below wq.heap.size wq u' ∧ u'.cell? ⟨u1.heap.size, m, none⟩ = some (.int .i64 v) := fun u' h => ⟨h, ext_cell h (b := u1.heap.size) (o := m) (v := .int .i64 v) (by first | (with_reducible assumption) | (with_reducible (refine ext_cell ((Below.refl _ _).alloc (Nat.le_refl _) _) ?_; assumption)) | (go_cell; done) | (go_keep; done))⟩
          go_region_held3 (fun u' => Below wq.heap.size wq u' ∧ u'.cell? ⟨u1.heap.size, m, none⟩ = some (.int .i64 v)) (first | exact HS2 _ (by go_grown) | exact HS2 _ (And.left ‹Below wq.heap.size wq _ ∧ _›))
            (first | (go_at_call 12; refine (clockNow_in _ _ m _ _ (hcq.ext (by go_split_ands; assumption)) hm4').mono ?_; rintro e u5 ⟨rfl, rfl⟩; rw [Hv.out]))
          go_wp2
          go_roundw
          case rel => exact ⟨m + 1, by omega, by go_num, ext_trans D (by first | (go_grown; done) | (go_split_ands; assumption))⟩
          case measure => simp [intOf]; omega
        · obtain rfl : m = 4 := by omega
          have t0 := hsq.x 0 (by omega)
          have t1 := hsq.x 1 (by omega)
          have t2 := hsq.x 2 (by omega)
          have t3 := hsq.x 3 (by omega)
          have hal : mxTo (xs.take (Int.toNat 4)) (Int.toNat 4 - 1) - mnTo (xs.take (Int.toNat 4)) (Int.toNat 4 - 1) = mx4 (xs.getD 0 0) (xs.getD 1 0) (xs.getD 2 0) (xs.getD 3 0) - mn4 (xs.getD 0 0) (xs.getD 1 0) (xs.getD 2 0) (xs.getD 3 0) := apart4 (by have := hc.len; omega)
          have hin := mx4_in (h := 4611686018427387904) ⟨hc.lo 0, hc.hi 0⟩ ⟨hc.lo 1, hc.hi 1⟩ ⟨hc.lo 2, hc.hi 2⟩ ⟨hc.lo 3, hc.hi 3⟩
          generalize hv0 : xs.getD 0 0 = v0 at *
          generalize hv1 : xs.getD 1 0 = v1 at *
          generalize hv2 : xs.getD 2 0 = v2 at *
          generalize hv3 : xs.getD 3 0 = v3 at *
          have Hal := Lib.hid hal
          clear hal hv0 hv1 hv2 hv3
          have hmx : ∀ u : World, (Builtin.max_ #[2, 2, 2, 2] 2 #[.int .i64 v0, .int .i64 v1, .int .i64 v2, .int .i64 v3]).run Try.prog u = .ok (.int .i64 (mx4 v0 v1 v2 v3)) u := fun u => run_max4 _ _ _ _ _ _ u
          have hmn : ∀ u : World, (Builtin.min_ #[2, 2, 2, 2] 2 #[.int .i64 v0, .int .i64 v1, .int .i64 v2, .int .i64 v3]).run Try.prog u = .ok (.int .i64 (mn4 v0 v1 v2 v3)) u := fun u => run_min4 _ _ _ _ _ _ u
          have hwd : IntKind.i64.wrap (mx4 v0 v1 v2 v3 - mn4 v0 v1 v2 v3) = mx4 v0 v1 v2 v3 - mn4 v0 v1 v2 v3 := IntWalk.i64_in _ (by omega)
          go_wp2
          have HS2 : ∀ u', Below wq.heap.size wq u' → Below wq.heap.size wq u' ∧ u'.cell? ⟨u1.heap.size, 0, none⟩ = some (.int .i64 v0) ∧ u'.cell? ⟨u1.heap.size, 1, none⟩ = some (.int .i64 v1) ∧ u'.cell? ⟨u1.heap.size, 2, none⟩ = some (.int .i64 v2) ∧ u'.cell? ⟨u1.heap.size, 3, none⟩ = some (.int .i64 v3) := fun u' h => ⟨h, ext_cell h (b := u1.heap.size) (o := 0) (v := .int .i64 v0) (by first | (with_reducible assumption) | (with_reducible (refine ext_cell ((Below.refl _ _).alloc (Nat.le_refl _) _) ?_; assumption)) | (go_cell; done) | (go_keep; done)), ext_cell h (b := u1.heap.size) (o := 1) (v := .int .i64 v1) (by first | (with_reducible assumption) | (with_reducible (refine ext_cell ((Below.refl _ _).alloc (Nat.le_refl _) _) ?_; assumption)) | (go_cell; done) | (go_keep; done)), ext_cell h (b := u1.heap.size) (o := 2) (v := .int .i64 v2) (by first | (with_reducible assumption) | (with_reducible (refine ext_cell ((Below.refl _ _).alloc (Nat.le_refl _) _) ?_; assumption)) | (go_cell; done) | (go_keep; done)), ext_cell h (b := u1.heap.size) (o := 3) (v := .int .i64 v3) (by first | (with_reducible assumption) | (with_reducible (refine ext_cell ((Below.refl _ _).alloc (Nat.le_refl _) _) ?_; assumption)) | (go_cell; done) | (go_keep; done))⟩
          go_region_held3 (fun u' => Below wq.heap.size wq u' ∧ u'.cell? ⟨u1.heap.size, 0, none⟩ = some (.int .i64 v0) ∧ u'.cell? ⟨u1.heap.size, 1, none⟩ = some (.int .i64 v1) ∧ u'.cell? ⟨u1.heap.size, 2, none⟩ = some (.int .i64 v2) ∧ u'.cell? ⟨u1.heap.size, 3, none⟩ = some (.int .i64 v3)) (exact HS2 _ (by go_grown))
            (first | (go_at_call 13; refine (clockApart _ _ _ _ (hcq.ext (by go_split_ands; assumption))).mono ?_; rintro e u5 ⟨rfl, hb⟩; rw [Hal.out]; have hB1 := ext_trans (a := wq) (And.left (by assumption)) hb) | (go_at_call 8; refine (law7known _).mono ?_; rintro e u6 ⟨rfl, hb⟩; have hB1 := ext_trans (a := wq) (And.left (by assumption)) hb))
          all_goals go_wp2
          all_goals go_ret
          all_goals exact ⟨rfl, ext_trans (ext_trans B D) (by go_split_ands; assumption)⟩

end Go.Proofs.Ytjnkchilgdhlaaa
