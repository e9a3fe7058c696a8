/- One frame: the program's, and the document's own. -/
import Derived.Test.YtiblnonmlekjgaaFrameR
import Derived.Test.YtiblnonmlekjgaaChainR
namespace Go.Proofs.Ytiblnonmlekjgaa
open Go.RowKit
set_option linter.unusedVariables false

def oneS (xs : List Int) : List Int × Int :=
  if xs.length < 4 then ([], 12) else if 8192 < r4 xs then ([], 3) else if xs.length ≠ (r4 xs).toNat + 8 then ([], 12)
  else if r4 (xs.drop ((r4 xs).toNat + 4)) = sm (xs.take ((r4 xs).toNat + 4)) then (inn xs, 0) else ([], 13)
theorem oneS_short {xs : List Int} (h : xs.length < 4) : oneS xs = ([], 12) := by simp [oneS, h]
theorem oneS_long {xs : List Int} (h : 4 ≤ xs.length) (h1 : 8192 < r4 xs) : oneS xs = ([], 3) := by
  unfold oneS; rw [if_neg (by omega), if_pos h1]
theorem oneS_form {xs : List Int} (h : 4 ≤ xs.length) (h1 : r4 xs ≤ 8192) (h2 : xs.length ≠ (r4 xs).toNat + 8) : oneS xs = ([], 12) := by
  unfold oneS; rw [if_neg (by omega), if_neg (by omega), if_pos h2]
theorem oneS_ok {xs : List Int} (h1 : r4 xs ≤ 8192) (h2 : xs.length = (r4 xs).toNat + 8) (h3 : r4 (xs.drop ((r4 xs).toNat + 4)) = sm (xs.take ((r4 xs).toNat + 4))) : oneS xs = (inn xs, 0) := by
  unfold oneS; rw [if_neg (by omega), if_neg (by omega), if_neg (by omega), if_pos h3]
theorem oneS_sum {xs : List Int} (h1 : r4 xs ≤ 8192) (h2 : xs.length = (r4 xs).toNat + 8) (h3 : r4 (xs.drop ((r4 xs).toNat + 4)) ≠ sm (xs.take ((r4 xs).toNat + 4))) : oneS xs = ([], 13) := by
  unfold oneS; rw [if_neg (by omega), if_neg (by omega), if_neg (by omega), if_neg h3]

set_option maxRecDepth 100000 in
set_option maxHeartbeats 1000000 in
theorem frameOne_short (a : Option Addr) (n cap : Nat) (xs : List Int) (w : World) (h : BAt w a xs) (hl : xs.length = n) (hc : n ≤ cap) (hm : cap ≤ maxLen) (hw : Wb xs) (hs : n < 4) :
    Calls Try.prog 19 #[.slice a n cap] w fun e w' => e = .returned (.tuple #[.slice none 0 0, .int .i64 12]) ∧ Below w.heap.size w w' := by
  have HA := Lib.hid h
  have HL := Lib.hid hl
  have HW := Lib.hid hw
  have HM := Lib.hid hm
  clear h hl hw hm
  have hd : decide ((n : Int) < 4) = true := by simp; omega
  go_enter Try.func19, Try.ntmps19
  go_wp2
  go_ret2
  exact ⟨rfl, Below.refl _ _⟩

set_option maxRecDepth 100000 in
set_option maxHeartbeats 1000000 in
theorem frameOne_long (a : Option Addr) (n cap : Nat) (xs : List Int) (w : World) (h : BAt w a xs) (hl : xs.length = n) (hc : n ≤ cap) (hm : cap ≤ maxLen) (hw : Wb xs) (h4 : 4 ≤ n) (hk : 8192 < r4 xs) :
    Calls Try.prog 19 #[.slice a n cap] w fun e w' => e = .returned (.tuple #[.slice none 0 0, .int .i64 3]) ∧ Below w.heap.size w w' := by
  have HA := Lib.hid h
  have HL := Lib.hid hl
  have HW := Lib.hid hw
  have HM := Lib.hid hm
  have HF := Lib.hid (fs_long (by omega) hk)
  clear h hl hw hm
  go_enter Try.func19, Try.ntmps19
  go_wp2_with fail
  refine (frameFirst _ _ cap xs _ HA.out HL.out hc HM.out HW.out).mono ?_
  rintro e w1 ⟨rfl, hb⟩
  rw [HF.out]
  go_wp2
  go_ret2
  exact ⟨rfl, hb⟩

set_option maxRecDepth 100000 in
set_option maxHeartbeats 1000000 in
theorem frameOne_form (a : Option Addr) (n cap : Nat) (xs : List Int) (w : World) (h : BAt w a xs) (hl : xs.length = n) (hc : n ≤ cap) (hm : cap ≤ maxLen) (hw : Wb xs) (h4 : 4 ≤ n) (K p : Nat) (y : Int) (hr : r4 xs = K) (hk : K ≤ 8192) (hn : n ≠ K + 8) (hf : fs xs = (p, y)) (hy : y ≠ 3) :
    Calls Try.prog 19 #[.slice a n cap] w fun e w' => e = .returned (.tuple #[.slice none 0 0, .int .i64 12]) ∧ Below w.heap.size w w' := by
  have HA := Lib.hid h
  have HL := Lib.hid hl
  have HW := Lib.hid hw
  have HM := Lib.hid hm
  have HF := Lib.hid hf
  have HR := Lib.hid hr
  have hd : (y == 3) = false := beq_eq_false_iff_ne.2 hy
  have hd2 : ((n : Int) != (K : Int) + 8) = true := by simp; omega
  clear h hl hw hm hf hr hy
  go_enter Try.func19, Try.ntmps19
  go_wp2_with fail
  refine (frameFirst _ _ cap xs _ HA.out HL.out hc HM.out HW.out).mono ?_
  rintro e w1 ⟨rfl, hb⟩
  rw [HF.out]
  have D1 := hb
  have HA1 := Lib.hid (HA.out.ext hb)
  clear hb
  go_wp2_with fail
  refine (frameWord _ _ cap xs _ HA1.out HL.out (by omega) HW.out).mono ?_
  rintro e w2 ⟨rfl, hb⟩
  rw [HR.out]
  have D2 := ext_trans D1 hb
  clear hb
  go_wp2
  go_ret2
  exact ⟨rfl, D2⟩

/-- the whole contract -/
theorem frameOne (a : Option Addr) (n cap : Nat) (xs : List Int) (w : World) (h : BAt w a xs) (hl : xs.length = n) (hc : n ≤ cap) (hm : cap ≤ maxLen) (hw : Wb xs) :
    Calls Try.prog 19 #[.slice a n cap] w fun e w' => ∃ a' c', e = .returned (.tuple #[.slice a' (oneS xs).1.length c', .int .i64 (oneS xs).2]) ∧ BAt w' a' (oneS xs).1 ∧ Below w.heap.size w w' := by
  obtain ⟨K, hK⟩ := Int.eq_ofNat_of_zero_le (r4_in xs hw).1
  rcases fs_cases xs with ⟨h1, h2⟩ | ⟨h1, h2, h3⟩ | ⟨h1, h2, h3, h4⟩ | ⟨h1, h2, h3, h4⟩ | ⟨h1, h2, h3, h4⟩
  · rw [oneS_short h1]
    exact (frameOne_short a n cap xs w h hl hc hm hw (by omega)).mono fun e w' ⟨he, hb⟩ => ⟨none, 0, he, .inl rfl, hb⟩
  · rw [oneS_long h1 h2]
    exact (frameOne_long a n cap xs w h hl hc hm hw (by omega) h2).mono fun e w' ⟨he, hb⟩ => ⟨none, 0, he, .inl rfl, hb⟩
  · rw [oneS_form h1 h2 (by omega)]
    exact (frameOne_form a n cap xs w h hl hc hm hw (by omega) K _ _ hK (by omega) (by omega) h4 (by decide)).mono fun e w' ⟨he, hb⟩ => ⟨none, 0, he, .inl rfl, hb⟩
  · by_cases he : xs.length = K + 8
    · rw [oneS_ok h1 (by omega) h3]
      obtain rfl : n = K + 8 := by omega
      refine (frameOne_ok a K cap xs w h hl hc hm hw (by rw [h4, hK]; rfl) hK (by omega)).mono ?_
      rintro e w' ⟨v, rfl, ho, hb⟩
      obtain ⟨a', c', rfl, -, -, -, hA, -, -⟩ := own_read ho
      exact ⟨a', c', rfl, hA, hb⟩
    · rw [oneS_form (by omega) h1 (by omega)]
      exact (frameOne_form a n cap xs w h hl hc hm hw (by omega) K _ _ hK (by omega) (by omega) h4 (by decide)).mono fun e w' ⟨he, hb⟩ => ⟨none, 0, he, .inl rfl, hb⟩
  · by_cases he : xs.length = K + 8
    · rw [oneS_sum h1 (by omega) h3]
      obtain rfl : n = K + 8 := by omega
      exact (frameOne_sum a K cap xs w h hl hc hm hw h4 hK (by omega)).mono fun e w' ⟨he, hb⟩ => ⟨none, 0, he, .inl rfl, hb⟩
    · rw [oneS_form (by omega) h1 (by omega)]
      exact (frameOne_form a n cap xs w h hl hc hm hw (by omega) K _ _ hK (by omega) (by omega) h4 (by decide)).mono fun e w' ⟨he, hb⟩ => ⟨none, 0, he, .inl rfl, hb⟩

theorem word_val64 (a b c d : Int) (a0 : 0 ≤ a) (a1 : a < 256) (b0 : 0 ≤ b) (b1 : b < 256) (c0 : 0 ≤ c) (c1 : c < 256) (d0 : 0 ≤ d) (d1 : d < 256) :
    bits .or .i64 (bits .or .i64 (bits .or .i64 (a * 16777216) (b * 65536)) (c * 256)) d = a * 16777216 + b * 65536 + c * 256 + d := by
  have hu : ∀ n : Int, 0 ≤ n → n < 2 ^ 32 → IntKind.i64.wrap n = n := fun n h0 h1 => by simp only [IntKind.wrap_i64]; omega
  rw [bits_join .i64 32 (by decide) hu 24 (a * 16777216) (b * 65536) (by omega) (by omega) (by omega) (by omega) (by omega) (by omega)]
  rw [bits_join .i64 32 (by decide) hu 16 (a * 16777216 + b * 65536) (c * 256) (by omega) (by omega) (by omega) (by omega) (by omega) (by omega)]
  rw [bits_join .i64 32 (by decide) hu 8 (a * 16777216 + b * 65536 + c * 256) d (by omega) (by omega) (by omega) (by omega) (by omega) (by omega)]

/-- a whole frame is the frame around what it is around, if and only if its sum is right -/
theorem fr_iff {xs : List Int} {K : Nat} (hw : Wb xs) (hr : r4 xs = K) (hl : xs.length = K + 8) : fr (inn xs) = xs ↔ r4 (xs.drop (K + 4)) = sm (xs.take (K + 4)) := by
  have e1 : inn xs = (xs.take (K + 4)).drop 4 := by unfold inn; rw [hl, show K + 8 - 4 = K + 4 from by omega]
  have e2 : (inn xs).length = K := by rw [e1, List.length_drop, List.length_take]; omega
  have h4 : xs.take 4 = w4 K := by
    refine r4_inj (hw.take _) (w4_wb _) (by rw [List.length_take]; omega) (w4_len _) ?_
    have h := r4_w4 K [] (by omega) (by have := (r4_in xs hw).2; omega)
    rw [List.append_nil] at h
    rw [r4_take, hr, h]
  have h5 : w4 K ++ inn xs = xs.take (K + 4) := by
    have h := List.take_append_drop 4 (xs.take (K + 4))
    rw [List.take_take, show min 4 (K + 4) = 4 from by omega, h4, ← e1] at h
    exact h
  have h6 : fr (inn xs) = xs.take (K + 4) ++ w4 (sm (xs.take (K + 4))) := by unfold fr; rw [e2, h5]
  have hs := sm_in (xs.take (K + 4))
  have hg := r4_w4 (sm (xs.take (K + 4))) [] hs.1 hs.2
  rw [List.append_nil] at hg
  constructor
  · intro h
    rw [h6] at h
    have h7 : xs.drop (K + 4) = w4 (sm (xs.take (K + 4))) := by
      have h8 := List.take_append_drop (K + 4) xs
      exact List.append_cancel_left (h8.trans h.symm)
    rw [h7, hg]
  · intro h
    rw [h6]
    have h7 : xs.drop (K + 4) = w4 (sm (xs.take (K + 4))) := r4_inj (hw.drop _) (w4_wb _) (by rw [List.length_drop]; omega) (w4_len _) (h.trans hg.symm)
    rw [← h7, List.take_append_drop]
theorem str_none : strOfNums [] = ⟨#[]⟩ := by decide +kernel

set_option maxRecDepth 100000 in
set_option maxHeartbeats 1000000 in
theorem lawOne_short (a : Option Addr) (n cap : Nat) (xs : List Int) (w : World) (h : BAt w a xs) (hl : xs.length = n) (hc : n ≤ cap) (hm : cap ≤ maxLen) (hw : Wb xs) (hs : n < 4) :
    Calls Try.prog 22 #[.slice a n cap] w fun e w' => e = .returned (.tuple #[.string ⟨#[]⟩, .int .i64 12]) ∧ Below w.heap.size w w' := by
  have hd : decide ((n : Int) < 4) = true := by simp; omega
  clear h hl hw hm
  go_enter Try.func22, Try.ntmps22
  go_wp2
  go_ret2
  exact ⟨rfl, Below.refl _ _⟩

set_option maxRecDepth 100000 in
set_option maxHeartbeats 1000000 in
theorem lawOne_long (a : Option Addr) (n cap : Nat) (xs : List Int) (w : World) (h : BAt w a xs) (hl : xs.length = n) (hc : n ≤ cap) (hm : cap ≤ maxLen) (hw : Wb xs) (h4 : 4 ≤ n) (K : Nat) (hr : r4 xs = K) (hk : 8192 < K) :
    Calls Try.prog 22 #[.slice a n cap] w fun e w' => e = .returned (.tuple #[.string ⟨#[]⟩, .int .i64 3]) ∧ Below w.heap.size w w' := by
  have HA := Lib.hid h
  have HL := Lib.hid hl
  have HW := Lib.hid hw
  have HM := Lib.hid hm
  obtain ⟨x0, x1, x2, x3, t, hxs⟩ : ∃ x0 x1 x2 x3 t, xs = x0 :: x1 :: x2 :: x3 :: t := by
    match xs, hl with
    | x0 :: x1 :: x2 :: x3 :: t, _ => exact ⟨x0, x1, x2, x3, t, rfl⟩
    | [], hl => simp at hl; omega
    | [_], hl => simp at hl; omega
    | [_, _], hl => simp at hl; omega
    | [_, _, _], hl => simp at hl; omega
  obtain ⟨b, o, rfl⟩ : ∃ b o, a = some ⟨b, o, none⟩ := by
    rcases h with h | ⟨b, o, e, _⟩
    · rw [h] at hl; simp at hl; omega
    · exact ⟨b, o, e⟩
  have hcell : ∀ (k : Nat) (x : Int), xs[k]? = some x → w.cell? ⟨b, o + k, none⟩ = some (.int .u8 x) := by
    rcases h with h | ⟨b', o', e, hc⟩
    · rw [h] at hxs; cases hxs
    · simp at e; obtain ⟨rfl, rfl⟩ := e; exact hc
  have c0 := hcell 0 x0 (by rw [hxs]; rfl)
  have c1 := hcell 1 x1 (by rw [hxs]; rfl)
  have c2 := hcell 2 x2 (by rw [hxs]; rfl)
  have c3 := hcell 3 x3 (by rw [hxs]; rfl)
  obtain ⟨p0, q0⟩ := hw x0 (by rw [hxs]; simp)
  obtain ⟨p1, q1⟩ := hw x1 (by rw [hxs]; simp)
  obtain ⟨p2, q2⟩ := hw x2 (by rw [hxs]; simp)
  obtain ⟨p3, q3⟩ := hw x3 (by rw [hxs]; simp)
  have HV := Lib.hid (show bits .or .i64 (bits .or .i64 (bits .or .i64 (x0 * 16777216) (x1 * 65536)) (x2 * 256)) x3 = (K : Int) from by
    rw [word_val64 x0 x1 x2 x3 p0 q0 p1 q1 p2 q2 p3 q3, ← hr, hxs]; simp [r4])
  rw [Nat.add_zero] at c0
  have HR := Lib.hid hr
  clear hcell hxs h hl hw hm hr
  go_enter Try.func22, Try.ntmps22
  go_wp2_with fail
  haveI hIq : Nonempty (Of w) := of_some _
  have hF0 := of_cell c0
  have hF1 := of_cell c1
  have hF2 := of_cell c2
  have hF3 := of_cell c3
  refine wp_region_stay w (by kernel_rfl) (by kernel_rfl) (by go_grown) ?_
  repeat (go_big_quiet_step (fail))
  refine wpQuiet_nil ?_
  intro w1 hb
  clear hIq hF0 hF1 hF2 hF3
  rw [HV.out]
  clear c0 c1 c2 c3 p0 q0 p1 q1 p2 q2 p3 q3
  have hd : decide (8192 < (K : Int)) = true := by simp; omega
  go_wp2
  go_ret2
  exact ⟨rfl, hb⟩

set_option maxRecDepth 100000 in
set_option maxHeartbeats 1000000 in
theorem lawOne_form (a : Option Addr) (n cap : Nat) (xs : List Int) (w : World) (h : BAt w a xs) (hl : xs.length = n) (hc : n ≤ cap) (hm : cap ≤ maxLen) (hw : Wb xs) (h4 : 4 ≤ n) (K : Nat) (hr : r4 xs = K) (hk : K ≤ 8192) (hn : n ≠ K + 8) :
    Calls Try.prog 22 #[.slice a n cap] w fun e w' => e = .returned (.tuple #[.string ⟨#[]⟩, .int .i64 12]) ∧ Below w.heap.size w w' := by
  have HA := Lib.hid h
  have HL := Lib.hid hl
  have HW := Lib.hid hw
  have HM := Lib.hid hm
  obtain ⟨x0, x1, x2, x3, t, hxs⟩ : ∃ x0 x1 x2 x3 t, xs = x0 :: x1 :: x2 :: x3 :: t := by
    match xs, hl with
    | x0 :: x1 :: x2 :: x3 :: t, _ => exact ⟨x0, x1, x2, x3, t, rfl⟩
    | [], hl => simp at hl; omega
    | [_], hl => simp at hl; omega
    | [_, _], hl => simp at hl; omega
    | [_, _, _], hl => simp at hl; omega
  obtain ⟨b, o, rfl⟩ : ∃ b o, a = some ⟨b, o, none⟩ := by
    rcases h with h | ⟨b, o, e, _⟩
    · rw [h] at hl; simp at hl; omega
    · exact ⟨b, o, e⟩
  have hcell : ∀ (k : Nat) (x : Int), xs[k]? = some x → w.cell? ⟨b, o + k, none⟩ = some (.int .u8 x) := by
    rcases h with h | ⟨b', o', e, hc⟩
    · rw [h] at hxs; cases hxs
    · simp at e; obtain ⟨rfl, rfl⟩ := e; exact hc
  have c0 := hcell 0 x0 (by rw [hxs]; rfl)
  have c1 := hcell 1 x1 (by rw [hxs]; rfl)
  have c2 := hcell 2 x2 (by rw [hxs]; rfl)
  have c3 := hcell 3 x3 (by rw [hxs]; rfl)
  obtain ⟨p0, q0⟩ := hw x0 (by rw [hxs]; simp)
  obtain ⟨p1, q1⟩ := hw x1 (by rw [hxs]; simp)
  obtain ⟨p2, q2⟩ := hw x2 (by rw [hxs]; simp)
  obtain ⟨p3, q3⟩ := hw x3 (by rw [hxs]; simp)
  have HV := Lib.hid (show bits .or .i64 (bits .or .i64 (bits .or .i64 (x0 * 16777216) (x1 * 65536)) (x2 * 256)) x3 = (K : Int) from by
    rw [word_val64 x0 x1 x2 x3 p0 q0 p1 q1 p2 q2 p3 q3, ← hr, hxs]; simp [r4])
  rw [Nat.add_zero] at c0
  have HR := Lib.hid hr
  clear hcell hxs h hl hw hm hr
  go_enter Try.func22, Try.ntmps22
  go_wp2_with fail
  haveI hIq : Nonempty (Of w) := of_some _
  have hF0 := of_cell c0
  have hF1 := of_cell c1
  have hF2 := of_cell c2
  have hF3 := of_cell c3
  refine wp_region_stay w (by kernel_rfl) (by kernel_rfl) (by go_grown) ?_
  repeat (go_big_quiet_step (fail))
  refine wpQuiet_nil ?_
  intro w1 hb
  clear hIq hF0 hF1 hF2 hF3
  rw [HV.out]
  clear c0 c1 c2 c3 p0 q0 p1 q1 p2 q2 p3 q3
  have hd : decide (8192 < (K : Int)) = false := by simp; omega
  have hd2 : ((n : Int) != (K : Int) + 8) = true := by simp; omega
  go_wp2
  go_ret2
  exact ⟨rfl, hb⟩

set_option maxRecDepth 100000 in
set_option maxHeartbeats 1000000 in
theorem lawOne_sum (a : Option Addr) (n cap : Nat) (xs : List Int) (w : World) (h : BAt w a xs) (hl : xs.length = n) (hc : n ≤ cap) (hm : cap ≤ maxLen) (hw : Wb xs) (h4 : 4 ≤ n) (K : Nat) (hr : r4 xs = K) (hk : K ≤ 8192) (hn : n = K + 8) (hs : fr (inn xs) ≠ xs) :
    Calls Try.prog 22 #[.slice a n cap] w fun e w' => e = .returned (.tuple #[.string ⟨#[]⟩, .int .i64 13]) ∧ Below w.heap.size w w' := by
  have HS := Lib.hid hs
  clear hs
  have HA := Lib.hid h
  have HL := Lib.hid hl
  have HW := Lib.hid hw
  have HM := Lib.hid hm
  obtain ⟨x0, x1, x2, x3, t, hxs⟩ : ∃ x0 x1 x2 x3 t, xs = x0 :: x1 :: x2 :: x3 :: t := by
    match xs, hl with
    | x0 :: x1 :: x2 :: x3 :: t, _ => exact ⟨x0, x1, x2, x3, t, rfl⟩
    | [], hl => simp at hl; omega
    | [_], hl => simp at hl; omega
    | [_, _], hl => simp at hl; omega
    | [_, _, _], hl => simp at hl; omega
  obtain ⟨b, o, rfl⟩ : ∃ b o, a = some ⟨b, o, none⟩ := by
    rcases h with h | ⟨b, o, e, _⟩
    · rw [h] at hl; simp at hl; omega
    · exact ⟨b, o, e⟩
  have hcell : ∀ (k : Nat) (x : Int), xs[k]? = some x → w.cell? ⟨b, o + k, none⟩ = some (.int .u8 x) := by
    rcases h with h | ⟨b', o', e, hc⟩
    · rw [h] at hxs; cases hxs
    · simp at e; obtain ⟨rfl, rfl⟩ := e; exact hc
  have c0 := hcell 0 x0 (by rw [hxs]; rfl)
  have c1 := hcell 1 x1 (by rw [hxs]; rfl)
  have c2 := hcell 2 x2 (by rw [hxs]; rfl)
  have c3 := hcell 3 x3 (by rw [hxs]; rfl)
  obtain ⟨p0, q0⟩ := hw x0 (by rw [hxs]; simp)
  obtain ⟨p1, q1⟩ := hw x1 (by rw [hxs]; simp)
  obtain ⟨p2, q2⟩ := hw x2 (by rw [hxs]; simp)
  obtain ⟨p3, q3⟩ := hw x3 (by rw [hxs]; simp)
  have HV := Lib.hid (show bits .or .i64 (bits .or .i64 (bits .or .i64 (x0 * 16777216) (x1 * 65536)) (x2 * 256)) x3 = (K : Int) from by
    rw [word_val64 x0 x1 x2 x3 p0 q0 p1 q1 p2 q2 p3 q3, ← hr, hxs]; simp [r4])
  rw [Nat.add_zero] at c0
  have HR := Lib.hid hr
  clear hcell hxs h hl hw hm hr
  go_enter Try.func22, Try.ntmps22
  go_wp2_with fail
  haveI hIq : Nonempty (Of w) := of_some _
  have hF0 := of_cell c0
  have hF1 := of_cell c1
  have hF2 := of_cell c2
  have hF3 := of_cell c3
  refine wp_region_stay w (by kernel_rfl) (by kernel_rfl) (by go_grown) ?_
  repeat (go_big_quiet_step (fail))
  refine wpQuiet_nil ?_
  intro w1 hb
  clear hIq hF0 hF1 hF2 hF3
  rw [HV.out]
  clear c0 c1 c2 c3 p0 q0 p1 q1 p2 q2 p3 q3
  have hd : decide (8192 < (K : Int)) = false := by simp; omega
  have hd2 : ((n : Int) != (K : Int) + 8) = false := by simp; omega
  have D1 := hb
  have HA1 := Lib.hid (HA.out.ext hb)
  clear hb
  obtain ⟨f, hf⟩ : ∃ f, f = inn xs := ⟨_, rfl⟩
  have hin : inn xs = (xs.take (K + 4)).drop 4 := by unfold inn; rw [HL.out, hn, show K + 8 - 4 = K + 4 from by omega]
  have HAf := Lib.hid (show BAt w1 (some ⟨b, o + 4, none⟩) f from by rw [hf, hin]; exact (HA1.out.take (K + 4)).drop 4)
  have HFL := Lib.hid (show f.length = K from by rw [hf, hin, List.length_drop, List.length_take]; have := HL.out; omega)
  have HFW := Lib.hid (show Wb f from by rw [hf]; exact inn_wb HW.out)
  have HF := Lib.hid hf
  have HN := Lib.hid hn
  have hck : K + 8 ≤ cap := by omega
  have hcb : ∀ g : Of w1, (convert 22 9 (.slice (some ⟨b, o, none⟩) n cap)).run Try.prog g.w = .ok (.string (strOfNums xs)) g.w := fun g => run_text g.w 22 5 Try.underlying22 Try.underlying5 9 Try.underlying9 (some ⟨b, o, none⟩) n cap xs HL.out (HA1.out.ext g.h)
  clear hf hin hn
  go_wp2_with fail
  haveI hIq : Nonempty (Of w1) := of_some _
  refine Late.wp_region_chain (fun w' => ∃ g : Of w1, w' = g.w) (by kernel_rfl) (by kernel_rfl) (by kernel_rfl) ?_
  refine Late.wpG_letter (fun W => Below w1.heap.size w1 W) ((Below.refl _ _).drew) ?_
  rintro y0 d0
  repeat (refine Late.wpG_plain (by rfl) (by rfl) (fun KK hK => ?_); go_big_quiet_op; refine hK _ ?_; clear hK KK)
  refine Late.wpG_call (by rfl) (by rfl) ⟨⟨_, d0⟩, rfl⟩ (fun KK hK => ?_)
  go_big_op
  refine (refFrame (some ⟨b, o + 4, none⟩) K _ f _ (HAf.out.ext d0) HFL.out (by omega) HFW.out).mono ?_
  rintro e y1 ⟨v1, rfl, ho, hb1⟩
  obtain ⟨a1, k1, rfl, -, -, -, hA1, -, -⟩ := own_read ho
  have d1 := ext_trans d0 hb1
  have hcf := run_text y1 22 5 Try.underlying22 Try.underlying5 9 Try.underlying9 a1 (fr f).length k1 (fr f) rfl hA1
  refine hK _ _ ?_
  clear hK ho hA1 hb1
  refine Late.wpG_call (by rfl) (by rfl) ⟨⟨_, d1⟩, rfl⟩ (fun KK hK => ?_)
  go_big_op
  refine hK _ _ ?_
  clear hK hcf
  repeat (refine Late.wpG_plain (by rfl) (by rfl) (fun KK hK => ?_); go_big_quiet_op; refine hK _ ?_; clear hK KK)
  have hi : ∀ (i : BEq (List UInt8)), @LawfulBEq _ i → @BEq.beq _ i (strOfNums (fr f)).toList (strOfNums xs).toList = false := fun i l => beq_eq_false_iff_ne.2 fun e => HS.out (by rw [← HF.out]; exact str_nums_inj (fr_wb _ HFW.out) HW.out (str_inj e))
  rw [hi]
  rotate_left
  · infer_instance
  clear hi
  refine Late.wpG_nil ⟨⟨_, d1⟩, rfl⟩ ?_
  clear hcb hIq
  have D2 := ext_trans D1 d1
  clear d0 d1
  have hne : ((strOfNums (fr f)).toList == (strOfNums xs).toList) = false := beq_eq_false_iff_ne.2 fun e =>
    HS.out (by rw [← HF.out]; exact str_nums_inj (fr_wb _ HFW.out) HW.out (str_inj e))
  have hne2 : (!((strOfNums (fr f)).toList == (strOfNums xs).toList)) = true := by rw [hne]; rfl
  go_wp2
  all_goals first
    | (exfalso; rename_i hb'; simp at hb'; exact HS.out (by rw [← HF.out]; exact str_nums_inj (fr_wb _ HFW.out) HW.out (str_inj hb')))
    | (exfalso; rename_i hb' _; simp at hb'; exact HS.out (by rw [← HF.out]; exact str_nums_inj (fr_wb _ HFW.out) HW.out (str_inj hb')))
    | (exfalso; rename_i hb' _ _; simp at hb'; exact HS.out (by rw [← HF.out]; exact str_nums_inj (fr_wb _ HFW.out) HW.out (str_inj hb')))
    | (exfalso; rename_i hb' _ _ _; simp at hb'; exact HS.out (by rw [← HF.out]; exact str_nums_inj (fr_wb _ HFW.out) HW.out (str_inj hb')))
    | (go_ret2; exact ⟨rfl, D2⟩)

set_option maxRecDepth 100000 in
set_option maxHeartbeats 1000000 in
theorem lawOne_ok (a : Option Addr) (n cap : Nat) (xs : List Int) (w : World) (h : BAt w a xs) (hl : xs.length = n) (hc : n ≤ cap) (hm : cap ≤ maxLen) (hw : Wb xs) (h4 : 4 ≤ n) (K : Nat) (hr : r4 xs = K) (hk : K ≤ 8192) (hn : n = K + 8) (hs : fr (inn xs) = xs) :
    Calls Try.prog 22 #[.slice a n cap] w fun e w' => e = .returned (.tuple #[.string (strOfNums (inn xs)), .int .i64 0]) ∧ Below w.heap.size w w' := by
  have HS := Lib.hid hs
  clear hs
  have HA := Lib.hid h
  have HL := Lib.hid hl
  have HW := Lib.hid hw
  have HM := Lib.hid hm
  obtain ⟨x0, x1, x2, x3, t, hxs⟩ : ∃ x0 x1 x2 x3 t, xs = x0 :: x1 :: x2 :: x3 :: t := by
    match xs, hl with
    | x0 :: x1 :: x2 :: x3 :: t, _ => exact ⟨x0, x1, x2, x3, t, rfl⟩
    | [], hl => simp at hl; omega
    | [_], hl => simp at hl; omega
    | [_, _], hl => simp at hl; omega
    | [_, _, _], hl => simp at hl; omega
  obtain ⟨b, o, rfl⟩ : ∃ b o, a = some ⟨b, o, none⟩ := by
    rcases h with h | ⟨b, o, e, _⟩
    · rw [h] at hl; simp at hl; omega
    · exact ⟨b, o, e⟩
  have hcell : ∀ (k : Nat) (x : Int), xs[k]? = some x → w.cell? ⟨b, o + k, none⟩ = some (.int .u8 x) := by
    rcases h with h | ⟨b', o', e, hc⟩
    · rw [h] at hxs; cases hxs
    · simp at e; obtain ⟨rfl, rfl⟩ := e; exact hc
  have c0 := hcell 0 x0 (by rw [hxs]; rfl)
  have c1 := hcell 1 x1 (by rw [hxs]; rfl)
  have c2 := hcell 2 x2 (by rw [hxs]; rfl)
  have c3 := hcell 3 x3 (by rw [hxs]; rfl)
  obtain ⟨p0, q0⟩ := hw x0 (by rw [hxs]; simp)
  obtain ⟨p1, q1⟩ := hw x1 (by rw [hxs]; simp)
  obtain ⟨p2, q2⟩ := hw x2 (by rw [hxs]; simp)
  obtain ⟨p3, q3⟩ := hw x3 (by rw [hxs]; simp)
  have HV := Lib.hid (show bits .or .i64 (bits .or .i64 (bits .or .i64 (x0 * 16777216) (x1 * 65536)) (x2 * 256)) x3 = (K : Int) from by
    rw [word_val64 x0 x1 x2 x3 p0 q0 p1 q1 p2 q2 p3 q3, ← hr, hxs]; simp [r4])
  rw [Nat.add_zero] at c0
  have HR := Lib.hid hr
  clear hcell hxs h hl hw hm hr
  go_enter Try.func22, Try.ntmps22
  go_wp2_with fail
  haveI hIq : Nonempty (Of w) := of_some _
  have hF0 := of_cell c0
  have hF1 := of_cell c1
  have hF2 := of_cell c2
  have hF3 := of_cell c3
  refine wp_region_stay w (by kernel_rfl) (by kernel_rfl) (by go_grown) ?_
  repeat (go_big_quiet_step (fail))
  refine wpQuiet_nil ?_
  intro w1 hb
  clear hIq hF0 hF1 hF2 hF3
  rw [HV.out]
  clear c0 c1 c2 c3 p0 q0 p1 q1 p2 q2 p3 q3
  have hd : decide (8192 < (K : Int)) = false := by simp; omega
  have hd2 : ((n : Int) != (K : Int) + 8) = false := by simp; omega
  have D1 := hb
  have HA1 := Lib.hid (HA.out.ext hb)
  clear hb
  obtain ⟨f, hf⟩ : ∃ f, f = inn xs := ⟨_, rfl⟩
  have hin : inn xs = (xs.take (K + 4)).drop 4 := by unfold inn; rw [HL.out, hn, show K + 8 - 4 = K + 4 from by omega]
  have HAf := Lib.hid (show BAt w1 (some ⟨b, o + 4, none⟩) f from by rw [hf, hin]; exact (HA1.out.take (K + 4)).drop 4)
  have HFL := Lib.hid (show f.length = K from by rw [hf, hin, List.length_drop, List.length_take]; have := HL.out; omega)
  have HFW := Lib.hid (show Wb f from by rw [hf]; exact inn_wb HW.out)
  have HF := Lib.hid hf
  have HN := Lib.hid hn
  have hck : K + 8 ≤ cap := by omega
  have hcb : ∀ g : Of w1, (convert 22 9 (.slice (some ⟨b, o, none⟩) n cap)).run Try.prog g.w = .ok (.string (strOfNums xs)) g.w := fun g => run_text g.w 22 5 Try.underlying22 Try.underlying5 9 Try.underlying9 (some ⟨b, o, none⟩) n cap xs HL.out (HA1.out.ext g.h)
  clear hf hin hn
  go_wp2_with fail
  haveI hIq : Nonempty (Of w1) := of_some _
  refine Late.wp_region_chain (fun w' => ∃ g : Of w1, w' = g.w) (by kernel_rfl) (by kernel_rfl) (by kernel_rfl) ?_
  refine Late.wpG_letter (fun W => Below w1.heap.size w1 W) ((Below.refl _ _).drew) ?_
  rintro y0 d0
  repeat (refine Late.wpG_plain (by rfl) (by rfl) (fun KK hK => ?_); go_big_quiet_op; refine hK _ ?_; clear hK KK)
  refine Late.wpG_call (by rfl) (by rfl) ⟨⟨_, d0⟩, rfl⟩ (fun KK hK => ?_)
  go_big_op
  refine (refFrame (some ⟨b, o + 4, none⟩) K _ f _ (HAf.out.ext d0) HFL.out (by omega) HFW.out).mono ?_
  rintro e y1 ⟨v1, rfl, ho, hb1⟩
  obtain ⟨a1, k1, rfl, -, -, -, hA1, -, -⟩ := own_read ho
  have d1 := ext_trans d0 hb1
  have hcf := run_text y1 22 5 Try.underlying22 Try.underlying5 9 Try.underlying9 a1 (fr f).length k1 (fr f) rfl hA1
  refine hK _ _ ?_
  clear hK ho hA1 hb1
  refine Late.wpG_call (by rfl) (by rfl) ⟨⟨_, d1⟩, rfl⟩ (fun KK hK => ?_)
  go_big_op
  refine hK _ _ ?_
  clear hK hcf
  repeat (refine Late.wpG_plain (by rfl) (by rfl) (fun KK hK => ?_); go_big_quiet_op; refine hK _ ?_; clear hK KK)
  have hi : ∀ (i : BEq (List UInt8)), @LawfulBEq _ i → @BEq.beq _ i (strOfNums (fr f)).toList (strOfNums xs).toList = true := fun i l => beq_iff_eq.2 (by rw [HF.out, HS.out])
  rw [hi]
  rotate_left
  · infer_instance
  clear hi
  refine Late.wpG_nil ⟨⟨_, d1⟩, rfl⟩ ?_
  clear hcb hIq
  have D2 := ext_trans D1 d1
  have D1y := d1
  clear d0 d1
  have hne : ((strOfNums (fr f)).toList == (strOfNums xs).toList) = true := beq_iff_eq.2 (by rw [HF.out, HS.out])
  have hne2 : (!((strOfNums (fr f)).toList == (strOfNums xs).toList)) = false := by rw [hne]; rfl
  have hcz := run_text y1 22 5 Try.underlying22 Try.underlying5 9 Try.underlying9 (some ⟨b, o + 4, none⟩) K (cap - 4) f HFL.out (HAf.out.ext D1y)
  go_wp2
  all_goals first
    | (exfalso; rename_i hb'; simp at hb'; exact hb' (by rw [HF.out, HS.out]))
    | (exfalso; rename_i hb' _; simp at hb'; exact hb' (by rw [HF.out, HS.out]))
    | (exfalso; rename_i hb' _ _; simp at hb'; exact hb' (by rw [HF.out, HS.out]))
    | (exfalso; rename_i hb' _ _ _; simp at hb'; exact hb' (by rw [HF.out, HS.out]))
    | (go_ret2; exact ⟨by rw [← HF.out]; rfl, D2⟩)

theorem lawOne (a : Option Addr) (n cap : Nat) (xs : List Int) (w : World) (h : BAt w a xs) (hl : xs.length = n) (hc : n ≤ cap) (hm : cap ≤ maxLen) (hw : Wb xs) :
    Calls Try.prog 22 #[.slice a n cap] w fun e w' => e = .returned (.tuple #[.string (strOfNums (oneS xs).1), .int .i64 (oneS xs).2]) ∧ Below w.heap.size w w' := by
  obtain ⟨K, hK⟩ := Int.eq_ofNat_of_zero_le (r4_in xs hw).1
  by_cases h1 : n < 4
  · rw [oneS_short (by omega), str_none]; exact lawOne_short a n cap xs w h hl hc hm hw h1
  by_cases h2 : 8192 < K
  · rw [oneS_long (by omega) (by omega), str_none]; exact lawOne_long a n cap xs w h hl hc hm hw (by omega) K hK h2
  by_cases h3 : n = K + 8
  · by_cases h4 : r4 (xs.drop (K + 4)) = sm (xs.take (K + 4))
    · rw [oneS_ok (by omega) (by omega) (by rw [hK]; exact h4)]; exact lawOne_ok a n cap xs w h hl hc hm hw (by omega) K hK (by omega) h3 ((fr_iff hw hK (by omega)).2 h4)
    · rw [oneS_sum (by omega) (by omega) (by rw [hK]; exact h4), str_none]; exact lawOne_sum a n cap xs w h hl hc hm hw (by omega) K hK (by omega) h3 (fun e => h4 ((fr_iff hw hK (by omega)).1 e))
  · rw [oneS_form (by omega) (by omega) (by omega), str_none]; exact lawOne_form a n cap xs w h hl hc hm hw (by omega) K hK (by omega) h3

set_option maxRecDepth 100000 in
set_option maxHeartbeats 1000000 in
theorem lawOnes (a : Option Addr) (n cap : Nat) (xs : List Int) (w : World) (h : BAt w a xs) (hl : xs.length = n) (hc : n ≤ cap) (hm : cap ≤ maxLen) (hw : Wb xs) :
    Calls Try.prog 10 #[.slice a n cap] w fun e w' => e = .returned (.bool true) ∧ Below w.heap.size w w' := by
  have HA := Lib.hid h
  have HL := Lib.hid hl
  have HW := Lib.hid hw
  have HM := Lib.hid hm
  clear h hl hw hm
  go_enter Try.func10, Try.ntmps10
  go_wp2_with fail
  refine (frameOne _ _ _ xs _ HA.out HL.out hc HM.out HW.out).mono ?_
  rintro e w1 ⟨a1, c1, rfl, hA1, hb⟩
  have HA1 := Lib.hid (HA.out.ext hb)
  have D1 := hb
  clear hb
  go_wp2_with fail
  refine (lawOne _ _ _ xs _ HA1.out HL.out hc HM.out HW.out).mono ?_
  rintro e w2 ⟨rfl, hb⟩
  have D2 := ext_trans D1 hb
  have hA2 := hA1.ext hb
  obtain ⟨z, hz⟩ : ∃ z, z = oneS xs := ⟨_, rfl⟩
  rw [← hz] at hA2 ⊢
  have hcv := run_text w2 22 5 Try.underlying22 Try.underlying5 9 Try.underlying9 a1 z.1.length c1 z.1 rfl hA2
  clear hb hA1 hA2 hz
  go_wp2
  go_ret
  exact ⟨rfl, D2⟩

end Go.Proofs.Ytiblnonmlekjgaa
