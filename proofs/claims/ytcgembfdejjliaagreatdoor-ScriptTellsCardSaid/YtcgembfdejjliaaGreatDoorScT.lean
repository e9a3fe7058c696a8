/- The document's own line, pure: its words, its numbers; what it has in common with the program's. -/
import Derived.Test.YtcgembfdejjliaaGreatDoorScM
import Derived.Lib.ParseIntBTie
import Derived.RowKit
namespace Go.Proofs.YtcgembfdejjliaaGreatDoor
open Go.RowKit
set_option linter.unusedVariables false
set_option linter.unusedSimpArgs false

/-! ### words -/
/-- what stands between the blanks -/
def ws : List UInt8 → List (List UInt8)
  | [] => [[]]
  | c :: r => if c = 32 then [] :: ws r else match ws r with
    | [] => [[c]]
    | h :: t => (c :: h) :: t
theorem ws_ne : ∀ l : List UInt8, ws l ≠ []
  | [] => by simp [ws]
  | c :: r => by
    unfold ws
    split
    · simp
    · split <;> simp
theorem ws_cons (c : UInt8) (r h : List UInt8) (t : List (List UInt8)) (hc : c ≠ 32) (e : ws r = h :: t) : ws (c :: r) = (c :: h) :: t := by
  rw [ws, if_neg hc, e]
/-- a word ahead of a blank -/
theorem ws_hit : ∀ (l r : List UInt8), (∀ c ∈ l, c ≠ 32) → ws (l ++ 32 :: r) = l :: ws r
  | [], r, _ => by simp [ws]
  | c :: l, r, h => ws_cons c _ l (ws r) (h c (by simp)) (ws_hit l r fun d hd => h d (List.mem_cons_of_mem _ hd))
/-- the last word -/
theorem ws_end : ∀ (l : List UInt8), (∀ c ∈ l, c ≠ 32) → ws l = [l]
  | [], _ => rfl
  | c :: l, h => ws_cons c _ l [] (h c (by simp)) (ws_end l fun d hd => h d (List.mem_cons_of_mem _ hd))
theorem ws_miss : ∀ (l : List UInt8), Lib.index l [32] = -1 → ws l = [l]
  | [], _ => rfl
  | c :: l, h => by
    unfold Lib.index at h
    by_cases hc : c = 32
    · subst hc; simp at h
    · have h0 : ([32] : List UInt8).isPrefixOf (c :: l) = false := by
        simp [List.isPrefixOf]; exact fun e => hc e.symm
      rw [h0] at h
      have := Lib.index_ge l [32]
      have h1 : Lib.index l [32] = -1 := by
        by_cases h2 : Lib.index l [32] = -1
        · exact h2
        · rw [if_neg (by simp), if_neg (by simpa using h2)] at h
          omega
      exact ws_cons c l l [] hc (ws_miss l h1)
theorem ws_at : ∀ (l : List UInt8) (i : Nat), Lib.index l [32] = i → ws l = l.take i :: ws (l.drop (i + 1))
  | [], i, h => by simp [Lib.index] at h
  | c :: l, i, h => by
    unfold Lib.index at h
    by_cases hc : c = 32
    · subst hc
      rw [if_pos (by simp)] at h
      have : i = 0 := by omega
      subst this
      rfl
    · have h0 : ([32] : List UInt8).isPrefixOf (c :: l) = false := by
        simp [List.isPrefixOf]; exact fun e => hc e.symm
      rw [h0] at h
      have hge := Lib.index_ge l [32]
      by_cases h2 : Lib.index l [32] = -1
      · rw [if_neg (by simp), if_pos (by simpa using h2)] at h
        omega
      · rw [if_neg (by simp), if_neg (by simpa using h2)] at h
        obtain ⟨j, rfl⟩ : ∃ j, i = j + 1 := ⟨i - 1, by omega⟩
        exact ws_cons c _ _ _ hc (ws_at l j (by omega))
theorem splitK_ws : ∀ (k : Nat) (l : List UInt8), (ws l).length ≤ k + 1 → Lib.splitK [32] 0 k l = ws l
  | 0, l, h => by
    have hne := ws_ne l
    have : Lib.index l [32] = -1 := by
      have hge := Lib.index_ge l [32]
      by_cases h2 : Lib.index l [32] = -1
      · exact h2
      · obtain ⟨i, hi⟩ : ∃ i : Nat, Lib.index l [32] = i := ⟨(Lib.index l [32]).toNat, by omega⟩
        rw [ws_at l i hi] at h
        have := ws_ne (l.drop (i + 1))
        simp at h
        exact absurd h this
    rw [ws_miss l this]
    rfl
  | k + 1, l, h => by
    unfold Lib.splitK
    by_cases h2 : Lib.index l [32] = -1
    · rw [if_pos (by simpa using h2), ws_miss l h2]
    · have hge := Lib.index_ge l [32]
      obtain ⟨i, hi⟩ : ∃ i : Nat, Lib.index l [32] = i := ⟨(Lib.index l [32]).toNat, by omega⟩
      rw [if_neg (by simpa using h2), hi]
      rw [ws_at l i hi] at h ⊢
      simp only [List.length_cons] at h
      have ih := splitK_ws k (l.drop (i + 1)) (by omega)
      simpa using ih
theorem splitK_many : ∀ (k : Nat) (l : List UInt8), k + 1 < (ws l).length → (Lib.splitK [32] 0 k l).length = k + 1
  | 0, l, h => rfl
  | k + 1, l, h => by
    unfold Lib.splitK
    by_cases h2 : Lib.index l [32] = -1
    · rw [ws_miss l h2] at h; simp at h
    · have hge := Lib.index_ge l [32]
      obtain ⟨i, hi⟩ : ∃ i : Nat, Lib.index l [32] = i := ⟨(Lib.index l [32]).toNat, by omega⟩
      rw [if_neg (by simpa using h2), hi]
      rw [ws_at l i hi] at h
      simp only [List.length_cons] at h
      have ih := splitK_many k (l.drop (i + 1)) (by omega)
      simpa using ih
theorem splitK_head : ∀ (k : Nat) (l : List UInt8), (Lib.splitK [32] 0 (k + 1) l).headD [] = (ws l).headD []
  | k, l => by
    unfold Lib.splitK
    by_cases h2 : Lib.index l [32] = -1
    · rw [if_pos (by simpa using h2), ws_miss l h2]
    · have hge := Lib.index_ge l [32]
      obtain ⟨i, hi⟩ : ∃ i : Nat, Lib.index l [32] = i := ⟨(Lib.index l [32]).toNat, by omega⟩
      rw [if_neg (by simpa using h2), hi, ws_at l i hi]
      simp
/-- the document's words -/
def wsB (x : ByteArray) : List ByteArray := (ws x.data.toList).map fun l => ⟨l.toArray⟩
theorem wsB_len (x : ByteArray) : 1 ≤ (wsB x).length ∧ (wsB x).length ≤ x.size + 1 := by
  unfold wsB
  have h := ws_ne x.data.toList
  have h2 : ∀ l : List UInt8, (ws l).length ≤ l.length + 1 := by
    intro l
    induction l with
    | nil => simp [ws]
    | cons c r ih =>
      unfold ws
      split
      · simp; omega
      · split
        · simp
        · rename_i h; rw [h] at ih; simp at ih ⊢; omega
  have h3 := h2 x.data.toList
  have h4 : x.data.toList.length = x.size := rfl
  rw [List.length_map]
  have h5 : (ws x.data.toList).length ≠ 0 := fun e => h (List.length_eq_zero_iff.1 e)
  omega
theorem wds_data (x : ByteArray) : (wds x).map (·.data.toList) = Lib.splitK [32] 0 (min 5 (x.size + 1) - 1) x.data.toList := by
  unfold wds
  exact Lib.splitB_data _ _ _ _
theorem unmap {l : List ByteArray} {m : List (List UInt8)} (h : l.map (·.data.toList) = m) : l = m.map fun l => ⟨l.toArray⟩ := by
  rw [← h, List.map_map]
  conv => lhs; rw [← List.map_id l]
  exact List.map_congr_left fun x _ => by cases x; simp
theorem wds_few (x : ByteArray) (h : (wsB x).length ≤ 5) : wds x = wsB x := by
  have h1 := wsB_len x
  have h2 := wds_data x
  unfold wsB at *
  rw [List.length_map] at h h1
  rw [splitK_ws _ _ (by omega)] at h2
  exact unmap h2
theorem wds_many (x : ByteArray) (h : 5 < (wsB x).length) : (wds x).length = 5 := by
  have h1 := wsB_len x
  have h2 := congrArg List.length (wds_data x)
  rw [List.length_map] at h2
  rw [h2]
  unfold wsB at h h1
  rw [List.length_map] at h h1
  rw [show min 5 (x.size + 1) - 1 = 4 by omega]
  exact splitK_many 4 _ h
theorem hdw_ws (x : ByteArray) : hdw x = (wsB x).headD ⟨#[]⟩ := by
  have h := wds_data x
  by_cases hx : x.size = 0
  · have : x = ⟨#[]⟩ := ByteArray.ext (Array.eq_empty_of_size_eq_zero hx)
    subst this
    rfl
  · obtain ⟨k, hk⟩ : ∃ k, min 5 (x.size + 1) - 1 = k + 1 := ⟨min 5 (x.size + 1) - 2, by omega⟩
    rw [hk] at h
    have h1 := splitK_head k x.data.toList
    rw [← h] at h1
    unfold hdw wsB
    cases hw : wds x with
    | nil => have := (wds_len x).1; rw [hw] at this; simp at this
    | cons a l =>
      cases hs : ws x.data.toList with
      | nil => exact absurd hs (ws_ne _)
      | cons b m =>
        rw [hw, hs] at h1
        simp at h1
        simp [← h1]

/-! ### numbers -/
theorem dec_cons (u : Nat) : ∃ c r, Lib.decDigits u = c :: r ∧ 48 ≤ c.toNat ∧ c.toNat ≤ 57 := by
  induction u using Nat.strongRecOn with
  | _ u ih =>
    rw [Lib.decDigits]
    split
    · rename_i h
      refine ⟨_, [], rfl, ?_⟩
      have : (UInt8.ofNat (48 + u)).toNat = 48 + u := by rw [UInt8.toNat_ofNat']; omega
      omega
    · obtain ⟨c, r, e, h1, h2⟩ := ih (u / 10) (by omega)
      rw [e]
      exact ⟨c, _, rfl, h1, h2⟩
theorem parse_dec (u : Nat) : u ≤ 18446744073709551615 → ∀ r, Lib.parseUintM 18446744073709551615 0 (Lib.decDigits u ++ r) = Lib.parseUintM 18446744073709551615 u r := by
  induction u using Nat.strongRecOn with
  | _ u ih =>
    intro hu r
    rw [Lib.decDigits]
    split
    · rename_i h
      have e : (UInt8.ofNat (48 + u)).toNat = 48 + u := by rw [UInt8.toNat_ofNat']; omega
      show Lib.parseUintM _ 0 (UInt8.ofNat (48 + u) :: r) = _
      rw [Lib.parseUintM, if_pos (by rw [e]; omega), if_neg (by omega), if_neg (by rw [e]; omega), e]
      congr 1
      omega
    · rename_i h
      have e : (UInt8.ofNat (48 + u % 10)).toNat = 48 + u % 10 := by rw [UInt8.toNat_ofNat']; omega
      rw [List.append_assoc, ih (u / 10) (by omega) (by omega)]
      show Lib.parseUintM _ (u / 10) (UInt8.ofNat (48 + u % 10) :: r) = _
      rw [Lib.parseUintM, if_pos (by rw [e]; omega), if_neg (by omega), if_neg (by rw [e]; omega), e]
      congr 1
      omega
theorem parse_itoa (v : Int) (h1 : -9223372036854775808 ≤ v) (h2 : v ≤ 9223372036854775807) : Lib.parseIntB 64 (Lib.itoa v) = .ok v := by
  unfold Lib.itoa
  obtain ⟨c, r, hc, k1, k2⟩ := dec_cons v.natAbs
  obtain ⟨c', r', hc', k1', k2'⟩ := dec_cons v.toNat
  have p1 : Lib.parseUintB 64 (Lib.decDigits v.natAbs) = .ok v.natAbs := by
    unfold Lib.parseUintB
    rw [if_neg (by rw [hc]; simp)]
    have := parse_dec v.natAbs (by omega) []
    rw [List.append_nil] at this
    exact this
  have p2 : 0 ≤ v → Lib.parseUintB 64 (Lib.decDigits v.toNat) = .ok v.toNat := fun h => by
    unfold Lib.parseUintB
    rw [if_neg (by rw [hc']; simp)]
    have := parse_dec v.toNat (by omega) []
    rw [List.append_nil] at this
    exact this
  by_cases h : v < 0
  · rw [if_pos h]
    unfold Lib.parseIntB
    simp only [show (45 : UInt8).toNat = 45 from rfl, or_true, if_true, p1]
    rw [if_neg (by simp), if_neg (by simp; omega)]
    congr 1
    first | omega | (simp; omega)
  · rw [if_neg h]
    have p := p2 (by omega)
    rw [hc'] at p ⊢
    unfold Lib.parseIntB
    simp only
    rw [if_neg (by omega), p]
    simp only
    rw [if_neg (by simp; omega), if_neg (by omega), if_neg (by omega)]
    congr 1
    omega
theorem num_itoa (v : Int) (h1 : -9223372036854775808 ≤ v) (h2 : v ≤ 9223372036854775807) : num (Lib.itoa v) = some v := by
  unfold num
  rw [parse_itoa v h1 h2]
  simp
/-- what a digit makes of a number that is told the other way round -/
def vst (n : Int) (c : UInt8) : Int := if 48 ≤ c.toNat ∧ c.toNat ≤ 57 then wrap64 (wrap64 (n * 10) - ((c.toNat : Int) - 48)) else n
def vfold (l : List UInt8) : Int := l.foldl vst 0
/-- the document's value of a word -/
def vval (l : List UInt8) : Int := if l = [] ∨ l.head? ≠ some 45 then wrap64 (-(vfold (l.take 20))) else vfold (l.take 20)
theorem w64 (n : Int) (h1 : -9223372036854775808 ≤ n) (h2 : n ≤ 9223372036854775807) : wrap64 n = n := by unfold wrap64; omega
theorem vfold_dec (u : Nat) (hu : u ≤ 9223372036854775808) : (Lib.decDigits u).foldl vst 0 = -(u : Int) := by
  induction u using Nat.strongRecOn with
  | _ u ih =>
    rw [Lib.decDigits]
    split
    · rename_i h
      have e : (UInt8.ofNat (48 + u)).toNat = 48 + u := by rw [UInt8.toNat_ofNat']; omega
      show vst 0 _ = _
      unfold vst
      rw [if_pos (by rw [e]; omega), w64 (0 * 10) (by omega) (by omega), e, w64 _ (by omega) (by omega)]
      omega
    · rename_i h
      have e : (UInt8.ofNat (48 + u % 10)).toNat = 48 + u % 10 := by rw [UInt8.toNat_ofNat']; omega
      rw [List.foldl_append, ih (u / 10) (by omega) (by omega)]
      show vst _ _ = _
      unfold vst
      rw [if_pos (by rw [e]; omega), w64 (-((u / 10 : Nat) : Int) * 10) (by omega) (by omega), e, w64 _ (by omega) (by omega)]
      omega
theorem dec_nineteen (u : Nat) (hu : u ≤ 9223372036854775808) : (Lib.decDigits u).length ≤ 19 := by
  have h : ∀ (k u : Nat), u < 10 ^ (k + 1) → (Lib.decDigits u).length ≤ k + 1 := by
    intro k
    induction k with
    | zero => intro u h; rw [Lib.decDigits, dif_pos (by omega)]; simp
    | succ k ih =>
      intro u h
      rw [Lib.decDigits]
      split
      · simp
      · have := ih (u / 10) (by rw [Nat.pow_succ] at h; omega)
        rw [List.length_append]
        simp
        omega
  exact h 18 u (by omega)
theorem vval_itoa (v : Int) (h1 : -9223372036854775808 ≤ v) (h2 : v ≤ 9223372036854775807) : vval (Lib.itoa v) = v := by
  unfold Lib.itoa
  by_cases h : v < 0
  · rw [if_pos h]
    have hl := dec_nineteen v.natAbs (by omega)
    unfold vval vfold
    rw [if_neg (by simp), List.take_of_length_le (by simp; omega), List.foldl_cons]
    rw [show vst 0 45 = 0 from by unfold vst; rw [if_neg (by decide)], vfold_dec _ (by omega)]
    omega
  · rw [if_neg h]
    have hl := dec_nineteen v.toNat (by omega)
    obtain ⟨c, r, hc, k1, k2⟩ := dec_cons v.toNat
    unfold vval vfold
    rw [if_pos (by
      right
      rw [hc]
      simp only [List.head?_cons, ne_eq, Option.some.injEq]
      rintro rfl
      revert k1; decide), List.take_of_length_le (by omega), vfold_dec _ (by omega), w64 _ (by omega) (by omega)]
    omega
theorem vst_in (n : Int) (c : UInt8) (h1 : -9223372036854775808 ≤ n ∧ n ≤ 9223372036854775807) : -9223372036854775808 ≤ vst n c ∧ vst n c ≤ 9223372036854775807 := by
  unfold vst
  split
  · unfold wrap64; omega
  · exact h1
theorem vfold_in : ∀ (l : List UInt8) (n : Int), (-9223372036854775808 ≤ n ∧ n ≤ 9223372036854775807) → -9223372036854775808 ≤ l.foldl vst n ∧ l.foldl vst n ≤ 9223372036854775807
  | [], n, h => h
  | c :: l, n, h => vfold_in l _ (vst_in n c h)
theorem vval_in (l : List UInt8) : -9223372036854775808 ≤ vval l ∧ vval l ≤ 9223372036854775807 := by
  unfold vval
  split
  · unfold wrap64; omega
  · exact vfold_in _ 0 (by omega)
/-- the document's number is the program's -/
theorem num_vval (l : List UInt8) : num l = if Lib.itoa (vval l) = l then some (vval l) else none := by
  have hr := vval_in l
  split
  · rename_i h
    conv => lhs; rw [← h]
    exact num_itoa _ hr.1 hr.2
  · rename_i h
    cases hn : num l with
    | none => rfl
    | some v =>
      exfalso
      apply h
      have h1 : Lib.itoa v = l := by
        unfold num at hn
        split at hn
        · rename_i u hu
          split at hn
          · rename_i hi
            obtain rfl := Option.some.inj hn
            exact hi
          · cases hn
        · cases hn
      have h2 : -9223372036854775808 ≤ v ∧ v ≤ 9223372036854775807 := by
        unfold num at hn
        split at hn
        · rename_i u hu
          split at hn
          · obtain rfl := Option.some.inj hn
            have := Lib.parseIntB_bounds hu
            simp at this
            omega
          · cases hn
        · cases hn
      rw [← h1, vval_itoa v h2.1 h2.2]
end Go.Proofs.YtcgembfdejjliaaGreatDoor
