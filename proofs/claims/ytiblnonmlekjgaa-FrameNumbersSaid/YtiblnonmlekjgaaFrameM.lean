/- Frames as rows of bytes: sums, words, what a stream takes. -/
import Derived.Test.YtiblnonmlekjgaaBytes
namespace Go.Proofs.Ytiblnonmlekjgaa
open Go.RowKit
set_option linter.unusedVariables false

/-- the sum of bytes, from h on -/
def smF (h : Int) (xs : List Int) : Int := xs.foldl (fun h c => (h * 31 + c + 7) % 4294967296) h
def sm (xs : List Int) : Int := smF 17 xs
theorem smF_app (h : Int) (xs ys : List Int) : smF h (xs ++ ys) = smF (smF h xs) ys := by simp [smF]
theorem sm_snoc (xs : List Int) (c : Int) : sm (xs ++ [c]) = (sm xs * 31 + c + 7) % 4294967296 := by simp [sm, smF]
theorem smF_in (h : Int) (xs : List Int) (h0 : 0 ≤ h) (h1 : h < 4294967296) : 0 ≤ smF h xs ∧ smF h xs < 4294967296 := by
  induction xs generalizing h with
  | nil => exact ⟨h0, h1⟩
  | cons c t ih => exact ih _ (Int.emod_nonneg _ (by omega)) (Int.emod_lt_of_pos _ (by omega))
theorem sm_in (xs : List Int) : 0 ≤ sm xs ∧ sm xs < 4294967296 := smF_in 17 xs (by omega) (by omega)
theorem smF_inj (xs : List Int) (a b : Int) (a0 : 0 ≤ a) (a1 : a < 4294967296) (b0 : 0 ≤ b) (b1 : b < 4294967296) (h : smF a xs = smF b xs) : a = b := by
  induction xs generalizing a b with
  | nil => exact h
  | cons c t ih =>
    have := ih ((a * 31 + c + 7) % 4294967296) ((b * 31 + c + 7) % 4294967296) (Int.emod_nonneg _ (by omega)) (Int.emod_lt_of_pos _ (by omega)) (Int.emod_nonneg _ (by omega)) (Int.emod_lt_of_pos _ (by omega)) h
    omega
/-- one byte that is another one turns the sum -/
theorem sm_turn (xs ys : List Int) (c d : Int) (c0 : 0 ≤ c) (c1 : c < 256) (d0 : 0 ≤ d) (d1 : d < 256) (h : c ≠ d) : sm (xs ++ c :: ys) ≠ sm (xs ++ d :: ys) := by
  intro e
  have hx := sm_in xs
  unfold sm at *
  rw [smF_app, smF_app] at e
  have := smF_inj ys ((smF 17 xs * 31 + c + 7) % 4294967296) ((smF 17 xs * 31 + d + 7) % 4294967296) (Int.emod_nonneg _ (by omega)) (Int.emod_lt_of_pos _ (by omega)) (Int.emod_nonneg _ (by omega)) (Int.emod_lt_of_pos _ (by omega)) e
  omega

/-- a number as four bytes, and back -/
def w4 (n : Int) : List Int := [n / 2 ^ 24 % 256, n / 2 ^ 16 % 256, n / 2 ^ 8 % 256, n % 256]
theorem w4_len (n : Int) : (w4 n).length = 4 := rfl
theorem w4_wb (n : Int) : Wb (w4 n) := by
  intro m hm
  simp only [w4, List.mem_cons, List.not_mem_nil, or_false] at hm
  rcases hm with rfl | rfl | rfl | rfl <;> exact ⟨Int.emod_nonneg _ (by omega), Int.emod_lt_of_pos _ (by omega)⟩
def r4 (xs : List Int) : Int := xs.getD 0 0 * 16777216 + xs.getD 1 0 * 65536 + xs.getD 2 0 * 256 + xs.getD 3 0
theorem r4_w4 (n : Int) (ys : List Int) (h0 : 0 ≤ n) (h1 : n < 4294967296) : r4 (w4 n ++ ys) = n := by
  simp [r4, w4]
  omega
theorem r4_app (xs ys : List Int) (h : 4 ≤ xs.length) : r4 (xs ++ ys) = r4 xs := by
  match xs, h with
  | a :: b :: c :: d :: t, _ => simp [r4]
theorem r4_in (xs : List Int) (h : Wb xs) : 0 ≤ r4 xs ∧ r4 xs < 4294967296 := by
  have g : ∀ i, 0 ≤ xs.getD i 0 ∧ xs.getD i 0 < 256 := by
    intro i
    by_cases hi : i < xs.length
    · have := h (xs[i]) (by simp)
      simpa [List.getD, hi] using this
    · simp [List.getD, List.getElem?_eq_none (Nat.le_of_not_lt hi)]
  have := g 0; have := g 1; have := g 2; have := g 3
  unfold r4; omega

/-- how many bytes the frame at the front takes; 0 if it is not whole; and the refusal -/
def fs (row : List Int) : Nat × Int :=
  if row.length < 4 then (0, 0) else if 8192 < r4 row then (0, 3) else if row.length < (r4 row).toNat + 8 then (0, 0)
  else if r4 (row.drop ((r4 row).toNat + 4)) = sm (row.take ((r4 row).toNat + 4)) then ((r4 row).toNat + 8, 0) else (0, 13)
theorem fs_short {row : List Int} (h : row.length < 4) : fs row = (0, 0) := by simp [fs, h]
theorem fs_long {row : List Int} (h : 4 ≤ row.length) (h1 : 8192 < r4 row) : fs row = (0, 3) := by
  unfold fs; rw [if_neg (by omega), if_pos h1]
theorem fs_wait {row : List Int} (h : 4 ≤ row.length) (h1 : r4 row ≤ 8192) (h2 : row.length < (r4 row).toNat + 8) : fs row = (0, 0) := by
  unfold fs; rw [if_neg (by omega), if_neg (by omega), if_pos h2]
theorem fs_whole {row : List Int} (h1 : r4 row ≤ 8192) (h2 : (r4 row).toNat + 8 ≤ row.length) (h3 : r4 (row.drop ((r4 row).toNat + 4)) = sm (row.take ((r4 row).toNat + 4))) : fs row = ((r4 row).toNat + 8, 0) := by
  unfold fs; rw [if_neg (by omega), if_neg (by omega), if_neg (by omega), if_pos h3]
theorem fs_sum {row : List Int} (h1 : r4 row ≤ 8192) (h2 : (r4 row).toNat + 8 ≤ row.length) (h3 : r4 (row.drop ((r4 row).toNat + 4)) ≠ sm (row.take ((r4 row).toNat + 4))) : fs row = (0, 13) := by
  unfold fs; rw [if_neg (by omega), if_neg (by omega), if_neg (by omega), if_neg h3]
/-- what comes of a row -/
theorem fs_cases (row : List Int) : (row.length < 4 ∧ fs row = (0, 0)) ∨ (4 ≤ row.length ∧ 8192 < r4 row ∧ fs row = (0, 3)) ∨ (4 ≤ row.length ∧ r4 row ≤ 8192 ∧ row.length < (r4 row).toNat + 8 ∧ fs row = (0, 0))
    ∨ (r4 row ≤ 8192 ∧ (r4 row).toNat + 8 ≤ row.length ∧ r4 (row.drop ((r4 row).toNat + 4)) = sm (row.take ((r4 row).toNat + 4)) ∧ fs row = ((r4 row).toNat + 8, 0))
    ∨ (r4 row ≤ 8192 ∧ (r4 row).toNat + 8 ≤ row.length ∧ r4 (row.drop ((r4 row).toNat + 4)) ≠ sm (row.take ((r4 row).toNat + 4)) ∧ fs row = (0, 13)) := by
  by_cases c1 : row.length < 4
  · exact .inl ⟨c1, fs_short c1⟩
  · by_cases c2 : 8192 < r4 row
    · exact .inr (.inl ⟨by omega, c2, fs_long (by omega) c2⟩)
    · by_cases c3 : row.length < (r4 row).toNat + 8
      · exact .inr (.inr (.inl ⟨by omega, by omega, c3, fs_wait (by omega) (by omega) c3⟩))
      · by_cases c4 : r4 (row.drop ((r4 row).toNat + 4)) = sm (row.take ((r4 row).toNat + 4))
        · exact .inr (.inr (.inr (.inl ⟨by omega, by omega, c4, fs_whole (by omega) (by omega) c4⟩)))
        · exact .inr (.inr (.inr (.inr ⟨by omega, by omega, c4, fs_sum (by omega) (by omega) c4⟩)))

/-- what a whole frame is around -/
def inn (f : List Int) : List Int := (f.take (f.length - 4)).drop 4
theorem inn_wb {f : List Int} (h : Wb f) : Wb (inn f) := (h.take _).drop _
/-- what a stream tells of a row: the frames, what is left, the refusal -/
abbrev Out := List (List Int) × List Int × Int
inductive Runs : List Int → List (List Int) → Out → Prop
  | bad {row : List Int} {acc : List (List Int)} (h : (fs row).2 ≠ 0) : Runs row acc (acc, [], (fs row).2)
  | stop {row : List Int} {acc : List (List Int)} (h : fs row = (0, 0)) : Runs row acc (acc, row, 0)
  | step {row : List Int} {acc : List (List Int)} {out : Out} (h : (fs row).2 = 0) (h1 : (fs row).1 ≠ 0) (k : Runs (row.drop (fs row).1) (acc ++ [inn (row.take (fs row).1)]) out) : Runs row acc out
theorem Runs.one {row : List Int} {acc : List (List Int)} {o1 o2 : Out} (h : Runs row acc o1) (k : Runs row acc o2) : o1 = o2 := by
  induction h with
  | bad h =>
    cases k with
    | bad _ => rfl
    | stop h' => rw [h'] at h; exact absurd rfl h
    | step h' _ _ => exact absurd h' h
  | stop h =>
    cases k with
    | bad h' => rw [h] at h'; exact absurd rfl h'
    | stop _ => rfl
    | step _ h1 _ => rw [h] at h1; exact absurd rfl h1
  | step h h1 _ ih =>
    cases k with
    | bad h' => exact absurd h h'
    | stop h' => rw [h'] at h1; exact absurd rfl h1
    | step _ _ k' => exact ih k'

/-- a frame around xs -/
def fr (xs : List Int) : List Int := w4 xs.length ++ xs ++ w4 (sm (w4 xs.length ++ xs))
theorem fr_len (xs : List Int) : (fr xs).length = xs.length + 8 := by simp only [fr, List.length_append, w4_len]; omega
theorem fr_wb (xs : List Int) (h : Wb xs) : Wb (fr xs) := ((w4_wb _).app h).app (w4_wb _)
theorem fr_r4 (xs ys : List Int) (h : xs.length ≤ 8192) : r4 (fr xs ++ ys) = xs.length := by
  unfold fr
  rw [List.append_assoc, List.append_assoc]
  exact r4_w4 _ _ (by omega) (by omega)
theorem fr_fs (xs ys : List Int) (h : xs.length ≤ 8192) : fs (fr xs ++ ys) = (xs.length + 8, 0) := by
  have e := fr_r4 xs ys h
  have hl := fr_len xs
  have h1 : (fr xs ++ ys).take (xs.length + 4) = w4 xs.length ++ xs := by
    unfold fr
    rw [List.append_assoc, List.take_append_of_le_length (by simp [w4_len]; omega), List.take_of_length_le (by simp [w4_len]; omega)]
  have h2 : (fr xs ++ ys).drop (xs.length + 4) = w4 (sm (w4 xs.length ++ xs)) ++ ys := by
    unfold fr
    rw [List.append_assoc, List.drop_append_of_le_length (by simp [w4_len]; omega), List.drop_of_length_le (by simp [w4_len]; omega), List.nil_append]
  have hs := sm_in (w4 xs.length ++ xs)
  have := fs_whole (row := fr xs ++ ys) (by rw [e]; omega) (by rw [e]; simp only [List.length_append, hl]; omega) (by rw [e, Int.toNat_natCast, h1, h2]; exact r4_w4 _ _ hs.1 hs.2)
  rw [this, e, Int.toNat_natCast]
theorem fr_take (xs ys : List Int) : (fr xs ++ ys).take (xs.length + 8) = fr xs := by
  rw [List.take_append_of_le_length (by rw [fr_len]; omega), List.take_of_length_le (by rw [fr_len]; omega)]
theorem fr_drop (xs ys : List Int) : (fr xs ++ ys).drop (xs.length + 8) = ys := by
  rw [List.drop_append_of_le_length (by rw [fr_len]; omega), List.drop_of_length_le (by rw [fr_len]; omega), List.nil_append]
theorem fr_inn (xs : List Int) : inn (fr xs) = xs := by
  unfold inn
  rw [fr_len, show xs.length + 8 - 4 = xs.length + 4 from by omega]
  unfold fr
  rw [List.take_append_of_le_length (by simp [w4_len]; omega), List.take_of_length_le (by simp [w4_len]; omega), List.drop_append_of_le_length (by rw [w4_len]; omega)]
  simp [w4]
theorem runs_fr {xs ys : List Int} {acc : List (List Int)} {out : Out} (h : xs.length ≤ 8192) (k : Runs ys (acc ++ [xs]) out) : Runs (fr xs ++ ys) acc out := by
  have e := fr_fs xs ys h
  refine .step (by rw [e]) (by rw [e]; simp) ?_
  rw [e, fr_drop, fr_take, fr_inn]
  exact k
theorem runs_nil (acc : List (List Int)) : Runs [] acc (acc, [], 0) := .stop (fs_short (by simp))
theorem runs_frames (l : List (List Int)) (acc : List (List Int)) (h : ∀ x ∈ l, x.length ≤ 8192) : Runs (l.flatMap fr) acc (acc ++ l, [], 0) := by
  induction l generalizing acc with
  | nil => simpa using runs_nil acc
  | cons x t ih =>
    rw [List.flatMap_cons]
    refine runs_fr (h x (by simp)) ?_
    have := ih (acc ++ [x]) (fun y hy => h y (by simp [hy]))
    rwa [List.append_assoc] at this
/-- a frame that is not whole waits -/
theorem fr_part (xs : List Int) (k : Nat) (h : xs.length ≤ 8192) (hk : k < xs.length + 8) : fs ((fr xs).take k) = (0, 0) := by
  have hl := fr_len xs
  by_cases h4 : k < 4
  · exact fs_short (by rw [List.length_take]; omega)
  · have e : r4 ((fr xs).take k) = xs.length := by
      have h1 := fr_r4 xs [] h
      rw [List.append_nil] at h1
      have h2 : fr xs = (fr xs).take k ++ (fr xs).drop k := (List.take_append_drop k _).symm
      rw [h2, r4_app _ _ (by rw [List.length_take]; omega)] at h1
      exact h1
    exact fs_wait (by rw [List.length_take]; omega) (by rw [e]; omega) (by rw [e, List.length_take]; omega)

/-- more behind a row turns nothing of what it is -/
theorem fs_app (row ys : List Int) (h : fs row ≠ (0, 0)) : fs (row ++ ys) = fs row := by
  rcases fs_cases row with ⟨_, h1⟩ | ⟨h1, h2, h3⟩ | ⟨h1, h2, h3, h4⟩ | ⟨h1, h2, h3, h4⟩ | ⟨h1, h2, h3, h4⟩
  · exact absurd h1 h
  · rw [h3]; exact fs_long (by simp; omega) (by rw [r4_app _ _ h1]; exact h2)
  · exact absurd h4 h
  all_goals
    have e := r4_app row ys (by omega)
    have e1 : (row ++ ys).take ((r4 row).toNat + 4) = row.take ((r4 row).toNat + 4) := List.take_append_of_le_length (by omega)
    have e2 : r4 ((row ++ ys).drop ((r4 row).toNat + 4)) = r4 (row.drop ((r4 row).toNat + 4)) := by
      rw [List.drop_append_of_le_length (by omega)]
      exact r4_app _ _ (by rw [List.length_drop]; omega)
  · rw [h4, fs_whole (by rw [e]; exact h1) (by rw [e, List.length_append]; omega) (by rw [e, e1, e2]; exact h3), e]
  · rw [h4]; exact fs_sum (by rw [e]; exact h1) (by rw [e, List.length_append]; omega) (by rw [e, e1, e2]; exact h3)
theorem fs_le (row : List Int) : (fs row).1 ≤ row.length := by
  rcases fs_cases row with ⟨_, h1⟩ | ⟨h1, h2, h3⟩ | ⟨h1, h2, h3, h4⟩ | ⟨h1, h2, h3, h4⟩ | ⟨h1, h2, h3, h4⟩ <;> simp [*]
/-- a row in two pieces -/
theorem Runs.two {row ys : List Int} {acc acc' : List (List Int)} {l : List Int} {e : Int} {o1 out : Out} (h : Runs row acc o1) (he : o1 = (acc', l, 0)) (k : Runs (l ++ ys) acc' out) : Runs (row ++ ys) acc out := by
  induction h with
  | bad h => simp only [Prod.mk.injEq] at he; exact absurd he.2.2 h
  | stop h => simp only [Prod.mk.injEq] at he; obtain ⟨rfl, rfl, _⟩ := he; exact k
  | @step row acc out' h h1 k' ih =>
    have e1 : fs (row ++ ys) = fs row := fs_app row ys (by intro e; rw [e] at h1; exact h1 rfl)
    have hl := fs_le row
    refine .step (by rw [e1]; exact h) (by rw [e1]; exact h1) ?_
    rw [e1, List.drop_append_of_le_length hl, List.take_append_of_le_length hl]
    exact ih he
theorem Runs.err {row ys : List Int} {acc : List (List Int)} {o1 : Out} (h : Runs row acc o1) (he : o1.2.2 ≠ 0) : Runs (row ++ ys) acc o1 := by
  induction h with
  | @bad row acc h =>
    have e1 : fs (row ++ ys) = fs row := fs_app row ys (by intro e; rw [e] at h; exact h rfl)
    rw [← e1]
    exact .bad (by rw [e1]; exact h)
  | stop h => exact absurd rfl he
  | @step row acc out' h h1 k' ih =>
    have e1 : fs (row ++ ys) = fs row := fs_app row ys (by intro e; rw [e] at h1; exact h1 rfl)
    have hl := fs_le row
    refine .step (by rw [e1]; exact h) (by rw [e1]; exact h1) ?_
    rw [e1, List.drop_append_of_le_length hl, List.take_append_of_le_length hl]
    exact ih he

end Go.Proofs.Ytiblnonmlekjgaa
