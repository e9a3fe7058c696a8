/- Sums of bytes. -/
import Derived.Test.YtkhmaaalmlnblaaBb
namespace Go.Proofs.Ytkhmaaalmlnblaa
open Go.RowKit
set_option linter.unusedVariables false

/-- the sum of bytes, from h on -/
def smF (h : Int) (xs : List Int) : Int := xs.foldl (fun h c => (h * 31 + c + 7) % 4294967296) h
def sm (xs : List Int) : Int := smF 17 xs
theorem smF_app (h : Int) (xs ys : List Int) : smF h (xs ++ ys) = smF (smF h xs) ys := by simp [smF]
theorem sm_snoc (xs : List Int) (c : Int) : sm (xs ++ [c]) = (sm xs * 31 + c + 7) % 4294967296 := by simp [sm, smF]
theorem smF_in (h : Int) (xs : List Int) (h0 : 0 ≤ h) (h1 : h < 4294967296) : 0 ≤ smF h xs ∧ smF h xs < 4294967296 := by
  induction xs generalizing h with
  | nil => exact ⟨h0, h1⟩
  | cons c t ih => exact ih _ (Int.emod_nonneg _ (by omega)) (Int.emod_lt_of_pos _ (by omega))
theorem sm_in (xs : List Int) : 0 ≤ sm xs ∧ sm xs < 4294967296 := smF_in 17 xs (by omega) (by omega)
theorem smF_inj (xs : List Int) (a b : Int) (a0 : 0 ≤ a) (a1 : a < 4294967296) (b0 : 0 ≤ b) (b1 : b < 4294967296) (h : smF a xs = smF b xs) : a = b := by
  induction xs generalizing a b with
  | nil => exact h
  | cons c t ih =>
    have := ih ((a * 31 + c + 7) % 4294967296) ((b * 31 + c + 7) % 4294967296) (Int.emod_nonneg _ (by omega)) (Int.emod_lt_of_pos _ (by omega)) (Int.emod_nonneg _ (by omega)) (Int.emod_lt_of_pos _ (by omega)) h
    omega
/-- one byte that is another one turns the sum -/
theorem sm_turn (xs ys : List Int) (c d : Int) (c0 : 0 ≤ c) (c1 : c < 256) (d0 : 0 ≤ d) (d1 : d < 256) (h : c ≠ d) : sm (xs ++ c :: ys) ≠ sm (xs ++ d :: ys) := by
  intro e
  have hx := sm_in xs
  unfold sm at *
  rw [smF_app, smF_app] at e
  have := smF_inj ys ((smF 17 xs * 31 + c + 7) % 4294967296) ((smF 17 xs * 31 + d + 7) % 4294967296) (Int.emod_nonneg _ (by omega)) (Int.emod_lt_of_pos _ (by omega)) (Int.emod_nonneg _ (by omega)) (Int.emod_lt_of_pos _ (by omega)) e
  omega

theorem take_snoc' (ys : List Int) (k : Nat) (x : Int) (h : ys[k]? = some x) : ys.take (k + 1) = ys.take k ++ [x] := by
  obtain ⟨hk, rfl⟩ := List.getElem?_eq_some_iff.1 h
  rw [List.take_succ_eq_append_getElem hk]
set_option maxRecDepth 100000 in
set_option maxHeartbeats 1000000 in
theorem refSum (a : Option Addr) (n cap : Nat) (xs : List Int) (w : World) (h : BAt w a xs) (hl : xs.length = n) (hw : Wb xs) (hs : n ≤ 140737488355328) :
    Calls Try.prog 30 #[.slice a n cap] w fun e w' => e = .returned (.int .u32 (sm xs)) ∧ w = w' := by
  have HA := Lib.hid h
  have HL := Lib.hid hl
  have HW := Lib.hid hw
  clear h hl hw
  go_enter Try.func30, Try.ntmps30
  go_wp2_with fail
  go_loopw [3, 4] (fun v i wr => ∃ k : Nat, k ≤ n ∧ i = .int .i64 (k : Int) ∧ v = .int .u32 (sm (xs.take k)) ∧ wr = w) (fun _ i _ => n - (intOf i).toNat)
  case atStart => exact ⟨0, by omega, rfl, rfl, rfl⟩
  case round =>
    obtain ⟨k, hk, rfl, rfl, rfl⟩ := hrel
    have hsm := sm_in (xs.take k)
    by_cases hlt : k < n
    · obtain ⟨x, hx⟩ : ∃ x, xs[k]? = some x := ⟨_, List.getElem?_eq_getElem (by have := HL.out; omega)⟩
      rcases HA.out with h0 | ⟨b, o, rfl, hcell⟩
      · have := HL.out; rw [h0] at this; simp at this; omega
      · have hcx := hcell k x hx
        obtain ⟨hx0, hx1⟩ := HW.out x (List.mem_of_getElem? hx)
        have hsn := Lib.hid (by rw [take_snoc' xs k x hx, sm_snoc] : sm (xs.take (k + 1)) = (sm (xs.take k) * 31 + x + 7) % 4294967296)
        clear hcell hx
        generalize sm (xs.take k) = V at *
        go_wp2_with fail
        refine ⟨⟨k + 1, by omega, by go_num, ?_, trivial⟩, by simp [intOf]; omega⟩
        rw [hsn.out]
        exact congrArg (Value.int .u32) (by first | omega | (simp only [IntKind.wrap_u32]; omega))
    · obtain rfl : k = n := by omega
      have hT : xs.take xs.length = xs := List.take_length
      rw [HL.out] at hT
      have HT := Lib.hid hT
      clear hT
      go_wp2
      go_ret
      exact ⟨by rw [HT.out]; rfl, rfl⟩



end Go.Proofs.Ytkhmaaalmlnblaa
