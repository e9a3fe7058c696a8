/- Frames of which one byte is turned. -/
import Derived.Test.YtiblnonmlekjgaaFrameM
import Derived.Laws.BitsAllLaws
namespace Go.Proofs.Ytiblnonmlekjgaa
open Go.RowKit
set_option linter.unusedVariables false

theorem xor_ne (a m : Int) (a0 : 0 ≤ a) (a1 : a < 256) (m0 : 0 < m) (m1 : m < 256) : bits .xor .u8 a m ≠ a ∧ 0 ≤ bits .xor .u8 a m ∧ bits .xor .u8 a m < 256 := by
  rw [u8_xor a m a0 a1 (by omega) m1]
  have hlt : a.toNat ^^^ m.toNat < 2 ^ 8 := Nat.xor_lt_two_pow (by omega) (by omega)
  refine ⟨fun e => ?_, by omega, by omega⟩
  have e1 : a.toNat ^^^ m.toNat = a.toNat := by omega
  have e2 : a.toNat ^^^ (a.toNat ^^^ m.toNat) = 0 := by rw [e1, Nat.xor_self]
  rw [← Nat.xor_assoc, Nat.xor_self, Nat.zero_xor] at e2
  omega
theorem or1_pos (t : Int) (h0 : 0 ≤ t) (h1 : t < 256) : 0 < bits .or .u8 t 1 ∧ bits .or .u8 t 1 < 256 := by
  rw [u8_or t 1 h0 h1 (by omega) (by omega)]
  have hlt : t.toNat ||| (1 : Int).toNat < 2 ^ 8 := Nat.or_lt_two_pow (by omega) (by decide)
  have : 1 ≤ t.toNat ||| (1 : Int).toNat := Nat.right_le_or
  omega

theorem r4_inj {xs ys : List Int} (hx : Wb xs) (hy : Wb ys) (lx : xs.length = 4) (ly : ys.length = 4) (h : r4 xs = r4 ys) : xs = ys := by
  match xs, lx, ys, ly with
  | [a, b, c, d], _, [a', b', c', d'], _ =>
    have h1 := hx a (by simp); have h2 := hx b (by simp); have h3 := hx c (by simp); have h4 := hx d (by simp)
    have k1 := hy a' (by simp); have k2 := hy b' (by simp); have k3 := hy c' (by simp); have k4 := hy d' (by simp)
    simp [r4] at h
    simp
    omega

/-- a frame with a byte of it turned, behind its length -/
theorem turned_fs (xs : List Int) (k : Nat) (v : Int) (hw : Wb xs) (h : xs.length ≤ 8192) (h4 : 4 ≤ k) (hk : k < xs.length + 8) (v0 : 0 ≤ v) (v1 : v < 256) (hv : (fr xs).getD k 0 ≠ v) :
    fs ((fr xs).set k v) = (0, 13) ∧ r4 ((fr xs).set k v) = xs.length := by
  have hl := fr_len xs
  have hwf := fr_wb xs hw
  have hkl : k < (fr xs).length := by omega
  have hget : (fr xs)[k]? = some ((fr xs).getD k 0) := by simp [List.getD, hkl]
  obtain ⟨u, hu⟩ : ∃ u, (fr xs).getD k 0 = u := ⟨_, rfl⟩
  rw [hu] at hget hv
  have hub := hwf u (List.mem_of_getElem? hget)
  have hsplit : fr xs = (fr xs).take k ++ u :: (fr xs).drop (k + 1) := by
    have h1 := (List.take_append_drop k (fr xs)).symm
    rw [List.drop_eq_getElem_cons hkl] at h1
    have h2 : (fr xs)[k] = u := by rw [List.getElem?_eq_getElem hkl] at hget; simpa using hget
    rw [h2] at h1
    exact h1
  have hset : (fr xs).set k v = (fr xs).take k ++ v :: (fr xs).drop (k + 1) := by
    rw [List.set_eq_take_append_cons_drop, if_pos hkl]
  have e0 := fr_r4 xs [] h
  rw [List.append_nil] at e0
  have ew : r4 ((fr xs).set k v) = xs.length := by
    rw [hset, r4_app _ _ (by rw [List.length_take]; omega)]
    rw [hsplit, r4_app _ _ (by rw [List.length_take]; omega)] at e0
    exact e0
  refine ⟨?_, ew⟩
  have hgood : r4 ((fr xs).drop (xs.length + 4)) = sm ((fr xs).take (xs.length + 4)) := by
    have e := fr_fs xs [] h
    rw [List.append_nil] at e
    rcases fs_cases (fr xs) with ⟨_, h1⟩ | ⟨h1, h2, h3⟩ | ⟨h1, h2, h3, h4⟩ | ⟨h1, h2, h3, h4⟩ | ⟨h1, h2, h3, h4⟩
    · rw [h1] at e; simp at e
    · rw [h3] at e; simp at e
    · rw [h4] at e; simp at e
    · rw [e0, Int.toNat_natCast] at h3; exact h3
    · rw [h4] at e; simp at e
  refine fs_sum (by rw [ew]; omega) (by rw [ew, List.length_set, hl]; omega) ?_
  rw [ew, Int.toNat_natCast]
  by_cases hc : k < xs.length + 4
  · rw [List.drop_set_of_lt hc, hgood, List.take_set]
    intro e
    have hkt : k < ((fr xs).take (xs.length + 4)).length := by rw [List.length_take]; omega
    have hs2 : ((fr xs).take (xs.length + 4)).set k v = ((fr xs).take (xs.length + 4)).take k ++ v :: ((fr xs).take (xs.length + 4)).drop (k + 1) := by
      rw [List.set_eq_take_append_cons_drop, if_pos hkt]
    have hs3 : (fr xs).take (xs.length + 4) = ((fr xs).take (xs.length + 4)).take k ++ u :: ((fr xs).take (xs.length + 4)).drop (k + 1) := by
      have h1 := (List.take_append_drop k ((fr xs).take (xs.length + 4))).symm
      rw [List.drop_eq_getElem_cons hkt] at h1
      have h2 : ((fr xs).take (xs.length + 4))[k] = u := by
        rw [List.getElem_take]
        rw [List.getElem?_eq_getElem hkl] at hget; simpa using hget
      rw [h2] at h1
      exact h1
    rw [hs2] at e
    obtain ⟨A, hA⟩ : ∃ A, ((fr xs).take (xs.length + 4)).take k = A := ⟨_, rfl⟩
    obtain ⟨B, hB⟩ : ∃ B, ((fr xs).take (xs.length + 4)).drop (k + 1) = B := ⟨_, rfl⟩
    rw [hA, hB] at e hs3
    rw [hs3] at e
    exact sm_turn A B u v hub.1 hub.2 v0 v1 hv e
  · have h1 : ((fr xs).set k v).take (xs.length + 4) = (fr xs).take (xs.length + 4) := by
      rw [List.take_set_of_le (by omega)]
    rw [h1, ← hgood]
    intro e
    have h2 := r4_inj (xs := ((fr xs).set k v).drop (xs.length + 4)) (ys := (fr xs).drop (xs.length + 4)) (by
      intro n hn
      have hn := List.mem_of_mem_drop hn
      rcases List.mem_or_eq_of_mem_set hn with h | h
      · exact hwf n h
      · subst h; exact ⟨v0, v1⟩) (hwf.drop _) (by rw [List.length_drop, List.length_set]; omega) (by rw [List.length_drop]; omega) e
    have h3 : (((fr xs).set k v).drop (xs.length + 4))[k - (xs.length + 4)]? = ((fr xs).drop (xs.length + 4))[k - (xs.length + 4)]? := by rw [h2]
    rw [List.getElem?_drop, List.getElem?_drop, show xs.length + 4 + (k - (xs.length + 4)) = k from by omega, hget, List.getElem?_set_self hkl] at h3
    exact hv (by cases h3; rfl)

end Go.Proofs.Ytiblnonmlekjgaa
