/- Rows put in order by insertion: the library's own sort over an array, said over lists. -/
import Derived.Sort.Defs
import Derived.Lib.Bytealg
namespace Go.Proofs.Ytloeabdohgdmkaa
open Go.Sort
set_option linter.unusedVariables false
set_option linter.unusedSimpArgs false

section
variable {α : Type} (lt : α → α → Bool)
/-- c laid into a row that is read from its end -/
def insV (c : α) : List α → List α
  | [] => [c]
  | x :: xs => if lt c x then x :: insV c xs else c :: x :: xs
def insR (c : α) (out : List α) : List α := (insV lt c out.reverse).reverse
def srt (ls : List α) : List α := ls.foldl (fun out c => insR lt c out) []
theorem insR_nil (c : α) : insR lt c [] = [c] := rfl
theorem insR_lt (c x : α) (out : List α) (h : lt c x = true) : insR lt c (out ++ [x]) = insR lt c out ++ [x] := by simp [insR, insV, h]
theorem insR_ge (c x : α) (out : List α) (h : lt c x = false) : insR lt c (out ++ [x]) = out ++ [x] ++ [c] := by simp [insR, insV, h]
theorem insV_len (c : α) (l : List α) : (insV lt c l).length = l.length + 1 := by
  induction l with
  | nil => rfl
  | cons x xs ih => unfold insV; split <;> simp [ih]
theorem insR_len (c : α) (l : List α) : (insR lt c l).length = l.length + 1 := by simp [insR, insV_len]
theorem srt_snoc (ls : List α) (c : α) : srt lt (ls ++ [c]) = insR lt c (srt lt ls) := by simp [srt]
theorem fold_len (ls : List α) : ∀ out : List α, (ls.foldl (fun out c => insR lt c out) out).length = out.length + ls.length := by
  induction ls with
  | nil => intro out; rfl
  | cons x xs ih => intro out; simp only [List.foldl_cons, List.length_cons]; rw [ih, insR_len]; omega
theorem srt_len (ls : List α) : (srt lt ls).length = ls.length := by unfold srt; rw [fold_len]; simp
theorem insV_mem (c y : α) (l : List α) : y ∈ insV lt c l ↔ y = c ∨ y ∈ l := by
  induction l with
  | nil => simp [insV]
  | cons x xs ih =>
    unfold insV
    split
    · simp only [List.mem_cons, ih]
      constructor
      · rintro (h | h | h)
        · exact .inr (.inl h)
        · exact .inl h
        · exact .inr (.inr h)
      · rintro (h | h | h)
        · exact .inr (.inl h)
        · exact .inl h
        · exact .inr (.inr h)
    · simp
/-- in order: none is ahead of one before it -/
abbrev Ord (ls : List α) : Prop := ls.Pairwise (fun x y => lt y x = false)
/-- what is in order stays as it is -/
theorem fold_ord (ls : List α) : ∀ out : List α, Ord lt (out ++ ls) → ls.foldl (fun out c => insR lt c out) out = out ++ ls := by
  induction ls with
  | nil => intro out _; simp
  | cons x xs ih =>
    intro out h
    simp only [List.foldl_cons]
    have e : insR lt x out = out ++ [x] := by
      rcases List.eq_nil_or_concat out with rfl | ⟨o, y, rfl⟩
      · rfl
      · rw [List.concat_eq_append] at h ⊢
        refine insR_ge lt x y o ?_
        have h1 := (List.pairwise_append.1 h).2.2 y (by simp) x (by simp)
        exact h1
    rw [e, ih (out ++ [x]) (by simpa using h)]
    simp
theorem srt_ord (ls : List α) (h : Ord lt ls) : srt lt ls = ls := by unfold srt; rw [fold_ord lt ls [] (by simpa using h)]; rfl
/-- a weak order -/
structure Weak : Prop where
  asym : ∀ x y, lt x y = true → lt y x = false
  ntr : ∀ x y z, lt y x = false → lt z y = false → lt z x = false
theorem insV_ord (W : Weak lt) (c : α) (l : List α) (h : l.Pairwise (fun x y => lt x y = false)) : (insV lt c l).Pairwise (fun x y => lt x y = false) := by
  induction l with
  | nil => simp [insV]
  | cons x xs ih =>
    obtain ⟨h1, h2⟩ := List.pairwise_cons.1 h
    unfold insV
    split
    · rename_i hlt
      refine List.pairwise_cons.2 ⟨fun y hy => ?_, ih h2⟩
      rcases (insV_mem lt c y xs).1 hy with rfl | hy
      · exact W.asym _ _ hlt
      · exact h1 y hy
    · rename_i hlt
      have hf : lt c x = false := by simpa using hlt
      refine List.pairwise_cons.2 ⟨fun y hy => ?_, h⟩
      rcases List.mem_cons.1 hy with rfl | hy
      · exact hf
      · exact W.ntr y x c (h1 y hy) hf
theorem insR_ord (W : Weak lt) (c : α) (l : List α) (h : Ord lt l) : Ord lt (insR lt c l) := by
  unfold insR Ord
  rw [List.pairwise_reverse]
  exact insV_ord lt W c _ (List.pairwise_reverse.2 h)
theorem srt_is (W : Weak lt) (ls : List α) : Ord lt (srt lt ls) := by
  have key : ∀ (ls out : List α), Ord lt out → Ord lt (ls.foldl (fun out c => insR lt c out) out) := by
    intro ls
    induction ls with
    | nil => intro out h; exact h
    | cons x xs ih => intro out h; exact ih _ (insR_ord lt W x out h)
  exact key ls [] List.Pairwise.nil
end

section
variable {α : Type} [Inhabited α] (lt : α → α → Bool)
theorem at_of {d : Array α} {pre post : List α} {x : α} {j : Nat} (h : d.toList = pre ++ x :: post) (hj : pre.length = j) : d[j]! = x := by
  have e : d[j]? = some x := by
    rw [← Array.getElem?_toList, h, List.getElem?_append_right (by omega), hj, Nat.sub_self]; rfl
  rw [getElem!_def, e]
end

/-! strings in order -/
theorem cmpB_eq : ∀ a b : List UInt8, Lib.compareBytes a b = 0 → a = b
  | [], [], _ => rfl
  | [], _ :: _, h => by simp [Lib.compareBytes] at h
  | _ :: _, [], h => by simp [Lib.compareBytes] at h
  | a :: as, b :: bs, h => by
    unfold Lib.compareBytes at h
    split at h
    · cases h
    · split at h
      · cases h
      · rename_i h1 h2
        rw [cmpB_eq as bs h, UInt8.le_antisymm (UInt8.not_lt.1 h2) (UInt8.not_lt.1 h1)]
theorem cmpB_neg : ∀ a b : List UInt8, Lib.compareBytes b a = - Lib.compareBytes a b
  | [], [] => rfl
  | [], _ :: _ => rfl
  | _ :: _, [] => rfl
  | a :: as, b :: bs => by
    unfold Lib.compareBytes
    by_cases h1 : a < b
    · rw [if_neg (UInt8.lt_asymm h1), if_pos h1, if_pos h1]; rfl
    · by_cases h2 : b < a
      · rw [if_pos h2, if_neg h1, if_pos h2]
      · rw [if_neg h2, if_neg h1, if_neg h1, if_neg h2]; exact cmpB_neg as bs
theorem cmpB_le : ∀ a b c : List UInt8, Lib.compareBytes a b ≤ 0 → Lib.compareBytes b c ≤ 0 → Lib.compareBytes a c ≤ 0
  | [], _, [], _, _ => by simp [Lib.compareBytes]
  | [], _, _ :: _, _, _ => by simp [Lib.compareBytes]
  | _ :: _, [], _, h, _ => by simp [Lib.compareBytes] at h
  | _ :: _, _ :: _, [], _, h => by simp [Lib.compareBytes] at h
  | a :: as, b :: bs, c :: cs, h1, h2 => by
    unfold Lib.compareBytes at h1 h2 ⊢
    simp only [UInt8.lt_iff_toNat_lt] at h1 h2 ⊢
    split at h1
    · split at h2
      · rw [if_pos (by omega)]; omega
      · split at h2
        · omega
        · rw [if_pos (by omega)]; omega
    · split at h1
      · omega
      · split at h2
        · rw [if_pos (by omega)]; omega
        · split at h2
          · omega
          · rw [if_neg (by omega), if_neg (by omega)]
            exact cmpB_le as bs cs h1 h2

end Go.Proofs.Ytloeabdohgdmkaa
