/- Turn by turn: lists. -/
import Derived.Test.YtkblblcjkkgbeaaMapC
import Derived.Test.YtkblblcjkkgbeaaLookP
namespace Go.Proofs.Ytkblblcjkkgbeaa
open Go.RowKit
set_option linter.unusedVariables false
set_option linter.unusedSimpArgs false

abbrev Str (ls : List Cd) : Prop := ls.Pairwise (fun x y => klt x y = true)
section
variable {α : Type} (lt : α → α → Bool)
theorem insV_perm (c : α) (l : List α) : (insV lt c l).Perm (c :: l) := by
  induction l with
  | nil => exact List.Perm.refl _
  | cons x xs ih =>
    unfold insV
    split
    · exact (ih.cons x).trans (List.Perm.swap c x xs)
    · exact List.Perm.refl _
theorem insR_perm (c : α) (l : List α) : (insR lt c l).Perm (c :: l) := by
  unfold insR
  exact (List.reverse_perm _).trans ((insV_perm lt c _).trans ((List.reverse_perm l).cons c))
theorem fold_perm (ls : List α) : ∀ out : List α, (ls.foldl (fun out c => insR lt c out) out).Perm (out ++ ls) := by
  induction ls with
  | nil => intro out; simp
  | cons x xs ih =>
    intro out
    simp only [List.foldl_cons]
    refine (ih _).trans (((insR_perm lt x out).append_right xs).trans ?_)
    exact (List.perm_middle (a := x) (l₁ := out) (l₂ := xs)).symm
theorem srt_perm (ls : List α) : (srt lt ls).Perm ls := by unfold srt; simpa using fold_perm lt ls []
end
theorem klt_trans {x y z : Cd} (h1 : klt x y = true) (h2 : klt y z = true) : klt x z = true := by
  have e1 := klt_of h1
  have e2 := klt_of h2
  have n1 := kcmp_neg x z
  rcases Int.lt_or_le (kcmp x z) 0 with h | h
  · exact klt_yes h
  · exfalso
    have h3 := kcmp_le (x := z) (y := x) (z := y) (by omega) (by omega)
    have n2 := kcmp_neg y z
    omega

theorem kcmp_key {x y z : Cd} (ha : x.a = y.a) (hi : x.i = y.i) : kcmp z x = kcmp z y ∧ kcmp x z = kcmp y z := by unfold kcmp; rw [ha, hi]; exact ⟨rfl, rfl⟩

theorem kq_iff {x y : Cd} (h : kq x y = true) : x.a = y.a ∧ x.i = y.i := by simpa [kq] using h

theorem kq_ne {x y : Cd} (h : kq x y = false) : kcmp x y ≠ 0 := by
  intro e
  obtain ⟨h1, h2⟩ := kc_zero e
  rw [kq_yes h1 h2] at h
  cases h

theorem on_str (T : List Cd) : ∀ out : List Cd, Str out → Ord klt (out ++ T) → Str (T.foldl onS out) := by
  induction T with
  | nil => intro out h _; exact h
  | cons x xs ih =>
    intro out h ho
    rcases List.eq_nil_or_concat out with rfl | ⟨o, y, rfl⟩
    · exact ih [x] (List.pairwise_singleton _ _) (by simpa using ho)
    · rw [List.concat_eq_append] at h ho
      obtain ⟨h1, h2, h3⟩ := List.pairwise_append.1 h
      show Str (xs.foldl onS (onS (o.concat y) x))
      rw [List.concat_eq_append]
      cases hk : kq y x
      · rw [onS_other _ _ _ hk]
        refine ih _ ?_ (by simpa using ho)
        have hyx : klt y x = true := by
          have h4 : klt x y = false := (List.pairwise_append.1 ho).2.2 y (by simp) x (by simp)
          have h5 := klt_nof h4
          have h6 := kq_ne hk
          have h7 := kcmp_neg y x
          exact klt_yes (by omega)
        refine List.pairwise_append.2 ⟨h, List.pairwise_singleton _ _, fun z hz w hw => ?_⟩
        simp at hw
        subst hw
        rcases List.mem_append.1 hz with hz | hz
        · exact klt_trans (h3 z hz y (by simp)) hyx
        · simp at hz; subst hz; exact hyx
      · rw [onS_same _ _ _ hk]
        obtain ⟨e1, e2⟩ := kq_iff hk
        refine ih _ ?_ ?_
        · refine List.pairwise_append.2 ⟨h1, List.pairwise_singleton _ _, fun z hz w hw => ?_⟩
          simp at hw
          subst hw
          have := h3 z hz y (by simp)
          unfold klt at this ⊢
          rw [← (kcmp_key (z := z) e1 e2).1]
          exact this
        · refine List.Pairwise.sublist ?_ ho
          rw [List.append_assoc, List.append_assoc]
          exact List.Sublist.append (List.Sublist.refl o) (List.sublist_append_right [y] _)

theorem onc_str (cs : List Cd) : Str (onc cs) := on_str _ [] List.Pairwise.nil (by simpa using srt_is klt klt_weak cs)

theorem on_mem (T : List Cd) : ∀ out : List Cd, ∀ y ∈ T.foldl onS out, y ∈ out ∨ y ∈ T := by
  induction T with
  | nil => intro out y h; exact .inl h
  | cons x xs ih =>
    intro out y h
    rcases ih (onS out x) y h with h1 | h1
    · have : y ∈ out ∨ y = x := by
        rcases List.eq_nil_or_concat out with rfl | ⟨o, z, rfl⟩
        · simp [onS_nil] at h1; exact .inr h1
        · rw [List.concat_eq_append] at h1 ⊢
          cases hk : kq z x
          · rw [onS_other _ _ _ hk] at h1
            rcases List.mem_append.1 h1 with h2 | h2
            · exact .inl h2
            · exact .inr (by simpa using h2)
          · rw [onS_same _ _ _ hk] at h1
            rcases List.mem_append.1 h1 with h2 | h2
            · exact .inl (List.mem_append.2 (.inl h2))
            · exact .inr (by simpa using h2)
      rcases this with h2 | h2
      · exact .inl h2
      · exact .inr (by simp [h2])
    · exact .inr (by simp [h1])

theorem onc_mem {cs : List Cd} {y : Cd} (h : y ∈ onc cs) : y ∈ cs := by
  rcases on_mem _ [] y h with h1 | h1
  · cases h1
  · exact (srt_mem klt y cs).1 h1


def fky (x : Cd) : Ky := (x.a, x.i)
theorem klt_fky {x y : Cd} (h : klt x y = true) : fky x ≠ fky y := by
  intro e
  have h1 := klt_of h
  have ea : x.a = y.a := congrArg Prod.fst e
  have ei : x.i = y.i := congrArg Prod.snd e
  have h2 := (kcmp_key (z := x) ea ei).1
  have h3 := kcmp_neg x x
  omega
theorem fnd_nodup (app : ByteArray) (cs : List Cd) : ((fnd app (onc cs)).map fky).Nodup := by
  unfold fnd
  refine ((srt_perm klt _).map fky).nodup_iff.2 ?_
  refine List.pairwise_map.2 (List.Pairwise.imp ?_ (List.Pairwise.filter _ (onc_str cs)))
  intro a b h
  exact klt_fky h
theorem fnd_mem {app : ByteArray} {ls : List Cd} {x : Cd} (h : x ∈ fnd app ls) : x ∈ ls ∧ x.a = app ∧ x.g = false ∧ shw x = 1 := by
  unfold fnd at h
  have h1 := (srt_mem klt x _).1 h
  obtain ⟨h2, h3⟩ := List.mem_filter.1 h1
  simp [upC] at h3
  exact ⟨h2, h3.1.1, h3.1.2, h3.2⟩

def kd : Ky := (⟨#[]⟩, ⟨#[]⟩)
/-- whose keys come from turn a on -/
def pk (K : List Ky) (a I : Nat) : List Ky := (List.range I).map (fun i => K.getD ((a + i) % K.length) kd)
theorem pk_zero (K : List Ky) (a : Nat) : pk K a 0 = [] := rfl
theorem pk_len (K : List Ky) (a I : Nat) : (pk K a I).length = I := by simp [pk]
theorem pk_succ (K : List Ky) (a I : Nat) : pk K a (I + 1) = pk K a I ++ [K.getD ((a + I) % K.length) kd] := by
  unfold pk
  rw [List.range_succ, List.map_append]
  rfl
theorem pk_cons (K : List Ky) (a I : Nat) : pk K a (I + 1) = K.getD (a % K.length) kd :: pk K (a + 1) I := by
  unfold pk
  rw [List.range_succ_eq_map]
  simp only [List.map_cons, List.map_map, Nat.add_zero]
  congr 1
  apply List.map_congr_left
  intro i _
  simp only [Function.comp]
  congr 2
  omega
theorem pk_add (K : List Ky) (a I J : Nat) : pk K a (I + J) = pk K a I ++ pk K (a + I) J := by
  induction J with
  | zero => simp [pk_zero]
  | succ J ih => rw [← Nat.add_assoc, pk_succ, ih, pk_succ, List.append_assoc, Nat.add_assoc]
theorem pk_all (K : List Ky) : pk K 0 K.length = K := by
  apply List.ext_getElem
  · exact pk_len K 0 _
  · intro i h1 h2
    unfold pk
    simp only [List.getElem_map, List.getElem_range, Nat.zero_add, Nat.mod_eq_of_lt h2]
    rw [List.getD_eq_getElem?_getD, List.getElem?_eq_getElem h2]
    rfl
theorem pk_round (K : List Ky) (a : Nat) (q : Ky) : cnt (pk K a K.length) q = cnt K q := by
  induction a with
  | zero => rw [pk_all]
  | succ a ih =>
    have h1 : pk K a (K.length + 1) = _ := pk_cons K a K.length
    have h2 : pk K a (K.length + 1) = _ := pk_succ K a K.length
    rw [Nat.add_mod_right] at h2
    rw [h2] at h1
    have h3 := congrArg (fun l => cnt l q) h1
    have h4 : ∀ (x : Ky) (l : List Ky), cnt (x :: l) q = cnt [x] q + cnt l q := fun x l => cnt_app [x] l q
    simp only [cnt_app, h4 _ (pk K (a + 1) K.length)] at h3
    omega
theorem pk_three (K : List Ky) (a : Nat) (q : Ky) : cnt (pk K a (3 * K.length)) q = 3 * cnt K q := by
  rw [show 3 * K.length = K.length + K.length + K.length by omega, pk_add, pk_add, cnt_app, cnt_app, pk_round, pk_round, pk_round]
  omega
theorem cnt_one {K : List Ky} (h : K.Nodup) {q : Ky} (hq : q ∈ K) : cnt K q = 1 := by
  induction K with
  | nil => cases hq
  | cons x xs ih =>
    obtain ⟨h1, h2⟩ := List.nodup_cons.1 h
    have h4 : cnt (x :: xs) q = cnt [x] q + cnt xs q := cnt_app [x] xs q
    rw [h4]
    by_cases e : x = q
    · subst e
      have : cnt xs x = 0 := by
        rcases Nat.eq_zero_or_pos (cnt xs x) with h | h
        · exact h
        · exact absurd (cnt_mem h) h1
      rw [this]
      simp [cnt]
    · have hm : q ∈ xs := by
        rcases List.mem_cons.1 hq with h | h
        · exact absurd h.symm e
        · exact h
      rw [ih h2 hm]
      simp [cnt, e]
theorem pk_mem (K : List Ky) (a : Nat) (q : Ky) : q ∈ pk K a (3 * K.length) ↔ q ∈ K := by
  have h := pk_three K a q
  constructor
  · intro hq; exact cnt_mem (by have := cnt_pos hq; omega)
  · intro hq; exact cnt_mem (by have := cnt_pos hq; omega)
theorem pk_cnt (K : List Ky) (hn : K.Nodup) (a : Nat) (q : Ky) (h : q ∈ pk K a (3 * K.length)) : cnt (pk K a (3 * K.length)) q = 3 := by
  rw [pk_three, cnt_one hn ((pk_mem K a q).1 h)]
theorem trn_nat (t n : Nat) (h : 0 < n) : (trn (t : Int) n).toNat = t % n := by
  unfold trn
  rw [← Int.ofNat_tmod, ← Int.natCast_add, ← Int.ofNat_tmod, Int.toNat_natCast, Nat.add_mod_right, Nat.mod_mod]
theorem below_grown {n b : Nat} {w w' w'' : World} (h : Below n w w') (hs : n ≤ w'.heap.size) (hg : w'.grownBy w'' (some b)) (hb : n ≤ b) : Below n w w'' :=
  ⟨hg.os.trans h.os, hg.tape.trans h.tape, hg.output.trans h.output, Nat.le_trans h.size hg.size, fun k hk => (hg.block k (by omega) (by simp; omega)).trans (h.block k hk)⟩
theorem below_same {n : Nat} {w w' w'' : World} (h : Below n w w') (hs : n ≤ w'.heap.size) (hg : w'.grownBy w'' none) : Below n w w'' :=
  ⟨hg.os.trans h.os, hg.tape.trans h.tape, hg.output.trans h.output, Nat.le_trans h.size hg.size, fun k hk => (hg.block k (by omega) (by simp)).trans (h.block k hk)⟩
end Go.Proofs.Ytkblblcjkkgbeaa
