/- Rows of cards whose stamps are numbered: one by one, each another number. -/
import Derived.Test.YtkhmaaalmlnblaaMgR
import Derived.Test.YtkhmaaalmlnblaaSealR
namespace Go.Proofs.Ytkhmaaalmlnblaa
open Go.RowKit
set_option linter.unusedVariables false
set_option linter.unusedSimpArgs false

theorem flat_n {ls : List Cd} {K : Nat} {c : Cd} (h : ls[K]? = some c) (v : Int) : (flat cc ls).set (K * 9 + 7) (.int .i64 v) = flat cc (ls.set K { c with n := v }) := by
  have hK : K < ls.length := (List.getElem?_eq_some_iff.1 h).1
  have hg : ls[K]'hK = c := (List.getElem?_eq_some_iff.1 h).2
  have h0 : ls.set K c = ls := by rw [← hg]; exact List.set_getElem_self hK
  have h1 := flat_set cc_len ls K c hK
  rw [h0] at h1
  have h2 := flat_set cc_len ls K { c with n := v } hK
  have hl : ((flat cc ls).take (K * 9)).length = K * 9 := by
    rw [List.length_take, flat_len cc_len]
    omega
  rw [h2]
  obtain ⟨T, hT⟩ : ∃ T, (flat cc ls).take (K * 9) = T := ⟨_, rfl⟩
  obtain ⟨D, hD⟩ : ∃ D, (flat cc ls).drop ((K + 1) * 9) = D := ⟨_, rfl⟩
  rw [hT, hD] at h1 ⊢
  rw [hT] at hl
  rw [h1, List.append_assoc, List.set_append_right _ _ (by omega), hl, show K * 9 + 7 - K * 9 = 7 by omega, List.set_append_left _ _ (by show 7 < 9; omega), ← List.append_assoc]
  rfl
def CdG (c : Cd) : Prop := CdR c ∧ KA c.a ∧ KI c.i
theorem CdF.g {c : Cd} (h : CdF c) : CdG c := ⟨h.r, h.2.1, h.2.2⟩
theorem CdG.num {c : Cd} (h : CdG c) {v : Int} (hv : 0 ≤ v) : CdG { c with n := v } := by
  obtain ⟨⟨a, b, c1, d, e, f, g, i, j, k, l, m⟩, h2, h3⟩ := h
  exact ⟨⟨a, b, c1, d, e, f, g, i, j, k, l, hv⟩, h2, h3⟩
theorem CdG.s {c : Cd} (h : CdG c) : CdS c := ⟨by have := h.2.1.size; omega, by have := h.2.2.size; omega⟩
def obk (r : Rw) : Option Nat := (Value.slice r.a r.n r.c).ownBlock
theorem obk_set {rs : List Rw} {I : Nat} {r : Rw} (hr : rs[I]? = some r) (ls : List Cd) : (rs.set I { r with ls := ls }).map obk = rs.map obk := by
  rw [List.map_set]
  have hI : I < rs.length := (List.getElem?_eq_some_iff.1 hr).1
  have h1 : (rs.map obk)[I]'(by simpa using hI) = obk { r with ls := ls } := by
    rw [List.getElem_map, (List.getElem?_eq_some_iff.1 hr).2]
    rfl
  rw [← h1]
  exact List.set_getElem_self _
theorem rwE_set {rs : List Rw} {I : Nat} {r : Rw} (hr : rs[I]? = some r) (ls : List Cd) : flat rwE (rs.set I { r with ls := ls }) = flat rwE rs := by
  have hI : I < rs.length := (List.getElem?_eq_some_iff.1 hr).1
  have h0 : rs.set I r = rs := by rw [← (List.getElem?_eq_some_iff.1 hr).2]; exact List.set_getElem_self hI
  have h1 := flat_set rwE_len rs I r hI
  rw [h0] at h1
  rw [flat_set rwE_len rs I _ hI]
  exact h1.symm
section
variable {base : Nat} {w w' : World} {rs : List Rw} {I K g : Nat} {r : Rw} {c : Cd}
theorem OwnW.set {v : Value} (h : OwnW base w v rs) (hr : rs[I]? = some r) (ls : List Cd) : OwnW base w v (rs.set I { r with ls := ls }) := by
  unfold OwnW OwnR at h ⊢
  rw [List.length_set, rwE_set hr]
  exact h
theorem RoOk.kept (h : RoOk base w rs) {row : Option Nat} (hg : w.grownBy w' row) (hne : ∀ x ∈ rs, obk x = none ∨ obk x ≠ row) : RoOk base w' rs := ⟨fun r hr => ⟨World.ownsRow.kept (h.1 r hr).1 hg (hne r hr), (h.1 r hr).2⟩, h.2⟩
theorem RoOk.put (h : RoOk base w rs) (hr : rs[I]? = some r) (ha : r.a = some ⟨g, 0, none⟩) (hc : r.ls[K]? = some c) (v : Int) : RoOk base (w.setCell ⟨g, K * 9 + 7, none⟩ (.int .i64 v)) (rs.set I { r with ls := r.ls.set K { c with n := v } }) := by
  have hI : I < rs.length := (List.getElem?_eq_some_iff.1 hr).1
  have hri : rs[I]'hI = r := (List.getElem?_eq_some_iff.1 hr).2
  have hob : obk r = some g := by unfold obk; rw [ha]; rfl
  refine ⟨fun x hx => ?_, ?_⟩
  · obtain ⟨J, hJ, hxJ⟩ := List.getElem_of_mem hx
    rw [List.length_set] at hJ
    rw [List.getElem_set] at hxJ
    by_cases hIJ : I = J
    · rw [if_pos hIJ] at hxJ
      subst hxJ
      obtain ⟨h1, h2⟩ := h.1 r (List.mem_of_getElem? hr)
      refine ⟨?_, by show (r.ls.set K _).length = r.n; rw [List.length_set]; exact h2⟩
      show OwnC base _ (.slice r.a r.n r.c) (r.ls.set K _)
      rw [ha] at h1 ⊢
      unfold OwnC OwnR at h1 ⊢
      rw [List.length_set, ← flat_n hc]
      exact own_set1 h1 _
    · rw [if_neg hIJ] at hxJ
      subst hxJ
      obtain ⟨h1, h2⟩ := h.1 _ (List.getElem_mem hJ)
      refine ⟨ownsRow_keep h1 ((Kept.refl g w).setCell _ _) ?_, h2⟩
      rcases Nat.lt_or_gt_of_ne hIJ with hlt | hgt
      · have h3 := List.pairwise_iff_getElem.1 h.2 I J hI hJ hlt
        rw [hri] at h3
        rcases h3 with h3 | h3
        · exact absurd (hob.symm.trans h3) (by simp)
        · exact fun q => h3 (hob.trans q)
      · have h3 := List.pairwise_iff_getElem.1 h.2 J I hJ hI hgt
        rw [hri] at h3
        rcases h3 with h3 | h3
        · intro q; rw [h3] at q; cases q
        · exact fun q => h3 (q.symm.trans hob.symm)
  · have h4 : (rs.map obk).Pairwise (fun p q => p = none ∨ p ≠ q) := List.pairwise_map.2 h.2
    rw [← obk_set hr (r.ls.set K { c with n := v })] at h4
    exact List.pairwise_map.1 h4
end
/-- rows of which some cards are numbered, and these -/
structure MS (w w1 : World) (la : Option Addr) (lc n : Nat) (wr : World) (rs : List Rw) (A : List Cd) : Prop where
  len : rs.length = n
  out : OwnW w.heap.size wr (.slice la n lc) rs
  ro : RoOk w.heap.size wr rs
  pr : ∀ r ∈ rs, r.n ≤ 9 ∧ ∀ c ∈ r.ls, CdG c
  lt : ∀ x ∈ rs, ∀ k, obk x = some k → k < w1.heap.size
  num : ∀ (j : Nat) (c : Cd), A[j]? = some c → c.n = (j : Int)
  bel : Below w.heap.size w wr
section
variable {w w1 wr wr' : World} {la : Option Addr} {lc n I K g : Nat} {rs : List Rw} {A : List Cd} {r : Rw} {c : Cd}
theorem MS.ext (h : MS w w1 la lc n wr rs A) (hb : Below wr.heap.size wr wr') : MS w w1 la lc n wr' rs A :=
  ⟨h.len, OwnR.ext h.out hb, h.ro.ext hb, h.pr, h.lt, h.num, ext_trans h.bel hb⟩
theorem MS.grown (h : MS w w1 la lc n wr rs A) {v : Value} {m : Nat} {xs : List Value} (hg : wr.grownBy wr' v.ownBlock) (ho : wr.ownsRow w1.heap.size 33 9 v m xs) (hw : w.heap.size ≤ w1.heap.size) : MS w w1 la lc n wr' rs A := by
  refine ⟨h.len, own_blocks h.out fun b cur hc => hg.block b (blk_lt hc) (own_ne ho hc (by decide)), h.ro.kept hg fun x hx => ?_, h.pr, h.lt, h.num, h.bel.grown hg h.bel.size fun q hq => Nat.le_trans hw (own_ge ho hq)⟩
  cases e : obk x with
  | none => exact .inl rfl
  | some k =>
    refine .inr fun q => ?_
    have h1 := h.lt x hx k e
    have h2 := own_ge ho q.symm
    omega
theorem MS.step (h : MS w w1 la lc n wr rs A) (hr : rs[I]? = some r) (ha : r.a = some ⟨g, 0, none⟩) (hc : r.ls[K]? = some c) : MS w w1 la lc n (wr.setCell ⟨g, K * 9 + 7, none⟩ (.int .i64 (A.length : Int))) (rs.set I { r with ls := r.ls.set K { c with n := (A.length : Int) } }) (A ++ [{ c with n := (A.length : Int) }]) := by
  have hmr := List.mem_of_getElem? hr
  obtain ⟨h1, h2⟩ := h.ro.1 r hmr
  rw [ha] at h1
  obtain ⟨-, -, -, cur, hcur, -, hbg⟩ := OwnR.num h1
  have hkp : Kept g wr (wr.setCell ⟨g, K * 9 + 7, none⟩ (.int .i64 (A.length : Int))) := (Kept.refl g wr).setCell _ _
  refine ⟨by rw [List.length_set]; exact h.len, ?_, h.ro.put hr ha hc _, fun x hx => ?_, fun x hx k hk => ?_, fun j d hj => ?_, h.bel.setCell (p := ⟨g, K * 9 + 7, none⟩) hbg _⟩
  · exact OwnW.set (show OwnW _ _ _ _ from ownsRow_keep h.out hkp (own_ne h.out hcur (by decide))) hr _
  · rcases List.mem_or_eq_of_mem_set hx with hx | rfl
    · exact h.pr x hx
    · obtain ⟨p1, p2⟩ := h.pr r hmr
      refine ⟨p1, fun d hd => ?_⟩
      rcases List.mem_or_eq_of_mem_set hd with hd | rfl
      · exact p2 d hd
      · exact (p2 c (List.mem_of_getElem? hc)).num (by omega)
  · rcases List.mem_or_eq_of_mem_set hx with hx | rfl
    · exact h.lt x hx k hk
    · exact h.lt r hmr k hk
  · rcases Nat.lt_or_ge j A.length with hjl | hjl
    · rw [List.getElem?_append_left hjl] at hj
      exact h.num j d hj
    · rw [List.getElem?_append_right hjl] at hj
      have : j - A.length = 0 := by
        rcases Nat.eq_zero_or_pos (j - A.length) with q | q
        · exact q
        · rw [List.getElem?_eq_none (by simp; omega)] at hj; cases hj
      rw [this] at hj
      simp at hj
      subst hj
      show (A.length : Int) = (j : Int)
      omega
end
/-- how far a row is numbered -/
def upto9 (rs : List Rw) (I K : Nat) : List Cd := alls (rs.take I) ++ ((rs[I]?).map (fun r => r.ls.take K)).getD []
theorem upto_zero (rs : List Rw) (I : Nat) : upto9 rs I 0 = alls (rs.take I) := by
  unfold upto9
  cases rs[I]? <;> simp
theorem upto_all {rs : List Rw} {I : Nat} {r : Rw} (h : rs[I]? = some r) {K : Nat} (hK : r.ls.length ≤ K) : upto9 rs I K = alls (rs.take (I + 1)) := by
  unfold upto9
  rw [h, alls_take h]
  show _ ++ r.ls.take K = _
  rw [List.take_of_length_le hK]
theorem upto_set {rs : List Rw} {I K : Nat} {r : Rw} {c d : Cd} (h : rs[I]? = some r) (hc : r.ls[K]? = some c) : upto9 (rs.set I { r with ls := r.ls.set K d }) I (K + 1) = upto9 rs I K ++ [d] := by
  have hI : I < rs.length := (List.getElem?_eq_some_iff.1 h).1
  have hK : K < r.ls.length := (List.getElem?_eq_some_iff.1 hc).1
  unfold upto9
  rw [List.take_set_of_le (Nat.le_refl I), List.getElem?_set_self hI, h]
  show _ ++ (r.ls.set K d).take (K + 1) = (_ ++ r.ls.take K) ++ [d]
  rw [List.append_assoc]
  congr 1
  rw [List.take_add_one, List.take_set_of_le (Nat.le_refl K), List.getElem?_set_self hK]
  rfl
/-- cards that are numbered are not alike in their stamps -/
theorem num_one {A : List Cd} (h : ∀ (j : Nat) (c : Cd), A[j]? = some c → c.n = (j : Int)) : OneC A := by
  intro x hx y hy e1 e2 h1 h2
  obtain ⟨i, hi, rfl⟩ := List.getElem_of_mem hx
  obtain ⟨j, hj, rfl⟩ := List.getElem_of_mem hy
  have q1 := h i _ (List.getElem?_eq_getElem hi)
  have q2 := h j _ (List.getElem?_eq_getElem hj)
  have q3 := ltC_no.1 h1
  have q4 := ltC_no.1 h2
  have : i = j := by omega
  subst this
  rfl
theorem alls_mem (rs : List Rw) (c : Cd) : c ∈ alls rs.reverse ↔ c ∈ alls rs := by
  unfold alls
  simp only [List.mem_flatMap, List.mem_reverse]
theorem alls_two (rs ts : List Rw) : alls (rs ++ ts) = alls rs ++ alls ts := by simp [alls]
theorem insV_perm {α : Type} (lt : α → α → Bool) (c : α) (l : List α) : (insV lt c l).Perm (c :: l) := by
  induction l with
  | nil => simp [insV]
  | cons y l ih =>
    unfold insV
    split
    · first | exact List.Perm.refl _ | exact (List.Perm.cons y ih).trans (List.Perm.swap c y l)
    · first | exact List.Perm.refl _ | exact (List.Perm.cons y ih).trans (List.Perm.swap c y l)
theorem insR_perm {α : Type} (lt : α → α → Bool) (c : α) (l : List α) : (insR lt c l).Perm (c :: l) := by
  unfold insR
  exact (List.reverse_perm _).trans ((insV_perm _ c _).trans (List.Perm.cons c (List.reverse_perm l)))
theorem srt_perm {α : Type} (lt : α → α → Bool) (ls : List α) : (srt lt ls).Perm ls := by
  have h : ∀ (ls out : List α), (ls.foldl (fun out c => insR lt c out) out).Perm (out ++ ls) := by
    intro ls
    induction ls with
    | nil => intro out; simp
    | cons c ls ih =>
      intro out
      refine (ih _).trans (((insR_perm lt c out).append_right ls).trans ?_)
      rw [List.cons_append]
      exact List.perm_middle.symm
  simpa [srt] using h ls []
theorem joined_dom (L : List Cd) : Dom L (jnL (srt klt L)) := (jnL_dom _ (srt klt L) rfl (srt_is klt klt_weak L)).1.mem fun c => (srt_perm klt L).mem_iff
end Go.Proofs.Ytkhmaaalmlnblaa
