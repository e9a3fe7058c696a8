/- A region that draws its order, whose calls come one behind the other, by stages: what the worlds are like behind the first call, the second, ..: one walk serves every order. -/
import Derived.Test.YtloeabdohgdmkaaChainZ
namespace Go.Proofs.Ytloeabdohgdmkaa.Hist
open Go.RowKit Go.Proofs.Ytloeabdohgdmkaa

section
variable {P : Program} {ops : Array Oper}

/-- the operations that enter something, in the order of the text -/
def calls (ops : Array Oper) : List Nat := (List.range ops.size).filter fun k => !plainAt ops k
/-- how many of these an operation waits for -/
def stageOf (ops : Array Oper) (j : Nat) : Nat := (((calls ops).zipIdx 1).filter fun c => waitsT ops 6 j c.1).foldl (fun m c => max m c.2) 0
/-- how many of these have come up -/
def stage (ops : Array Oper) (listed : Array Bool) : Nat := (calls ops).countP fun k => listed.getD k false

/-- what holds from each stage on, of the worlds that were met -/
abbrev Hist := List (World → Prop)
/-- the worlds in which operation j may come up -/
def Cls (ops : Array Oper) (D : Hist) (j : Nat) (w : World) : Prop := ∀ S, D[stageOf ops j]? = some S → S w
theorem cls_pre {ops : Array Oper} {D D' : Hist} {j : Nat} (h : ∃ t, D' = D ++ t) (hl : stageOf ops j < D.length) : Cls ops D' j = Cls ops D j := by
  obtain ⟨t, rfl⟩ := h
  unfold Cls
  rw [List.getElem?_append_left hl]
theorem cls_now {ops : Array Oper} {D : Hist} {j : Nat} {w : World} (h : ∀ S ∈ D, S w) : Cls ops D j w := fun S hS => h S (List.mem_of_getElem? hS)

theorem fold_max : ∀ (l : List (Nat × Nat)) (a : Nat), (l.foldl (fun m c => max m c.2) a = a) ∨ ∃ c ∈ l, l.foldl (fun m c => max m c.2) a = c.2
  | [], a => .inl rfl
  | x :: l, a => by
    simp only [List.foldl_cons]
    rcases fold_max l (max a x.2) with h | ⟨c, hc, h⟩
    · rw [h]
      rcases Nat.le_total a x.2 with h1 | h1
      · right; exact ⟨x, by simp, by omega⟩
      · left; omega
    · exact .inr ⟨c, by simp [hc], h⟩

theorem link_pre : ∀ (l : List Nat), linkB ops l = true → ∀ (i j : Nat) (c d : Nat), l[i]? = some c → l[j]? = some d → i < j → Dep ops d c
  | [], _, i, _, _, _, h, _, _ => by simp at h
  | x :: l, hl, 0, j + 1, c, d, hc, hd, _ => by
    simp at hc; subst hc
    exact link_dep l x hl d (List.mem_of_getElem? (by simpa using hd))
  | x :: l, hl, i + 1, j + 1, c, d, hc, hd, hij => link_pre l (link_tail hl) i j c d (by simpa using hc) (by simpa using hd) (by omega)
  | x :: l, hl, i, 0, c, d, hc, hd, hij => by omega

theorem count_pre : ∀ (l : List Nat) (f : Nat → Bool) (t : Nat), t ≤ l.length → (∀ i c, i < t → l[i]? = some c → f c = true) → t ≤ l.countP f
  | l, f, 0, _, _ => Nat.zero_le _
  | [], f, t + 1, h, _ => by simp at h
  | x :: l, f, t + 1, h, hf => by
    have h0 := hf 0 x (by omega) rfl
    have := count_pre l f t (by simpa using h) (fun i c hi hc => hf (i + 1) c (by omega) (by simpa using hc))
    rw [List.countP_cons_of_pos (by simpa using h0)]
    omega

/-- what is ready has seen its stage -/
theorem stage_ready {listed : Array Bool} (hch : chainB ops = true) (hc : Closed ops listed) {j : Nat} (hr : j ∈ Region.ready .any ops listed) (hpl : plainAt ops j = true) : stageOf ops j ≤ stage ops listed := by
  unfold stageOf
  rcases fold_max (((calls ops).zipIdx 1).filter fun c => waitsT ops 6 j c.1) 0 with h | ⟨c, hm, h⟩
  · rw [h]; exact Nat.zero_le _
  · rw [h]
    obtain ⟨hz, hw⟩ := List.mem_filter.1 hm
    obtain ⟨c1, c2⟩ := c
    have hz' := List.mk_mem_zipIdx_iff_le_and_getElem?_sub.1 hz
    obtain ⟨hz1, hz2⟩ := hz'
    have hd := dep_of 6 j c1 hw
    have hne : j ≠ c1 := by
      intro e
      have h1 : c1 ∈ calls ops := List.mem_of_getElem? hz2
      have h2 := (List.mem_filter.1 h1).2
      rw [← e, hpl] at h2; cases h2
    have hl := dep_ready hc hr hd hne
    have hlen : c2 - 1 < (calls ops).length := by
      rcases Nat.lt_or_ge (c2 - 1) (calls ops).length with h | h
      · exact h
      · rw [List.getElem?_eq_none h] at hz2; cases hz2
    refine count_pre (calls ops) _ c2 (by omega) (fun i c hi hc' => ?_)
    by_cases e : i = c2 - 1
    · subst e; rw [hz2] at hc'; cases hc'; exact hl
    · exact link_pre (calls ops) hch i (c2 - 1) c c1 hc' hz2 (by omega) listed hc hl

theorem stage_plain {listed : Array Bool} {i : Nat} (hp : plainAt ops i = true) : stage ops (listed.setIfInBounds i true) = stage ops listed := by
  unfold stage
  apply List.countP_congr
  intro k hk
  have h2 := (List.mem_filter.1 hk).2
  have hne : i ≠ k := fun e => by rw [← e, hp] at h2; cases h2
  rw [getD_set_ne false hne]
theorem stage_call {listed : Array Bool} {k : Nat} (hk : k ∈ calls ops) (hu : listed.getD k true = false) : stage ops (listed.setIfInBounds k true) = stage ops listed + 1 := by
  have hnd : (calls ops).Nodup := (List.nodup_range).filter _
  unfold stage
  generalize calls ops = l at *
  induction l with
  | nil => cases hk
  | cons x l ih =>
    obtain ⟨hx, hnd'⟩ := List.nodup_cons.1 hnd
    rw [List.countP_cons, List.countP_cons]
    have hlt : k < listed.size := by
      rcases Nat.lt_or_ge k listed.size with h | h
      · exact h
      · simp [Array.getElem?_eq_none h] at hu
    have hf : listed.getD k false = false := by simp [hlt] at hu ⊢; exact hu
    have ht : (listed.setIfInBounds k true).getD k false = true := by simp [hlt]
    rcases List.mem_cons.1 hk with rfl | hk'
    · rw [hf, ht]
      have : l.countP (fun j => (listed.setIfInBounds k true).getD j false) = l.countP (fun j => listed.getD j false) := by
        apply List.countP_congr
        intro j hj
        have hne : k ≠ j := fun e => hx (e ▸ hj)
        rw [getD_set_ne false hne]
      rw [this]; simp
    · have hne : k ≠ x := fun e => hx (e ▸ hk')
      rw [ih hk' hnd', getD_set_ne false hne]
      omega

/-- one operation comes up -/
def gOp (P : Program) (ops : Array Oper) (j : Nat) (K : Hist → Act → World → Prop) (D : Hist) (a : Act) (w : World) : Prop :=
  match ops[j]? with
  | none => K D a w
  | some o => if plainB o then (if Region.wanted o (yielded ops a.tmps) then ∃ x, PureD P (Cls ops D j) o a x ∧ K D (a.put o.dst x) w else K D (a.put o.dst undef) w)
    else if Region.wanted o (yielded ops a.tmps) then o.wp P a w (fun a' w' => ∃ S, (∀ T ∈ D ++ [S], T w') ∧ K (D ++ [S]) a' w') (fun _ _ _ => False) else ∃ S, (∀ T ∈ D ++ [S], T w) ∧ K (D ++ [S]) (a.put o.dst undef) w

theorem gOp_mono {j : Nat} {D : Hist} {a : Act} {w : World} {K K' : Hist → Act → World → Prop} (h : ∀ D a w, K D a w → K' D a w) (hh : gOp P ops j K D a w) : gOp P ops j K' D a w := by
  unfold gOp at *
  split
  · rename_i ho; simp only [ho] at hh; exact h _ _ _ hh
  · rename_i o ho
    simp only [ho] at hh
    split
    · rename_i hp
      simp only [hp, if_true] at hh
      split
      · rename_i hw; simp only [hw, if_true] at hh; obtain ⟨x, h1, h2⟩ := hh; exact ⟨x, h1, h _ _ _ h2⟩
      · rename_i hw; simp only [hw] at hh; exact h _ _ _ hh
    · rename_i hp
      simp only [hp] at hh
      split
      · rename_i hw; simp only [hw, if_true] at hh; exact Oper.wp_mono (fun a' w' ⟨S, h1, h2⟩ => ⟨S, h1, h _ _ _ h2⟩) hh
      · rename_i hw; simp only [hw] at hh; obtain ⟨S, h1, h2⟩ := hh; exact ⟨S, h1, h _ _ _ h2⟩

def wpAnyD (P : Program) (ops : Array Oper) (Q : Exit → Act → World → Prop) : Nat → Array Bool → Hist → Act → World → Prop
  | 0, listed, D, a, w => (D.length = stage ops listed + 1 ∧ (∀ T ∈ D, T w) ∧ Closed ops listed) ∧ Region.ready .any ops listed = [] ∧ Q .normal a w
  | fuel + 1, listed, D, a, w => (D.length = stage ops listed + 1 ∧ (∀ T ∈ D, T w) ∧ Closed ops listed) ∧ (Region.ready .any ops listed = [] → Q .normal a w) ∧ ∀ i ∈ Region.ready .any ops listed, gOp P ops i (wpAnyD P ops Q fuel (listed.setIfInBounds i true)) D a w
theorem wpAnyD_in {Q : Exit → Act → World → Prop} {fuel : Nat} {listed : Array Bool} {D : Hist} {a : Act} {w : World} (h : wpAnyD P ops Q fuel listed D a w) : D.length = stage ops listed + 1 ∧ (∀ T ∈ D, T w) ∧ Closed ops listed := by
  cases fuel <;> exact h.1

theorem wpAny_of_D {Q : Exit → Act → World → Prop} : ∀ (fuel : Nat) (listed : Array Bool) (D : Hist) (a : Act) (w : World), wpAnyD P ops Q fuel listed D a w → wpAny P .any ops Q fuel listed a w
  | 0, _, _, _, _, h => h.2
  | fuel + 1, listed, D, a, w, h => ⟨h.2.1, fun i hi => by
      have h1 := gOp_mono (K' := fun _ a w => wpAny P .any ops Q fuel (listed.setIfInBounds i true) a w) (fun D a w => wpAny_of_D fuel (listed.setIfInBounds i true) D a w) (h.2.2 i hi)
      unfold gOp at h1
      unfold wpOp
      split
      · rename_i ho; simp only [ho] at h1; exact h1
      · rename_i o ho
        simp only [ho] at h1
        split at h1
        · split at h1
          · rename_i hw
            obtain ⟨x, h2, h3⟩ := h1
            rw [if_pos hw]
            left
            unfold Oper.wp
            rcases h2 w (cls_now h.1.2.1) with e | ⟨e, rfl⟩ <;> rw [e] <;> exact h3
          · rename_i hw; rw [if_neg hw]; exact h1
        · split at h1
          · rename_i hw; rw [if_pos hw]; exact wp_false (Oper.wp_mono (fun a' w' ⟨S, _, h2⟩ => h2) h1)
          · rename_i hw; rw [if_neg hw]; obtain ⟨S, _, h2⟩ := h1; exact h2⟩

theorem yd_gOp {i : Nat} {o : Oper} {x : Value} {D : Hist} {a : Act} (hi : ops[i]? = some o) (hp : plainB o = true) (h : YD P ops (Cls ops D i) o x a) {K : Hist → Act → World → Prop} {w : World} (hk : K D (a.put o.dst x) w) : gOp P ops i K D a w := by
  unfold gOp
  simp only [hi, hp, if_true]
  rcases h with ⟨h1, h2, h3⟩ | ⟨h1, rfl⟩
  · simp only [h1, if_true]; exact ⟨x, h3, hk⟩
  · simp only [h1, Bool.false_eq_true, if_false]; exact hk
theorem yd_of_gOp {i : Nat} {o : Oper} {D : Hist} {a : Act} {K : Hist → Act → World → Prop} {w : World} (hi : ops[i]? = some o) (hp : plainB o = true) (h : gOp P ops i K D a w) : ∃ x, YD P ops (Cls ops D i) o x a ∧ K D (a.put o.dst x) w := by
  unfold gOp at h
  simp only [hi, hp, if_true] at h
  by_cases hw : Region.wanted o (yielded ops a.tmps) = true
  · simp only [hw, if_true] at h
    obtain ⟨x, h1, h2⟩ := h
    exact ⟨x, .inl ⟨hw, hp, h1⟩, h2⟩
  · simp only [hw] at h
    exact ⟨undef, .inr ⟨by simpa using hw, rfl⟩, h⟩

theorem gOp_put {j : Nat} {oi oj : Oper} {x : Value} (hj : ops[j]? = some oj) (h1 : ∀ d, oi.dst = some d → d ∉ oj.looksAt ops) (h2 : ∀ d, oi.dst = some d → oj.dst ≠ some d) (hsj : ∀ cs b, oj.op ≠ .select cs b) {K : Hist → Act → World → Prop} {D : Hist} {a : Act} {w : World} :
    gOp P ops j K D (a.put oi.dst x) w ↔ gOp P ops j (fun D' a' w' => K D' (a'.put oi.dst x) w') D a w := by
  unfold gOp
  simp only [hj]
  rw [wanted_put oj a oi.dst x h1]
  split
  · split
    · constructor
      · rintro ⟨y, y1, y2⟩; exact ⟨y, y1.same (execOp_put oj hsj a oi.dst x h1).symm, by rw [← Act.put_comm a x y h2]; exact y2⟩
      · rintro ⟨y, y1, y2⟩; exact ⟨y, y1.same (execOp_put oj hsj a oi.dst x h1), by rw [Act.put_comm a x y h2]; exact y2⟩
    · rw [Act.put_comm a x undef h2]
  · split
    · exact wp_put h1 h2 hsj
    · rw [Act.put_comm a x undef h2]
theorem gOp_same {j : Nat} {oi oj : Oper} (hj : ops[j]? = some oj) (h3 : ∀ d, oj.dst = some d → d ∉ oi.looksAt ops) (hsi : ∀ cs b, oi.op ≠ .select cs b) {K : Hist → Act → World → Prop} {D : Hist} {a : Act} {w : World} (h : gOp P ops j K D a w) :
    gOp P ops j (fun D' a' w' => (∃ t, D' = D ++ t) ∧ SameFor ops oi a a' ∧ K D' a' w') D a w := by
  have keep : ∀ v, SameFor ops oi a (a.put oj.dst v) := fun v => ⟨execOp_put oi hsi a oj.dst v h3, wanted_put oi a oj.dst v h3⟩
  unfold gOp at *
  simp only [hj] at *
  split
  · rename_i hp
    simp only [hp, if_true] at h
    split
    · rename_i hw; simp only [hw, if_true] at h; obtain ⟨y, y1, y2⟩ := h; exact ⟨y, y1, ⟨[], by simp⟩, keep y, y2⟩
    · rename_i hw; simp only [hw] at h; exact ⟨⟨[], by simp⟩, keep _, h⟩
  · rename_i hp
    simp only [hp] at h
    split
    · rename_i hw; simp only [hw, if_true] at h; exact Oper.wp_mono (fun a' w' ⟨s, S, h1, h2⟩ => ⟨S, h1, ⟨[S], rfl⟩, s, h2⟩) (wp_same h3 hsi h)
    · rename_i hw; simp only [hw] at h; obtain ⟨S, h1, h2⟩ := h; exact ⟨S, h1, ⟨[S], rfl⟩, keep _, h2⟩
theorem gOp_out {j : Nat} {oj : Oper} (hj : ops[j]? = some oj) {K : Hist → Act → World → Prop} {D : Hist} {a : Act} {w : World} (h : gOp P ops j K D a w) : ∃ D' a' w', K D' a' w' := by
  unfold gOp at h
  simp only [hj] at h
  split at h
  · split at h
    · obtain ⟨y, y1, y2⟩ := h; exact ⟨_, _, _, y2⟩
    · exact ⟨_, _, _, h⟩
  · split at h
    · obtain ⟨a', w', S, _, h2⟩ := wp_out h; exact ⟨_, _, _, h2⟩
    · obtain ⟨S, _, h2⟩ := h; exact ⟨_, _, _, h2⟩

theorem pure_first {Q : Exit → Act → World → Prop} {i : Nat} {oi : Oper} {x : Value} (hch : chainB ops = true) (hi : ops[i]? = some oi) (hsel : ∀ (j : Nat) (o : Oper) cs b, ops[j]? = some o → o.op ≠ .select cs b) (hpi : plainB oi = true) :
    ∀ (fuel : Nat) (listed : Array Bool) (D : Hist) (a : Act) (w : World), Closed ops listed →
      (∀ j oj, ops[j]? = some oj → j ≠ i → listed.getD j true = false → (∀ e ∈ oj.after, Region.binds .any e = true → e.on ≠ i) → oi.apart ops oj = true) →
      i ∈ Region.ready .any ops listed → YD P ops (Cls ops D i) oi x a → wpAnyD P ops Q fuel (listed.setIfInBounds i true) D (a.put oi.dst x) w → wpAnyD P ops Q (fuel + 1) listed D a w := by
  intro fuel
  induction fuel with
  | zero =>
    intro listed D a w hcl _ hr hy H
    have hin := wpAnyD_in H
    rw [stage_plain (ops := ops) (listed := listed) (i := i) (by simp [plainAt, hi, hpi])] at hin
    refine ⟨⟨hin.1, hin.2.1, hcl⟩, fun h => (by rw [h] at hr; cases hr), fun j hj => ?_⟩
    by_cases hji : j = i
    · subst hji; exact yd_gOp hi hpi hy H
    · have := ready_mono hj hji
      rw [H.2.1] at this
      cases this
  | succ fuel ih =>
    intro listed D a w hcl hfree hr hy H
    have hin := wpAnyD_in H
    rw [stage_plain (ops := ops) (listed := listed) (i := i) (by simp [plainAt, hi, hpi])] at hin
    refine ⟨⟨hin.1, hin.2.1, hcl⟩, fun h => (by rw [h] at hr; cases hr), fun j hj => ?_⟩
    by_cases hji : j = i
    · subst hji; exact yd_gOp hi hpi hy H
    · have g1 := H.2.2 j (ready_mono hj hji)
      obtain ⟨hjun, oj, hoj, hall⟩ := mem_ready.1 hj
      have hnot : ∀ e ∈ oj.after, Region.binds .any e = true → e.on ≠ i := fun e he hb heq => by
        have h1 := hall e he hb
        have h0 := (mem_ready.1 hr).1
        rw [heq] at h1
        rcases Nat.lt_or_ge i listed.size with h' | h'
        · simp [h'] at h0 h1; rw [h0] at h1; cases h1
        · simp [Array.getElem?_eq_none h'] at h1
      obtain ⟨p1, p2, p3⟩ := Oper.apart_spec (hfree j oj hoj hji hjun hnot)
      have hst := stage_ready hch hcl hr (by simp [plainAt, hi, hpi])
      have g2 := gOp_same hoj p3 (fun cs b => hsel i oi cs b hi) ((gOp_put hoj p1 p2 (fun cs b => hsel j oj cs b hoj)).1 g1)
      refine gOp_mono (fun D' a' w' ⟨pre, s, h3⟩ => ih (listed.setIfInBounds j true) D' a' w' (closed_set hcl hj) (fun k ok hk hki hun hno => ?_) (ready_mono hr (Ne.symm hji)) (by rw [cls_pre pre (by omega)]; exact hy.same s) ?_) g2
      · refine hfree k ok hk hki ?_ hno
        by_cases hjk : j = k
        · subst hjk; exact hjun
        · rw [getD_set_ne true hjk] at hun; exact hun
      · rw [Array.setIfInBounds_comm _ _ hji]; exact h3

theorem chain_first {Q : Exit → Act → World → Prop} {k : Nat} {ok : Oper} (hk : ops[k]? = some ok) (hsel : ∀ (j : Nat) (o : Oper) cs b, ops[j]? = some o → o.op ≠ .select cs b) (hch : chainB ops = true) (pk : plainB ok = false) :
    ∀ (fuel : Nat) (listed : Array Bool) (D : Hist) (a : Act) (w : World), D.length = stage ops listed + 1 → (∀ T ∈ D, T w) → Closed ops listed →
      (∀ j oj, ops[j]? = some oj → j ≠ k → listed.getD j true = false → (∀ e ∈ oj.after, Region.binds .any e = true → e.on ≠ k) → ok.apart ops oj = true) →
      k ∈ Region.ready .any ops listed → gOp P ops k (wpAnyD P ops Q fuel (listed.setIfInBounds k true)) D a w → wpAnyD P ops Q (fuel + 1) listed D a w := by
  intro fuel
  induction fuel with
  | zero =>
    intro listed D a w hlen hw hcl _ hr H
    refine ⟨⟨hlen, hw, hcl⟩, fun h => (by rw [h] at hr; cases hr), fun j hj => ?_⟩
    by_cases hji : j = k
    · subst hji; exact H
    · obtain ⟨D', a', w', h0⟩ := gOp_out hk H
      have := ready_mono hj hji
      rw [h0.2.1] at this
      cases this
  | succ fuel ih =>
    intro listed D a w hlen hw hcl hfree hr H
    refine ⟨⟨hlen, hw, hcl⟩, fun h => (by rw [h] at hr; cases hr), fun j hj => ?_⟩
    by_cases hji : j = k
    · subst hji; exact H
    · obtain ⟨hjun, oj, hoj, hall⟩ := mem_ready.1 hj
      have hnot : ∀ e ∈ oj.after, Region.binds .any e = true → e.on ≠ k := fun e he hb heq => by
        have h1 := hall e he hb
        have h0 := (mem_ready.1 hr).1
        rw [heq] at h1
        rcases Nat.lt_or_ge k listed.size with h' | h'
        · simp [h'] at h0 h1; rw [h0] at h1; cases h1
        · simp [Array.getElem?_eq_none h'] at h1
      have hap := hfree j oj hoj hji hjun hnot
      have hpl : plainB oj = true := by
        cases hpj : plainB oj with
        | true => rfl
        | false =>
          exfalso
          have un : ∀ {m : Nat}, m ∈ Region.ready .any ops listed → listed.getD m false = true → False := fun {m} hm h1 => by
            have h0 := (mem_ready.1 hm).1
            rcases Nat.lt_or_ge m listed.size with h' | h'
            · simp [h'] at h0 h1; rw [h0] at h1; cases h1
            · simp [Array.getElem?_eq_none h'] at h1
          rcases chain_spec hch hoj hk hji pk hpj with hd | hd
          · exact un hr (dep_ready hcl hj hd hji)
          · exact un hj (dep_ready hcl hr hd (Ne.symm hji))
      obtain ⟨p1, p2, p3⟩ := Oper.apart_spec hap
      have q2 : ∀ d, oj.dst = some d → ok.dst ≠ some d := fun d hd hd' => p2 d hd' hd
      have sj := fun cs b => hsel j oj cs b hoj
      have sk := fun cs b => hsel k ok cs b hk
      have hst := stage_ready hch hcl hj (by simp [plainAt, hoj, hpl])
      have H2 := gOp_same hk p1 sj H
      have H3 : gOp P ops k (fun D' a' w' => SameFor ops oj a a' ∧ ∃ y, YD P ops (Cls ops D j) oj y a' ∧ wpAnyD P ops Q fuel ((listed.setIfInBounds k true).setIfInBounds j true) D' (a'.put oj.dst y) w') D a w :=
        gOp_mono (fun D' a' w' ⟨pre, s, h⟩ => ⟨s, by
          have h9 := yd_of_gOp hoj hpl (h.2.2 j (ready_mono hj hji))
          rw [cls_pre pre (by omega)] at h9
          exact h9⟩) H2
      obtain ⟨D0, a0, w0, s0, y, hy0, _⟩ := gOp_out hk H3
      have hy := hy0.same s0.symm
      refine yd_gOp hoj hpl hy (ih (listed.setIfInBounds j true) D (a.put oj.dst y) w (by rw [stage_plain (ops := ops) (listed := listed) (i := j) (by simp [plainAt, hoj, hpl])]; exact hlen) hw (closed_set hcl hj) (fun m om hm hmk hun hno => ?_) (ready_mono hr (Ne.symm hji)) ?_)
      · refine hfree m om hm hmk ?_ hno
        by_cases hjm : j = m
        · subst hjm; exact hjun
        · rw [getD_set_ne true hjm] at hun; exact hun
      · refine (gOp_put hk p3 q2 sk).2 (gOp_mono (fun D' a' w' ⟨s, y', hy', h⟩ => ?_) H3)
        obtain rfl := hy.one (hy'.same s.symm) (w := w) (cls_now hw)
        rw [Array.setIfInBounds_comm _ _ hji]; exact h

/-- the walk, in the order of the text: k: the next operation's number -/
def wpG (P : Program) (ops : Array Oper) (Q : Exit → Act → World → Prop) : Nat → Hist → List Oper → Act → World → Prop
  | _, _, [], a, w => Q .normal a w
  | k, D, o :: l, a, w => if plainB o then (if Region.wanted o (yielded ops a.tmps) then ∃ x, PureD P (Cls ops D k) o a x ∧ wpG P ops Q (k + 1) D l (a.put o.dst x) w else wpG P ops Q (k + 1) D l (a.put o.dst undef) w)
    else if Region.wanted o (yielded ops a.tmps) then o.wp P a w (fun a' w' => ∃ S, (∀ T ∈ D ++ [S], T w') ∧ wpG P ops Q (k + 1) (D ++ [S]) l a' w') (fun _ _ _ => False) else ∃ S, (∀ T ∈ D ++ [S], T w) ∧ wpG P ops Q (k + 1) (D ++ [S]) l (a.put o.dst undef) w

theorem wpAnyD_lex {Q : Exit → Act → World → Prop} (hs : Region.noSelect ops = true) (hc : chainB ops = true) : ∀ (l : List Oper) (k : Nat) (listed : Array Bool) (D : Hist) (a : Act) (w : World), (∀ j, l[j]? = ops[k + j]?) → Closed ops listed → D.length = stage ops listed + 1 → (∀ T ∈ D, T w) →
    Region.lexFrom .any ops l.length k listed = true → wpG P ops Q k D l a w → wpAnyD P ops Q l.length listed D a w
  | [], _, _, _, _, _, _, hcl, hlen, hD, hB, h => ⟨⟨hlen, hD, hcl⟩, by simpa [Region.lexFrom] using hB, h⟩
  | o :: l, k, listed, D, a, w, hl, hcl, hlen, hD, hB, h => by
    have h0 : ops[k]? = some o := by simpa using (hl 0).symm
    simp only [List.length_cons, Region.lexFrom, Bool.and_eq_true] at hB
    obtain ⟨⟨hr, hf⟩, hB'⟩ := hB
    have hr' : k ∈ Region.ready .any ops listed := by simpa using hr
    have next := fun D' a' w' => wpAnyD_lex (Q := Q) hs hc l (k + 1) (listed.setIfInBounds k true) D' a' w' (fun j => by have := hl (j + 1); simpa [Nat.add_assoc, Nat.add_comm 1 j] using this) (closed_set hcl hr')
    unfold wpG at h
    by_cases hp : plainB o = true
    · have hst := stage_plain (ops := ops) (listed := listed) (i := k) (by simp [plainAt, h0, hp])
      rw [hst] at next
      simp only [hp, if_true] at h
      by_cases hw : Region.wanted o (yielded ops a.tmps) = true
      · simp only [hw, if_true] at h
        obtain ⟨x, h1, h2⟩ := h
        exact pure_first hc h0 (Region.noSelect_spec hs) hp l.length listed D a w hcl (Region.free_spec h0 hf) hr' (.inl ⟨hw, hp, h1⟩) (next _ _ _ hlen hD hB' h2)
      · simp only [hw] at h
        exact pure_first hc h0 (Region.noSelect_spec hs) hp l.length listed D a w hcl (Region.free_spec h0 hf) hr' (.inr ⟨by simpa using hw, rfl⟩) (next _ _ _ hlen hD hB' h)
    · have hp' : plainB o = false := by simpa using hp
      have hkc : k ∈ calls ops := List.mem_filter.2 ⟨List.mem_range.2 (by
        rcases Nat.lt_or_ge k ops.size with h | h
        · exact h
        · simp [Array.getElem?_eq_none h] at h0), by simp [plainAt, h0, hp']⟩
      have hst := stage_call (listed := listed) hkc (mem_ready.1 hr').1
      rw [hst] at next
      simp only [hp', Bool.false_eq_true, if_false] at h
      refine chain_first h0 (Region.noSelect_spec hs) hc hp' l.length listed D a w hlen hD hcl (Region.free_spec h0 hf) hr' ?_
      unfold gOp
      simp only [h0, hp', Bool.false_eq_true, if_false]
      by_cases hw : Region.wanted o (yielded ops a.tmps) = true
      · simp only [hw, if_true] at h ⊢
        exact Oper.wp_mono (fun a' w' ⟨S, h1, h2⟩ => ⟨S, h1, next _ _ _ (by simp [hlen]) h1 hB' h2⟩) h
      · simp only [hw] at h ⊢
        obtain ⟨S, h1, h2⟩ := h
        exact ⟨S, h1, next _ _ _ (by simp [hlen]) h1 hB' h2⟩

/-- a region that draws its order, whose calls wait for one another -/
theorem wp_region_hist {id : Nat} {Q : Exit → Act → World → Prop} {a : Act} {w : World} {l : List Oper} (S : World → Prop) (hm : P.follows .mixedOrders = true) (hB : Region.lexB .any l.toArray = true) (hc : chainB l.toArray = true) (hS : S w.drew)
    (h : wpG P l.toArray Q 0 [S] l a w.drew) : (Code.region id l.toArray true).wp P Q a w := by
  simp only [Region.lexB, Bool.and_eq_true] at hB
  refine wp_region_any hm (wpAny_of_D _ _ [S] _ _ ?_)
  have hz : stage l.toArray (Array.replicate l.toArray.size false) = 0 := by
    unfold stage
    rw [List.countP_eq_zero]
    intro k _
    rcases Nat.lt_or_ge k l.toArray.size with h' | h'
    · simp at h'; simp [h']
    · simp at h'; simp [h']
  have := wpAnyD_lex (Q := Q) hB.1 hc l 0 (Array.replicate l.toArray.size false) [S] a w.drew (by simp) (fun j oj _ hl => by
    exfalso
    rcases Nat.lt_or_ge j l.toArray.size with h' | h'
    · simp at h'; simp [h'] at hl
    · simp at h'; simp [h'] at hl) (by rw [hz]; rfl) (by simpa using hS) (by simpa using hB.2) h
  simpa using this

theorem wpG_nil {Q : Exit → Act → World → Prop} {a : Act} {w : World} {k : Nat} {D : Hist} (h : Q .normal a w) : wpG P ops Q k D [] a w := h
theorem wpG_plain {Q : Exit → Act → World → Prop} {a : Act} {w : World} {k : Nat} {D : Hist} {o : Oper} {l : List Oper} (s : Nat) (S : World → Prop) (hst : stageOf ops k = s) (hS : D[s]? = some S) (hw : Region.wanted o (yielded ops a.tmps) = true) (hp : plainB o = true) (h : ∀ K : Act → Prop, (∀ a', wpG P ops Q (k + 1) D l a' w → K a') → o.quiet P a (fun w' => ∃ g : In S, w' = g.w) K) : wpG P ops Q k D (o :: l) a w := by
  unfold wpG
  simp only [hw, hp, if_true]
  obtain ⟨x, h1, h2⟩ := PureD.of hp (h _ fun _ h => h)
  exact ⟨x, fun w' hw' => h1 w' ⟨⟨w', hw' S (by rw [hst]; exact hS)⟩, rfl⟩, h2⟩
theorem wpG_call {Q : Exit → Act → World → Prop} {a : Act} {w : World} {k : Nat} {D : Hist} {o : Oper} {l : List Oper} (hw : Region.wanted o (yielded ops a.tmps) = true) (hp : plainB o = false) (h : ∀ K : Act → World → Prop, (∀ a' w', (∃ S, (∀ T ∈ D ++ [S], T w') ∧ wpG P ops Q (k + 1) (D ++ [S]) l a' w') → K a' w') → o.wp P a w K (fun _ _ _ => False)) : wpG P ops Q k D (o :: l) a w := by
  unfold wpG
  simp only [hw, hp, if_true, Bool.false_eq_true, if_false]
  exact h _ fun _ _ h => h
end

end Go.Proofs.Ytloeabdohgdmkaa.Hist
