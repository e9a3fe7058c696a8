/- A region that draws its order, whose calls come one behind the other: one walk, in the order of the text, serves every order; what the calls leave is handed on. -/
import Derived.Test.YtloeabdohgdmkaaBaZ
import Derived.Deep.QuietTactic
import Derived.BigQuiet
namespace Go.Proofs.Ytloeabdohgdmkaa
open Go.RowKit

/-- an operation that computes or reads, and enters nothing -/
def plainB (o : Oper) : Bool :=
  match o.op with
  | .move _ | .assign _ | .pick _ _ _ | .build _ _ | .load _ _ | .binOp _ _ _ _ _ | .unOp _ _ _ | .convert _ _ _ | .fieldAddr _ _ _ | .field _ _ _ | .indexAddr _ _ _ | .index _ _ _ | .extract _ _ | .slice _ _ _ _ _ | .makeInterface _ _ | .nilCheck _ => true
  | .call c => match c.callee with
    | .builtin b => match b with
      | .len | .max | .min => true
      | _ => false
    | _ => false
  | _ => false

theorem val_enter {P : Program} {s : Sem Value} {w w' : World} {f : FuncId} {args : Array Value} : Sem.run P (do pure (Next.value (← s))) w ≠ .ok (.enter f args) w' := by
  intro h
  simp [go_sem] at h
  generalize Sem.run P s w = r at h
  cases r <;> simp [Result.andThen] at h

theorem plain_enter {P : Program} {ρ : Operand → Value} {o : Oper} (h : plainB o = true) {w w' : World} {f : FuncId} {args : Array Value} : (execOp ρ o).run P w ≠ .ok (.enter f args) w' := by
  obtain ⟨dst, op, type, pos, after, guard⟩ := o
  cases op <;> simp only [plainB] at h <;> simp only [execOp] <;> try (exact val_enter)
  all_goals try (cases h; done)
  case move => intro h; cases h
  case assign => intro h; cases h
  case nilCheck x =>
    intro h
    split at h
    · cases h
    · cases h
    · cases h
    · split at h
      · cases h
      · simp [go_sem] at h
        revert h
        generalize Sem.run P (nilAhead _ _ _ _) w = r
        cases r with
        | ok b w1 => simp only [Result.andThen]; split <;> intro h <;> cases h
        | halt b w1 => intro h; cases h
      · cases h
    · cases h
  case pick c x y =>
    intro h
    simp [go_sem] at h
    split at h <;> cases h
  case call c =>
    obtain ⟨callee, args', argTypes⟩ := c
    cases callee with
    | builtin b =>
      cases b <;> simp only [] at h <;> first | (cases h; done) | skip
      all_goals
        simp only [resolve, invoke, builtin]
        intro h'
        simp [go_sem] at h'
        revert h'
        generalize (Sem.run P _ w : Result Value) = r
        cases r <;> simp [Result.andThen]
    | value f => cases h
    | invoke r n => cases h

/-! The order of the text serves every order -/
section
variable {P : Program} {ops : Array Oper} {D : World → Prop}

/-- in every world of the class: this value, and the world as it is -/
def PureD (P : Program) (D : World → Prop) (o : Oper) (a : Act) (x : Value) : Prop := ∀ w, D w → (execOp a.eval o).run P w = .ok (.value x) w ∨ ((execOp a.eval o).run P w = .ok .skip w ∧ x = undef)

theorem PureD.same {o : Oper} {a b : Act} {x : Value} (h : PureD P D o a x) (e : execOp b.eval o = execOp a.eval o) : PureD P D o b x := by
  unfold PureD at *; rw [e]; exact h
theorem PureD.one {o : Oper} {a : Act} {x y : Value} (h : PureD P D o a x) (k : PureD P D o a y) {w : World} (hw : D w) : x = y := by
  rcases h w hw with h1 | ⟨h1, h2⟩ <;> rcases k w hw with k1 | ⟨k1, k2⟩
  · rw [h1] at k1; cases k1; rfl
  · rw [h1] at k1; cases k1
  · rw [h1] at k1; cases k1
  · rw [h2, k2]
theorem PureD.of {o : Oper} {a : Act} {K : Act → Prop} (hp : plainB o = true) (h : o.quiet P a D K) : ∃ x, PureD P D o a x ∧ K (a.put o.dst x) := by
  obtain ⟨x, h1, h2⟩ := h
  refine ⟨x, fun w hw => ?_, h2⟩
  have h3 := h1 w hw
  unfold Oper.quietAt at h3
  generalize hr : (execOp a.eval o).run P w = r at h3
  cases r with
  | ok n w' =>
    cases n <;> simp only [Oper.quietUpon] at h3
    case value u => obtain ⟨rfl, rfl⟩ := h3; exact .inl rfl
    case skip => obtain ⟨rfl, rfl⟩ := h3; exact .inr ⟨rfl, rfl⟩
    case enter f args => exact absurd hr (plain_enter hp)
  | halt x w' => simp only [Oper.quietUpon] at h3

/-- one operation comes up -/
def gOp (P : Program) (ops : Array Oper) (D : World → Prop) (j : Nat) (K : Act → World → Prop) (a : Act) (w : World) : Prop :=
  match ops[j]? with
  | none => K a w
  | some o => if Region.wanted o (yielded ops a.tmps) then (if plainB o then ∃ x, PureD P D o a x ∧ K (a.put o.dst x) w else o.wp P a w K (fun _ _ _ => False)) else K (a.put o.dst undef) w

theorem gOp_mono {j : Nat} {a : Act} {w : World} {K K' : Act → World → Prop} (h : ∀ a w, K a w → K' a w) (hh : gOp P ops D j K a w) : gOp P ops D j K' a w := by
  unfold gOp at *
  split
  · rename_i ho; simp only [ho] at hh; exact h _ _ hh
  · rename_i o ho
    simp only [ho] at hh
    split
    · rename_i hw
      simp only [hw, if_true] at hh
      split
      · rename_i hp; simp only [hp, if_true] at hh; obtain ⟨x, h1, h2⟩ := hh; exact ⟨x, h1, h _ _ h2⟩
      · rename_i hp; simp only [hp] at hh; exact Oper.wp_mono h hh
    · rename_i hw; simp only [hw] at hh; exact h _ _ hh

def wpAnyD (P : Program) (ops : Array Oper) (D : World → Prop) (Q : Exit → Act → World → Prop) : Nat → Array Bool → Act → World → Prop
  | 0, listed, a, w => D w ∧ Region.ready .any ops listed = [] ∧ Q .normal a w
  | fuel + 1, listed, a, w => D w ∧ (Region.ready .any ops listed = [] → Q .normal a w) ∧ ∀ i ∈ Region.ready .any ops listed, gOp P ops D i (wpAnyD P ops D Q fuel (listed.setIfInBounds i true)) a w

theorem wpAnyD_in {Q : Exit → Act → World → Prop} {fuel : Nat} {listed : Array Bool} {a : Act} {w : World} (h : wpAnyD P ops D Q fuel listed a w) : D w := by
  cases fuel <;> exact h.1

theorem wp_false {o : Oper} {a : Act} {w : World} {K : Act → World → Prop} {Q : Exit → Act → World → Prop} (hh : o.wp P a w K (fun _ _ _ => False)) : o.wp P a w K Q ∨ (o.asks P a w ∧ LetsOut Q) := by
  left
  unfold Oper.wp at *
  generalize (execOp a.eval o).run P w = r at *
  cases r with
  | ok n w' =>
    cases n <;> simp only [Oper.upon] at hh ⊢ <;> first | exact hh | skip
    exact Calls.mono hh (fun e w'' he => by cases e <;> first | exact he | exact he.elim | (simp [LetsOut] at he))
  | halt x w' => cases x <;> simp only [Oper.upon] at hh

theorem wpAny_of_D {Q : Exit → Act → World → Prop} : ∀ (fuel : Nat) (listed : Array Bool) (a : Act) (w : World), wpAnyD P ops D Q fuel listed a w → wpAny P .any ops Q fuel listed a w
  | 0, _, _, _, h => h.2
  | fuel + 1, listed, a, w, h => ⟨h.2.1, fun i hi => by
      have h1 := gOp_mono (fun a w => wpAny_of_D fuel (listed.setIfInBounds i true) a w) (h.2.2 i hi)
      unfold gOp at h1
      unfold wpOp
      split
      · rename_i ho; simp only [ho] at h1; exact h1
      · rename_i o ho
        simp only [ho] at h1
        split
        · rename_i hw
          simp only [hw, if_true] at h1
          split at h1
          · obtain ⟨x, h2, h3⟩ := h1
            left
            unfold Oper.wp
            rcases h2 w h.1 with e | ⟨e, rfl⟩ <;> rw [e] <;> exact h3
          · exact wp_false h1
        · rename_i hw; simp only [hw] at h1; exact h1⟩

/-- to operation o the two frames are one -/
def SameFor (ops : Array Oper) (o : Oper) (a a' : Act) : Prop := execOp a'.eval o = execOp a.eval o ∧ Region.wanted o (yielded ops a'.tmps) = Region.wanted o (yielded ops a.tmps)

theorem wp_put {oi oj : Oper} {x : Value} (h1 : ∀ d, oi.dst = some d → d ∉ oj.looksAt ops) (h2 : ∀ d, oi.dst = some d → oj.dst ≠ some d) (hsj : ∀ cs b, oj.op ≠ .select cs b) {K : Act → World → Prop} {a : Act} {w : World} :
    oj.wp P (a.put oi.dst x) w K (fun _ _ _ => False) ↔ oj.wp P a w (fun a' w' => K (a'.put oi.dst x) w') (fun _ _ _ => False) := by
  unfold Oper.wp
  rw [execOp_put oj hsj a oi.dst x h1]
  generalize (execOp a.eval oj).run P w = r at *
  cases r with
  | ok n w' =>
    cases n <;> simp only [Oper.upon]
    case value v => rw [Act.put_comm a x v h2]
    case skip => rw [Act.put_comm a x undef h2]
    case defer d => rw [Act.put_defers, Act.put_comm _ x undef h2]
    case enter f args =>
      constructor <;> (intro h; refine Calls.mono h (fun e w'' he => ?_); cases e <;> simp only [] at he ⊢ <;> first | exact he | skip)
      · rw [← Act.put_comm a x _ h2]; exact he
      · rw [Act.put_comm a x _ h2]; exact he
    case row r args =>
      constructor <;> (intro h; refine Rows.mono h (fun v w'' he => ?_))
      · rw [← Act.put_comm a x _ h2]; exact he
      · rw [Act.put_comm a x _ h2]; exact he
  | halt x w' => cases x <;> simp only [Oper.upon]

theorem wp_same {oi oj : Oper} (h3 : ∀ d, oj.dst = some d → d ∉ oi.looksAt ops) (hsi : ∀ cs b, oi.op ≠ .select cs b) {K : Act → World → Prop} {a : Act} {w : World} (h : oj.wp P a w K (fun _ _ _ => False)) :
    oj.wp P a w (fun a' w' => SameFor ops oi a a' ∧ K a' w') (fun _ _ _ => False) := by
  have keep : ∀ v, SameFor ops oi a (a.put oj.dst v) := fun v => ⟨execOp_put oi hsi a oj.dst v h3, wanted_put oi a oj.dst v h3⟩
  unfold Oper.wp at *
  generalize (execOp a.eval oj).run P w = r at *
  cases r with
  | ok n w' =>
    cases n <;> simp only [Oper.upon] at h ⊢
    case value v => exact ⟨keep v, h⟩
    case skip => exact ⟨keep _, h⟩
    case defer d =>
      refine ⟨?_, h⟩
      have e1 := execOp_put (ops := ops) oi hsi { a with defers := d :: a.defers } oj.dst undef h3
      have e2 := wanted_put (ops := ops) oi { a with defers := d :: a.defers } oj.dst undef h3
      exact ⟨e1, e2⟩
    case enter f args => exact Calls.mono h (fun e w'' he => by cases e <;> simp only [] at he ⊢ <;> first | exact ⟨keep _, he⟩ | exact he)
    case row r args => exact Rows.mono h (fun v w'' he => ⟨keep v, he⟩)
  | halt x w' => cases x <;> simp only [Oper.upon] at h

theorem wp_out {o : Oper} {K : Act → World → Prop} {a : Act} {w : World} (h : o.wp P a w K (fun _ _ _ => False)) : ∃ a' w', K a' w' := by
  unfold Oper.wp at *
  generalize (execOp a.eval o).run P w = r at *
  cases r with
  | ok n w' =>
    cases n <;> simp only [Oper.upon] at h
    case value v => exact ⟨_, _, h⟩
    case skip => exact ⟨_, _, h⟩
    case defer d => exact ⟨_, _, h⟩
    case enter f args =>
      obtain ⟨e, w'', fr, he, _⟩ := h []
      cases e with
      | returned v => exact ⟨_, _, he⟩
      | panicked c => exact he.elim
      | outgrown => simp [LetsOut] at he
    case row r args =>
      obtain ⟨v, w'', he, _⟩ := h (Frame.ofRow P r args .normal) []
      exact ⟨_, _, he⟩
  | halt x w' => cases x <;> simp only [Oper.upon] at h

/-- operation o leaves x, in every world of the class -/
def YD (P : Program) (ops : Array Oper) (D : World → Prop) (o : Oper) (x : Value) (a : Act) : Prop :=
  (Region.wanted o (yielded ops a.tmps) = true ∧ plainB o = true ∧ PureD P D o a x) ∨ (Region.wanted o (yielded ops a.tmps) = false ∧ x = undef)

theorem YD.same {o : Oper} {x : Value} {a a' : Act} (h : YD P ops D o x a) (s : SameFor ops o a a') : YD P ops D o x a' := by
  obtain ⟨s1, s2⟩ := s
  unfold YD at *
  rw [s2]
  exact h.imp (fun ⟨h1, h2, h3⟩ => ⟨h1, h2, h3.same s1⟩) id
theorem SameFor.symm {o : Oper} {a a' : Act} (s : SameFor ops o a a') : SameFor ops o a' a := ⟨s.1.symm, s.2.symm⟩
theorem YD.one {o : Oper} {x y : Value} {a : Act} (h : YD P ops D o x a) (k : YD P ops D o y a) {w : World} (hw : D w) : x = y := by
  rcases h with ⟨h1, _, h3⟩ | ⟨h1, h2⟩ <;> rcases k with ⟨k1, _, k3⟩ | ⟨k1, k2⟩
  · exact h3.one k3 hw
  · rw [h1] at k1; cases k1
  · rw [h1] at k1; cases k1
  · rw [h2, k2]
theorem YD.gOp {i : Nat} {o : Oper} {x : Value} {a : Act} (hi : ops[i]? = some o) (h : YD P ops D o x a) {K : Act → World → Prop} {w : World} (hk : K (a.put o.dst x) w) : gOp P ops D i K a w := by
  unfold Go.Proofs.Ytloeabdohgdmkaa.gOp
  simp only [hi]
  rcases h with ⟨h1, h2, h3⟩ | ⟨h1, rfl⟩
  · simp only [h1, h2, if_true]; exact ⟨x, h3, hk⟩
  · simp only [h1, Bool.false_eq_true, if_false]; exact hk
theorem yd_of_gOp {i : Nat} {o : Oper} {a : Act} {K : Act → World → Prop} {w : World} (hi : ops[i]? = some o) (hp : plainB o = true) (h : gOp P ops D i K a w) : ∃ x, YD P ops D o x a ∧ K (a.put o.dst x) w := by
  unfold gOp at h
  simp only [hi] at h
  by_cases hw : Region.wanted o (yielded ops a.tmps) = true
  · simp only [hw, hp, if_true] at h
    obtain ⟨x, h1, h2⟩ := h
    exact ⟨x, .inl ⟨hw, hp, h1⟩, h2⟩
  · simp only [hw] at h
    exact ⟨undef, .inr ⟨by simpa using hw, rfl⟩, h⟩

theorem gOp_put {j : Nat} {oi oj : Oper} {x : Value} (hj : ops[j]? = some oj) (h1 : ∀ d, oi.dst = some d → d ∉ oj.looksAt ops) (h2 : ∀ d, oi.dst = some d → oj.dst ≠ some d) (hsj : ∀ cs b, oj.op ≠ .select cs b) {K : Act → World → Prop} {a : Act} {w : World} :
    gOp P ops D j K (a.put oi.dst x) w ↔ gOp P ops D j (fun a' w' => K (a'.put oi.dst x) w') a w := by
  unfold gOp
  simp only [hj]
  rw [wanted_put oj a oi.dst x h1]
  split
  · split
    · constructor
      · rintro ⟨y, y1, y2⟩; exact ⟨y, y1.same (execOp_put oj hsj a oi.dst x h1).symm, by rw [← Act.put_comm a x y h2]; exact y2⟩
      · rintro ⟨y, y1, y2⟩; exact ⟨y, y1.same (execOp_put oj hsj a oi.dst x h1), by rw [Act.put_comm a x y h2]; exact y2⟩
    · exact wp_put h1 h2 hsj
  · rw [Act.put_comm a x undef h2]
theorem gOp_same {j : Nat} {oi oj : Oper} (hj : ops[j]? = some oj) (h3 : ∀ d, oj.dst = some d → d ∉ oi.looksAt ops) (hsi : ∀ cs b, oi.op ≠ .select cs b) {K : Act → World → Prop} {a : Act} {w : World} (h : gOp P ops D j K a w) :
    gOp P ops D j (fun a' w' => SameFor ops oi a a' ∧ K a' w') a w := by
  have keep : ∀ v, SameFor ops oi a (a.put oj.dst v) := fun v => ⟨execOp_put oi hsi a oj.dst v h3, wanted_put oi a oj.dst v h3⟩
  unfold gOp at *
  simp only [hj] at *
  split
  · rename_i hw
    simp only [hw, if_true] at h
    split
    · rename_i hp; simp only [hp, if_true] at h; obtain ⟨y, y1, y2⟩ := h; exact ⟨y, y1, keep y, y2⟩
    · rename_i hp; simp only [hp] at h; exact wp_same h3 hsi h
  · rename_i hw; simp only [hw] at h; exact ⟨keep _, h⟩
theorem gOp_out {j : Nat} {oj : Oper} (hj : ops[j]? = some oj) {K : Act → World → Prop} {a : Act} {w : World} (h : gOp P ops D j K a w) : ∃ a' w', K a' w' := by
  unfold gOp at h
  simp only [hj] at h
  split at h
  · split at h
    · obtain ⟨y, y1, y2⟩ := h; exact ⟨_, _, y2⟩
    · exact wp_out h
  · exact ⟨_, _, h⟩

theorem pure_first {Q : Exit → Act → World → Prop} {i : Nat} {oi : Oper} {x : Value} (hi : ops[i]? = some oi) (hsel : ∀ (j : Nat) (o : Oper) cs b, ops[j]? = some o → o.op ≠ .select cs b) :
    ∀ (fuel : Nat) (listed : Array Bool) (a : Act) (w : World),
      (∀ j oj, ops[j]? = some oj → j ≠ i → listed.getD j true = false → (∀ e ∈ oj.after, Region.binds .any e = true → e.on ≠ i) → oi.apart ops oj = true) →
      i ∈ Region.ready .any ops listed → YD P ops D oi x a → wpAnyD P ops D Q fuel (listed.setIfInBounds i true) (a.put oi.dst x) w → wpAnyD P ops D Q (fuel + 1) listed a w := by
  intro fuel
  induction fuel with
  | zero =>
    intro listed a w _ hr hy H
    refine ⟨wpAnyD_in H, fun h => (by rw [h] at hr; cases hr), fun j hj => ?_⟩
    by_cases hji : j = i
    · subst hji; exact hy.gOp hi H
    · have := ready_mono hj hji
      rw [H.2.1] at this
      cases this
  | succ fuel ih =>
    intro listed a w hfree hr hy H
    refine ⟨wpAnyD_in H, fun h => (by rw [h] at hr; cases hr), fun j hj => ?_⟩
    by_cases hji : j = i
    · subst hji; exact hy.gOp hi H
    · have g1 := H.2.2 j (ready_mono hj hji)
      obtain ⟨hjun, oj, hoj, hall⟩ := mem_ready.1 hj
      have hnot : ∀ e ∈ oj.after, Region.binds .any e = true → e.on ≠ i := fun e he hb heq => by
        have h1 := hall e he hb
        have h0 := (mem_ready.1 hr).1
        rw [heq] at h1
        rcases Nat.lt_or_ge i listed.size with h' | h'
        · simp [h'] at h0 h1; rw [h0] at h1; cases h1
        · simp [Array.getElem?_eq_none h'] at h1
      obtain ⟨p1, p2, p3⟩ := Oper.apart_spec (hfree j oj hoj hji hjun hnot)
      have g2 := gOp_same hoj p3 (fun cs b => hsel i oi cs b hi) ((gOp_put hoj p1 p2 (fun cs b => hsel j oj cs b hoj)).1 g1)
      refine gOp_mono (fun a' w' ⟨s, h3⟩ => ih (listed.setIfInBounds j true) a' w' (fun k ok hk hki hun hno => ?_) (ready_mono hr (Ne.symm hji)) (hy.same s) ?_) g2
      · refine hfree k ok hk hki ?_ hno
        by_cases hjk : j = k
        · subst hjk; exact hjun
        · rw [getD_set_ne true hjk] at hun; exact hun
      · rw [Array.setIfInBounds_comm _ _ hji]; exact h3

/-- what is listed has what it waits for ahead of it -/
def Closed (ops : Array Oper) (listed : Array Bool) : Prop := ∀ j oj, ops[j]? = some oj → listed.getD j false = true → ∀ e ∈ oj.after, Region.binds .any e = true → listed.getD e.on false = true

theorem getD_set_or {listed : Array Bool} {i j : Nat} (h : (listed.setIfInBounds i true).getD j false = true) : j = i ∨ listed.getD j false = true := by
  by_cases hij : i = j
  · exact .inl hij.symm
  · rw [getD_set_ne false hij] at h; exact .inr h
theorem getD_set_up {listed : Array Bool} {i j : Nat} (h : listed.getD j false = true) : (listed.setIfInBounds i true).getD j false = true := by
  by_cases hij : i = j
  · subst hij
    rcases Nat.lt_or_ge i listed.size with h' | h'
    · simp [h']
    · simp [Array.getElem?_eq_none h'] at h
  · rw [getD_set_ne false hij]; exact h
theorem closed_set {listed : Array Bool} (h : Closed ops listed) {i : Nat} (hr : i ∈ Region.ready .any ops listed) : Closed ops (listed.setIfInBounds i true) := by
  intro j oj hj hl e he hb
  rcases getD_set_or hl with rfl | hl
  · obtain ⟨_, o, ho, hall⟩ := mem_ready.1 hr
    rw [hj] at ho; cases ho
    exact getD_set_up (hall e he hb)
  · exact getD_set_up (h j oj hj hl e he hb)

/-- j waits for k, by whatever way -/
def Dep (ops : Array Oper) (j k : Nat) : Prop := ∀ listed, Closed ops listed → listed.getD j false = true → listed.getD k false = true
theorem Dep.trans {i j k : Nat} (h : Dep ops i j) (h' : Dep ops j k) : Dep ops i k := fun l hc hi => h' l hc (h l hc hi)
def waitsT (ops : Array Oper) : Nat → Nat → Nat → Bool
  | 0, _, _ => false
  | n + 1, j, k => match ops[j]? with
    | some o => o.after.any fun e => Region.binds .any e && (e.on == k || waitsT ops n e.on k)
    | none => false
theorem dep_of : ∀ (n j k : Nat), waitsT ops n j k = true → Dep ops j k
  | 0, _, _, h => by cases h
  | n + 1, j, k, h => by
    unfold waitsT at h
    cases ho : ops[j]? with
    | none => simp only [ho] at h; cases h
    | some o =>
      simp only [ho, Array.any_eq_true', Bool.and_eq_true, Bool.or_eq_true, beq_iff_eq] at h
      obtain ⟨e, he, hb, h1⟩ := h
      intro l hc hl
      have h2 := hc j o ho hl e he hb
      rcases h1 with rfl | h1
      · exact h2
      · exact dep_of n _ _ h1 l hc h2
theorem dep_ready {listed : Array Bool} (hc : Closed ops listed) {j k : Nat} (hr : j ∈ Region.ready .any ops listed) (hd : Dep ops j k) (hjk : j ≠ k) : listed.getD k false = true := by
  have hj : (listed.setIfInBounds j true).getD j false = true := by
    have h0 := (mem_ready.1 hr).1
    rcases Nat.lt_or_ge j listed.size with h' | h'
    · simp [h']
    · simp [Array.getElem?_eq_none h'] at h0
  rcases getD_set_or (hd _ (closed_set hc hr) hj) with h | h
  · exact absurd h.symm hjk
  · exact h

def plainAt (ops : Array Oper) (j : Nat) : Bool := match ops[j]? with
  | some o => plainB o
  | none => true
def linkB (ops : Array Oper) : List Nat → Bool
  | c :: d :: l => waitsT ops 6 d c && linkB ops (d :: l)
  | _ => true
/-- the operations that enter something wait for one another -/
def chainB (ops : Array Oper) : Bool := linkB ops ((List.range ops.size).filter fun k => !plainAt ops k)
theorem link_dep : ∀ (l : List Nat) (c : Nat), linkB ops (c :: l) = true → ∀ d ∈ l, Dep ops d c
  | [], _, _, d, hd => by cases hd
  | x :: l, c, h, d, hd => by
    simp only [linkB, Bool.and_eq_true] at h
    have h1 := dep_of 6 x c h.1
    rcases List.mem_cons.1 hd with rfl | hd
    · exact h1
    · exact (link_dep l x h.2 d hd).trans h1
theorem link_tail {l : List Nat} {c : Nat} (h : linkB ops (c :: l) = true) : linkB ops l = true := by
  cases l with
  | nil => rfl
  | cons x l => simp only [linkB, Bool.and_eq_true] at h; exact h.2
theorem link_all : ∀ (l : List Nat), linkB ops l = true → ∀ j ∈ l, ∀ k ∈ l, j ≠ k → Dep ops j k ∨ Dep ops k j
  | [], _, j, hj, _, _, _ => by cases hj
  | x :: l, h, j, hj, k, hk, hn => by
    rcases List.mem_cons.1 hj with rfl | hj' <;> rcases List.mem_cons.1 hk with rfl | hk'
    · exact absurd rfl hn
    · exact .inr (link_dep l _ h k hk')
    · exact .inl (link_dep l _ h j hj')
    · exact link_all l (link_tail h) j hj' k hk' hn
theorem chain_spec (h : chainB ops = true) {j k : Nat} {oj ok : Oper} (hj : ops[j]? = some oj) (hk : ops[k]? = some ok) (hjk : j ≠ k) (pk : plainB ok = false) (pj : plainB oj = false) : Dep ops j k ∨ Dep ops k j := by
  have lt : ∀ {i : Nat} {o : Oper}, ops[i]? = some o → i < ops.size := fun {i} {o} hi => by
    rcases Nat.lt_or_ge i ops.size with h | h
    · exact h
    · simp [Array.getElem?_eq_none h] at hi
  refine link_all _ h j ?_ k ?_ hjk
  · exact List.mem_filter.2 ⟨List.mem_range.2 (lt hj), by simp [plainAt, hj, pj]⟩
  · exact List.mem_filter.2 ⟨List.mem_range.2 (lt hk), by simp [plainAt, hk, pk]⟩

theorem chain_first {Q : Exit → Act → World → Prop} {k : Nat} {ok : Oper} (hk : ops[k]? = some ok) (hsel : ∀ (j : Nat) (o : Oper) cs b, ops[j]? = some o → o.op ≠ .select cs b) (hch : chainB ops = true) (pk : plainB ok = false) :
    ∀ (fuel : Nat) (listed : Array Bool) (a : Act) (w : World), D w → Closed ops listed →
      (∀ j oj, ops[j]? = some oj → j ≠ k → listed.getD j true = false → (∀ e ∈ oj.after, Region.binds .any e = true → e.on ≠ k) → ok.apart ops oj = true) →
      k ∈ Region.ready .any ops listed → gOp P ops D k (wpAnyD P ops D Q fuel (listed.setIfInBounds k true)) a w → wpAnyD P ops D Q (fuel + 1) listed a w := by
  intro fuel
  induction fuel with
  | zero =>
    intro listed a w hw _ _ hr H
    refine ⟨hw, fun h => (by rw [h] at hr; cases hr), fun j hj => ?_⟩
    by_cases hji : j = k
    · subst hji; exact H
    · obtain ⟨a', w', h0⟩ := gOp_out hk H
      have := ready_mono hj hji
      rw [h0.2.1] at this
      cases this
  | succ fuel ih =>
    intro listed a w hw hcl hfree hr H
    refine ⟨hw, fun h => (by rw [h] at hr; cases hr), fun j hj => ?_⟩
    by_cases hji : j = k
    · subst hji; exact H
    · obtain ⟨hjun, oj, hoj, hall⟩ := mem_ready.1 hj
      have hnot : ∀ e ∈ oj.after, Region.binds .any e = true → e.on ≠ k := fun e he hb heq => by
        have h1 := hall e he hb
        have h0 := (mem_ready.1 hr).1
        rw [heq] at h1
        rcases Nat.lt_or_ge k listed.size with h' | h'
        · simp [h'] at h0 h1; rw [h0] at h1; cases h1
        · simp [Array.getElem?_eq_none h'] at h1
      have hap := hfree j oj hoj hji hjun hnot
      have hpl : plainB oj = true := by
        cases hpj : plainB oj with
        | true => rfl
        | false =>
          exfalso
          have un : ∀ {m : Nat}, m ∈ Region.ready .any ops listed → listed.getD m false = true → False := fun {m} hm h1 => by
            have h0 := (mem_ready.1 hm).1
            rcases Nat.lt_or_ge m listed.size with h' | h'
            · simp [h'] at h0 h1; rw [h0] at h1; cases h1
            · simp [Array.getElem?_eq_none h'] at h1
          rcases chain_spec hch hoj hk hji pk hpj with hd | hd
          · exact un hr (dep_ready hcl hj hd hji)
          · exact un hj (dep_ready hcl hr hd (Ne.symm hji))
      obtain ⟨p1, p2, p3⟩ := Oper.apart_spec hap
      have q2 : ∀ d, oj.dst = some d → ok.dst ≠ some d := fun d hd hd' => p2 d hd' hd
      have sj := fun cs b => hsel j oj cs b hoj
      have sk := fun cs b => hsel k ok cs b hk
      have H2 := gOp_same hk p1 sj H
      have H3 : gOp P ops D k (fun a' w' => D w' ∧ SameFor ops oj a a' ∧ ∃ y, YD P ops D oj y a' ∧ wpAnyD P ops D Q fuel ((listed.setIfInBounds k true).setIfInBounds j true) (a'.put oj.dst y) w') a w :=
        gOp_mono (fun a' w' ⟨s, h⟩ => ⟨h.1, s, yd_of_gOp hoj hpl (h.2.2 j (ready_mono hj hji))⟩) H2
      obtain ⟨a0, w0, _, s0, y, hy0, _⟩ := gOp_out hk H3
      have hy := hy0.same s0.symm
      refine hy.gOp hoj (ih (listed.setIfInBounds j true) (a.put oj.dst y) w hw (closed_set hcl hj) (fun m om hm hmk hun hno => ?_) (ready_mono hr (Ne.symm hji)) ?_)
      · refine hfree m om hm hmk ?_ hno
        by_cases hjm : j = m
        · subst hjm; exact hjun
        · rw [getD_set_ne true hjm] at hun; exact hun
      · refine (gOp_put hk p3 q2 sk).2 (gOp_mono (fun a' w' ⟨_, s, y', hy', h⟩ => ?_) H3)
        obtain rfl := hy.one (hy'.same s.symm) hw
        rw [Array.setIfInBounds_comm _ _ hji]; exact h

/-- the walk, in the order of the text -/
def wpG (P : Program) (ops : Array Oper) (D : World → Prop) (Q : Exit → Act → World → Prop) : List Oper → Act → World → Prop
  | [], a, w => D w ∧ Q .normal a w
  | o :: l, a, w => if Region.wanted o (yielded ops a.tmps) then (if plainB o then ∃ x, PureD P D o a x ∧ wpG P ops D Q l (a.put o.dst x) w else D w ∧ o.wp P a w (wpG P ops D Q l) (fun _ _ _ => False)) else wpG P ops D Q l (a.put o.dst undef) w

theorem wpAnyD_lex {Q : Exit → Act → World → Prop} (hs : Region.noSelect ops = true) (hc : chainB ops = true) : ∀ (l : List Oper) (k : Nat) (listed : Array Bool) (a : Act) (w : World), (∀ j, l[j]? = ops[k + j]?) → Closed ops listed →
    Region.lexFrom .any ops l.length k listed = true → wpG P ops D Q l a w → wpAnyD P ops D Q l.length listed a w
  | [], _, _, _, _, _, _, hB, h => ⟨h.1, by simpa [Region.lexFrom] using hB, h.2⟩
  | o :: l, k, listed, a, w, hl, hcl, hB, h => by
    have h0 : ops[k]? = some o := by simpa using (hl 0).symm
    simp only [List.length_cons, Region.lexFrom, Bool.and_eq_true] at hB
    obtain ⟨⟨hr, hf⟩, hB'⟩ := hB
    have hr' : k ∈ Region.ready .any ops listed := by simpa using hr
    have next := fun a' w' => wpAnyD_lex (Q := Q) hs hc l (k + 1) (listed.setIfInBounds k true) a' w' (fun j => by have := hl (j + 1); simpa [Nat.add_assoc, Nat.add_comm 1 j] using this) (closed_set hcl hr') hB'
    unfold wpG at h
    by_cases hw : Region.wanted o (yielded ops a.tmps) = true
    · simp only [hw, if_true] at h
      by_cases hp : plainB o = true
      · simp only [hp, if_true] at h
        obtain ⟨x, h1, h2⟩ := h
        exact pure_first h0 (Region.noSelect_spec hs) l.length listed a w (Region.free_spec h0 hf) hr' (.inl ⟨hw, hp, h1⟩) (next _ _ h2)
      · simp only [hp] at h
        have hp' : plainB o = false := by simpa using hp
        refine chain_first h0 (Region.noSelect_spec hs) hc hp' l.length listed a w h.1 hcl (Region.free_spec h0 hf) hr' ?_
        · unfold gOp
          simp only [h0, hw, if_true, hp]
          exact Oper.wp_mono (fun a' w' => next a' w') h.2
    · simp only [hw] at h
      exact pure_first h0 (Region.noSelect_spec hs) l.length listed a w (Region.free_spec h0 hf) hr' (.inr ⟨by simpa using hw, rfl⟩) (next _ _ h)

theorem wpG_nil {Q : Exit → Act → World → Prop} {a : Act} {w : World} (hD : D w) (h : Q .normal a w) : wpG P ops D Q [] a w := ⟨hD, h⟩
theorem wpG_plain {Q : Exit → Act → World → Prop} {a : Act} {w : World} {o : Oper} {l : List Oper} (hw : Region.wanted o (yielded ops a.tmps) = true) (hp : plainB o = true) (h : ∀ K : Act → Prop, (∀ a', wpG P ops D Q l a' w → K a') → o.quiet P a D K) : wpG P ops D Q (o :: l) a w := by
  unfold wpG
  simp only [hw, hp, if_true]
  exact PureD.of hp (h _ fun _ h => h)
theorem wpG_call {Q : Exit → Act → World → Prop} {a : Act} {w : World} {o : Oper} {l : List Oper} (hw : Region.wanted o (yielded ops a.tmps) = true) (hp : plainB o = false) (hD : D w) (h : ∀ K : Act → World → Prop, (∀ a' w', wpG P ops D Q l a' w' → K a' w') → o.wp P a w K (fun _ _ _ => False)) : wpG P ops D Q (o :: l) a w := by
  unfold wpG
  simp only [hw, hp, if_true, Bool.false_eq_true, if_false]
  exact ⟨hD, h _ fun _ _ h => h⟩
end

end Go.Proofs.Ytloeabdohgdmkaa
