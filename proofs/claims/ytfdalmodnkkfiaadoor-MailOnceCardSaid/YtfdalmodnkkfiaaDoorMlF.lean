/- Messages cut off: a reader that read all reads the same where more stands behind. -/
import Derived.Test.YtfdalmodnkkfiaaDoorMlM
namespace Go.Proofs.YtfdalmodnkkfiaaDoor
open Go.RowKit
set_option linter.unusedVariables false
set_option linter.unusedSimpArgs false

structure Fr {α : Type} (f : Rw → α × Rw) : Prop where
  bad : ∀ xs a, (f ((xs, true), a)).2.1.2 = true
  more : ∀ xs a ys zs, (f ((xs, false), a)).2.1 = (ys, false) → f ((xs ++ zs, false), a) = ((f ((xs, false), a)).1, ((ys ++ zs, false), (f ((xs, false), a)).2.2))
def bd {α β : Type} (f : Rw → α × Rw) (g : α → Rw → β × Rw) : Rw → β × Rw := fun s => g (f s).1 (f s).2
theorem Fr.bd {α β : Type} {f : Rw → α × Rw} {g : α → Rw → β × Rw} (hf : Fr f) (hg : ∀ a, Fr (g a)) : Fr (bd f g) := by
  refine ⟨fun xs a => ?_, fun xs a ys zs h => ?_⟩
  · have h1 := hf.bad xs a
    unfold Go.Proofs.YtfdalmodnkkfiaaDoor.bd
    obtain ⟨v, ⟨⟨u, b⟩, c⟩, hv⟩ : ∃ v s, f ((xs, true), a) = (v, s) := ⟨_, _, rfl⟩
    rw [hv] at h1 ⊢
    simp only [] at h1
    subst h1
    exact (hg v).bad u c
  · unfold Go.Proofs.YtfdalmodnkkfiaaDoor.bd at h ⊢
    obtain ⟨v, ⟨⟨u, b⟩, c⟩, hv⟩ : ∃ v s, f ((xs, false), a) = (v, s) := ⟨_, _, rfl⟩
    rw [hv] at h ⊢
    simp only [] at h ⊢
    cases b with
    | true =>
      have h1 := (hg v).bad u c
      rw [h] at h1
      cases h1
    | false =>
      have h1 := hf.more xs a u zs (by rw [hv])
      rw [hv] at h1
      rw [h1]
      exact (hg v).more u c ys zs h
theorem Fr.ret {α : Type} (v : α) : Fr (fun s : Rw => (v, s)) := ⟨fun _ _ => rfl, fun xs a ys zs h => by simp at h; simp [h]⟩
theorem Fr.wr {α : Type} (v : α) (b : Bool) : Fr (fun s : Rw => (v, (s.1, s.2 || b))) := ⟨fun _ _ => rfl, fun xs a ys zs h => by simp at h; simp [h]⟩
theorem Fr.tk {α : Type} (n : Nat) (g : List Int → α) : Fr (fun s : Rw => (g (tk s.1 n).1, ((tk s.1 n).2, s.2))) := by
  refine ⟨fun xs a => ?_, fun xs a ys zs h => ?_⟩
  · show (Go.Proofs.YtfdalmodnkkfiaaDoor.tk (xs, true) n).2.2 = true
    rw [tk_bad (.inl rfl)]
  · simp only [] at h ⊢
    by_cases hl : xs.length < n
    · rw [tk_bad (.inr hl)] at h; simp at h
    · have e1 : Go.Proofs.YtfdalmodnkkfiaaDoor.tk (xs, false) n = (xs.take n, (xs.drop n, false)) := tk_ok rfl (by simp only []; omega)
      have e2 : Go.Proofs.YtfdalmodnkkfiaaDoor.tk (xs ++ zs, false) n = ((xs ++ zs).take n, ((xs ++ zs).drop n, false)) := tk_ok rfl (by simp; omega)
      rw [e1] at h ⊢
      rw [e2]
      simp only [Prod.mk.injEq, and_true] at h
      subst h
      simp only []
      rw [List.take_append_of_le_length (by omega), List.drop_append_of_le_length (by omega)]
theorem fr_B : Fr rB := Fr.tk 1 (fun l => l.headD 0)
theorem fr_I : Fr rI := Fr.tk 8 rd
theorem fr_T : Fr rT := Fr.bd (f := rB) (g := fun n s => (strOfNums (tk s.1 n.toNat).1, ((tk s.1 n.toNat).2, s.2))) fr_B fun n => Fr.tk n.toNat strOfNums
theorem fr_K : Fr rK := Fr.bd (f := rT) (g := fun a s => ((a, (rT s).1), (rT s).2)) fr_T fun a => Fr.bd (f := rT) (g := fun b s => ((a, b), s)) fr_T fun b => Fr.ret _
theorem fr_F : Fr rF := Fr.bd (f := rB) (g := fun n s => (decide (n = 1), (s.1, s.2 || decide (1 < n)))) fr_B fun n => Fr.wr _ _
theorem fr_S : Fr rS := by
  have h : Fr (bd rI (fun n s => (n % 4294967296, (s.1, s.2 || (decide (n < 0) || decide (4294967295 < n)))))) := Fr.bd fr_I fun n => Fr.wr _ _
  have e : rS = bd rI (fun n s => (n % 4294967296, (s.1, s.2 || (decide (n < 0) || decide (4294967295 < n))))) := by
    funext s
    simp only [rS, bd, Bool.or_assoc]
  rw [e]; exact h
theorem fr_C : Fr rC :=
  Fr.bd (f := rK) (g := fun k s => let st := rB s; let ov := rB st.2; let l := rI ov.2; let t := rI l.2; let nd := rB t.2; let n := rI nd.2; let g := rF n.2; ((⟨k.1, k.2, st.1, ov.1, l.1, t.1, nd.1, n.1, g.1⟩ : Cd), g.2)) fr_K fun k =>
  Fr.bd (f := rB) (g := fun st s => let ov := rB s; let l := rI ov.2; let t := rI l.2; let nd := rB t.2; let n := rI nd.2; let g := rF n.2; ((⟨k.1, k.2, st, ov.1, l.1, t.1, nd.1, n.1, g.1⟩ : Cd), g.2)) fr_B fun st =>
  Fr.bd (f := rB) (g := fun ov s => let l := rI s; let t := rI l.2; let nd := rB t.2; let n := rI nd.2; let g := rF n.2; ((⟨k.1, k.2, st, ov, l.1, t.1, nd.1, n.1, g.1⟩ : Cd), g.2)) fr_B fun ov =>
  Fr.bd (f := rI) (g := fun l s => let t := rI s; let nd := rB t.2; let n := rI nd.2; let g := rF n.2; ((⟨k.1, k.2, st, ov, l, t.1, nd.1, n.1, g.1⟩ : Cd), g.2)) fr_I fun l =>
  Fr.bd (f := rI) (g := fun t s => let nd := rB s; let n := rI nd.2; let g := rF n.2; ((⟨k.1, k.2, st, ov, l, t, nd.1, n.1, g.1⟩ : Cd), g.2)) fr_I fun t =>
  Fr.bd (f := rB) (g := fun nd s => let n := rI s; let g := rF n.2; ((⟨k.1, k.2, st, ov, l, t, nd, n.1, g.1⟩ : Cd), g.2)) fr_B fun nd =>
  Fr.bd (f := rI) (g := fun n s => let g := rF s; ((⟨k.1, k.2, st, ov, l, t, nd, n, g.1⟩ : Cd), g.2)) fr_I fun n =>
  Fr.bd (f := rF) (g := fun g s => ((⟨k.1, k.2, st, ov, l, t, nd, n, g⟩ : Cd), s)) fr_F fun g => Fr.ret _
theorem fr_many {α : Type} {f : Rw → α × Rw} (hf : Fr f) : ∀ n, Fr (rMany f n) := by
  intro n
  induction n with
  | zero => exact Fr.ret _
  | succ n ih => exact Fr.bd (f := f) (g := fun x s => (x :: (rMany f n s).1, (rMany f n s).2)) hf fun x => Fr.bd (f := rMany f n) (g := fun l s => (x :: l, s)) ih fun l => Fr.ret _
theorem fr_Cs : Fr rCs := Fr.bd (f := rB) (g := fun n s => rMany rC n.toNat s) fr_B fun n => fr_many fr_C _
theorem fr_Ks : Fr rKs := Fr.bd (f := rB) (g := fun n s => rMany rK n.toNat s) fr_B fun n => fr_many fr_K _
theorem fr_Head (m : Mg) : Fr (rHead m) :=
  Fr.bd (f := rI) (g := fun t s => let o := rB s; let k := rK o.2; (({ m with tag := t, op := o.1, k := k.1 } : Mg), k.2)) fr_I fun t =>
  Fr.bd (f := rB) (g := fun o s => let k := rK s; (({ m with tag := t, op := o, k := k.1 } : Mg), k.2)) fr_B fun o =>
  Fr.bd (f := rK) (g := fun k s => (({ m with tag := t, op := o, k := k } : Mg), s)) fr_K fun k => Fr.ret _
def rM1 (m : Mg) (s : Rw) : Mg × Rw :=
  let h := rHead m s; let n := rI h.2; let st := rB n.2; let sq := rI st.2
  ({ h.1 with n := n.1, st := st.1, sq := sq.1 }, sq.2)
def rM2 (m : Mg) (s : Rw) : Mg × Rw :=
  let h := rHead m s; let c := rB h.2; let f := rF c.2; let sq := rI f.2; let su := rS sq.2; let cs := rCs su.2
  ({ h.1 with cod := c.1, fu := f.1, sq := sq.1, su := su.1, cs := cs.1 }, cs.2)
theorem fr_M1 (m : Mg) : Fr (rM1 m) :=
  Fr.bd (f := rHead m) (g := fun h s => let n := rI s; let st := rB n.2; let sq := rI st.2; (({ h with n := n.1, st := st.1, sq := sq.1 } : Mg), sq.2)) (fr_Head m) fun h =>
  Fr.bd (f := rI) (g := fun n s => let st := rB s; let sq := rI st.2; (({ h with n := n, st := st.1, sq := sq.1 } : Mg), sq.2)) fr_I fun n =>
  Fr.bd (f := rB) (g := fun st s => let sq := rI s; (({ h with n := n, st := st, sq := sq.1 } : Mg), sq.2)) fr_B fun st =>
  Fr.bd (f := rI) (g := fun sq s => (({ h with n := n, st := st, sq := sq } : Mg), s)) fr_I fun sq => Fr.ret _
theorem fr_M2 (m : Mg) : Fr (rM2 m) :=
  Fr.bd (f := rHead m) (g := fun h s => let c := rB s; let f := rF c.2; let sq := rI f.2; let su := rS sq.2; let cs := rCs su.2; (({ h with cod := c.1, fu := f.1, sq := sq.1, su := su.1, cs := cs.1 } : Mg), cs.2)) (fr_Head m) fun h =>
  Fr.bd (f := rB) (g := fun c s => let f := rF s; let sq := rI f.2; let su := rS sq.2; let cs := rCs su.2; (({ h with cod := c, fu := f.1, sq := sq.1, su := su.1, cs := cs.1 } : Mg), cs.2)) fr_B fun c =>
  Fr.bd (f := rF) (g := fun f s => let sq := rI s; let su := rS sq.2; let cs := rCs su.2; (({ h with cod := c, fu := f, sq := sq.1, su := su.1, cs := cs.1 } : Mg), cs.2)) fr_F fun f =>
  Fr.bd (f := rI) (g := fun sq s => let su := rS s; let cs := rCs su.2; (({ h with cod := c, fu := f, sq := sq, su := su.1, cs := cs.1 } : Mg), cs.2)) fr_I fun sq =>
  Fr.bd (f := rS) (g := fun su s => let cs := rCs s; (({ h with cod := c, fu := f, sq := sq, su := su, cs := cs.1 } : Mg), cs.2)) fr_S fun su =>
  Fr.bd (f := rCs) (g := fun cs s => (({ h with cod := c, fu := f, sq := sq, su := su, cs := cs } : Mg), s)) fr_Cs fun cs => Fr.ret _
def rMk (kd : Int) (s : Rw) : Mg × Rw :=
  if kd = 1 then rM1 { Mg.zero with kd := kd } s
  else if kd = 2 then rM2 { Mg.zero with kd := kd } s
  else if kd = 3 ∨ kd = 4 then ({ Mg.zero with kd := kd, cs := (rCs s).1 }, (rCs s).2)
  else if kd = 5 then ({ Mg.zero with kd := kd, ks := (rKs s).1 }, (rKs s).2)
  else ({ Mg.zero with kd := kd }, s)
theorem fr_Mk (kd : Int) : Fr (rMk kd) := by
  unfold rMk
  by_cases c1 : kd = 1
  · simp only [c1, if_true]; exact fr_M1 _
  by_cases c2 : kd = 2
  · simp only [c1, c2, if_true, if_false]; exact fr_M2 _
  by_cases c3 : kd = 3 ∨ kd = 4
  · simp only [c1, c2, c3, if_true, if_false]; exact Fr.bd (f := rCs) (g := fun l s => ({ Mg.zero with kd := kd, cs := l }, s)) fr_Cs fun l => Fr.ret _
  by_cases c5 : kd = 5
  · simp only [c1, c2, c3, c5, if_true, if_false]; exact Fr.bd (f := rKs) (g := fun l s => ({ Mg.zero with kd := 5, ks := l }, s)) fr_Ks fun l => Fr.ret _
  · simp only [c1, c2, c3, c5, if_false]; exact Fr.ret _
theorem fr_M : Fr rM := Fr.bd (f := rB) (g := rMk) fr_B fr_Mk
/-- what is written is read; cut off, or with a byte behind it, it is not -/
theorem rM_all (m : Mg) (h : MgW m) : rM ((mgB m, false), false) = (m, (([], false), false)) := by
  have := Tk.mg m h []
  rwa [List.append_nil] at this
theorem rM_more (m : Mg) (h : MgW m) (x : Int) : rOk (rM ((mgB m ++ [x], false), false)).2 = false := by
  rw [Tk.mg m h [x]]; rfl
theorem rM_cut (m : Mg) (h : MgW m) (c : Nat) (hc : c < (mgB m).length) : rOk (rM (((mgB m).take c, false), false)).2 = false := by
  cases hb : rOk (rM (((mgB m).take c, false), false)).2 with
  | false => rfl
  | true =>
    exfalso
    obtain ⟨v, ⟨⟨ys, b⟩, wr⟩, hv⟩ : ∃ v s, rM (((mgB m).take c, false), false) = (v, s) := ⟨_, _, rfl⟩
    rw [hv] at hb
    simp only [rOk, dn', Bool.and_eq_true, Bool.not_eq_true', decide_eq_true_eq] at hb
    obtain ⟨⟨rfl, h2⟩, h3⟩ := hb
    obtain rfl := List.eq_nil_of_length_eq_zero h2
    have h4 := fr_M.more ((mgB m).take c) false [] ((mgB m).drop c) (by rw [hv])
    rw [List.take_append_drop, rM_all m h, hv] at h4
    simp only [List.nil_append, Prod.mk.injEq] at h4
    have h5 := congrArg List.length h4.2.1.1
    simp at h5
    omega
theorem mgB_inj {a b : Mg} (ha : MgW a) (hb : MgW b) (h : mgB a = mgB b) : a = b := by
  have h1 := rM_all a ha
  rw [h, rM_all b hb] at h1
  exact (congrArg Prod.fst h1).symm
end Go.Proofs.YtfdalmodnkkfiaaDoor
