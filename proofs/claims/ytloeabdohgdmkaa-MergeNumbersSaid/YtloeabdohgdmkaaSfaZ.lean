/- A drawn region by Inv, told shortly: what its slots hold, as ONE list of facts; one new block. No word of the program. -/
import Derived.Test.YtloeabdohgdmkaaBaZ
namespace Go.Proofs.Ytloeabdohgdmkaa
open Go.RowKit
set_option linter.unusedVariables false

/-- slots: (the operation that fills it, what it holds, what it comes to) -/
def SF (l : List (Nat × Value × Value)) (d : Nat → Bool) : Prop := ∀ (k i : Nat) (u v : Value), l[k]? = some (i, u, v) → d i = true → u = v
theorem SF.init (l : List (Nat × Value × Value)) : SF l (fun _ => false) := fun _ _ _ _ _ h => by cases h
theorem SF.get {l : List (Nat × Value × Value)} {d : Nat → Bool} (F : SF l d) (k : Nat) {i : Nat} {u v : Value} (hk : l[k]? = some (i, u, v)) (h : d i = true) : v = u := (F k i u v hk h).symm
/-- an operation that fills no slot of the list -/
theorem SF.same {l : List (Nat × Value × Value)} {d : Nat → Bool} {J : Nat} (F : SF l d) (hJ : (l.all fun p => p.1 != J) = true) : SF l (fun j => d j || j == J) := fun k i u v hk h => F k i u v hk (by
  have h1 := List.all_eq_true.1 hJ _ (List.mem_of_getElem? hk)
  have h2 : (i == J) = false := by simpa using h1
  simpa [h2] using h)
/-- operation J fills its slot, number k of the list -/
theorem SF.set {l : List (Nat × Value × Value)} {d : Nat → Bool} {J : Nat} (F : SF l d) (k : Nat) {u v : Value} (hk : l[k]? = some (J, u, v)) (hJ : ((l.eraseIdx k).all fun p => p.1 != J) = true) : SF (l.set k (J, v, v)) (fun j => d j || j == J) := fun m i u' v' hm h => by
  by_cases hmk : m = k
  · subst hmk
    rw [List.getElem?_set_self (List.getElem?_eq_some_iff.1 hk).1] at hm
    cases hm
    rfl
  · rw [List.getElem?_set_ne (fun e => hmk e.symm)] at hm
    refine F m i u' v' hm ?_
    have h1 := List.all_eq_true.1 hJ (i, u', v') (List.mem_eraseIdx_iff_getElem?.2 ⟨m, hmk, hm⟩)
    have h2 : (i == J) = false := by simpa using h1
    simpa [h2] using h
/-- one new block: operation al makes it, operation st writes it whole -/
structure NB (W : World) (T : TypeId) (Z C : Array Value) (al st : Nat) (d : Nat → Bool) (x : World) (u : Value) : Prop where
  bl : Below W.heap.size W x
  k : d st = true → d al = true
  p : d al = true → ∃ b : Nat, u = .pointer (some ⟨b, 0, none⟩) ∧ W.heap.size ≤ b ∧ (d st = false → x.heap[b]? = some (.cells Z T (0, 0))) ∧ (d st = true → x.heap[b]? = some (.cells C T (0, 0)))
section
variable {W : World} {T : TypeId} {Z C : Array Value} {al st : Nat} {d : Nat → Bool} {x : World} {u : Value} {J : Nat}
theorem NB.init (u : Value) (h : Below W.heap.size W x) : NB W T Z C al st (fun _ => false) x u := ⟨h, fun h => (by cases h), fun h => by cases h⟩
theorem NB.same (B : NB W T Z C al st d x u) (h1 : (al == J) = false) (h2 : (st == J) = false) : NB W T Z C al st (fun j => d j || j == J) x u := by
  refine ⟨B.bl, ?_, ?_⟩
  · simpa [h1, h2] using B.k
  · simpa [h1, h2] using B.p
theorem NB.call (B : NB W T Z C al st d x u) (h1 : (al == J) = false) (h2 : (st == J) = false) {x1 : World} (hb : Below x.heap.size x x1) : NB W T Z C al st (fun j => d j || j == J) x1 u := by
  refine ⟨ext_trans B.bl hb, ?_, ?_⟩
  · simpa [h1, h2] using B.k
  · intro h
    have h' : d al = true := by simpa [h1] using h
    obtain ⟨b, e, hb', k1, k2⟩ := B.p h'
    refine ⟨b, e, hb', fun h => blk_ext hb (k1 (by simpa [h2] using h)), fun h => blk_ext hb (k2 (by simpa [h2] using h))⟩
theorem NB.alloc (B : NB W T Z C al st d x u) (hd : d al = false) (h2 : (st == al) = false) : NB W T Z C al st (fun j => d j || j == al) (x.alloc (.cells Z T)) (.pointer (some ⟨x.heap.size, 0, none⟩)) := by
  refine ⟨B.bl.alloc B.bl.size _, fun _ => by simp, fun _ => ⟨x.heap.size, rfl, B.bl.size, fun _ => blk_new _ _ _, fun h => ?_⟩⟩
  have h' : d st = true := by simpa [h2] using h
  have := B.k h'
  rw [hd] at this
  cases this
theorem NB.store {b : Nat} {y : World} (ha : d al = true) (hb : W.heap.size ≤ b) (hC : y.heap[b]? = some (.cells C T (0, 0))) (hy : Below W.heap.size W y) : NB W T Z C al st (fun j => d j || j == st) y (.pointer (some ⟨b, 0, none⟩)) :=
  ⟨hy, fun _ => by simp [ha], fun _ => ⟨b, rfl, hb, fun h => by simp at h, fun _ => hC⟩⟩
end
end Go.Proofs.Ytloeabdohgdmkaa

/- A drawn region in which a row is built by three appends (an empty row, a cut behind it, one new element, a cut behind that): one fact of the world. No word of the program. -/
namespace Go.Proofs.Ytloeabdohgdmkaa
open Go.RowKit
set_option linter.unusedVariables false

/-- i0: the empty row; i1: a cut put behind it; i2: a row of one; i3: that put behind; i4: a cut put behind that -/
structure AP (W : World) (T : TypeId) (k : Nat) (X : Array Value) (n1 n2 n3 : Nat) (c1 c2 c3 : List Value) (i0 i1 i2 i3 i4 : Nat) (d : Nat → Bool) (x : World) (u0 u1 u2 u3 u4 : Value) : Prop where
  bl : Below W.heap.size W x
  k1 : d i1 = true → d i0 = true
  k3 : d i3 = true → d i1 = true ∧ d i2 = true
  k4 : d i4 = true → d i3 = true
  e : d i0 = true → d i1 = false → ∃ b : Nat, u0 = .slice (some ⟨b, 0, none⟩) 0 0 ∧ x.heap[b]? = some (.cells #[] T (0, 0)) ∧ W.heap.size ≤ b
  a1 : d i1 = true → d i3 = false → x.ownsRow W.heap.size T k u1 n1 c1
  s : d i2 = true → d i3 = false → ∃ b : Nat, u2 = .slice (some ⟨b, 0, none⟩) 1 1 ∧ x.heap[b]? = some (.cells X T (0, 0))
  a2 : d i3 = true → d i4 = false → x.ownsRow W.heap.size T k u3 n2 c2
  a3 : d i4 = true → x.ownsRow W.heap.size T k u4 n3 c3
section
variable {W : World} {T : TypeId} {k : Nat} {X : Array Value} {n1 n2 n3 : Nat} {c1 c2 c3 : List Value} {i0 i1 i2 i3 i4 : Nat} {d : Nat → Bool} {x : World} {u0 u1 u2 u3 u4 : Value} {J : Nat}
theorem own_empty0 {w : World} {b base k : Nat} {T : TypeId} (h : w.heap[b]? = some (.cells #[] T (0, 0))) (hb : base ≤ b) : w.ownsRow base T k (.slice (some ⟨b, 0, none⟩) 0 0) 0 [] :=
  ⟨by simp, .inr ⟨b, 0, #[], rfl, hb, h, Nat.le_refl _, by simp [maxLen], by simp, by simp⟩⟩
theorem AP.init (h : Below W.heap.size W x) : AP W T k X n1 n2 n3 c1 c2 c3 i0 i1 i2 i3 i4 (fun _ => false) x u0 u1 u2 u3 u4 :=
  ⟨h, fun h => (by cases h), fun h => (by cases h), fun h => (by cases h), fun h => (by cases h), fun h => (by cases h), fun h => (by cases h), fun h => (by cases h), fun h => (by cases h)⟩
/-- an operation that is none of the five -/
theorem AP.same (B : AP W T k X n1 n2 n3 c1 c2 c3 i0 i1 i2 i3 i4 d x u0 u1 u2 u3 u4) (h : ([i0, i1, i2, i3, i4].all fun i => !(i == J)) = true) : AP W T k X n1 n2 n3 c1 c2 c3 i0 i1 i2 i3 i4 (fun j => d j || j == J) x u0 u1 u2 u3 u4 := by
  simp only [List.all_cons, List.all_nil, Bool.and_true, Bool.and_eq_true, Bool.not_eq_true'] at h
  obtain ⟨h0, h1, h2, h3, h4⟩ := h
  refine ⟨B.bl, ?_, ?_, ?_, ?_, ?_, ?_, ?_, ?_⟩
  · simpa only [h0, h1, Bool.or_false] using B.k1
  · simpa only [h1, h2, h3, Bool.or_false] using B.k3
  · simpa only [h3, h4, Bool.or_false] using B.k4
  · simpa only [h0, h1, Bool.or_false] using B.e
  · simpa only [h1, h3, Bool.or_false] using B.a1
  · simpa only [h2, h3, Bool.or_false] using B.s
  · simpa only [h3, h4, Bool.or_false] using B.a2
  · simpa only [h4, Bool.or_false] using B.a3
theorem AP.f1 (B : AP W T k X n1 n2 n3 c1 c2 c3 i0 i1 i2 i3 i4 d x u0 u1 u2 u3 u4) (hd : d i0 = false) : d i1 = false := by
  cases h : d i1 with
  | false => rfl
  | true => have := B.k1 h; rw [hd] at this; cases this
theorem AP.f3 (B : AP W T k X n1 n2 n3 c1 c2 c3 i0 i1 i2 i3 i4 d x u0 u1 u2 u3 u4) (hd : d i1 = false ∨ d i2 = false) : d i3 = false := by
  cases h : d i3 with
  | false => rfl
  | true => obtain ⟨e1, e2⟩ := B.k3 h; rw [e1, e2] at hd; simp at hd
theorem AP.f4 (B : AP W T k X n1 n2 n3 c1 c2 c3 i0 i1 i2 i3 i4 d x u0 u1 u2 u3 u4) (hd : d i3 = false) : d i4 = false := by
  cases h : d i4 with
  | false => rfl
  | true => have := B.k4 h; rw [hd] at this; cases this
/-- the empty row is made -/
theorem AP.alloc0 (B : AP W T k X n1 n2 n3 c1 c2 c3 i0 i1 i2 i3 i4 d x u0 u1 u2 u3 u4) (hd : d i0 = false) (h : ([i1, i2, i3, i4].all fun i => !(i == i0)) = true) : AP W T k X n1 n2 n3 c1 c2 c3 i0 i1 i2 i3 i4 (fun j => d j || j == i0) (x.alloc (.cells #[] T)) (.slice (some ⟨x.heap.size, 0, none⟩) 0 0) u1 u2 u3 u4 := by
  simp only [List.all_cons, List.all_nil, Bool.and_true, Bool.and_eq_true, Bool.not_eq_true'] at h
  obtain ⟨h1, h2, h3, h4⟩ := h
  have d1 := B.f1 hd
  have d3 := B.f3 (.inl d1)
  have d4 := B.f4 d3
  refine ⟨B.bl.alloc B.bl.size _, fun h => by simp, ?_, ?_, fun _ _ => ⟨_, rfl, blk_new _ _ _, B.bl.size⟩, ?_, ?_, ?_, ?_⟩
  · simp only [h3, Bool.or_false, d3]; intro h; cases h
  · simp only [h4, Bool.or_false, d4]; intro h; cases h
  · simp only [h1, Bool.or_false, d1]; intro h; cases h
  · simp only [h2, h3, Bool.or_false]
    intro e1 e2
    obtain ⟨b, e3, e4⟩ := B.s e1 e2
    exact ⟨b, e3, blk_alloc e4 _⟩
  · simp only [h3, Bool.or_false, d3]; intro h; cases h
  · simp only [h4, Bool.or_false, d4]; intro h; cases h
/-- the row of one is made -/
theorem AP.alloc2 (B : AP W T k X n1 n2 n3 c1 c2 c3 i0 i1 i2 i3 i4 d x u0 u1 u2 u3 u4) (hd : d i2 = false) (h : ([i0, i1, i3, i4].all fun i => !(i == i2)) = true) : AP W T k X n1 n2 n3 c1 c2 c3 i0 i1 i2 i3 i4 (fun j => d j || j == i2) (x.alloc (.cells X T)) u0 u1 (.slice (some ⟨x.heap.size, 0, none⟩) 1 1) u3 u4 := by
  simp only [List.all_cons, List.all_nil, Bool.and_true, Bool.and_eq_true, Bool.not_eq_true'] at h
  obtain ⟨h0, h1, h3, h4⟩ := h
  have d3 := B.f3 (.inr hd)
  have d4 := B.f4 d3
  refine ⟨B.bl.alloc B.bl.size _, ?_, ?_, ?_, ?_, ?_, fun _ _ => ⟨_, rfl, blk_new _ _ _⟩, ?_, ?_⟩
  · simpa only [h0, h1, Bool.or_false] using B.k1
  · simp only [h3, Bool.or_false, d3]; intro h; cases h
  · simp only [h4, Bool.or_false, d4]; intro h; cases h
  · simp only [h0, h1, Bool.or_false]
    intro e1 e2
    obtain ⟨b, e3, e4, e5⟩ := B.e e1 e2
    exact ⟨b, e3, blk_alloc e4 _, e5⟩
  · simp only [h1, h3, Bool.or_false]
    exact fun e1 e2 => (B.a1 e1 e2).alloc _
  · simp only [h3, Bool.or_false, d3]; intro h; cases h
  · simp only [h4, Bool.or_false, d4]; intro h; cases h
/-- a cut is put behind the empty row -/
theorem AP.app1 {v : Value} {y : World} {b1 : Nat} (B : AP W T k X n1 n2 n3 c1 c2 c3 i0 i1 i2 i3 i4 d x u0 u1 u2 u3 u4) (hd : d i1 = false) (h : ([i0, i2, i3, i4].all fun i => !(i == i1)) = true) (d0 : d i0 = true) (hX : 0 < X.size) (hb : x.heap[b1]? = some (.cells #[] T (0, 0))) (hb1 : W.heap.size ≤ b1)
    (hv : y.ownsRow W.heap.size T k v n1 c1) (hg : x.grownBy y (some b1)) : AP W T k X n1 n2 n3 c1 c2 c3 i0 i1 i2 i3 i4 (fun j => d j || j == i1) y u0 v u2 u3 u4 := by
  simp only [List.all_cons, List.all_nil, Bool.and_true, Bool.and_eq_true, Bool.not_eq_true'] at h
  obtain ⟨h0, h2, h3, h4⟩ := h
  have d3 := B.f3 (.inl hd)
  have d4 := B.f4 d3
  refine ⟨B.bl.grown hg B.bl.size (fun q hq => by cases hq; exact hb1), fun _ => by simp [d0], ?_, ?_, fun _ e => by simp at e, fun _ _ => hv, ?_, ?_, ?_⟩
  · simp only [h3, Bool.or_false, d3]; intro h; cases h
  · simp only [h4, Bool.or_false, d4]; intro h; cases h
  · simp only [h2, h3, Bool.or_false]
    intro e1 e2
    obtain ⟨b, e3, e4⟩ := B.s e1 e2
    refine ⟨b, e3, (hg.block b (blk_lt e4) ?_).trans e4⟩
    rintro ⟨rfl⟩
    rw [hb] at e4
    cases e4
    exact absurd hX (by simp)
  · simp only [h3, Bool.or_false, d3]; intro h; cases h
  · simp only [h4, Bool.or_false, d4]; intro h; cases h
/-- the row of one is put behind -/
theorem AP.app2 {v : Value} {y : World} (B : AP W T k X n1 n2 n3 c1 c2 c3 i0 i1 i2 i3 i4 d x u0 u1 u2 u3 u4) (hd : d i3 = false) (h : ([i0, i1, i2, i4].all fun i => !(i == i3)) = true) (d1 : d i1 = true) (d2 : d i2 = true)
    (hv : y.ownsRow W.heap.size T k v n2 c2) (hg : x.grownBy y u1.ownBlock) : AP W T k X n1 n2 n3 c1 c2 c3 i0 i1 i2 i3 i4 (fun j => d j || j == i3) y u0 u1 u2 v u4 := by
  simp only [List.all_cons, List.all_nil, Bool.and_true, Bool.and_eq_true, Bool.not_eq_true'] at h
  obtain ⟨h0, h1, h2, h4⟩ := h
  have d4 := B.f4 hd
  have o1 := B.a1 d1 hd
  refine ⟨B.bl.grown hg B.bl.size (fun q hq => own_ge o1 hq), ?_, fun _ => by simp [d1, d2], fun _ => by simp, ?_, fun _ e => by simp at e, fun _ e => by simp at e, fun _ _ => hv, ?_⟩
  · simpa only [h0, h1, Bool.or_false] using B.k1
  · simp only [h0, h1, Bool.or_false, d1]; intro _ h; cases h
  · simp only [h4, Bool.or_false, d4]; intro h; cases h
/-- a cut is put behind that -/
theorem AP.app3 {v : Value} {y : World} (B : AP W T k X n1 n2 n3 c1 c2 c3 i0 i1 i2 i3 i4 d x u0 u1 u2 u3 u4) (hd : d i4 = false) (h : ([i0, i1, i2, i3].all fun i => !(i == i4)) = true) (d3 : d i3 = true)
    (hv : y.ownsRow W.heap.size T k v n3 c3) (hg : x.grownBy y u3.ownBlock) : AP W T k X n1 n2 n3 c1 c2 c3 i0 i1 i2 i3 i4 (fun j => d j || j == i4) y u0 u1 u2 u3 v := by
  simp only [List.all_cons, List.all_nil, Bool.and_true, Bool.and_eq_true, Bool.not_eq_true'] at h
  obtain ⟨h0, h1, h2, h3⟩ := h
  obtain ⟨d1, d2⟩ := B.k3 d3
  have o2 := B.a2 d3 hd
  refine ⟨B.bl.grown hg B.bl.size (fun q hq => own_ge o2 hq), ?_, ?_, fun _ => by simp [d3], ?_, ?_, ?_, fun _ e => by simp at e, fun _ => hv⟩
  · simpa only [h0, h1, Bool.or_false] using B.k1
  · simpa only [h1, h2, h3, Bool.or_false] using B.k3
  · simp only [h0, h1, Bool.or_false, d1]; intro _ h; cases h
  · simp only [h1, h3, Bool.or_false, d3]; intro _ h; cases h
  · simp only [h2, h3, Bool.or_false, d3]; intro _ h; cases h
end
/-- the slot that the last operation i writes; a and b read what it held before, c makes what it writes -/
structure LS (i a b c : Nat) (v : Value) (d : Nat → Bool) (u u' : Value) : Prop where
  y : d i = true → u = u' ∧ d a = true ∧ d b = true ∧ d c = true
  n : d i = false → u = v
section
variable {i a b c : Nat} {v : Value} {d : Nat → Bool} {u u' : Value} {J : Nat}
theorem LS.init (u' : Value) : LS i a b c v (fun _ => false) v u' := ⟨fun h => (by cases h), fun _ => rfl⟩
theorem LS.same (E : LS i a b c v d u u') (h : (i == J) = false) : LS i a b c v (fun j => d j || j == J) u u' := by
  refine ⟨?_, ?_⟩
  · simp only [h, Bool.or_false]
    intro h1
    obtain ⟨h2, h3, h4, h5⟩ := E.y h1
    simp [h2, h3, h4, h5]
  · simpa only [h, Bool.or_false] using E.n
theorem LS.off (E : LS i a b c v d u u') (h : d a = false ∨ d b = false ∨ d c = false) : d i = false := by
  cases h1 : d i with
  | false => rfl
  | true => obtain ⟨-, h3, h4, h5⟩ := E.y h1; rw [h3, h4, h5] at h; simp at h
theorem LS.old (E : LS i a b c v d u u') (h : d a = false ∨ d b = false) : u = v := E.n (E.off (by rcases h with h | h <;> simp [h]))
theorem LS.put {w : Value} (E : LS i a b c v d u u') (hd : d c = false) (h : (i == c) = false) : LS i a b c v (fun j => d j || j == c) u w := by
  have h1 := E.off (.inr (.inr hd))
  exact ⟨(by simp only [h, Bool.or_false, h1]; intro h; cases h), fun _ => E.n h1⟩
theorem LS.set (E : LS i a b c v d u u') (ha : d a = true) (hb : d b = true) (hc : d c = true) : LS i a b c v (fun j => d j || j == i) u' u' :=
  ⟨fun _ => ⟨rfl, by simp [ha], by simp [hb], by simp [hc]⟩, fun h => by simp at h⟩
end
theorem grown_refl (x : World) (row : Option Nat) : x.grownBy x row := ⟨rfl, rfl, rfl, Nat.le_refl _, fun _ _ _ => rfl⟩
end Go.Proofs.Ytloeabdohgdmkaa
