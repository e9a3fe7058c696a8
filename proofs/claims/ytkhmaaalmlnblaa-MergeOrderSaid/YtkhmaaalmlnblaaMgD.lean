/- Which cards a join leaves: of each key one, and no other one of it is later. -/
import Derived.Test.YtkhmaaalmlnblaaBs
import Derived.Test.YtkhmaaalmlnblaaBe
namespace Go.Proofs.Ytkhmaaalmlnblaa
open Go.RowKit
set_option linter.unusedVariables false
set_option linter.unusedSimpArgs false

/-- y is later than x -/
def ltC (x y : Cd) : Bool := sLess x.t x.k x.n y.t y.k y.n
def StrC (R : List Cd) : Prop := R.Pairwise (fun x y => kc x.a x.i y.a y.i < 0)
structure Dom (C R : List Cd) : Prop where
  asc : StrC R
  sub : ∀ x ∈ R, x ∈ C
  top : ∀ x ∈ R, ∀ c ∈ C, c.a = x.a → c.i = x.i → ltC x c = false
  has : ∀ c ∈ C, ∃ x ∈ R, x.a = c.a ∧ x.i = c.i
/-- of two cards of a key that are not the same one is later -/
def OneC (C : List Cd) : Prop := ∀ x ∈ C, ∀ y ∈ C, x.a = y.a → x.i = y.i → ltC x y = false → ltC y x = false → x = y
theorem str_same : ∀ {R S : List Cd}, StrC R → StrC S → (∀ x, x ∈ R ↔ x ∈ S) → R = S := by
  intro R
  induction R with
  | nil =>
    intro S _ _ h
    cases S with
    | nil => rfl
    | cons y S => exact absurd ((h y).2 (by simp)) (by simp)
  | cons x R ih =>
    intro S h1 h2 h
    cases S with
    | nil => exact absurd ((h x).1 (by simp)) (by simp)
    | cons y S =>
      obtain ⟨a1, a2⟩ := List.pairwise_cons.1 h1
      obtain ⟨b1, b2⟩ := List.pairwise_cons.1 h2
      have hxy : x = y := by
        rcases List.mem_cons.1 ((h x).1 (by simp)) with e | e
        · exact e
        · rcases List.mem_cons.1 ((h y).2 (by simp)) with e' | e'
          · exact e'.symm
          · have q1 := b1 x e
            have q2 := a1 y e'
            rw [kc_neg] at q1
            omega
      subst hxy
      have irr : ∀ z : Cd, ¬ kc z.a z.i z.a z.i < 0 := fun z q => by
        have := kc_neg z.a z.i z.a z.i
        omega
      congr 1
      refine ih a2 b2 fun z => ⟨fun hz => ?_, fun hz => ?_⟩
      · rcases List.mem_cons.1 ((h z).1 (by simp [hz])) with e | e
        · exact absurd (by have := a1 z hz; rw [e] at this; exact this) (irr x)
        · exact e
      · rcases List.mem_cons.1 ((h z).2 (by simp [hz])) with e | e
        · exact absurd (by have := b1 z hz; rw [e] at this; exact this) (irr x)
        · exact e
theorem Dom.in2 {C C' R R' : List Cd} (h : Dom C R) (h' : Dom C' R') (hs : ∀ c, c ∈ C ↔ c ∈ C') (ho : OneC C) : ∀ x ∈ R, x ∈ R' := by
  intro x hx
  have xc := h.sub x hx
  obtain ⟨y, hy, e1, e2⟩ := h'.has x ((hs x).1 xc)
  have yc := (hs y).2 (h'.sub y hy)
  have q1 := h.top x hx y yc e1 e2
  have q2 := h'.top y hy x ((hs x).1 xc) e1.symm e2.symm
  rw [ho x xc y yc e1.symm e2.symm q1 q2]
  exact hy
theorem Dom.one {C C' R R' : List Cd} (h : Dom C R) (h' : Dom C' R') (hs : ∀ c, c ∈ C ↔ c ∈ C') (ho : OneC C) : R = R' :=
  str_same h.asc h'.asc fun x => ⟨h.in2 h' hs ho x, h'.in2 h (fun c => (hs c).symm) (fun x hx y hy => ho x ((hs x).2 hx) y ((hs y).2 hy)) x⟩
theorem Dom.self {R : List Cd} (h : StrC R) : Dom R R := by
  refine ⟨h, fun x hx => hx, fun x hx c hc e1 e2 => ?_, fun c hc => ⟨c, hc, rfl, rfl⟩⟩
  have hxc : c = x := by
    induction R with
    | nil => cases hx
    | cons y R ih =>
      obtain ⟨a1, a2⟩ := List.pairwise_cons.1 h
      have irr : ∀ z : Cd, ¬ kc z.a z.i z.a z.i < 0 := fun z q => by
        have := kc_neg z.a z.i z.a z.i
        omega
      rcases List.mem_cons.1 hx with hx1 | hx1
      · rcases List.mem_cons.1 hc with hc1 | hc1
        · rw [hx1, hc1]
        · have := a1 c hc1
          rw [e1, e2, hx1] at this
          exact absurd this (irr y)
      · rcases List.mem_cons.1 hc with hc1 | hc1
        · have := a1 x hx1
          rw [← hc1, e1, e2] at this
          exact absurd this (irr x)
        · exact ih a2 hx1 hc1
  subst hxc
  unfold ltC sLess
  simp
/-- the later one of two, the first of two that are not -/
def jn2 (x y : Cd) : Cd := if ltC x y = true then y else x
/-- a card behind those that are joined already, by key -/
def jn1 (out : List Cd) (c : Cd) : List Cd := match out.getLast? with
  | some x => if x.a = c.a ∧ x.i = c.i then out.dropLast ++ [jn2 x c] else out ++ [c]
  | none => out ++ [c]
def jnL (ls : List Cd) : List Cd := ls.foldl jn1 []
theorem jnL_snoc (ls : List Cd) (c : Cd) : jnL (ls ++ [c]) = jn1 (jnL ls) c := by simp [jnL]
theorem jn1_same {out : List Cd} {x c : Cd} (h1 : x.a = c.a) (h2 : x.i = c.i) : jn1 (out ++ [x]) c = out ++ [jn2 x c] := by
  unfold jn1
  rw [List.getLast?_concat]
  simp [h1, h2]
theorem jn1_other {out : List Cd} {x c : Cd} (h : ¬(x.a = c.a ∧ x.i = c.i)) : jn1 (out ++ [x]) c = out ++ [x] ++ [c] := by
  unfold jn1
  rw [List.getLast?_concat]
  simp [h]
theorem jn1_nil (c : Cd) : jn1 [] c = [c] := rfl
theorem jn2_key {x y : Cd} (h1 : x.a = y.a) (h2 : x.i = y.i) : (jn2 x y).a = y.a ∧ (jn2 x y).i = y.i := by
  unfold jn2
  split
  · exact ⟨rfl, rfl⟩
  · exact ⟨h1, h2⟩
theorem ltC_iff {x y : Cd} : ltC x y = true ↔ x.t < y.t ∨ (x.t = y.t ∧ (x.n < y.n ∨ (x.n = y.n ∧ x.k < y.k))) := by
  unfold ltC sLess
  by_cases h1 : x.t = y.t
  · rw [if_pos h1]
    by_cases h2 : x.n = y.n
    · rw [if_pos h2]; simp; omega
    · rw [if_neg h2]; simp; omega
  · rw [if_neg h1]; simp; omega
theorem ltC_no {x y : Cd} : ltC x y = false ↔ ¬(x.t < y.t ∨ (x.t = y.t ∧ (x.n < y.n ∨ (x.n = y.n ∧ x.k < y.k)))) := by
  rw [← ltC_iff]
  cases ltC x y <;> simp
theorem jn2_top {x y : Cd} : ltC (jn2 x y) x = false ∧ ltC (jn2 x y) y = false := by
  unfold jn2
  by_cases h : ltC x y = true
  · rw [if_pos h]
    have := ltC_iff.1 h
    exact ⟨ltC_no.2 (by omega), ltC_no.2 (by omega)⟩
  · rw [if_neg h]
    exact ⟨ltC_no.2 (by omega), by simpa using h⟩
theorem jn2_up {x y c : Cd} (h : ltC x c = false) : ltC (jn2 x y) c = false := by
  unfold jn2
  by_cases h2 : ltC x y = true
  · rw [if_pos h2]
    have h3 := ltC_iff.1 h2
    have h4 := ltC_no.1 h
    exact ltC_no.2 (by omega)
  · rw [if_neg h2]; exact h
theorem jn2_or (x y : Cd) : jn2 x y = x ∨ jn2 x y = y := by
  unfold jn2
  split
  · exact .inr rfl
  · exact .inl rfl
theorem kc_self9 (a i : ByteArray) : kc a i a i = 0 := by
  have := kc_neg a i a i
  omega
/-- joined of those that lie by key: Dom, and the last one's key is that of the last one -/
theorem jnL_dom : ∀ (n : Nat) (ls : List Cd), ls.length = n → Ord klt ls → Dom ls (jnL ls) ∧ ∀ x, (jnL ls).getLast? = some x → ∀ c, ls.getLast? = some c → x.a = c.a ∧ x.i = c.i := by
  intro n
  induction n with
  | zero =>
    intro ls h ho
    have : ls = [] := List.length_eq_zero_iff.1 h
    subst this
    exact ⟨⟨List.Pairwise.nil, fun x hx => (by cases hx), fun x hx => (by cases hx), fun x hx => (by cases hx)⟩, fun x h => (by simp [jnL] at h)⟩
  | succ n ih =>
    intro ls h ho
    obtain ⟨L, c, rfl⟩ : ∃ L c, ls = L ++ [c] := by
      rcases List.eq_nil_or_concat ls with e | ⟨L, c, e⟩
      · rw [e] at h; simp at h
      · exact ⟨L, c, by rw [e, List.concat_eq_append]⟩
    have hL : L.length = n := by simpa using h
    have hoL : Ord klt L := (List.pairwise_append.1 ho).1
    have hoc : ∀ y ∈ L, klt c y = false := fun y hy => (List.pairwise_append.1 ho).2.2 y hy c (by simp)
    obtain ⟨hd, hl⟩ := ih L hL hoL
    rw [jnL_snoc]
    rcases List.eq_nil_or_concat (jnL L) with e | ⟨O, x, e⟩
    · rw [e, jn1_nil]
      have hLn : L = [] := by
        cases L with
        | nil => rfl
        | cons y L' =>
          obtain ⟨z, hz, -⟩ := hd.has y (by simp)
          rw [e] at hz
          cases hz
      subst hLn
      refine ⟨⟨List.pairwise_singleton _ _, fun x hx => by simpa using hx, fun x hx c' hc' _ _ => ?_, fun c' hc' => ⟨c, by simp, ?_⟩⟩, fun x hx c' hc' => ?_⟩
      · simp at hx hc'; subst hx; subst hc'; exact ltC_no.2 (by omega)
      · simp at hc'; subst hc'; exact ⟨rfl, rfl⟩
      · simp at hx hc'; subst hx; subst hc'; exact ⟨rfl, rfl⟩
    · rw [List.concat_eq_append] at e
      rw [e] at hd hl
      have hx : x ∈ L := hd.sub x (by simp)
      obtain ⟨p1, -, p3⟩ := List.pairwise_append.1 hd.asc
      have hkx : kc x.a x.i c.a c.i ≤ 0 := by
        have := hoc x hx
        unfold klt kcmp at this
        have h9 := of_decide_eq_false this
        rw [kc_neg] at h9
        omega
      by_cases hk : x.a = c.a ∧ x.i = c.i
      · rw [e, jn1_same hk.1 hk.2]
        obtain ⟨j1, j2⟩ := jn2_key hk.1 hk.2
        refine ⟨⟨?_, ?_, ?_, ?_⟩, ?_⟩
        · refine List.pairwise_append.2 ⟨p1, List.pairwise_singleton _ _, fun y hy z hz => ?_⟩
          simp at hz
          subst hz
          have := p3 y hy x (by simp)
          rw [j1, j2, ← hk.1, ← hk.2]
          exact this
        · intro y hy
          rcases List.mem_append.1 hy with hy | hy
          · exact List.mem_append_left _ (hd.sub y (by simp [hy]))
          · simp at hy
            subst hy
            rcases jn2_or x c with q | q
            · rw [q]; exact List.mem_append_left _ hx
            · rw [q]; simp
        · intro y hy c' hc' e1 e2
          rcases List.mem_append.1 hy with hy1 | hy
          · rcases List.mem_append.1 hc' with hc' | hc'
            · exact hd.top y (by simp [hy1]) c' hc' e1 e2
            · simp at hc'
              subst hc'
              have := p3 y hy1 x (by simp)
              rw [← e1, ← e2, hk.1, hk.2, kc_self9] at this
              omega
          · simp at hy
            subst hy
            rcases List.mem_append.1 hc' with hc' | hc'
            · refine jn2_up (hd.top x (by simp) c' hc' ?_ ?_)
              · rw [e1, j1, hk.1]
              · rw [e2, j2, hk.2]
            · simp at hc'
              subst hc'
              exact jn2_top.2
        · intro c' hc'
          rcases List.mem_append.1 hc' with hc' | hc'
          · obtain ⟨y, hy, e1, e2⟩ := hd.has c' hc'
            rcases List.mem_append.1 hy with hy | hy
            · exact ⟨y, by simp [hy], e1, e2⟩
            · simp at hy
              subst hy
              exact ⟨jn2 y c, by simp, by rw [j1, ← hk.1, e1], by rw [j2, ← hk.2, e2]⟩
          · simp at hc'
            subst hc'
            exact ⟨jn2 x c', by simp, j1, j2⟩
        · intro y hy c' hc'
          rw [List.getLast?_concat] at hy hc'
          simp at hy hc'
          subst hy
          subst hc'
          exact ⟨j1, j2⟩
      · rw [e, jn1_other hk]
        have hlt : kc x.a x.i c.a c.i < 0 := by
          have : kc x.a x.i c.a c.i ≠ 0 := fun q => hk (kc_zero q)
          omega
        have hall : ∀ y ∈ O ++ [x], kc y.a y.i c.a c.i < 0 := by
          intro y hy
          rcases List.mem_append.1 hy with hy | hy
          · have h8 := p3 y hy x (by simp)
            have h9 := kc_le (Int.le_of_lt h8) hkx
            have : kc y.a y.i c.a c.i ≠ 0 := fun q => by
              obtain ⟨q1, q2⟩ := kc_zero q
              rw [q1, q2, kc_neg] at h8
              omega
            omega
          · simp at hy; subst hy; exact hlt
        refine ⟨⟨?_, ?_, ?_, ?_⟩, ?_⟩
        · exact List.pairwise_append.2 ⟨hd.asc, List.pairwise_singleton _ _, fun y hy z hz => by simp at hz; subst hz; exact hall y hy⟩
        · intro y hy
          rcases List.mem_append.1 hy with hy | hy
          · exact List.mem_append_left _ (hd.sub y hy)
          · simp at hy; subst hy; simp
        · intro y hy c' hc' e1 e2
          rcases List.mem_append.1 hy with hy1 | hy
          · rcases List.mem_append.1 hc' with hc' | hc'
            · exact hd.top y hy1 c' hc' e1 e2
            · simp at hc'
              subst hc'
              have := hall y hy1
              rw [← e1, ← e2, kc_self9] at this
              omega
          · simp at hy
            subst hy
            rcases List.mem_append.1 hc' with hc' | hc'
            · obtain ⟨z, hz, f1, f2⟩ := hd.has c' hc'
              have := hall z hz
              rw [f1, f2, e1, e2, kc_self9] at this
              omega
            · simp at hc'
              subst hc'
              exact ltC_no.2 (by omega)
        · intro c' hc'
          rcases List.mem_append.1 hc' with hc' | hc'
          · obtain ⟨y, hy, e1, e2⟩ := hd.has c' hc'
            exact ⟨y, List.mem_append_left _ hy, e1, e2⟩
          · simp at hc'
            subst hc'
            exact ⟨c', by simp, rfl, rfl⟩
        · intro y hy c' hc'
          rw [List.getLast?_concat] at hy hc'
          simp at hy hc'
          subst hy
          subst hc'
          exact ⟨rfl, rfl⟩
theorem Dom.mem {C C' R : List Cd} (h : Dom C R) (hs : ∀ c, c ∈ C ↔ c ∈ C') : Dom C' R :=
  ⟨h.asc, fun x hx => (hs x).1 (h.sub x hx), fun x hx c hc => h.top x hx c ((hs c).2 hc), fun c hc => h.has c ((hs c).2 hc)⟩
end Go.Proofs.Ytkhmaaalmlnblaa
