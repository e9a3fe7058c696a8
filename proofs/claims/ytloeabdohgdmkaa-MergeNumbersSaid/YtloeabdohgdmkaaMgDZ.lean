/- Which cards a join leaves: of each key one, and no other one of it is later. -/
import Derived.Test.YtloeabdohgdmkaaBsZ
import Derived.Test.YtloeabdohgdmkaaBeZ
namespace Go.Proofs.Ytloeabdohgdmkaa
open Go.RowKit
set_option linter.unusedVariables false
set_option linter.unusedSimpArgs false

/-- y is later than x -/
def ltC (x y : Cd) : Bool := sLess x.t x.k x.n y.t y.k y.n
def StrC (R : List Cd) : Prop := R.Pairwise (fun x y => kc x.a x.i y.a y.i < 0)
structure Dom (C R : List Cd) : Prop where
  asc : StrC R
  sub : ∀ x ∈ R, x ∈ C
  top : ∀ x ∈ R, ∀ c ∈ C, c.a = x.a → c.i = x.i → ltC x c = false
  has : ∀ c ∈ C, ∃ x ∈ R, x.a = c.a ∧ x.i = c.i
/-- of two cards of a key that are not the same one is later -/
def OneC (C : List Cd) : Prop := ∀ x ∈ C, ∀ y ∈ C, x.a = y.a → x.i = y.i → ltC x y = false → ltC y x = false → x = y
theorem str_same : ∀ {R S : List Cd}, StrC R → StrC S → (∀ x, x ∈ R ↔ x ∈ S) → R = S := by
  intro R
  induction R with
  | nil =>
    intro S _ _ h
    cases S with
    | nil => rfl
    | cons y S => exact absurd ((h y).2 (by simp)) (by simp)
  | cons x R ih =>
    intro S h1 h2 h
    cases S with
    | nil => exact absurd ((h x).1 (by simp)) (by simp)
    | cons y S =>
      obtain ⟨a1, a2⟩ := List.pairwise_cons.1 h1
      obtain ⟨b1, b2⟩ := List.pairwise_cons.1 h2
      have hxy : x = y := by
        rcases List.mem_cons.1 ((h x).1 (by simp)) with e | e
        · exact e
        · rcases List.mem_cons.1 ((h y).2 (by simp)) with e' | e'
          · exact e'.symm
          · have q1 := b1 x e
            have q2 := a1 y e'
            rw [kc_neg] at q1
            omega
      subst hxy
      have irr : ∀ z : Cd, ¬ kc z.a z.i z.a z.i < 0 := fun z q => by
        have := kc_neg z.a z.i z.a z.i
        omega
      congr 1
      refine ih a2 b2 fun z => ⟨fun hz => ?_, fun hz => ?_⟩
      · rcases List.mem_cons.1 ((h z).1 (by simp [hz])) with e | e
        · exact absurd (by have := a1 z hz; rw [e] at this; exact this) (irr x)
        · exact e
      · rcases List.mem_cons.1 ((h z).2 (by simp [hz])) with e | e
        · exact absurd (by have := b1 z hz; rw [e] at this; exact this) (irr x)
        · exact e
theorem Dom.in2 {C C' R R' : List Cd} (h : Dom C R) (h' : Dom C' R') (hs : ∀ c, c ∈ C ↔ c ∈ C') (ho : OneC C) : ∀ x ∈ R, x ∈ R' := by
  intro x hx
  have xc := h.sub x hx
  obtain ⟨y, hy, e1, e2⟩ := h'.has x ((hs x).1 xc)
  have yc := (hs y).2 (h'.sub y hy)
  have q1 := h.top x hx y yc e1 e2
  have q2 := h'.top y hy x ((hs x).1 xc) e1.symm e2.symm
  rw [ho x xc y yc e1.symm e2.symm q1 q2]
  exact hy
theorem Dom.one {C C' R R' : List Cd} (h : Dom C R) (h' : Dom C' R') (hs : ∀ c, c ∈ C ↔ c ∈ C') (ho : OneC C) : R = R' :=
  str_same h.asc h'.asc fun x => ⟨h.in2 h' hs ho x, h'.in2 h (fun c => (hs c).symm) (fun x hx y hy => ho x ((hs x).2 hx) y ((hs y).2 hy)) x⟩
/-- the later one of two, the first of two that are not -/
def jn2 (x y : Cd) : Cd := if ltC x y = true then y else x
/-- a card behind those that are joined already, by key -/
def jn1 (out : List Cd) (c : Cd) : List Cd := match out.getLast? with
  | some x => if x.a = c.a ∧ x.i = c.i then out.dropLast ++ [jn2 x c] else out ++ [c]
  | none => out ++ [c]
def jnL (ls : List Cd) : List Cd := ls.foldl jn1 []
theorem jnL_snoc (ls : List Cd) (c : Cd) : jnL (ls ++ [c]) = jn1 (jnL ls) c := by simp [jnL]
theorem jn1_same {out : List Cd} {x c : Cd} (h1 : x.a = c.a) (h2 : x.i = c.i) : jn1 (out ++ [x]) c = out ++ [jn2 x c] := by
  unfold jn1
  rw [List.getLast?_concat]
  simp [h1, h2]
theorem jn1_other {out : List Cd} {x c : Cd} (h : ¬(x.a = c.a ∧ x.i = c.i)) : jn1 (out ++ [x]) c = out ++ [x] ++ [c] := by
  unfold jn1
  rw [List.getLast?_concat]
  simp [h]
theorem jn1_nil (c : Cd) : jn1 [] c = [c] := rfl
theorem ltC_iff {x y : Cd} : ltC x y = true ↔ x.t < y.t ∨ (x.t = y.t ∧ (x.n < y.n ∨ (x.n = y.n ∧ x.k < y.k))) := by
  unfold ltC sLess
  by_cases h1 : x.t = y.t
  · rw [if_pos h1]
    by_cases h2 : x.n = y.n
    · rw [if_pos h2]; simp; omega
    · rw [if_neg h2]; simp; omega
  · rw [if_neg h1]; simp; omega
theorem ltC_no {x y : Cd} : ltC x y = false ↔ ¬(x.t < y.t ∨ (x.t = y.t ∧ (x.n < y.n ∨ (x.n = y.n ∧ x.k < y.k)))) := by
  rw [← ltC_iff]
  cases ltC x y <;> simp
theorem kc_self9 (a i : ByteArray) : kc a i a i = 0 := by
  have := kc_neg a i a i
  omega
end Go.Proofs.Ytloeabdohgdmkaa
