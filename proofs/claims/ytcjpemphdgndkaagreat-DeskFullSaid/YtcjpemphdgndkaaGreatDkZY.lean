/- What stays of a desk through asks of a tape. -/
import Derived.Test.YtcjpemphdgndkaaGreatDkYY
import Derived.Test.YtcjpemphdgndkaaGreatDkAxY
import Derived.Test.YtcjpemphdgndkaaGreatDkUY
namespace Go.Proofs.YtcjpemphdgndkaaGreat
open Go.RowKit
set_option linter.unusedVariables false
set_option linter.unusedSimpArgs false

def DOk (J : Nat) (t0 n0 : Int) (es : List En) (tt : Int) (ks : List Ky) : Prop := Asc es ∧ (∀ x ∈ es, KA x.c.a ∧ KI x.c.i ∧ 0 ≤ x.c.t ∧ 0 ≤ x.c.n ∧ x.c.n ≤ (J : Int) + 9) ∧ 0 ≤ t0 ∧ 0 ≤ n0 ∧ n0 ≤ (J : Int) + 9 ∧ 0 ≤ tt ∧ tt ≤ 1048576 ∧ ks.length ≤ J
section
variable {J : Nat} {t0 k0 n0 tt : Int} {es : List En} {ks : List Ky}
theorem DOk.few (h : DOk J t0 n0 es tt ks) : es.length ≤ 20 := _root_.Go.Proofs.YtcjpemphdgndkaaGreat.few h.1 fun x hx => ⟨(h.2.1 x hx).1, (h.2.1 x hx).2.1⟩
theorem DOk.up (h : DOk J t0 n0 es tt ks) : DOk (J + 1) t0 n0 es tt ks := by
  obtain ⟨h1, h2, h3, h4, h5, h6, h7, h8⟩ := h
  exact ⟨h1, fun x hx => by obtain ⟨a, b, c, d, e⟩ := h2 x hx; exact ⟨a, b, c, d, by push_cast; omega⟩, h3, h4, by push_cast; omega, h6, h7, by omega⟩
theorem DOk.hN (h : DOk J t0 n0 es tt ks) (k : Ky) (hJ : J ≤ 1000000) : ∀ s, s = (if isIn k es then sMax t0 k0 n0 (ge es k).c.t (ge es k).c.k (ge es k).c.n else (t0, k0, n0)) → s.2.2 ≤ 9223372036854775807 ∧ -9223372036854775808 ≤ s.2.2 := by
  rintro s rfl
  obtain ⟨-, h2, -, h4, h5, -, -, -⟩ := h
  by_cases hi : isIn k es = true
  · rw [if_pos hi]
    obtain ⟨-, -, -, b, c⟩ := h2 _ (ge_mem hi)
    unfold sMax
    split <;> simp only [] <;> omega
  · rw [if_neg hi]
    simp only []
    omega
theorem DOk.stay {tt' now : Int} {k : Ky} {fs : List En} (h : DOk J t0 n0 es tt ks) (h0 : 0 ≤ tt') (h1 : tt' ≤ 1048576) (hf : fs = es ∨ (isIn k es = true ∧ (ge es k).c.g = false ∧ fs = putE es (renE (ge es k) now))) : DOk J t0 n0 fs tt' ks := by
  obtain ⟨a1, a2, a3, a4, a5, a6, a7, a8⟩ := h
  rcases hf with rfl | ⟨hi, hg, rfl⟩
  · exact ⟨a1, a2, a3, a4, a5, h0, h1, a8⟩
  · refine ⟨asc_putE a1, fun x hx => ?_, a3, a4, a5, h0, h1, a8⟩
    rcases (mem_put a1).1 hx with rfl | ⟨hx, -⟩
    · have e1 : (renE (ge es k) now).c = (ge es k).c := by unfold renE; rw [if_neg (by rw [hg]; simp)]
      rw [e1]
      exact a2 _ (ge_mem hi)
    · exact a2 x hx
theorem DOk.set {c : Cd} {s : Int} (h : DOk J t0 n0 es tt ks) (hc : CdOk c) (ha : KA c.a) (hi : KI c.i) : DOk (J + 1) t0 n0 (putE es ⟨c, s⟩) tt (ks ++ [(c.a, c.i)]) := by
  obtain ⟨a1, a2, a3, a4, a5, a6, a7, a8⟩ := h
  obtain ⟨-, -, -, -, -, -, -, -, c1, c2, -, -, c5, c6⟩ := hc
  refine ⟨asc_putE a1, fun x hx => ?_, a3, a4, by push_cast; omega, a6, a7, by simp; omega⟩
  rcases (mem_put a1).1 hx with rfl | ⟨hx, -⟩
  · exact ⟨ha, hi, by show 0 ≤ c.t; omega, by show 0 ≤ c.n; omega, by show c.n ≤ _; push_cast; omega⟩
  · obtain ⟨a, b, c, d, e⟩ := a2 x hx
    exact ⟨a, b, c, d, by push_cast; omega⟩
theorem DOk.nil (hks : 0 ≤ J) : DOk J 0 0 [] 0 [] := ⟨List.Pairwise.nil, fun x hx => (by cases hx), by omega, by omega, by omega, by omega, by omega, by simp⟩
end
theorem DkP.sat {α : Type} {enc : α → List Value} {kk : Nat} {T : TypeId} {w w' : World} {db : Nat} {nd t0 k0 n0 : Int} {es : List En} {g l tt : Int} {ks : List Ky} {a : Option Addr} {ls : List α} (h : DkP w db nd t0 k0 n0 es g l tt ks) (hr : Rim db w w') (hT : T ≠ 99) (ha : SAt enc kk T w a ls) : SAt enc kk T w' a ls :=
  ha.keep fun b cur hc _ => hr.block b (by
    rintro rfl
    obtain ⟨_, _, _, _, h1, -⟩ := h
    rw [h1] at hc
    simp at hc
    exact hT hc.2.symm) (blk_lt hc)
end Go.Proofs.YtcjpemphdgndkaaGreat
