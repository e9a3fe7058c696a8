/- Several texts as one: ShfP, ShfA, ShfK. -/
import Derived.Test.YtloeabdohgdmkaaBfZ
/- Package shelf: Put. -/
namespace Go.Proofs.Ytloeabdohgdmkaa
open Go.RowKit
set_option linter.unusedVariables false
set_option linter.unusedSimpArgs false

/-- block sb is a shelf of at most so many that holds es -/
def ShP (w : World) (sb : Nat) (most : Int) (es : List En) : Prop := ∃ a c, BoxS w sb most a es.length c ∧ EAt w a es ∧ es.length ≤ c ∧ c ≤ maxLen ∧ ((a = none ∧ c = 0) ∨ ∃ b o, a = some ⟨b, o, none⟩)
theorem ShP.ext {w w' : World} {sb : Nat} {most : Int} {es : List En} (h : ShP w sb most es) (hb : Below w.heap.size w w') : ShP w' sb most es := by
  obtain ⟨a, c, h1, h2, h3⟩ := h
  exact ⟨a, c, blk_ext hb h1, h2.ext hb, h3⟩
theorem ShP.lt {w : World} {sb : Nat} {most : Int} {es : List En} (h : ShP w sb most es) : sb < w.heap.size := by
  obtain ⟨a, c, h1, h2, h3⟩ := h
  exact blk_lt h1
def enK (e : En) : Ky := (e.c.a, e.c.i)
/-- a row stays when a shelf's block is written -/
theorem EAt.shelf {w : World} {a : Option Addr} {ls : List En} {sb : Nat} {most : Int} {a' : Option Addr} {n c : Nat} (h : EAt w a ls) (hs : BoxS w sb most a' n c) (v : Value) : EAt (w.setCell ⟨sb, 1, none⟩ v) a ls :=
  h.keep fun b cur hc _ => Below.heap_setCell w _ _ b (fun e => by
    have e1 : b = sb := e
    subst e1
    unfold BoxS at hs
    rw [hs] at hc
    simp at hc)
end Go.Proofs.Ytloeabdohgdmkaa

/- Package shelf: New, All, Len, Live, Drop of none; lease.Same of one list. -/
namespace Go.Proofs.Ytloeabdohgdmkaa
open Go.RowKit
set_option linter.unusedVariables false
set_option linter.unusedSimpArgs false

set_option maxRecDepth 100000 in
set_option maxHeartbeats 1000000 in
theorem shNew (m : Nat) (w : World) (hm : m ≤ 32) :
    Calls Try.prog 30 #[.int .i64 m] w fun r w' => r = .returned (.pointer (some ⟨w.heap.size, 0, none⟩)) ∧ ShP w' w.heap.size m [] ∧ Below w.heap.size w w' := by
  have h1 : max (m : Int) 0 = (m : Int) := by omega
  have h2 : min (m : Int) 32 = (m : Int) := by omega
  have HR := Lib.hid (show ShP (w.alloc (.cells #[.int .i64 m, .slice none 0 0] 83)) w.heap.size m [] from ⟨none, 0, blk_new _ _ _, .inl rfl, Nat.le_refl _, by unfold maxLen; omega, .inl ⟨rfl, rfl⟩⟩)
  have HB := Lib.hid (show Below w.heap.size w (w.alloc (.cells #[.int .i64 m, .slice none 0 0] 83)) from (Below.refl _ _).alloc (Nat.le_refl _) _)
  go_enter Try.func30, Try.ntmps30
  go_wp2
  go_ret
  exact ⟨rfl, HR.out, HB.out⟩

end Go.Proofs.Ytloeabdohgdmkaa

/- 'known' of layer 10; lists. -/
namespace Go.Proofs.Ytloeabdohgdmkaa
open Go.RowKit
set_option linter.unusedVariables false
set_option linter.unusedSimpArgs false

theorem ShP.rim {w w' : World} {s s' : Nat} {most : Int} {es : List En} (h : ShP w s most es) (hr : Rim s' w w') (hne : s ≠ s') {cur : Array Value} (hs : w.heap[s']? = some (.cells cur 83 (0, 0))) : ShP w' s most es := by
  obtain ⟨a, c, h1, h2, h3⟩ := h
  refine ⟨a, c, (hr.block s hne (blk_lt h1)).trans h1, h2.keep fun b cur' hc _ => hr.block b (fun e => ?_) (blk_lt hc), h3⟩
  subst e
  rw [hs] at hc
  simp at hc
theorem ShP.cur {w : World} {s : Nat} {most : Int} {es : List En} (h : ShP w s most es) : ∃ cur, w.heap[s]? = some (.cells cur 83 (0, 0)) := by
  obtain ⟨a, c, h1, -⟩ := h
  exact ⟨_, h1⟩
theorem kc_self (a i : ByteArray) : kc a i a i = 0 := by
  have := kc_neg a i a i
  omega
def eA : En := ⟨⟨⟨#[97]⟩, ⟨#[]⟩, 0, 0, 0, 0, 0, 0, true⟩, 0⟩
def eB : En := ⟨⟨⟨#[98]⟩, ⟨#[]⟩, 0, 0, 0, 0, 0, 0, false⟩, 0⟩
def eC : En := ⟨⟨⟨#[99]⟩, ⟨#[]⟩, 0, 0, 0, 0, 0, 0, false⟩, 0⟩
def eD : En := ⟨⟨⟨#[98]⟩, ⟨#[]⟩, 0, 0, 0, 0, 0, 0, false⟩, 4⟩
theorem k0 : isIn (enK En.zero) [] = false := rfl
theorem k1 : isIn (enK eB) [] = false ∧ insAt [] (low (enK eB) []) eB = [eB] := ⟨rfl, rfl⟩
theorem k2 : isIn (enK eA) [eB] = false ∧ insAt [eB] (low (enK eA) [eB]) eA = [eA, eB] := ⟨rfl, rfl⟩
theorem k3 : isIn (enK eC) [eA, eB] = false := rfl
theorem k4 : isIn (enK eD) [eA, eB] = true ∧ [eA, eB].set (low (enK eD) [eA, eB]) eD = [eA, eD] := ⟨rfl, rfl⟩
theorem k5 : isIn (⟨#[]⟩, ⟨#[]⟩) [eA, eD] = false := rfl
end Go.Proofs.Ytloeabdohgdmkaa
