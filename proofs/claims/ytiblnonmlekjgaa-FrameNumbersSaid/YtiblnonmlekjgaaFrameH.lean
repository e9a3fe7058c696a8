/- Both streams fed, whatever they refused before. -/
import Derived.Test.YtiblnonmlekjgaaFrameG
import Derived.Test.YtiblnonmlekjgaaFrameQ
namespace Go.Proofs.Ytiblnonmlekjgaa
open Go.RowKit
set_option linter.unusedVariables false

/-- what feeding xs tells: the refusal stays, or the row runs -/
def Fs (l : List Int) (why : Int) (xs : List Int) (o : Out) : Prop := (why ≠ 0 ∧ o = ([], l, why)) ∨ (why = 0 ∧ Runs (l ++ xs) [] o)
theorem Fs.one {l xs : List Int} {why : Int} {o1 o2 : Out} (h : Fs l why xs o1) (k : Fs l why xs o2) : o1 = o2 := by
  rcases h with ⟨h1, h2⟩ | ⟨h1, h2⟩ <;> rcases k with ⟨k1, k2⟩ | ⟨k1, k2⟩
  · rw [h2, k2]
  · exact absurd k1 h1
  · exact absurd h1 k1
  · exact h2.one k2
theorem Fs.left {l xs : List Int} {why : Int} {o : Out} (h : Fs l why xs o) : o.2.1.length ≤ l.length + xs.length := by
  rcases h with ⟨_, rfl⟩ | ⟨_, h⟩
  · simp
  · have := h.left; rwa [List.length_append] at this

def FedA (base sb : Nat) (v : Value) (l : List Int) (why : Int) (xs : List Int) (w : World) (e : Ending) (w' : World) : Prop :=
  ∃ (fv v' : Value) (fsx : List (List Int)) (l' : List Int) (why' : Int) (vals : List Value), e = .returned (.tuple #[fv, .int .i64 why']) ∧ Fs l why xs (fsx, l', why') ∧ StV base w' sb v' l' why' ∧
    w'.ownsRow w.heap.size 22 1 fv fsx.length vals ∧ VAt w.heap.size v'.ownBlock w' vals fsx ∧ Fedw sb v.ownBlock w w' ∧ (∀ g, v'.ownBlock = some g → v.ownBlock = some g ∨ w.heap.size ≤ g)
theorem fedw_same {sb : Nat} {row : Option Nat} {w w' : World} (h : Below w.heap.size w w') : Fedw sb row w w' := ⟨h.os, h.tape, h.output, h.size, fun k hk _ _ => h.block k hk⟩

theorem frameFeedAny (base sb : Nat) (v : Value) (l : List Int) (why : Int) (a : Option Addr) (n cap : Nat) (xs : List Int) (w : World) (h : StV base w sb v l why) (hbase : base ≤ sb) (hsb : ∀ g, v.ownBlock = some g → g ≠ sb) (hx : BAt w a xs) (hl : xs.length = n) (hw : Wb xs) (hs : 3 * (l.length + n) ≤ 140737488355328) :
    Calls Try.prog 18 #[.pointer (some ⟨sb, 0, none⟩), .slice a n cap] w (FedA base sb v l why xs w) := by
  by_cases hy : why = 0
  · subst hy
    refine (frameFeed base sb v l a n cap xs w h hbase hsb hx hl hw hs).mono ?_
    rintro e w' ⟨fv, v', fsx, l', why', vals, he, hr, h1, h2, h3, h4, h5⟩
    exact ⟨fv, v', fsx, l', why', vals, he, .inr ⟨rfl, hr⟩, h1, h2, h3, h4, h5⟩
  · refine (frameFeed_no base sb v l why a n cap w h hy).mono ?_
    rintro e w' ⟨he, hb⟩
    exact ⟨.slice none 0 0, v, [], l, why, [], he, .inl ⟨hy, rfl⟩, h.ext hb, World.ownsRow_nil _ _ _ _, VAt.nil _ _ _, fedw_same hb, fun g hg => .inl hg⟩

def RefA (wb : Nat) (g : Option Nat) (l : List Int) (why : Int) (xs : List Int) (w : World) (e : Ending) (w' : World) : Prop :=
  ∃ (fv : Value) (fsx : List (List Int)) (l' : List Int) (why' : Int) (vals : List Value), e = .returned (.tuple #[fv, .int .i64 why']) ∧ Fs l why xs (fsx, l', why') ∧ RefAt w' wb l' why' g ∧
    w'.ownsRow w.heap.size 22 1 fv fsx.length vals ∧ VAt w.heap.size none w' vals fsx ∧ Rim wb w w'

theorem refFeedAny (wb : Nat) (g : Option Nat) (l : List Int) (why : Int) (a : Option Addr) (n cap : Nat) (xs : List Int) (w : World) (h : RefAt w wb l why g) (hg : ∀ k, g = some k → k < w.heap.size) (hx : BAt w a xs) (hl : xs.length = n) (hw : Wb xs) (hs : 3 * (l.length + n) ≤ 140737488355328) :
    Calls Try.prog 21 #[.pointer (some ⟨wb, 0, none⟩), .slice a n cap] w (RefA wb g l why xs w) := by
  by_cases hy : why = 0
  · subst hy
    refine (refFeed wb g l a n cap xs w h hg hx hl hw hs).mono ?_
    rintro e w' ⟨fv, fsx, l', why', vals, he, hr, h1, h2, h3, h4⟩
    exact ⟨fv, fsx, l', why', vals, he, .inr ⟨rfl, hr⟩, h1, h2, h3, h4⟩
  · refine (refFeed_no wb g l why a n cap w h hy).mono ?_
    rintro e w' ⟨he, hb⟩
    exact ⟨.slice none 0 0, [], l, why, [], he, .inl ⟨hy, rfl⟩, h.ext hb, World.ownsRow_nil _ _ _ _, VAt.nil _ _ _, Rim.of hb⟩

end Go.Proofs.Ytiblnonmlekjgaa
