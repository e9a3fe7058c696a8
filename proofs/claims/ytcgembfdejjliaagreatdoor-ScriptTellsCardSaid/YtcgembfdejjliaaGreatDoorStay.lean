/- A region that draws its order, whose operations read and whose callees make new memory alone: one walk, in the order of the text, serves every order. -/
import Derived.Test.YtcgembfdejjliaaGreatDoorExt
import Derived.Deep.QuietTactic
import Derived.BigQuiet
namespace Go.Proofs.YtcgembfdejjliaaGreatDoor
open Go.RowKit

/-- a world of which S holds -/
structure In (S : World → Prop) where
  w : World
  h : S w

/-- a world that has grown out of W -/
abbrev Of (W : World) := In (Below W.heap.size W)

theorem of_some (W : World) : Nonempty (Of W) := ⟨⟨W, Below.refl _ _⟩⟩
theorem of_cell {W : World} {b o : Nat} {v : Value} (h : W.cell? ⟨b, o, none⟩ = some v) : ∀ g : Of W, g.w.cell? ⟨b, o, none⟩ = some v := fun g => ext_cell g.h h
theorem of_cells (W : World) : ∀ (g : Of W) (b o : Nat), b < W.heap.size → g.w.cell? ⟨b, o, none⟩ = W.cell? ⟨b, o, none⟩ := fun g b o h => g.h.cell (p := ⟨b, o, none⟩) h

theorem wp_region_stay {P : Program} {id : Nat} {Q : Exit → Act → World → Prop} {a : Act} {w : World} {l : List Oper} (W : World) (hm : P.follows .mixedOrders = true) (hB : Region.lexB .any l.toArray = true) (hw : Below W.heap.size W w)
    (h : wpQuiet P l.toArray (fun w' => ∃ g : Of W, w' = g.w) (fun a' => ∀ w', Below W.heap.size W w' → Q .normal a' w') l a) : (Code.region id l.toArray true).wp P Q a w := by
  refine wp_region_quiet (C := fun w' => ∃ g : Of W, w' = g.w) hm hB ⟨⟨_, hw.drew⟩, rfl⟩ ?_
  have e : (fun a' : Act => ∀ w' : World, (∃ g : Of W, w' = g.w) → Q .normal a' w') = fun a' => ∀ w', Below W.heap.size W w' → Q .normal a' w' := by
    funext a'
    exact propext ⟨fun h w' hb => h w' ⟨⟨w', hb⟩, rfl⟩, fun h w' ⟨g, hg⟩ => h w' (by rw [hg]; exact g.h)⟩
  rw [e]
  simpa using h

theorem wpList_of_quiet {P : Program} {ops : Array Oper} {C : World → Prop} {Qq : Act → Prop} {Q : Exit → Act → World → Prop} (hQ : ∀ a w, C w → Qq a → Q .normal a w) :
    ∀ (l : List Oper) (a : Act) (w : World), C w → wpQuiet P ops C Qq l a → wpList P ops Q l a w
  | [], a, w, hw, h => hQ a w hw h
  | o :: l, a, w, hw, h => by
    unfold wpList
    unfold wpQuiet at h
    by_cases hg : Region.wanted o (yielded ops a.tmps) = true
    · rw [if_pos hg] at h ⊢
      exact .inl (Oper.wp_of_quiet hw (fun a' w' hw' hk => wpList_of_quiet hQ l a' w' hw' hk) h)
    · rw [if_neg hg] at h ⊢
      exact wpList_of_quiet hQ l _ w hw h

/-- the same of a region whose order is its text's -/
theorem wp_region_stay_seq {P : Program} {id : Nat} {Q : Exit → Act → World → Prop} {a : Act} {w : World} {l : List Oper} (W : World) (hw : Below W.heap.size W w)
    (h : wpQuiet P l.toArray (fun w' => ∃ g : Of W, w' = g.w) (fun a' => ∀ w', Below W.heap.size W w' → Q .normal a' w') l a) : (Code.region id l.toArray false).wp P Q a w :=
  wp_region_lit (wpList_of_quiet (fun a' w' ⟨g, hg⟩ hq => hq w' (by rw [hg]; exact g.h)) l a w ⟨⟨w, hw⟩, rfl⟩ h)

/-- the world as a letter, of which alone is known what is said -/
theorem wp_letter {P : Program} {c : Code} {Q : Exit → Act → World → Prop} {a : Act} {w : World} (F : World → Prop) (hF : F w) (h : ∀ W, F W → c.wp P Q a W) : c.wp P Q a w := h w hF

/-- a callee that makes new memory alone -/
theorem stay_call {P : Program} {f : FuncId} {args : Array Value} {W : World} {g : Of W} {v : Value} (h : Calls P f args g.w fun e w' => e = .returned v ∧ Below g.w.heap.size g.w w') :
    Calls P f args g.w fun e w'' => e = .returned v ∧ ∃ g' : Of W, w'' = g'.w :=
  h.mono fun _ _ ⟨he, hb⟩ => ⟨he, ⟨⟨_, ext_trans g.h hb⟩, rfl⟩⟩
/-- a callee that leaves the world alone -/
theorem stay_same {P : Program} {f : FuncId} {args : Array Value} {W : World} {g : Of W} {v : Value} (h : Calls P f args g.w fun e w' => e = .returned v ∧ g.w = w') :
    Calls P f args g.w fun e w'' => e = .returned v ∧ ∃ g' : Of W, w'' = g'.w :=
  h.mono fun _ _ ⟨he, hb⟩ => ⟨he, ⟨g, hb.symm⟩⟩
/-- .. its answer as what it comes to -/
theorem stay_as {P : Program} {f : FuncId} {args : Array Value} {W : World} {g : Of W} {v u : Value} (h : Calls P f args g.w fun e w' => e = .returned v ∧ Below g.w.heap.size g.w w') (e : v = u) :
    Calls P f args g.w fun e w'' => e = .returned u ∧ ∃ g' : Of W, w'' = g'.w := stay_call (e ▸ h)
theorem stay_bool {P : Program} {f : FuncId} {args : Array Value} {W : World} {g : Of W} {v u : Bool} (h : Calls P f args g.w fun e w' => e = .returned (.bool v) ∧ Below g.w.heap.size g.w w') (e : v = u) :
    Calls P f args g.w fun e w'' => e = .returned (.bool u) ∧ ∃ g' : Of W, w'' = g'.w := stay_call (e ▸ h)

end Go.Proofs.YtcgembfdejjliaaGreatDoor
