/- Several texts as one: Ext, Mask, Open, Own, Stay, Blk, Inv, Fill. -/
import Derived.WalkKit
import Derived.WalkSpells
import Derived.WalkLawsBesides
import Derived.Handy
import Derived.Lib.Hide
import Derived.Deep.RegionHeld3
import Derived.Laws.BitsLemmas
import Derived.Test.YtloeabdohgdmkaaRows
import Derived.ProofKit
import Derived.OpenShut
import Derived.ShutString
import Derived.ChangeOld
import Derived.Below
import Derived.Lib.SmallJoins
import Derived.SizedLaws
import Derived.Deep.QuietTactic
import Derived.BigQuiet
import Derived.OneCell
import Derived.Orders
/- What a call that makes new memory alone leaves of the memory that was there. -/
namespace Go.Proofs.Ytloeabdohgdmkaa
open Go.RowKit
set_option linter.unusedVariables false

theorem ext_trans {a b c : World} (h : Below a.heap.size a b) (k : Below b.heap.size b c) : Below a.heap.size a c := h.trans (k.mono h.size)

theorem cell_lt {w : World} {b o : Nat} {v : Value} (h : w.cell? ⟨b, o, none⟩ = some v) : b < w.heap.size := World.block_lt_of_cell? w ⟨b, o, none⟩ h

theorem ext_cell {w w' : World} (hb : Below w.heap.size w w') {b o : Nat} {v : Value} (h : w.cell? ⟨b, o, none⟩ = some v) : w'.cell? ⟨b, o, none⟩ = some v :=
  (hb.cell (p := ⟨b, o, none⟩) (cell_lt h)).trans h

theorem ext_frozen {w w' : World} (hb : Below w.heap.size w w') {b o : Nat} {v : Value} (h : w.cell? ⟨b, o, none⟩ = some v) (hf : w.frozen? ⟨b, o, none⟩ = false) : w'.frozen? ⟨b, o, none⟩ = false :=
  (hb.frozen (p := ⟨b, o, none⟩) (cell_lt h)).trans hf

/-- a block that is there, whole -/
theorem ext_block {w w' : World} (hb : Below w.heap.size w w') {b : Nat} {o : Obj} (h : w.heap[b]? = some o) : w'.heap[b]? = some o :=
  (hb.block b (by have := Array.getElem?_eq_some_iff.1 h; exact this.1)).trans h

/-- what holds of a world, and still holds where new memory was made -/
def Stay (S : World → Prop) : Prop := ∀ w w' : World, Below w.heap.size w w' → S w → S w'
theorem Stay.drew {S : World → Prop} (hs : Stay S) {w : World} (h : S w) : S w.drew := hs w _ (Below.refl _ _).drew h
theorem Stay.on {S : World → Prop} (hs : Stay S) {w w' : World} (hb : Below w.heap.size w w') (h : S w) : S w' := hs w w' hb h

/-- only block b may hold something other; nothing is new -/
structure Kept (b : Nat) (w w' : World) : Prop where
  os : w'.os = w.os
  tape : w'.tape = w.tape
  output : w'.output = w.output
  size : w'.heap.size = w.heap.size
  block : ∀ k, k ≠ b → w'.heap[k]? = w.heap[k]?
theorem Kept.refl (b : Nat) (w : World) : Kept b w w := ⟨rfl, rfl, rfl, rfl, fun _ _ => rfl⟩
theorem Kept.setCell {b : Nat} {w w' : World} (h : Kept b w w') (o : Nat) (v : Value) : Kept b w (w'.setCell ⟨b, o, none⟩ v) :=
  ⟨h.os, h.tape, h.output, by simp [World.setCell, h.size], fun k hk => (Below.heap_setCell _ _ _ _ hk).trans (h.block k hk)⟩
theorem Kept.drew {b : Nat} {w w' : World} (h : Kept b w w') : Kept b w w'.drew := ⟨h.os, h.tape, h.output, h.size, h.block⟩
theorem Kept.below {b n : Nat} {w w' : World} (h : Kept b w w') (hn : n ≤ b) : Below n w w' := ⟨h.os, h.tape, h.output, Nat.le_of_eq h.size.symm, fun k hk => h.block k (by omega)⟩
theorem Kept.cell {b : Nat} {w w' : World} (h : Kept b w w') {b' o : Nat} {v : Value} (hb : b' ≠ b) (hc : w.cell? ⟨b', o, none⟩ = some v) : w'.cell? ⟨b', o, none⟩ = some v :=
  (World.cell?_of_block (w := w) (h.block b' hb)).trans hc
theorem Kept.frozen {b : Nat} {w w' : World} (h : Kept b w w') {b' o : Nat} (hb : b' ≠ b) (hc : w.frozen? ⟨b', o, none⟩ = false) : w'.frozen? ⟨b', o, none⟩ = false :=
  (World.frozen?_of_block (w := w) (h.block b' hb)).trans hc

end Go.Proofs.Ytloeabdohgdmkaa

/- The lowest bits of a number, as what is left of it. -/
namespace Go.Proofs.Ytloeabdohgdmkaa
open Go.RowKit

end Go.Proofs.Ytloeabdohgdmkaa

/- What comes in, opened: stamps, slices of integers. -/
namespace Go.Proofs.Ytloeabdohgdmkaa
open Go.ChangeShapes Go.WideShapes Go.ChangeAt Go.RowKit

/-- a slice of integers that came in: it is empty; or it leads to a row of cells, the numbers 'zs' -/
def IsRow (k : IntKind) (w : World) (a : Option Addr) (len cap : Nat) (zs : List Int) : Prop :=
  len ≤ cap ∧ cap ≤ maxLen ∧ zs.length = len ∧ (∀ n ∈ zs, (Lit.int k n).wf = true) ∧
  (len = 0 ∨ ∃ b o, a = some ⟨b, o, none⟩ ∧ ∀ i, i < len → w.cell? ⟨b, o + i, none⟩ = some (.int k (zs.getD i 0)))

end Go.Proofs.Ytloeabdohgdmkaa

/- A row that the call has gathered itself, read as a row. -/
namespace Go.Proofs.Ytloeabdohgdmkaa
open Go.RowKit
set_option linter.unusedVariables false

theorem isRow_of_owns {w : World} {base n : Nat} {e : TypeId} {k : IntKind} {v : Value} {xs : List Int} (h : w.ownsRow base e 1 v n (xs.map (Value.int k))) (hl : xs.length = n) (hw : ∀ x ∈ xs, (Lit.int k x).wf = true) :
    ∃ a cap, v = .slice a n cap ∧ IsRow k w a n cap xs := by
  obtain ⟨h1, h2⟩ := h
  rcases h2 with ⟨rfl, rfl⟩ | ⟨g, cap, cur, rfl, hg, hh, hnc, hcm, hcs, ht⟩
  · exact ⟨none, 0, rfl, Nat.le_refl _, Nat.zero_le _, hl, hw, .inl rfl⟩
  · refine ⟨_, _, rfl, hnc, hcm, hl, hw, .inr ⟨g, 0, rfl, fun i hi => ?_⟩⟩
    have h3 : (cur.toList.take (n * 1))[i]? = (xs.map (Value.int k))[i]? := by rw [ht]
    simp only [World.cell?, hh]
    simp [hi, hl] at h3
    simp [h3, hi, hl, List.getD]

theorem own_ge {w : World} {base n size : Nat} {e : TypeId} {v : Value} {xs : List Value} (h : w.ownsRow base e size v n xs) {k : Nat} (hk : v.ownBlock = some k) : base ≤ k := by
  obtain ⟨_, h2⟩ := h
  rcases h2 with ⟨rfl, _⟩ | ⟨g, cap, cur, rfl, hg, _⟩
  · simp [Value.ownBlock] at hk
  · simp [Value.ownBlock] at hk; omega
theorem IsRow.ext {k : IntKind} {w w' : World} {a : Option Addr} {len cap : Nat} {zs : List Int} (h : IsRow k w a len cap zs) (hb : Below w.heap.size w w') : IsRow k w' a len cap zs := by
  obtain ⟨h1, h2, h3, h4, h5⟩ := h
  refine ⟨h1, h2, h3, h4, ?_⟩
  rcases h5 with h5 | ⟨b, o, h6, h7⟩
  · exact .inl h5
  · exact .inr ⟨b, o, h6, fun i hi => ext_cell hb (h7 i hi)⟩

theorem getD_wf {zs : List Int} {j : Nat} (h : ∀ x ∈ zs, (Lit.int .i64 x).wf = true) : (Lit.int .i64 (zs.getD j 0)).wf = true := by
  by_cases hj : j < zs.length
  · exact h _ (by simp [List.getD, hj])
  · simp [List.getD, List.getElem?_eq_none (Nat.le_of_not_lt hj)]; decide

end Go.Proofs.Ytloeabdohgdmkaa

/- A region that draws its order, whose operations read and whose callees make new memory alone: one walk, in the order of the text, serves every order. -/
namespace Go.Proofs.Ytloeabdohgdmkaa
open Go.RowKit

/-- a world of which S holds -/
structure In (S : World → Prop) where
  w : World
  h : S w

/-- a world that has grown out of W -/
abbrev Of (W : World) := In (Below W.heap.size W)

theorem of_some (W : World) : Nonempty (Of W) := ⟨⟨W, Below.refl _ _⟩⟩
theorem of_cell {W : World} {b o : Nat} {v : Value} (h : W.cell? ⟨b, o, none⟩ = some v) : ∀ g : Of W, g.w.cell? ⟨b, o, none⟩ = some v := fun g => ext_cell g.h h
theorem wp_region_stay {P : Program} {id : Nat} {Q : Exit → Act → World → Prop} {a : Act} {w : World} {l : List Oper} (W : World) (hm : P.follows .mixedOrders = true) (hB : Region.lexB .any l.toArray = true) (hw : Below W.heap.size W w)
    (h : wpQuiet P l.toArray (fun w' => ∃ g : Of W, w' = g.w) (fun a' => ∀ w', Below W.heap.size W w' → Q .normal a' w') l a) : (Code.region id l.toArray true).wp P Q a w := by
  refine wp_region_quiet (C := fun w' => ∃ g : Of W, w' = g.w) hm hB ⟨⟨_, hw.drew⟩, rfl⟩ ?_
  have e : (fun a' : Act => ∀ w' : World, (∃ g : Of W, w' = g.w) → Q .normal a' w') = fun a' => ∀ w', Below W.heap.size W w' → Q .normal a' w' := by
    funext a'
    exact propext ⟨fun h w' hb => h w' ⟨⟨w', hb⟩, rfl⟩, fun h w' ⟨g, hg⟩ => h w' (by rw [hg]; exact g.h)⟩
  rw [e]
  simpa using h

theorem wpList_of_quiet {P : Program} {ops : Array Oper} {C : World → Prop} {Qq : Act → Prop} {Q : Exit → Act → World → Prop} (hQ : ∀ a w, C w → Qq a → Q .normal a w) :
    ∀ (l : List Oper) (a : Act) (w : World), C w → wpQuiet P ops C Qq l a → wpList P ops Q l a w
  | [], a, w, hw, h => hQ a w hw h
  | o :: l, a, w, hw, h => by
    unfold wpList
    unfold wpQuiet at h
    by_cases hg : Region.wanted o (yielded ops a.tmps) = true
    · rw [if_pos hg] at h ⊢
      exact .inl (Oper.wp_of_quiet hw (fun a' w' hw' hk => wpList_of_quiet hQ l a' w' hw' hk) h)
    · rw [if_neg hg] at h ⊢
      exact wpList_of_quiet hQ l _ w hw h

/-- the same of a region whose order is its text's -/
theorem wp_region_stay_seq {P : Program} {id : Nat} {Q : Exit → Act → World → Prop} {a : Act} {w : World} {l : List Oper} (W : World) (hw : Below W.heap.size W w)
    (h : wpQuiet P l.toArray (fun w' => ∃ g : Of W, w' = g.w) (fun a' => ∀ w', Below W.heap.size W w' → Q .normal a' w') l a) : (Code.region id l.toArray false).wp P Q a w :=
  wp_region_lit (wpList_of_quiet (fun a' w' ⟨g, hg⟩ hq => hq w' (by rw [hg]; exact g.h)) l a w ⟨⟨w, hw⟩, rfl⟩ h)

/-- the world as a letter, of which alone is known what is said -/
theorem wp_letter {P : Program} {c : Code} {Q : Exit → Act → World → Prop} {a : Act} {w : World} (F : World → Prop) (hF : F w) (h : ∀ W, F W → c.wp P Q a W) : c.wp P Q a w := h w hF

/-- a callee that makes new memory alone -/
theorem stay_call {P : Program} {f : FuncId} {args : Array Value} {W : World} {g : Of W} {v : Value} (h : Calls P f args g.w fun e w' => e = .returned v ∧ Below g.w.heap.size g.w w') :
    Calls P f args g.w fun e w'' => e = .returned v ∧ ∃ g' : Of W, w'' = g'.w :=
  h.mono fun _ _ ⟨he, hb⟩ => ⟨he, ⟨⟨_, ext_trans g.h hb⟩, rfl⟩⟩
/-- a callee that leaves the world alone -/
theorem stay_same {P : Program} {f : FuncId} {args : Array Value} {W : World} {g : Of W} {v : Value} (h : Calls P f args g.w fun e w' => e = .returned v ∧ g.w = w') :
    Calls P f args g.w fun e w'' => e = .returned v ∧ ∃ g' : Of W, w'' = g'.w :=
  h.mono fun _ _ ⟨he, hb⟩ => ⟨he, ⟨g, hb.symm⟩⟩
/-- .. its answer as what it comes to -/
theorem stay_as {P : Program} {f : FuncId} {args : Array Value} {W : World} {g : Of W} {v u : Value} (h : Calls P f args g.w fun e w' => e = .returned v ∧ Below g.w.heap.size g.w w') (e : v = u) :
    Calls P f args g.w fun e w'' => e = .returned u ∧ ∃ g' : Of W, w'' = g'.w := stay_call (e ▸ h)
theorem stay_bool {P : Program} {f : FuncId} {args : Array Value} {W : World} {g : Of W} {v u : Bool} (h : Calls P f args g.w fun e w' => e = .returned (.bool v) ∧ Below g.w.heap.size g.w w') (e : v = u) :
    Calls P f args g.w fun e w'' => e = .returned (.bool u) ∧ ∃ g' : Of W, w'' = g'.w := stay_call (e ▸ h)

end Go.Proofs.Ytloeabdohgdmkaa

/- Blocks that are known whole: what a block holds, behind what is made and written beside it. -/
namespace Go.Proofs.Ytloeabdohgdmkaa
open Go.RowKit

@[reducible] def Blk (w : World) (b : Nat) (vs : Array Value) (T : TypeId) : Prop := w.heap[b]? = some (.cells vs T (0, 0))

theorem blk_new (w : World) (vs : Array Value) (T : TypeId) : (w.alloc (.cells vs T)).heap[w.heap.size]? = some (.cells vs T (0, 0)) := by
  show (w.heap.push _)[w.heap.size]? = _
  simp
theorem blk_new_at {w : World} {b : Nat} (e : w.heap.size = b) (vs : Array Value) (T : TypeId) : (w.alloc (.cells vs T)).heap[b]? = some (.cells vs T (0, 0)) := by
  subst e; exact blk_new _ _ _
theorem blk_lt {w : World} {b : Nat} {o : Obj} (h : w.heap[b]? = some o) : b < w.heap.size := lt_of_block h
theorem blk_alloc {w : World} {b : Nat} {o : Obj} (h : w.heap[b]? = some o) (x : Obj) : (w.alloc x).heap[b]? = some o := by
  have := blk_lt h
  show (w.heap.push _)[b]? = _
  rw [Array.getElem?_push, if_neg (by omega)]
  exact h
theorem blk_drew {w : World} {b : Nat} {o : Obj} (h : w.heap[b]? = some o) : w.drew.heap[b]? = some o := h
theorem blk_set_other {w : World} {b b' n : Nat} {o : Obj} {u : Value} (hn : b ≠ b') (h : w.heap[b]? = some o) : (w.setCell ⟨b', n, none⟩ u).heap[b]? = some o :=
  (Below.heap_setCell w _ u b hn).trans h
theorem blk_set {w : World} {b n : Nat} {vs vs' : Array Value} {T : TypeId} {u : Value} (h : w.heap[b]? = some (.cells vs T (0, 0))) (e : vs.setIfInBounds n u = vs') : (w.setCell ⟨b, n, none⟩ u).heap[b]? = some (.cells vs' T (0, 0)) := by
  have hlt := blk_lt h
  have h' : w.heap[b] = .cells vs T (0, 0) := by simpa [Array.getElem?_eq_getElem hlt] using h
  show (w.heap.modify b _)[b]? = _
  rw [Array.getElem?_eq_getElem (by simpa using hlt), Array.getElem_modify_self, h', ← e]
  rfl
theorem blk_ext {w w' : World} (hb : Below w.heap.size w w') {b : Nat} {vs : Array Value} {T : TypeId} (h : w.heap[b]? = some (.cells vs T (0, 0))) : w'.heap[b]? = some (.cells vs T (0, 0)) := ext_block hb h
theorem blk_cell {w : World} {b : Nat} {vs : Array Value} {T : TypeId} (h : w.heap[b]? = some (.cells vs T (0, 0))) : ∀ n, w.cell? ⟨b, n, none⟩ = vs[n]? := fun n => by simp [World.cell?, h]
theorem blk_free {w : World} {b : Nat} {vs : Array Value} {T : TypeId} (h : w.heap[b]? = some (.cells vs T (0, 0))) : ∀ n, w.frozen? ⟨b, n, none⟩ = false := fun n => by simp [World.frozen?, h]
theorem blk_of {W : World} {b : Nat} {vs : Array Value} {T : TypeId} (h : W.heap[b]? = some (.cells vs T (0, 0))) : ∀ (g : Of W) n, g.w.cell? ⟨b, n, none⟩ = vs[n]? := fun g n => blk_cell (blk_ext g.h h) n

end Go.Proofs.Ytloeabdohgdmkaa

/- A region that draws its order, by what holds of it whatever has come up so far: each operation is looked at once. -/
namespace Go.Proofs.Ytloeabdohgdmkaa
open Go.RowKit

/-- every edge of operation number k and the later ones leads to an earlier operation -/
def backB : Nat → List Oper → Bool
  | _, [] => true
  | k, o :: l => o.after.all (fun e => !Region.binds .any e || decide (e.on < k)) && backB (k + 1) l

def StepOk (P : Program) (ops : Array Oper) (Q : Exit → Act → World → Prop) (I : (Nat → Bool) → Act → World → Prop) (i : Nat) (o : Oper) : Prop :=
  ∀ d a w, I d a w → d i = false → (∀ e ∈ o.after, Region.binds .any e = true → d e.on = true) → ∀ K : Act → World → Prop, (∀ a' w', I (fun j => d j || j == i) a' w' → K a' w') →
    if Region.wanted o (yielded ops a.tmps) then o.wp P a w K Q else K (a.put o.dst undef) w

def StepsOk (P : Program) (ops : Array Oper) (Q : Exit → Act → World → Prop) (I : (Nat → Bool) → Act → World → Prop) : Nat → List Oper → Prop
  | _, [] => True
  | k, o :: l => StepOk P ops Q I k o ∧ StepsOk P ops Q I (k + 1) l

theorem up {b c : Bool} (h : (b || c) = true) (hc : c = false) : b = true := by subst hc; simpa using h
theorem upl {b c : Bool} (h : b = true) : (b || c) = true := by simp [h]
theorem dn {b c : Bool} (h : (b || c) = false) : b = false := by cases b <;> simp_all
theorem stepsOk_nil {P : Program} {ops : Array Oper} {Q : Exit → Act → World → Prop} {I : (Nat → Bool) → Act → World → Prop} {k : Nat} : StepsOk P ops Q I k [] := trivial
theorem stepsOk_cons {P : Program} {ops : Array Oper} {Q : Exit → Act → World → Prop} {I : (Nat → Bool) → Act → World → Prop} {k : Nat} {o : Oper} {l : List Oper} (h : StepOk P ops Q I k o) (t : StepsOk P ops Q I (k + 1) l) : StepsOk P ops Q I k (o :: l) := ⟨h, t⟩
theorem stepsOk_at {P : Program} {ops : Array Oper} {Q : Exit → Act → World → Prop} {I : (Nat → Bool) → Act → World → Prop} :
    ∀ (l : List Oper) (k i : Nat) (o : Oper), StepsOk P ops Q I k l → l[i]? = some o → StepOk P ops Q I (k + i) o
  | [], _, _, _, _, h => by simp at h
  | x :: l, k, 0, o, hs, h => by simp at h; subst h; exact hs.1
  | x :: l, k, i + 1, o, hs, h => by
    have := stepsOk_at l (k + 1) i o hs.2 (by simpa using h)
    rwa [show k + (i + 1) = k + 1 + i from by omega]

theorem backB_at : ∀ (l : List Oper) (k i : Nat) (o : Oper), backB k l = true → l[i]? = some o → ∀ e ∈ o.after, Region.binds .any e = true → e.on < k + i
  | [], _, _, _, _, h => by simp at h
  | x :: l, k, 0, o, hs, h => by
    simp at h; subst h
    intro e he hb
    simp only [backB, Bool.and_eq_true, Array.all_eq_true'] at hs
    have := hs.1 e he
    simp [hb] at this
    omega
  | x :: l, k, i + 1, o, hs, h => by
    simp only [backB, Bool.and_eq_true] at hs
    have := backB_at l (k + 1) i o hs.2 (by simpa using h)
    intro e he hb
    have := this e he hb
    omega

theorem all_listed {ops : Array Oper} {L : Array Bool} (hB : backB 0 ops.toList = true) (hr : Region.ready .any ops L = []) (hz : L.size = ops.size) : ∀ i, i < ops.size → L.getD i false = true := by
  intro i
  induction i using Nat.strongRecOn with
  | ind i ih =>
    intro hi
    cases hL : L.getD i false with
    | true => rfl
    | false =>
      exfalso
      have hm : i ∈ Region.ready .any ops L := by
        rw [mem_ready]
        refine ⟨?_, ops[i], by simp [hi], ?_⟩
        · simp [hz, hi] at hL ⊢
          exact hL
        · intro e he hb
          have hlt := backB_at ops.toList 0 i ops[i] hB (by simp [hi]) e he hb
          exact ih e.on (by omega) (by omega)
      rw [hr] at hm
      cases hm

theorem wpAny_of_inv {P : Program} {ops : Array Oper} {Q : Exit → Act → World → Prop} (I : (Nat → Bool) → Act → World → Prop) (hB : backB 0 ops.toList = true)
    (hs : StepsOk P ops Q I 0 ops.toList) (he : ∀ d a w, I d a w → (∀ i, i < ops.size → d i = true) → Q .normal a w) :
    ∀ (fuel : Nat) (L : Array Bool) (a : Act) (w : World), L.size = ops.size → L.toList.count false ≤ fuel → I (fun j => L.getD j false) a w → wpAny P .any ops Q fuel L a w := by
  intro fuel
  induction fuel with
  | zero =>
    intro L a w hz hc hI
    have hall : ∀ i, i < ops.size → L.getD i false = true := by
      intro i hi
      cases hL : L.getD i false with
      | true => rfl
      | false =>
        exfalso
        have : false ∈ L.toList := by
          simp [hz, hi] at hL
          rw [← hL]; simp
        have := List.count_pos_iff.2 this
        omega
    refine ⟨?_, he _ _ _ hI hall⟩
    cases hr : Region.ready .any ops L with
    | nil => rfl
    | cons j js =>
      exfalso
      have hm : j ∈ Region.ready .any ops L := by rw [hr]; simp
      obtain ⟨h1, o, h2, _⟩ := mem_ready.1 hm
      have hj : j < ops.size := by
        rcases Nat.lt_or_ge j ops.size with h | h
        · exact h
        · simp [Array.getElem?_eq_none h] at h2
      have h3 := hall j hj
      simp [hz, hj] at h1 h3
      rw [h1] at h3
      cases h3
  | succ fuel ih =>
    intro L a w hz hc hI
    refine ⟨fun hr => he _ _ _ hI (all_listed hB hr hz), fun i hi => ?_⟩
    obtain ⟨h1, o, h2, h3⟩ := mem_ready.1 hi
    have hi' : i < ops.size := by
      rcases Nat.lt_or_ge i ops.size with h | h
      · exact h
      · simp [Array.getElem?_eq_none h] at h2
    have hst := stepsOk_at ops.toList 0 i o hs (by simpa using h2)
    rw [Nat.zero_add] at hst
    have hLi : L[i]'(by omega) = false := by simpa [hz, hi'] using h1
    have hnext : ∀ a' w', I (fun j => L.getD j false || j == i) a' w' → wpAny P .any ops Q fuel (L.setIfInBounds i true) a' w' := by
      intro a' w' hI'
      refine ih _ a' w' (by simpa using hz) ?_ ?_
      · have hcs : (L.setIfInBounds i true).toList.count false = L.toList.count false - 1 := by
          simp only [Array.toList_setIfInBounds]
          rw [List.count_set (by simp; omega)]
          simp [hLi]
        omega
      · have e : (fun j => (L.setIfInBounds i true).getD j false) = fun j => L.getD j false || j == i := by
          funext j
          by_cases hji : j = i
          · subst hji; simp [hz, hi']
          · by_cases hjz : j < L.size
            · simp [hjz, hji, Ne.symm hji]
            · simp [hjz, hji]
        rw [e]; exact hI'
    have hx := hst _ a w hI (by simpa [hz, hi'] using h1) h3 _ hnext
    unfold wpOp
    simp only [h2]
    split
    · rename_i hw; rw [if_pos hw] at hx; exact .inl hx
    · rename_i hw; rw [if_neg hw] at hx; exact hx

/-- a region that draws its order -/
theorem wp_region_inv {P : Program} {id : Nat} {Q : Exit → Act → World → Prop} {a : Act} {w : World} {l : List Oper} (I : (Nat → Bool) → Act → World → Prop) (hm : P.follows .mixedOrders = true)
    (hB : backB 0 l = true) (h0 : I (fun _ => false) a w.drew) (hs : StepsOk P l.toArray Q I 0 l) (he : ∀ d a w, I d a w → (∀ i, i < l.length → d i = true) → Q .normal a w) : (Code.region id l.toArray true).wp P Q a w := by
  refine wp_region_any hm (wpAny_of_inv I (by simpa using hB) (by simpa using hs) (by simpa using he) _ _ _ _ (by simp) (by simp) ?_)
  have e : (fun j => (Array.replicate l.toArray.size false).getD j false) = fun _ => false := by
    funext j
    by_cases hj : j < l.length
    · simp [hj]
    · simp [hj]
  rw [e]
  exact h0

/-- the same, 'J' speaking of the frame at the beginning, too -/
theorem wp_region_inv_at {P : Program} {id : Nat} {Q : Exit → Act → World → Prop} {a : Act} {w : World} {l : List Oper} {J : Act → (Nat → Bool) → Act → World → Prop} (hm : P.follows .mixedOrders = true)
    (hB : backB 0 l = true) (h0 : J a (fun _ => false) a w.drew) (hs : StepsOk P l.toArray Q (J a) 0 l) (he : ∀ d a' w, J a d a' w → (∀ i, i < l.length → d i = true) → Q .normal a' w) : (Code.region id l.toArray true).wp P Q a w :=
  wp_region_inv (J a) hm hB h0 hs he

/-- the same, 'J a' written out -/
theorem wp_region_inv_eq {P : Program} {id : Nat} {Q : Exit → Act → World → Prop} {a : Act} {w : World} {l : List Oper} {J : Act → (Nat → Bool) → Act → World → Prop} {J' : (Nat → Bool) → Act → World → Prop} (_ : J a = J') (hm : P.follows .mixedOrders = true)
    (hB : backB 0 l = true) (h0 : J' (fun _ => false) a w.drew) (hs : StepsOk P l.toArray Q J' 0 l) (he : ∀ d a' w, J' d a' w → (∀ i, i < l.length → d i = true) → Q .normal a' w) : (Code.region id l.toArray true).wp P Q a w :=
  wp_region_inv J' hm hB h0 hs he

end Go.Proofs.Ytloeabdohgdmkaa

/- A block of which all cells are written. -/
namespace Go.Proofs.Ytloeabdohgdmkaa
open Go.RowKit
set_option linter.unusedVariables false

theorem blk_fill3 {w : World} {b : Nat} {T : TypeId} {vs : Array Value} {v0 v1 v2 : Value} (h : w.heap[b]? = some (.cells vs T (0, 0))) (hs : vs.size = 3) : (((w.setCell ⟨b, 0, none⟩ v0).setCell ⟨b, 1, none⟩ v1).setCell ⟨b, 2, none⟩ v2).heap[b]? = some (.cells #[v0, v1, v2] T (0, 0)) := by
  obtain ⟨l⟩ := vs
  match l, hs with
  | [x0, x1, x2], _ =>
    have h0 := blk_set (n := 0) (u := v0) (vs' := #[v0, x1, x2]) h (by simp)
    have h1 := blk_set (n := 1) (u := v1) (vs' := #[v0, v1, x2]) h0 (by simp)
    have h2 := blk_set (n := 2) (u := v2) (vs' := #[v0, v1, v2]) h1 (by simp)
    exact h2
theorem below_fill3 {m : Nat} {u w : World} {b : Nat} {v0 v1 v2 : Value} (h : Below m u w) (hb : m ≤ b) : Below m u (((w.setCell ⟨b, 0, none⟩ v0).setCell ⟨b, 1, none⟩ v1).setCell ⟨b, 2, none⟩ v2) := (((h.setCell hb _).setCell hb _).setCell hb _)

theorem blk_fill9 {w : World} {b : Nat} {T : TypeId} {vs : Array Value} {v0 v1 v2 v3 v4 v5 v6 v7 v8 : Value} (h : w.heap[b]? = some (.cells vs T (0, 0))) (hs : vs.size = 9) : (((((((((w.setCell ⟨b, 0, none⟩ v0).setCell ⟨b, 1, none⟩ v1).setCell ⟨b, 2, none⟩ v2).setCell ⟨b, 3, none⟩ v3).setCell ⟨b, 4, none⟩ v4).setCell ⟨b, 5, none⟩ v5).setCell ⟨b, 6, none⟩ v6).setCell ⟨b, 7, none⟩ v7).setCell ⟨b, 8, none⟩ v8).heap[b]? = some (.cells #[v0, v1, v2, v3, v4, v5, v6, v7, v8] T (0, 0)) := by
  obtain ⟨l⟩ := vs
  match l, hs with
  | [x0, x1, x2, x3, x4, x5, x6, x7, x8], _ =>
    have h0 := blk_set (n := 0) (u := v0) (vs' := #[v0, x1, x2, x3, x4, x5, x6, x7, x8]) h (by simp)
    have h1 := blk_set (n := 1) (u := v1) (vs' := #[v0, v1, x2, x3, x4, x5, x6, x7, x8]) h0 (by simp)
    have h2 := blk_set (n := 2) (u := v2) (vs' := #[v0, v1, v2, x3, x4, x5, x6, x7, x8]) h1 (by simp)
    have h3 := blk_set (n := 3) (u := v3) (vs' := #[v0, v1, v2, v3, x4, x5, x6, x7, x8]) h2 (by simp)
    have h4 := blk_set (n := 4) (u := v4) (vs' := #[v0, v1, v2, v3, v4, x5, x6, x7, x8]) h3 (by simp)
    have h5 := blk_set (n := 5) (u := v5) (vs' := #[v0, v1, v2, v3, v4, v5, x6, x7, x8]) h4 (by simp)
    have h6 := blk_set (n := 6) (u := v6) (vs' := #[v0, v1, v2, v3, v4, v5, v6, x7, x8]) h5 (by simp)
    have h7 := blk_set (n := 7) (u := v7) (vs' := #[v0, v1, v2, v3, v4, v5, v6, v7, x8]) h6 (by simp)
    have h8 := blk_set (n := 8) (u := v8) (vs' := #[v0, v1, v2, v3, v4, v5, v6, v7, v8]) h7 (by simp)
    exact h8
theorem below_fill9 {m : Nat} {u w : World} {b : Nat} {v0 v1 v2 v3 v4 v5 v6 v7 v8 : Value} (h : Below m u w) (hb : m ≤ b) : Below m u (((((((((w.setCell ⟨b, 0, none⟩ v0).setCell ⟨b, 1, none⟩ v1).setCell ⟨b, 2, none⟩ v2).setCell ⟨b, 3, none⟩ v3).setCell ⟨b, 4, none⟩ v4).setCell ⟨b, 5, none⟩ v5).setCell ⟨b, 6, none⟩ v6).setCell ⟨b, 7, none⟩ v7).setCell ⟨b, 8, none⟩ v8) := (((((((((h.setCell hb _).setCell hb _).setCell hb _).setCell hb _).setCell hb _).setCell hb _).setCell hb _).setCell hb _).setCell hb _)

theorem blk_fill10 {w : World} {b : Nat} {T : TypeId} {vs : Array Value} {v0 v1 v2 v3 v4 v5 v6 v7 v8 v9 : Value} (h : w.heap[b]? = some (.cells vs T (0, 0))) (hs : vs.size = 10) : ((((((((((w.setCell ⟨b, 0, none⟩ v0).setCell ⟨b, 1, none⟩ v1).setCell ⟨b, 2, none⟩ v2).setCell ⟨b, 3, none⟩ v3).setCell ⟨b, 4, none⟩ v4).setCell ⟨b, 5, none⟩ v5).setCell ⟨b, 6, none⟩ v6).setCell ⟨b, 7, none⟩ v7).setCell ⟨b, 8, none⟩ v8).setCell ⟨b, 9, none⟩ v9).heap[b]? = some (.cells #[v0, v1, v2, v3, v4, v5, v6, v7, v8, v9] T (0, 0)) := by
  obtain ⟨l⟩ := vs
  match l, hs with
  | [x0, x1, x2, x3, x4, x5, x6, x7, x8, x9], _ =>
    have h0 := blk_set (n := 0) (u := v0) (vs' := #[v0, x1, x2, x3, x4, x5, x6, x7, x8, x9]) h (by simp)
    have h1 := blk_set (n := 1) (u := v1) (vs' := #[v0, v1, x2, x3, x4, x5, x6, x7, x8, x9]) h0 (by simp)
    have h2 := blk_set (n := 2) (u := v2) (vs' := #[v0, v1, v2, x3, x4, x5, x6, x7, x8, x9]) h1 (by simp)
    have h3 := blk_set (n := 3) (u := v3) (vs' := #[v0, v1, v2, v3, x4, x5, x6, x7, x8, x9]) h2 (by simp)
    have h4 := blk_set (n := 4) (u := v4) (vs' := #[v0, v1, v2, v3, v4, x5, x6, x7, x8, x9]) h3 (by simp)
    have h5 := blk_set (n := 5) (u := v5) (vs' := #[v0, v1, v2, v3, v4, v5, x6, x7, x8, x9]) h4 (by simp)
    have h6 := blk_set (n := 6) (u := v6) (vs' := #[v0, v1, v2, v3, v4, v5, v6, x7, x8, x9]) h5 (by simp)
    have h7 := blk_set (n := 7) (u := v7) (vs' := #[v0, v1, v2, v3, v4, v5, v6, v7, x8, x9]) h6 (by simp)
    have h8 := blk_set (n := 8) (u := v8) (vs' := #[v0, v1, v2, v3, v4, v5, v6, v7, v8, x9]) h7 (by simp)
    have h9 := blk_set (n := 9) (u := v9) (vs' := #[v0, v1, v2, v3, v4, v5, v6, v7, v8, v9]) h8 (by simp)
    exact h9
theorem below_fill10 {m : Nat} {u w : World} {b : Nat} {v0 v1 v2 v3 v4 v5 v6 v7 v8 v9 : Value} (h : Below m u w) (hb : m ≤ b) : Below m u ((((((((((w.setCell ⟨b, 0, none⟩ v0).setCell ⟨b, 1, none⟩ v1).setCell ⟨b, 2, none⟩ v2).setCell ⟨b, 3, none⟩ v3).setCell ⟨b, 4, none⟩ v4).setCell ⟨b, 5, none⟩ v5).setCell ⟨b, 6, none⟩ v6).setCell ⟨b, 7, none⟩ v7).setCell ⟨b, 8, none⟩ v8).setCell ⟨b, 9, none⟩ v9) := ((((((((((h.setCell hb _).setCell hb _).setCell hb _).setCell hb _).setCell hb _).setCell hb _).setCell hb _).setCell hb _).setCell hb _).setCell hb _)

end Go.Proofs.Ytloeabdohgdmkaa
