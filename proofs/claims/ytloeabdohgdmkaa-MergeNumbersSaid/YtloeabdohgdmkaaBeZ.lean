/- Several texts as one: RowPut, Once, RowAt, GosW, InsRun. -/
import Derived.Test.YtloeabdohgdmkaaBbZ
import Derived.Test.YtloeabdohgdmkaaBsZ
import Derived.Test.YtloeabdohgdmkaaBdZ
import Derived.Test.YtloeabdohgdmkaaInsZ
import Derived.Shelf.SlSortCmp.InsertionK
import Derived.Test.YtloeabdohgdmkaaBaZ
import Derived.Laws.CopyRow
import Derived.Lib.AppendZeros
/- A row of structs in which one is written over. -/
namespace Go.Proofs.Ytloeabdohgdmkaa
open Go.RowKit
set_option linter.unusedVariables false

section
variable {α : Type} {enc : α → List Value} {k : Nat} {T : TypeId}
def setL : List Value → Nat → List Value → List Value
  | l, _, [] => l
  | l, o, v :: vs => setL (l.set o v) (o + 1) vs
theorem setL_out (l : List Value) (o : Nat) (vs : List Value) (h : l.length ≤ o) : setL l o vs = l := by
  induction vs generalizing l o with
  | nil => rfl
  | cons v vs ih =>
    unfold setL
    rw [List.set_eq_of_length_le h]
    exact ih l (o + 1) (by omega)
theorem setL_eq (l : List Value) (o : Nat) (vs : List Value) (h : o + vs.length ≤ l.length) : setL l o vs = l.take o ++ vs ++ l.drop (o + vs.length) := by
  induction vs generalizing l o with
  | nil => simp [setL]
  | cons v vs ih =>
    unfold setL
    rw [List.length_cons] at h
    rw [ih _ _ (by simp; omega), List.take_set, List.drop_set_of_lt (by omega)]
    rw [show (l.take (o + 1)).set o v = l.take o ++ [v] from by
      apply List.ext_getElem?
      intro i
      rw [List.getElem?_set]
      rcases Nat.lt_trichotomy i o with h' | h' | h'
      · rw [if_neg (by omega), List.getElem?_take_of_lt (by omega), List.getElem?_append_left (by simp; omega), List.getElem?_take_of_lt (by omega)]
      · subst h'
        rw [if_pos rfl, if_pos (by simp; omega), List.getElem?_append_right (by simp; omega)]
        rw [List.length_take, show i - min i l.length = 0 from by omega]
        rfl
      · rw [if_neg (by omega), List.getElem?_eq_none (by simp; omega), List.getElem?_eq_none (by simp; omega)]]
    simp [show o + 1 + vs.length = o + (vs.length + 1) from by omega]
theorem own_set1 {base size n m c g o : Nat} {w : World} {xs : List Value} (h : w.ownsRow base T size (.slice (some ⟨g, 0, none⟩) n c) m xs) (v : Value) : (w.setCell ⟨g, o, none⟩ v).ownsRow base T size (.slice (some ⟨g, 0, none⟩) n c) m (xs.set o v) := by
  rcases h with ⟨h1, ⟨e, _⟩ | ⟨g', cap, cur, e, hg, hh, hnc, hcm, hcs, ht⟩⟩
  · cases e
  · simp only [Value.slice.injEq, Option.some.injEq, Addr.mk.injEq] at e
    obtain ⟨⟨rfl, -⟩, rfl, rfl⟩ := e
    refine ⟨by simpa using h1, .inr ⟨g, c, cur.setIfInBounds o v, rfl, hg, blk_set hh rfl, hnc, hcm, by simpa using hcs, ?_⟩⟩
    rw [Array.toList_setIfInBounds, List.take_set, ht]
theorem own_sets {base size n m c g : Nat} (vs : List Value) {o : Nat} {w : World} {xs : List Value} (h : w.ownsRow base T size (.slice (some ⟨g, 0, none⟩) n c) m xs) : (w.setCells g o vs).ownsRow base T size (.slice (some ⟨g, 0, none⟩) n c) m (setL xs o vs) := by
  induction vs generalizing w o xs with
  | nil => exact h
  | cons v vs ih => exact ih (own_set1 h v)
theorem kept_sets {g : Nat} (vs : List Value) {o : Nat} {u w : World} (h : Kept g u w) : Kept g u (w.setCells g o vs) := by
  induction vs generalizing w o with
  | nil => exact h
  | cons v vs ih => exact ih (h.setCell o v)
theorem OwnR.num {base n c g : Nat} {w : World} {ls : List α} (h : OwnR enc k T base w (.slice (some ⟨g, 0, none⟩) n c) ls) : n = ls.length ∧ n ≤ c ∧ c ≤ maxLen ∧ ∃ cur, w.heap[g]? = some (.cells cur T (0, 0)) ∧ cur.size = c * k ∧ base ≤ g := by
  rcases h.2 with ⟨e, _⟩ | ⟨g', cap, cur, e, hg, hh, hnc, hcm, hcs, ht⟩
  · cases e
  · simp only [Value.slice.injEq, Option.some.injEq, Addr.mk.injEq] at e
    obtain ⟨⟨rfl, -⟩, rfl, rfl⟩ := e
    exact ⟨rfl, hnc, hcm, cur, hh, hcs, hg⟩
theorem OwnR.put (hk : ∀ x, (enc x).length = k) {base n c g i : Nat} {w : World} {ls : List α} (h : OwnR enc k T base w (.slice (some ⟨g, 0, none⟩) n c) ls) (hi : i < ls.length) (y : α) : OwnR enc k T base (w.setCells g (i * k) (enc y)) (.slice (some ⟨g, 0, none⟩) n c) (ls.set i y) := by
  have h1 := own_sets (enc y) (o := i * k) h
  have h2 : i * k + k ≤ ls.length * k := by rw [← Nat.succ_mul]; exact Nat.mul_le_mul_right k hi
  rw [setL_eq _ _ _ (by rw [hk, flat_len hk]; exact h2), hk, ← Nat.succ_mul, ← flat_set hk ls i y hi] at h1
  unfold OwnR
  rwa [List.length_set]
theorem OwnR.behind (hk : ∀ x, (enc x).length = k) {base n c g o : Nat} {w : World} {ls : List α} (vs : List Value) (h : OwnR enc k T base w (.slice (some ⟨g, 0, none⟩) n c) ls) (ho : ls.length * k ≤ o) : OwnR enc k T base (w.setCells g o vs) (.slice (some ⟨g, 0, none⟩) n c) ls := by
  have h1 := own_sets vs (o := o) h
  rwa [setL_out _ _ _ (by rw [flat_len hk]; exact ho)] at h1
end

end Go.Proofs.Ytloeabdohgdmkaa

/- Of each key the last, by key. -/
namespace Go.Proofs.Ytloeabdohgdmkaa
open Go.RowKit
set_option linter.unusedVariables false
set_option linter.unusedSimpArgs false

theorem OwnC.cat {base : Nat} {w : World} {g n c : Nat} {ls : List Cd} (h : OwnC base w (.slice (some ⟨g, 0, none⟩) n c) ls) : CAt w (some ⟨g, 0, none⟩) ls := by
  obtain ⟨a', c', e, -, -, h4, -, -⟩ := h.read
  simp only [Value.slice.injEq] at e
  rw [e.1]; exact h4
end Go.Proofs.Ytloeabdohgdmkaa

/- Rows of structs as they lie in memory, whatever their cells; own rows that are put in order. -/
namespace Go.Proofs.Ytloeabdohgdmkaa
open Go.RowKit
set_option linter.unusedVariables false
set_option linter.unusedSimpArgs false

section
variable {α : Type} {enc : α → List Value} {k : Nat} {T : TypeId}
/-- behind the address a the things ls lie -/
def SAt (enc : α → List Value) (k : Nat) (T : TypeId) (w : World) (a : Option Addr) (ls : List α) : Prop := ls = [] ∨ ∃ b o, a = some ⟨b, o, none⟩ ∧ (∃ cur, w.heap[b]? = some (.cells cur T (0, 0))) ∧ ∀ q u, (flat enc ls)[q]? = some u → w.cell? ⟨b, o + q, none⟩ = some u
theorem SAt.nil (w : World) (a : Option Addr) : SAt enc k T w a [] := .inl rfl
theorem SAt.keep {w w' : World} {a : Option Addr} {ls : List α} (h : SAt enc k T w a ls) (hk : ∀ (b : Nat) (cur : Array Value), w.heap[b]? = some (.cells cur T (0, 0)) → (∃ o, a = some ⟨b, o, none⟩) → w'.heap[b]? = w.heap[b]?) : SAt enc k T w' a ls := by
  rcases h with h | ⟨b, o, e, ⟨cur, hb⟩, h⟩
  · exact .inl h
  · have e1 := hk b cur hb ⟨o, e⟩
    exact .inr ⟨b, o, e, ⟨cur, e1.trans hb⟩, fun q u hq => (World.cell?_of_block (w := w) e1).trans (h q u hq)⟩
theorem SAt.ext {w w' : World} {a : Option Addr} {ls : List α} (h : SAt enc k T w a ls) (hb : Below w.heap.size w w') : SAt enc k T w' a ls :=
  h.keep fun b cur hc _ => hb.block b (blk_lt hc)
theorem SAt.drop (hk : ∀ x, (enc x).length = k) {w : World} {b o : Nat} {ls : List α} (n : Nat) (h : SAt enc k T w (some ⟨b, o, none⟩) ls) : SAt enc k T w (some ⟨b, o + n * k, none⟩) (ls.drop n) := by
  rcases h with h | ⟨b', o', e, hb, h⟩
  · left; simp [h]
  · simp at e
    obtain ⟨rfl, rfl⟩ := e
    refine .inr ⟨_, _, rfl, hb, fun q u hq => ?_⟩
    rw [← flat_drop hk, List.getElem?_drop] at hq
    rw [Nat.add_assoc]
    exact h _ _ hq
theorem SAt.take (hk : ∀ x, (enc x).length = k) {w : World} {a : Option Addr} {ls : List α} (n : Nat) (h : SAt enc k T w a ls) : SAt enc k T w a (ls.take n) := by
  rcases h with h | ⟨b, o, e, hb, h⟩
  · left; simp [h]
  · refine .inr ⟨b, o, e, hb, fun q u hq => h q u ?_⟩
    rw [← flat_take hk] at hq
    rcases Nat.lt_or_ge q (n * k) with h' | h'
    · rwa [List.getElem?_take_of_lt h'] at hq
    · rw [List.getElem?_eq_none (by simp; omega)] at hq; cases hq
/-- one cell of one of them -/
theorem SAt.get (hk : ∀ x, (enc x).length = k) {w : World} {b o i : Nat} {ls : List α} {x : α} (h : SAt enc k T w (some ⟨b, o, none⟩) ls) (hi : ls[i]? = some x) (q : Nat) (u : Value) (hq : (enc x)[q]? = some u) : w.cell? ⟨b, o + i * k + q, none⟩ = some u := by
  rcases h with h | ⟨b', o', e, hb, h⟩
  · rw [h] at hi; simp at hi
  · simp at e
    obtain ⟨rfl, rfl⟩ := e
    have hlt : q < k := by
      rcases Nat.lt_or_ge q k with h' | h'
      · exact h'
      · rw [List.getElem?_eq_none (by rw [hk]; exact h')] at hq; cases hq
    rw [Nat.add_assoc]
    exact h _ _ ((flat_at hk ls i x hi q hlt).trans hq)
/-- an own row, read -/
theorem OwnR.read (hk : ∀ x, (enc x).length = k) {base : Nat} {w : World} {v : Value} {ls : List α} (h : OwnR enc k T base w v ls) : ∃ a c, v = .slice a ls.length c ∧ ls.length ≤ c ∧ c ≤ maxLen ∧ SAt enc k T w a ls ∧ (∀ b o, a = some ⟨b, o, none⟩ → base ≤ b ∧ b < w.heap.size ∧ o = 0) ∧ ((a = none ∧ c = 0 ∧ ls = []) ∨ ∃ g, a = some ⟨g, 0, none⟩) := by
  obtain ⟨a, c, rfl, h1, h2, h3⟩ := h.form
  rcases h3 with ⟨rfl, rfl, e⟩ | ⟨g, rfl, h4, h5⟩
  · exact ⟨none, 0, rfl, h1, h2, .inl e, fun b o e => (by cases e), .inl ⟨rfl, rfl, e⟩⟩
  · refine ⟨_, c, rfl, h1, h2, .inr ⟨g, 0, rfl, ?_, fun q u hq => by rw [Nat.zero_add]; exact own_rd hk h hq⟩, fun b o e => (by cases e; exact ⟨h4, h5, rfl⟩), .inr ⟨g, rfl⟩⟩
    rcases h.2 with ⟨e, _⟩ | ⟨g', cap, cur, e, hg, hh, _⟩
    · cases e
    · simp only [Value.slice.injEq, Option.some.injEq, Addr.mk.injEq] at e
      obtain ⟨⟨rfl, -⟩, -⟩ := e
      exact ⟨cur, hh⟩
end

section
variable {α : Type} [Inhabited α] {enc : α → List Value} {k : Nat} {T : TypeId}
end

end Go.Proofs.Ytloeabdohgdmkaa

/- Package gossip's walks: keys and stamps compared, of each key the last. -/
namespace Go.Proofs.Ytloeabdohgdmkaa
open Go.RowKit
set_option linter.unusedVariables false
set_option linter.unusedSimpArgs false

/-- grown, and some orders drawn -/
def Grew (w w' : World) : Prop := ∃ q os, w' = Go.Sort.grow (w.drewN q) os

theorem Grew.refl (w : World) : Grew w w := ⟨0, #[], by rw [Go.Sort.grow_empty]; rfl⟩

theorem Grew.alloc (w : World) (o : Obj) : Grew w (w.alloc o) := ⟨0, _, by rw [Go.Sort.alloc_eq_grow]; rfl⟩

theorem Grew.trans {a b c : World} (h : Grew a b) (k : Grew b c) : Grew a c := by
  obtain ⟨q, os, rfl⟩ := h
  obtain ⟨r, ot, rfl⟩ := k
  exact ⟨q + r, os ++ ot, by show Go.Sort.grow (Go.Sort.grow ((a.drewN q).drewN r) os) ot = _; rw [Go.Sort.grow_grow, World.drewN_drewN]⟩

theorem Grew.below {w w' : World} (h : Grew w w') : Below w.heap.size w w' := by
  obtain ⟨q, os, rfl⟩ := h
  refine ⟨rfl, rfl, rfl, by show _ ≤ (w.heap ++ os).size; simp, fun k hk => ?_⟩
  show (w.heap ++ os)[k]? = _
  rw [Array.getElem?_append_left hk]

set_option maxRecDepth 100000 in
set_option maxHeartbeats 1000000 in
theorem cardLess (a i b j : ByteArray) (w : World) :
    Calls Try.prog 69 #[.agg #[.string a, .string i], .agg #[.string b, .string j]] w fun e w' => e = .returned (.bool (decide (kc a i b j < 0))) ∧ Grew w w' := by
  go_enter Try.func69, Try.ntmps69
  go_wp2_with fail
  refine (cardCompare a i b j _).mono ?_
  rintro e w1 ⟨rfl, hg⟩
  have HG := Lib.hid (show Grew w w1 from ((Grew.alloc _ _).trans (Grew.alloc _ _)).trans hg)
  go_wp2
  go_ret
  exact ⟨rfl, HG.out⟩

/-- keys -/
abbrev Ky := ByteArray × ByteArray

def ky (k : Ky) : List Value := [.string k.1, .string k.2]

theorem ky_len (k : Ky) : (ky k).length = 2 := rfl

abbrev KyAt (w : World) (a : Option Addr) (ls : List Ky) : Prop := SAt ky 2 30 w a ls

theorem KyAt.at {w : World} {b o i : Nat} {ls : List Ky} {x : Ky} (h : KyAt w (some ⟨b, o, none⟩) ls) (hi : ls[i]? = some x) :
    w.cell? ⟨b, o + i * 2, none⟩ = some (.string x.1) ∧ w.cell? ⟨b, o + i * 2 + 1, none⟩ = some (.string x.2) :=
  ⟨h.get ky_len hi 0 _ rfl, h.get ky_len hi 1 _ rfl⟩

def sLess (t k n t' k' n' : Int) : Bool := if t = t' then (if n = n' then decide (k < k') else decide (n < n')) else decide (t < t')

set_option maxHeartbeats 400000 in
theorem stampLess (t k n t' k' n' : Int) (w : World) :
    Calls Try.prog 34 #[stv t k n, stv t' k' n'] w fun e w' => e = .returned (.bool (sLess t k n t' k' n')) ∧ Below w.heap.size w w' := by
  by_cases h1 : t = t'
  · subst h1
    by_cases h2 : n = n'
    · subst h2
      go_enter Try.func34, Try.ntmps34
      go_wp2
      go_ret
      exact ⟨by simp [sLess], by go_grown⟩
    · go_enter Try.func34, Try.ntmps34
      go_wp2
      go_ret
      exact ⟨by simp [sLess, h2], by go_grown⟩
  · go_enter Try.func34, Try.ntmps34
    go_wp2
    go_ret
    exact ⟨by simp [sLess, h1], by go_grown⟩

end Go.Proofs.Ytloeabdohgdmkaa

/- Rows of structs: copy, append of zeros, as runs. No word of the program. -/
namespace Go.Proofs.Ytloeabdohgdmkaa
open Go.RowKit
set_option linter.unusedVariables false
set_option linter.unusedSimpArgs false

theorem run_copyK {P : Program} (w : World) (dT sT ty elem : TypeId) (g o dLen dCap : Nat) (a : Addr) (sLen sCap : Nat) (cur : Array Value) (t : TypeId) (cs : List Value) (k : Nat)
    (hu : P.underlying dT = some (.slice elem)) (hs : (P.info? elem).map (·.size) = some k)
    (hg : w.heap[g]? = some (.cells cur t (0, 0))) (hn : cs.length = Nat.min sLen dLen * k)
    (hsrc : ∀ j v, cs[j]? = some v → w.cell? (a.add j) = some v) (hfit : o + cs.length ≤ cur.size) (h1 : ∀ v ∈ cs, v.oneCell' = true) :
    (Builtin.copy_ #[dT, sT] ty #[.slice (some ⟨g, o, none⟩) dLen dCap, .slice (some a) sLen sCap]).run P w =
      .ok (goInt (Nat.min sLen dLen)) (w.setRow g (cur.toList.take o ++ cs ++ cur.toList.drop (o + cs.length)).toArray) := by
  have hl := run_loadCells_list (P := P) w a cs hsrc
  have hst := run_storeCells_at P g o t cs 0 cur w hg (by simpa using hfit) h1
  cases hq : P.info? elem with
  | none => simp [hq] at hs
  | some i =>
    have hi : i.size = k := by simpa [hq] using hs
    simp [Builtin.copy_, run_underlying hu, Builtin.lenOf, Builtin.firstCells, sizeOf, typeInfo, hq, hi, ← hn, hl, hst]

theorem run_append_zeros_grow {P : Program} (w : World) (t tn ty e : TypeId) (i : TypeInfo) (z : Value) (kn : IntKind) (ht : P.underlying t = some (.slice e)) (htn : P.underlying tn = some (.int kn)) (hi : P.info? e = some i) (hz : i.zero = some z)
    (b : Addr) (sLen sCap : Nat) (olds : List Value) (hlo : olds.length = sLen * i.size) (holds : ∀ j v, olds[j]? = some v → w.cell? (b.add j) = some v)
    (n : Nat) (h0 : 0 < n) (hs : 0 < i.size) (hg : sCap < sLen + n) (h63 : ((sLen + n : Nat) : Int) ≤ 9223372036854775807) (h48 : n * i.bytes ≤ 281474976710656) (hfit : Builtin.nextslicecap (sLen + n) sCap * i.bytes ≤ 281474976710656) :
    (Builtin.append_ #[t, tn] ty #[.slice (some b) sLen sCap, .int .i64 n]).run P w =
      .ok (.slice (some ⟨w.heap.size, 0, none⟩) (sLen + n) (grownCap w (sLen + n) sCap e))
        (w.drew.alloc (.cells (olds.toArray ++ Builtin.zeroCells z.cells n ++ Builtin.zeroCells z.cells (grownCap w (sLen + n) sCap e - (sLen + n))) e)) := by
  have hn : ¬ (sLen + n ≤ sCap) := by omega
  have h63' : ¬ (9223372036854775807 < ((sLen : Int) + (n : Int))) := by omega
  have h48' : ¬ (281474976710656 < Builtin.nextslicecap (sLen + n) sCap * i.bytes) := by omega
  have hw : IntKind.i64.wrap (n : Int) = n := by rw [IntKind.wrap_i64]; omega
  have h48i : ¬ (281474976710656 < (n : Int) * (i.bytes : Int)) := by
    rw [← Int.natCast_mul]
    omega
  have hneg : ¬ ((n : Int) < 0) := by omega
  have hn0 : n ≠ 0 := by omega
  have hns : ¬ (n * i.size = 0) := Nat.mul_ne_zero hn0 (by omega)
  have hfo := run_firstCells_some (P := P) w.drew i.size sLen b sLen sCap olds hlo (by simpa using holds)
  simp [Builtin.append_, run_underlying ht, run_underlying htn, sizeOf, typeInfo, zeroValue, hi, hz, asInt, asIntOf, hw, hn, hn0, hneg, hns, h63', h48', h48i, Question.forced, hfo, newRow, grownCap]

/-- cells laid over a row -/
def lay (cur : List Value) (o : Nat) (cs : List Value) : List Value := cur.take o ++ cs ++ cur.drop (o + cs.length)
theorem lay_len (cur : List Value) (o : Nat) (cs : List Value) (h : o + cs.length ≤ cur.length) : (lay cur o cs).length = cur.length := by simp [lay]; omega
theorem lay_app (A M D cs : List Value) (h : cs.length = M.length) : lay (A ++ M ++ D) A.length cs = A ++ cs ++ D := by
  unfold lay
  rw [h, ← List.length_append, List.drop_left, List.append_assoc A M D, List.take_left]
/-- room made in place -/
theorem lay_shift (A B E D : List Value) (M : List Value) (k : Nat) (hE : E.length = k) (hk : M.length = B.length + k) : lay (lay (A ++ M ++ D) (A.length + k) B) A.length E = A ++ E ++ B ++ D := by
  have e1 : M = M.take k ++ M.drop k := (List.take_append_drop k M).symm
  have l1 : (M.take k).length = k := by simp; omega
  have l2 : (M.drop k).length = B.length := by simp; omega
  have s1 : lay (A ++ M ++ D) (A.length + k) B = A ++ M.take k ++ B ++ D := by
    have := lay_app (A ++ M.take k) (M.drop k) D B l2.symm
    rw [List.length_append, l1, List.append_assoc A, List.take_append_drop] at this
    exact this
  rw [s1]
  have := lay_app A (M.take k) (B ++ D) E (by rw [hE, l1])
  rw [← List.append_assoc, ← List.append_assoc] at this
  exact this
/-- laid into new room -/
theorem lay_new (A Z B E D : List Value) (k : Nat) (hE : E.length = k) (hz : Z.length = B.length + k) : lay (lay (A ++ Z ++ D) A.length E) (A.length + k) B = A ++ E ++ B ++ D := by
  have l1 : (Z.take k).length = k := by simp; omega
  have l2 : (Z.drop k).length = B.length := by simp; omega
  have s1 : lay (A ++ Z ++ D) A.length E = A ++ E ++ Z.drop k ++ D := by
    have := lay_app A (Z.take k) (Z.drop k ++ D) E (by rw [hE, l1])
    rw [← List.append_assoc, ← List.append_assoc, List.append_assoc A, List.take_append_drop] at this
    exact this
  rw [s1]
  have := lay_app (A ++ E) (Z.drop k) D B l2.symm
  rw [List.length_append, hE] at this
  exact this
end Go.Proofs.Ytloeabdohgdmkaa
