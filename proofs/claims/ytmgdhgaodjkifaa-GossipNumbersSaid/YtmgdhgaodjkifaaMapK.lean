/- Maps from keys to numbers, as functions. -/
import Derived.Test.YtmgdhgaodjkifaaGosW
import Derived.Maps.OwnSet
import Derived.Maps.OwnOps
import Derived.DeepKeys4
namespace Go.Proofs.Ytmgdhgaodjkifaa
open Go.RowKit
set_option linter.unusedVariables false
set_option linter.unusedSimpArgs false

theorem laidK : laidOutB Try.prog = true := by kernel_rfl
theorem rowKey : (32 : TypeId) < Try.prog.types.size := of_decide_eq_true (by kernel_rfl)
theorem wideKey : (match Try.prog.underlying 32 with | some (.array _ _) | some (.struct _) => true | _ => false) = true := by rw [Try.underlying32]
theorem lawKey : WideMaps.KeyLaw Try.prog 32 := deep_law_laid laidK (m := 2) (by omega) rowKey (by kernel_rfl) wideKey
theorem keyedK : Maps.Keyed Try.prog 32 := Maps.Keyed.of_law lawKey
theorem keyTypeK : Try.prog.keyType 32 = true := by kernel_rfl
theorem cellsKey : Try.prog.cellsOf 32 = 2 := by kernel_rfl
theorem cellsStr : Try.prog.cellsOf 9 = 1 := by kernel_rfl
theorem cellsInt : Try.prog.cellsOf 3 = 1 := by kernel_rfl
def kv (k : Ky) : Value := .agg #[.string k.1, .string k.2]
def KyS (k : Ky) : Prop := k.1.size ≤ 1000 ∧ k.2.size ≤ 1000
def klit (k : Ky) : Lit := .string (keyBytes [.string k.1.data.toList, .string k.2.data.toList])
theorem lits_str (d : Nat) (a : ByteArray) (h1 : a.size ≤ maxLen) : Try.prog.keyLits (d + 1) 9 [.string a] = some [.string a.data.toList] := by
  unfold Program.keyLits
  simp [Try.underlying9, h1]
theorem lits_of (d : Nat) (a b : ByteArray) (h1 : a.size ≤ maxLen) (h2 : b.size ≤ maxLen) : Try.prog.keyLits (d + 2) 32 [.string a, .string b] = some [.string a.data.toList, .string b.data.toList] := by
  unfold Program.keyLits
  simp [Try.underlying32, cellsKey, cellsStr, lits_str d a h1, lits_str d b h2]
theorem formedK (a b : ByteArray) : (Value.agg #[.string a, .string b]).formed Try.prog 32 = true := by simp [Value.formed, Try.underlying32, cellsKey]
theorem key_of (k : Ky) (h : KyS k) : keyOf Try.prog 32 (.agg #[.string k.1, .string k.2]) = some (klit k) := by
  have h1 : k.1.size ≤ maxLen := by unfold maxLen; have := h.1; omega
  have h2 : k.2.size ≤ maxLen := by unfold maxLen; have := h.2; omega
  obtain ⟨d, hd⟩ : ∃ d, Try.prog.types.size + 1 = d + 2 := ⟨Try.prog.types.size - 1, by have h3 : 32 < Try.prog.types.size := rowKey; omega⟩
  unfold keyOf
  rw [Try.underlying32]
  simp only [keyTypeK, formedK, Bool.and_self, if_true]
  rw [hd]
  show (Try.prog.keyLits (d + 2) 32 [.string k.1, .string k.2]).map _ = _
  rw [lits_of d _ _ h1 h2]
  rfl
theorem klit_inj {k l : Ky} (hk : KyS k) (hl : KyS l) (h : klit k = klit l) : k = l := by
  have := keyedK.inj (key_of k hk) (by rw [h]; exact key_of l hl)
  simp only [Value.agg.injEq, Array.mk.injEq, List.cons.injEq, Value.string.injEq, and_true] at this
  exact Prod.ext this.1 this.2
theorem klit_key (k : Ky) (h : KyS k) : WideAt.IsKeyLit (klit k) := keyedK.key (key_of k h)

/-- what the datum D holds at the literal l -/
def Rd (D : DataW Unit) (l : Lit) : Option Int → Prop
  | none => Maps.has D l = false
  | some v => Maps.has D l = true ∧ ∀ z, D.atKey l z = .lit (.int .i64 v)
/-- block b is a map from keys to numbers that holds f -/
def MpI (w : World) (b n : Nat) (f : Ky → Option Int) : Prop := ∃ D : DataW Unit, w.ownsMap Try.prog 32 (plainElem Try.prog 3) b n D ∧ ∀ k, KyS k → Rd D (klit k) (f k)
theorem MpI.made (w : World) : MpI (w.alloc (.map #[] 0)) w.heap.size 0 (fun _ => none) := ⟨_, World.ownsMap_made _ _ _ _, fun k _ => rfl⟩
theorem MpI.lt {w : World} {b n : Nat} {f : Ky → Option Int} (h : MpI w b n f) : b < w.heap.size := by
  obtain ⟨D, h, -⟩ := h
  exact h.lt
theorem MpI.ext {w w' : World} {b n : Nat} {f : Ky → Option Int} (h : MpI w b n f) (hb : Below w.heap.size w w') : MpI w' b n f := by
  obtain ⟨D, h1, h2⟩ := h
  obtain ⟨es, clock, e1, e2⟩ := h1
  exact ⟨D, ⟨es, clock, ext_block hb e1, e2⟩, h2⟩
theorem MpI.kept {w w' : World} {b n : Nat} {f : Ky → Option Int} {row : Option Nat} (h : MpI w b n f) (hg : w.grownBy w' row) (hne : some b ≠ row) : MpI w' b n f := by
  obtain ⟨D, h1, h2⟩ := h
  exact ⟨D, h1.kept hg hne, h2⟩
theorem MpI.as {w : World} {b n : Nat} {f g : Ky → Option Int} (h : MpI w b n f) (e : ∀ k, KyS k → f k = g k) : MpI w b n g := by
  obtain ⟨D, h1, h2⟩ := h
  exact ⟨D, h1, fun k hk => by rw [← e k hk]; exact h2 k hk⟩
/-- a map's block is no block of cells -/
theorem MpI.ne {w : World} {b n : Nat} {f : Ky → Option Int} (h : MpI w b n f) {k : Nat} {cur : Array Value} {T : TypeId} {p : Nat × Nat} (hc : w.heap[k]? = some (.cells cur T p)) : k ≠ b := by
  intro e
  subst e
  obtain ⟨D, ⟨es, clock, e1, -⟩, -⟩ := h
  rw [hc] at e1
  cases e1
open Classical in
noncomputable def fput (f : Ky → Option Int) (k : Ky) (v : Int) : Ky → Option Int := fun q => if q = k then some v else f q
open Classical in
noncomputable def fdel (f : Ky → Option Int) (k : Ky) : Ky → Option Int := fun q => if q = k then none else f q
theorem Rd.put {D : DataW Unit} {f : Ky → Option Int} (hD : Maps.IsMap D) (k : Ky) (hk : KyS k) (v : Int) (h : ∀ q, KyS q → Rd D (klit q) (f q)) (q : Ky) (hq : KyS q) : Rd (D.put (klit k) (.lit (.int .i64 v))) (klit q) (fput f k v q) := by
  unfold fput
  by_cases e : q = k
  · subst e
    rw [if_pos rfl]
    exact ⟨Maps.has_put_same hD (klit_key q hq) _, fun z => Maps.atKey_put_same hD (klit_key q hq) _ _⟩
  · rw [if_neg e]
    have hne : klit q ≠ klit k := fun e' => e (klit_inj hq hk e')
    have h1 := h q hq
    cases hf : f q with
    | none => rw [hf] at h1; exact (Maps.has_put_other hne _).trans h1
    | some u => rw [hf] at h1; exact ⟨(Maps.has_put_other hne _).trans h1.1, fun z => (Maps.atKey_put_other hne _ _).trans (h1.2 z)⟩
theorem Rd.del {D : DataW Unit} {f : Ky → Option Int} (k : Ky) (hk : KyS k) (h : ∀ q, KyS q → Rd D (klit q) (f q)) (q : Ky) (hq : KyS q) : Rd (D.del (klit k)) (klit q) (fdel f k q) := by
  unfold fdel
  by_cases e : q = k
  · subst e
    rw [if_pos rfl]
    exact Maps.has_del_same
  · rw [if_neg e]
    have hne : klit q ≠ klit k := fun e' => e (klit_inj hq hk e')
    have h1 := h q hq
    cases hf : f q with
    | none => rw [hf] at h1; exact (Maps.has_del_other hne).trans h1
    | some u => rw [hf] at h1; exact ⟨(Maps.has_del_other hne).trans h1.1, fun z => (Maps.atKey_del_other hne _).trans (h1.2 z)⟩
theorem zeroInt (w : World) : (zeroValue 3).run Try.prog w = .ok (.int .i64 0) w := Try.zeroValue3 w

section
variable (w : World) {ops : Array Oper} {rest : List Oper} {o : Oper} {a : Act} {Q : Exit → Act → World → Prop}
/-- m[k] = v -/
theorem wpMapStore (hg : o.guard = none) (m x v : Operand) (hop : o.op = Op.mapUpdate 56 m x v) (b n : Nat) (f : Ky → Option Int) (hm : a.eval m = .map (some b)) (h : MpI w b n f) (hn : n < maxLen) (k : Ky) (z : Int) (hx : a.eval x = .agg #[.string k.1, .string k.2]) (hv : a.eval v = .int .i64 z) (hk : KyS k) (hz : (Lit.int .i64 z).wf = true)
    (hK : ∀ w', MpI w' b (n + 1) (fput f k z) → w.grownBy w' (some b) → wpList Try.prog ops Q rest (a.put o.dst undef) w') : wpList Try.prog ops Q (o :: rest) a w := by
  obtain ⟨D, h1, h2⟩ := h
  exact wpList_mapUpdate_own w hg m x v 56 hop 32 3 keyedK Try.underlying56 _ b n D hm h1 hn _ _ _ hx hv (key_of k hk) _ [] (plainElem_int Try.underlying3 hz) (fun w' ho hgr => hK w' ⟨_, ho, Rd.put h1.isMap k hk z h2⟩ hgr)
/-- v, ok := m[k] -/
theorem wpMapLook (hg : o.guard = none) (m x : Operand) (hop : o.op = Op.lookup 56 m x true) (b n : Nat) (f : Ky → Option Int) (hm : a.eval m = .map (some b)) (h : MpI w b n f) (k : Ky) (hx : a.eval x = .agg #[.string k.1, .string k.2]) (hk : KyS k)
    (hK : wpList Try.prog ops Q rest (a.put o.dst (.tuple #[.int .i64 ((f k).getD 0), .bool (f k).isSome])) w) : wpList Try.prog ops Q (o :: rest) a w := by
  obtain ⟨D, h1, h2⟩ := h
  refine wpList_lookup_own_ok_int w hg m x 56 hop 32 3 .i64 keyedK Try.underlying56 Try.underlying3 (zeroInt w) b n D hm h1 _ _ hx (key_of k hk) (fun c hc _ => ?_)
  have h3 := h2 k hk
  cases hf : f k with
  | none =>
    rw [hf] at h3 hK
    have h4 : D.atKey (klit k) (.lit (.int .i64 0)) = .lit (.int .i64 0) := Maps.atKey_of_not_has h3 _
    rw [h4] at hc
    have hc0 : c = 0 := by simpa using hc.symm
    have h5 : Maps.has D (klit k) = false := h3
    rw [h5, hc0]
    exact hK
  | some u =>
    rw [hf] at h3 hK
    rw [h3.2] at hc
    have hc0 : c = u := by simpa using hc.symm
    rw [h3.1, hc0]
    exact hK
/-- delete(m, k) -/
theorem wpMapDel (hg : o.guard = none) (m x : Operand) (hop : o.op = Op.call { callee := Callee.builtin Builtin.delete, args := #[m, x], argTypes := #[56, 32] }) (b n : Nat) (f : Ky → Option Int) (hm : a.eval m = .map (some b)) (h : MpI w b n f) (k : Ky) (hx : a.eval x = .agg #[.string k.1, .string k.2]) (hk : KyS k)
    (hK : ∀ w', MpI w' b n (fdel f k) → w.grownBy w' (some b) → wpList Try.prog ops Q rest (a.put o.dst (.tuple #[])) w') : wpList Try.prog ops Q (o :: rest) a w := by
  obtain ⟨D, h1, h2⟩ := h
  exact wpList_delete_own w hg m x 56 32 hop 3 keyedK Try.underlying56 _ b n D hm h1 _ _ hx (key_of k hk) (fun w' ho ht => hK w' ⟨_, ho, Rd.del k hk h2⟩ ht.grown)
end
end Go.Proofs.Ytmgdhgaodjkifaa
