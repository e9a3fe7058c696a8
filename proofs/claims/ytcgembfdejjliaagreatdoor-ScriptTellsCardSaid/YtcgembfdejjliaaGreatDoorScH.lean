/- Maps keyed by texts that are laid out of a literal, entry by entry, in whatever order. -/
import Derived.Test.YtcgembfdejjliaaGreatDoorScE
import Derived.Maps.OwnSet
import Derived.Maps.OwnOps
import Derived.Maps.StringElems
namespace Go.Proofs.YtcgembfdejjliaaGreatDoor
open Go.RowKit
set_option linter.unusedVariables false
set_option linter.unusedSimpArgs false

theorem keyedS : Maps.Keyed Tryz.prog 9 := Maps.string_keyed Tryz.underlying9
theorem keyS (k : ByteArray) (h : k.size ≤ maxLen) : keyOf Tryz.prog 9 (.string k) = some (.string k.data.toList) := by
  unfold keyOf
  rw [Tryz.underlying9]
  show mapKey Tryz.prog 9 (.string k) = _
  unfold mapKey
  rw [Tryz.underlying9]
  simp [h]
theorem lit_inj {a b : ByteArray} (h : Lit.string a.data.toList = Lit.string b.data.toList) : a = b := by
  cases a; cases b; simpa using h
/-- a value as it reads -/
def vl : Value → DataW Unit
  | .string s => .lit (.string s.data.toList)
  | .int k z => .lit (.int k z)
  | _ => .nil
def RdS (D : DataW Unit) (l : Lit) : Option Value → Prop
  | none => Maps.has D l = false
  | some v => Maps.has D l = true ∧ ∀ z, D.atKey l z = vl v
def MpS (e : TypeId) (w : World) (b n : Nat) (f : ByteArray → Option Value) : Prop := ∃ D : DataW Unit, w.ownsMap Tryz.prog 9 (plainElem Tryz.prog e) b n D ∧ ∀ k, k.size ≤ maxLen → RdS D (.string k.data.toList) (f k)
theorem MpS.made (e : TypeId) (w : World) : MpS e (w.alloc (.map #[] 0)) w.heap.size 0 (fun _ => none) := ⟨_, World.ownsMap_made _ _ _ _, fun k _ => rfl⟩
theorem MpS.lt {e : TypeId} {w : World} {b n : Nat} {f : ByteArray → Option Value} (h : MpS e w b n f) : b < w.heap.size := by
  obtain ⟨D, h, -⟩ := h
  exact h.lt
theorem MpS.ext {e : TypeId} {w w' : World} {b n : Nat} {f : ByteArray → Option Value} (h : MpS e w b n f) (hb : Below w.heap.size w w') : MpS e w' b n f := by
  obtain ⟨D, h1, h2⟩ := h
  obtain ⟨es, clock, e1, e2⟩ := h1
  exact ⟨D, ⟨es, clock, ext_block hb e1, e2⟩, h2⟩
theorem MpS.kept {e : TypeId} {w w' : World} {b n : Nat} {f : ByteArray → Option Value} (h : MpS e w b n f) (hg : w'.heap[b]? = w.heap[b]?) : MpS e w' b n f := by
  obtain ⟨D, h1, h2⟩ := h
  obtain ⟨es, clock, e1, e2⟩ := h1
  exact ⟨D, ⟨es, clock, hg.trans e1, e2⟩, h2⟩
/-- a map's block is no block of cells -/
theorem MpS.ne {e : TypeId} {w : World} {b n : Nat} {f : ByteArray → Option Value} (h : MpS e w b n f) {k : Nat} {cur : Array Value} {T : TypeId} {p : Nat × Nat} (hc : w.heap[k]? = some (.cells cur T p)) : k ≠ b := by
  intro e
  subst e
  obtain ⟨D, ⟨es, clock, e1, -⟩, -⟩ := h
  rw [hc] at e1
  cases e1
open Classical in
noncomputable def sput (f : ByteArray → Option Value) (k : ByteArray) (v : Value) : ByteArray → Option Value := fun q => if q = k then some v else f q
theorem RdS.put {D : DataW Unit} {f : ByteArray → Option Value} (hD : Maps.IsMap D) (k : ByteArray) (hk : k.size ≤ maxLen) (v : Value) (h : ∀ q : ByteArray, q.size ≤ maxLen → RdS D (.string q.data.toList) (f q)) (q : ByteArray) (hq : q.size ≤ maxLen) : RdS (D.put (.string k.data.toList) (vl v)) (.string q.data.toList) (sput f k v q) := by
  unfold sput
  by_cases e : q = k
  · subst e
    rw [if_pos rfl]
    exact ⟨Maps.has_put_same hD (keyedS.key (keyS q hq)) _, fun z => Maps.atKey_put_same hD (keyedS.key (keyS q hq)) _ _⟩
  · rw [if_neg e]
    have hne : Lit.string q.data.toList ≠ Lit.string k.data.toList := fun e' => e (lit_inj e')
    have h1 := h q hq
    cases hf : f q with
    | none => rw [hf] at h1; exact (Maps.has_put_other hne _).trans h1
    | some u => rw [hf] at h1; exact ⟨(Maps.has_put_other hne _).trans h1.1, fun z => (Maps.atKey_put_other hne _ _).trans (h1.2 z)⟩

/-- how many of the first L are done -/
def cnt (dn : Nat → Bool) : Nat → Nat
  | 0 => 0
  | L + 1 => cnt dn L + if dn L then 1 else 0
theorem cnt_le (dn : Nat → Bool) : ∀ L, cnt dn L ≤ L
  | 0 => Nat.le_refl _
  | L + 1 => by have := cnt_le dn L; unfold cnt; split <;> omega
theorem cnt_up (dn : Nat → Bool) (i : Nat) (hi : dn i = false) : ∀ L, cnt (fun j => dn j || j == i) L = cnt dn L + if i < L then 1 else 0
  | 0 => by simp [cnt]
  | L + 1 => by
    have ih := cnt_up dn i hi L
    unfold cnt
    rw [ih]
    by_cases h : L = i
    · subst h
      simp [hi]
    · have h2 : (L == i) = false := by simpa using h
      rw [h2, Bool.or_false]
      by_cases h3 : i < L
      · have e1 : (if i < L then (1 : Nat) else 0) = 1 := if_pos h3
        have e2 : (if i < L + 1 then (1 : Nat) else 0) = 1 := if_pos (by omega)
        omega
      · have e1 : (if i < L then (1 : Nat) else 0) = 0 := if_neg h3
        have e2 : (if i < L + 1 then (1 : Nat) else 0) = 0 := if_neg (by omega)
        omega
/-- a map into which those of the table have been laid that are done -/
def MpT (e : TypeId) (T : List (ByteArray × Value)) (dn : Nat → Bool) (w : World) (b : Nat) : Prop :=
  ∃ f, MpS e w b (cnt dn T.length) f ∧ (∀ i k v, T[i]? = some (k, v) → dn i = true → f k = some v) ∧ (∀ k v, f k = some v → (k, v) ∈ T)
theorem MpT.lt {e : TypeId} {T : List (ByteArray × Value)} {dn : Nat → Bool} {w : World} {b : Nat} (h : MpT e T dn w b) : b < w.heap.size := by
  obtain ⟨f, h, -⟩ := h
  exact h.lt
theorem MpT.ext {e : TypeId} {T : List (ByteArray × Value)} {dn : Nat → Bool} {w w' : World} {b : Nat} (h : MpT e T dn w b) (hb : Below w.heap.size w w') : MpT e T dn w' b := by
  obtain ⟨f, h1, h2⟩ := h
  exact ⟨f, h1.ext hb, h2⟩
theorem MpT.kept {e : TypeId} {T : List (ByteArray × Value)} {dn : Nat → Bool} {w w' : World} {b : Nat} (h : MpT e T dn w b) (hg : w'.heap[b]? = w.heap[b]?) : MpT e T dn w' b := by
  obtain ⟨f, h1, h2⟩ := h
  exact ⟨f, h1.kept hg, h2⟩
theorem MpT.ne {e : TypeId} {T : List (ByteArray × Value)} {dn : Nat → Bool} {w : World} {b : Nat} (h : MpT e T dn w b) {k : Nat} {cur : Array Value} {U : TypeId} {p : Nat × Nat} (hc : w.heap[k]? = some (.cells cur U p)) : k ≠ b := by
  obtain ⟨f, h, -⟩ := h
  exact h.ne hc
theorem MpT.made (e : TypeId) (T : List (ByteArray × Value)) (dn : Nat → Bool) (hd : ∀ i, i < T.length → dn i = false) (w : World) : MpT e T dn (w.alloc (.map #[] 0)) w.heap.size := by
  have hc : ∀ L, L ≤ T.length → cnt dn L = 0 := by
    intro L
    induction L with
    | zero => intro _; rfl
    | succ L ih => intro h; unfold cnt; rw [ih (by omega), hd L (by omega)]; rfl
  refine ⟨fun _ => none, by rw [hc _ (Nat.le_refl _)]; exact MpS.made e w, fun i k v hi h => ?_, fun k v h => by cases h⟩
  have := (List.getElem?_eq_some_iff.1 hi).1
  rw [hd i this] at h
  cases h
theorem MpT.as {e : TypeId} {T : List (ByteArray × Value)} {dn dn' : Nat → Bool} {w : World} {b : Nat} (h : MpT e T dn w b) (he : ∀ i, i < T.length → dn i = dn' i) : MpT e T dn' w b := by
  obtain ⟨f, h1, h2, h3⟩ := h
  have hc : ∀ L, L ≤ T.length → cnt dn L = cnt dn' L := by
    intro L
    induction L with
    | zero => intro _; rfl
    | succ L ih => intro h; unfold cnt; rw [ih (by omega), he L (by omega)]
  refine ⟨f, by rw [← hc _ (Nat.le_refl _)]; exact h1, fun i k v hi hd => h2 i k v hi ?_, h3⟩
  rw [he i (List.getElem?_eq_some_iff.1 hi).1]
  exact hd
/-- which is right of a table: its keys are all different; its values are of the element type -/
structure TabOk (e : TypeId) (T : List (ByteArray × Value)) : Prop where
  nd : (T.map (·.1)).Nodup
  ks : ∀ k v, (k, v) ∈ T → k.size ≤ maxLen ∧ plainElem (H := Unit) Tryz.prog e v = some (vl v, [])
  le : T.length ≤ 100
theorem tab_one {T : List (ByteArray × Value)} (h : (T.map (·.1)).Nodup) {k : ByteArray} {u v : Value} (h1 : (k, u) ∈ T) (h2 : (k, v) ∈ T) : u = v := by
  induction T with
  | nil => cases h1
  | cons a T ih =>
    simp only [List.map_cons, List.nodup_cons] at h
    rcases List.mem_cons.1 h1 with e1 | k1
    · rcases List.mem_cons.1 h2 with e2 | k2
      · rw [← e1] at e2; cases e2; rfl
      · exact absurd (List.mem_map_of_mem (f := (·.1)) k2) (by rw [← e1] at h; exact h.1)
    · rcases List.mem_cons.1 h2 with e2 | k2
      · exact absurd (List.mem_map_of_mem (f := (·.1)) k1) (by rw [← e2] at h; exact h.1)
      · exact ih h.2 k1 k2
/-- one more is laid -/
theorem MpT.put {e t : TypeId} (ht : Tryz.prog.underlying t = some (.map 9 e)) {T : List (ByteArray × Value)} (hT : TabOk e T) {dn : Nat → Bool} {w : World} {b : Nat} (h : MpT e T dn w b) (i : Nat) (k : ByteArray) (v : Value) (hi : T[i]? = some (k, v)) (hd : dn i = false) :
    ∃ w', (Instr.mapUpdate t (.map (some b)) (.string k) v).run Tryz.prog w = .ok () w' ∧ MpT e T (fun j => dn j || j == i) w' b ∧ w.grownBy w' (some b) := by
  obtain ⟨f, ⟨D, h1, h2⟩, h3, h4⟩ := h
  have hm := List.mem_of_getElem? hi
  have hil := (List.getElem?_eq_some_iff.1 hi).1
  have hk := hT.ks k v hm
  have hle := hT.le
  have hcl := cnt_le dn T.length
  obtain ⟨w', r1, r2, r3⟩ := h1.update keyedS ht (by unfold maxLen; omega) (keyS k hk.1) hk.2
  refine ⟨w', r1, ⟨sput f k v, ⟨_, ?_, RdS.put h1.isMap k hk.1 v h2⟩, fun j q u hj hdj => ?_, fun q u hq => ?_⟩, r3⟩
  · rw [cnt_up dn i hd, if_pos hil]
    exact r2
  · unfold sput
    split
    · rename_i e; subst e
      rw [tab_one hT.nd (List.mem_of_getElem? hj) hm]
    · rename_i e
      by_cases hji : j = i
      · subst hji
        rw [hi] at hj
        cases hj
        exact absurd rfl e
      · have : dn j = true := by simpa [hji] using hdj
        exact h3 j q u hj this
  · unfold sput at hq
    split at hq
    · rename_i e; subst e
      cases hq
      exact hm
    · exact h4 q u hq
/-- what a full map tells -/
theorem MpT.look {e t : TypeId} (ht : Tryz.prog.underlying t = some (.map 9 e)) {T : List (ByteArray × Value)} (hT : TabOk e T) {dn : Nat → Bool} {w : World} {b : Nat} (h : MpT e T dn w b) (hall : ∀ i, i < T.length → dn i = true) (k : ByteArray) (hk : k.size ≤ maxLen) {z : Value} (hz : ∀ y, (zeroValue e).run Tryz.prog y = .ok z y) (hzd : plainElem (H := Unit) Tryz.prog e z = some (vl z, [])) (hinv : ∀ u v, plainElem (H := Unit) Tryz.prog e u = some (vl v, []) → plainElem (H := Unit) Tryz.prog e v = some (vl v, []) → u = v) :
    ∃ v, ((k, v) ∈ T ∨ ((∀ u, (k, u) ∉ T) ∧ v = z)) ∧ (Instr.lookup t (.map (some b)) (.string k) false).run Tryz.prog w = .ok v w ∧ (∃ ok, (Instr.lookup t (.map (some b)) (.string k) true).run Tryz.prog w = .ok (.tuple #[v, .bool ok]) w ∧ (ok = true ↔ (k, v) ∈ T ∧ ∃ u, (k, u) ∈ T)) := by
  obtain ⟨f, ⟨D, h1, h2⟩, h3, h4⟩ := h
  obtain ⟨v, ps, r1, r2⟩ := h1.lookup keyedS ht (hz w) hzd (keyS k hk)
  obtain ⟨v', ps', r3, r4⟩ := h1.look_ok keyedS ht (hz w) hzd (keyS k hk)
  have h5 := h2 k hk
  cases hf : f k with
  | none =>
    rw [hf] at h5
    have hno : ∀ u, (k, u) ∉ T := fun u hu => by
      obtain ⟨i, hi⟩ := List.mem_iff_getElem?.1 hu
      have := h3 i k u hi (hall i (List.getElem?_eq_some_iff.1 hi).1)
      rw [hf] at this
      cases this
    rw [Maps.atKey_of_not_has h5] at r2 r4
    have p1 := plainElem_places r2
    have p2 := plainElem_places r4
    simp only at p1 p2
    subst p1 p2
    obtain rfl := hinv v z r2 hzd
    obtain rfl := hinv v' v r4 hzd
    refine ⟨v', .inr ⟨hno, rfl⟩, r1, Maps.has D (.string k.data.toList), r3, ?_⟩
    rw [h5]
    constructor
    · intro h; cases h
    · intro h; exact absurd h.1 (hno v')
  | some u =>
    rw [hf] at h5
    have hu := h4 k u hf
    rw [h5.2] at r2 r4
    have p1 := plainElem_places r2
    have p2 := plainElem_places r4
    simp only at p1 p2
    subst p1 p2
    have hpu := (hT.ks k u hu).2
    obtain rfl := hinv v u r2 hpu
    obtain rfl := hinv v' v r4 hpu
    exact ⟨v', .inl hu, r1, Maps.has D (.string k.data.toList), r3, by rw [h5.1]; exact ⟨fun _ => ⟨hu, v', hu⟩, fun _ => rfl⟩⟩
theorem inv_str (u v : Value) (h : plainElem (H := Unit) Tryz.prog 9 u = some (vl v, [])) (h' : plainElem (H := Unit) Tryz.prog 9 v = some (vl v, [])) : u = v := by
  obtain ⟨s, rfl, e, -⟩ := plainElem_string_inv Tryz.underlying9 h
  obtain ⟨s', rfl, -, -⟩ := plainElem_string_inv Tryz.underlying9 h'
  simp only [vl, Prod.mk.injEq, DataW.lit.injEq, and_true] at e
  rw [lit_inj e.symm]
theorem inv_int (u v : Value) (h : plainElem (H := Unit) Tryz.prog 3 u = some (vl v, [])) (h' : plainElem (H := Unit) Tryz.prog 3 v = some (vl v, [])) : u = v := by
  obtain ⟨s, rfl, e, -⟩ := plainElem_int_inv Tryz.underlying3 h
  obtain ⟨s', rfl, -, -⟩ := plainElem_int_inv Tryz.underlying3 h'
  simp only [vl, Prod.mk.injEq, DataW.lit.injEq, Lit.int.injEq, true_and, and_true] at e
  rw [e]
end Go.Proofs.YtcgembfdejjliaaGreatDoor
