/- A map from keys to cards, beside a shelf's entries. -/
import Derived.Test.YtloeabdohgdmkaaBhZ
import Derived.Test.YtloeabdohgdmkaaBeZ
import Derived.Maps.OwnSet
import Derived.Maps.OwnOps
import Derived.Maps.Ext
import Derived.DeepKeys4
namespace Go.Proofs.Ytloeabdohgdmkaa
open Go.RowKit
set_option linter.unusedVariables false
set_option linter.unusedSimpArgs false
set_option maxRecDepth 100000

theorem laidK : laidOutB Try.prog = true := by kernel_rfl
theorem rowKey : (30 : TypeId) < Try.prog.types.size := of_decide_eq_true (by kernel_rfl)
theorem wideKey : (match Try.prog.underlying 30 with | some (.array _ _) | some (.struct _) => true | _ => false) = true := by rw [Try.underlying30]
theorem lawKey : WideMaps.KeyLaw Try.prog 30 := deep_law_laid laidK (m := 2) (by omega) rowKey (by kernel_rfl) wideKey
theorem keyedK : Maps.Keyed Try.prog 30 := Maps.Keyed.of_law lawKey
theorem keyTypeK : Try.prog.keyType 30 = true := by kernel_rfl
theorem cellsKey : Try.prog.cellsOf 30 = 2 := by kernel_rfl
theorem cellsStr : Try.prog.cellsOf 9 = 1 := by kernel_rfl
def KyS (k : Ky) : Prop := k.1.size ≤ 1000 ∧ k.2.size ≤ 1000
def klit (k : Ky) : Lit := .string (keyBytes [.string k.1.data.toList, .string k.2.data.toList])
theorem lits_str (d : Nat) (a : ByteArray) (h1 : a.size ≤ maxLen) : Try.prog.keyLits (d + 1) 9 [.string a] = some [.string a.data.toList] := by
  unfold Program.keyLits
  simp [Try.underlying9, h1]
theorem lits_of (d : Nat) (a b : ByteArray) (h1 : a.size ≤ maxLen) (h2 : b.size ≤ maxLen) : Try.prog.keyLits (d + 2) 30 [.string a, .string b] = some [.string a.data.toList, .string b.data.toList] := by
  unfold Program.keyLits
  simp [Try.underlying30, cellsKey, cellsStr, lits_str d a h1, lits_str d b h2]
theorem formedK (a b : ByteArray) : (Value.agg #[.string a, .string b]).formed Try.prog 30 = true := by simp [Value.formed, Try.underlying30, cellsKey]
theorem key_of (k : Ky) (h : KyS k) : keyOf Try.prog 30 (.agg #[.string k.1, .string k.2]) = some (klit k) := by
  have h1 : k.1.size ≤ maxLen := by unfold maxLen; have := h.1; omega
  have h2 : k.2.size ≤ maxLen := by unfold maxLen; have := h.2; omega
  obtain ⟨d, hd⟩ : ∃ d, Try.prog.types.size + 1 = d + 2 := ⟨Try.prog.types.size - 1, by have h3 : 30 < Try.prog.types.size := rowKey; omega⟩
  unfold keyOf
  rw [Try.underlying30]
  simp only [keyTypeK, formedK, Bool.and_self, if_true]
  rw [hd]
  show (Try.prog.keyLits (d + 2) 30 [.string k.1, .string k.2]).map _ = _
  rw [lits_of d _ _ h1 h2]
  rfl
theorem klit_inj {k l : Ky} (hk : KyS k) (hl : KyS l) (h : klit k = klit l) : k = l := by
  have := keyedK.inj (key_of k hk) (by rw [h]; exact key_of l hl)
  simp only [Value.agg.injEq, Array.mk.injEq, List.cons.injEq, Value.string.injEq, and_true] at this
  exact Prod.ext this.1 this.2
theorem klit_key (k : Ky) (h : KyS k) : WideAt.IsKeyLit (klit k) := keyedK.key (key_of k h)


/- entries by key: what is there -/
theorem kc_refl (a i : ByteArray) : kc a i a i = 0 := by have := kc_neg a i a i; omega
theorem asc_key {es : List En} (h : Asc es) {p q : Nat} {x y : En} (hx : es[p]? = some x) (hy : es[q]? = some y) (e : enK x = enK y) : p = q := by
  obtain ⟨l1, g1⟩ := List.getElem?_eq_some_iff.1 hx
  obtain ⟨l2, g2⟩ := List.getElem?_eq_some_iff.1 hy
  have e1 : x.c.a = y.c.a := congrArg Prod.fst e
  have e2 : x.c.i = y.c.i := congrArg Prod.snd e
  rcases Nat.lt_trichotomy p q with h1 | h1 | h1
  · have := List.pairwise_iff_getElem.1 h p q l1 l2 h1
    rw [g1, g2, e1, e2, kc_refl] at this
    omega
  · exact h1
  · have := List.pairwise_iff_getElem.1 h q p l2 l1 h1
    rw [g1, g2, e1, e2, kc_refl] at this
    omega
theorem isIn_of {es : List En} (h : Asc es) {x : En} (hx : x ∈ es) : isIn (enK x) es = true ∧ es[low (enK x) es]? = some x := by
  obtain ⟨q, hq⟩ := List.mem_iff_getElem?.1 hx
  have h1 := low_iff (enK x) es h
  obtain ⟨p, hp⟩ : ∃ p, low (enK x) es = p := ⟨_, rfl⟩
  rw [hp] at h1
  have hself : elk (enK x) x = false := by unfold elk enK; rw [kc_refl]; rfl
  have hqp : p ≤ q := by
    have h2 := h1 q x hq
    rw [hself] at h2
    have : ¬ q < p := by simpa using h2.symm
    omega
  have hpq : p = q := by
    rcases Nat.eq_or_lt_of_le hqp with h2 | h2
    · exact h2
    · obtain ⟨l2, g2⟩ := List.getElem?_eq_some_iff.1 hq
      obtain ⟨y, hy⟩ : ∃ y, es[p]? = some y := ⟨_, List.getElem?_eq_getElem (by omega)⟩
      obtain ⟨l1, g1⟩ := List.getElem?_eq_some_iff.1 hy
      have h3 := List.pairwise_iff_getElem.1 h p q l1 l2 h2
      rw [g1, g2] at h3
      have h4 := h1 p y hy
      have h5 : elk (enK x) y = true := by unfold elk enK; exact decide_eq_true h3
      rw [h5] at h4
      simp at h4
  rw [hp, hpq]
  refine ⟨?_, hq⟩
  unfold isIn
  rw [hp, hpq, hq]
  simp [enK]
theorem isIn_ex {es : List En} {k : Ky} (h : isIn k es = true) : ∃ x ∈ es, enK x = k ∧ es[low k es]? = some x := by
  obtain ⟨x, hx, h1, h2⟩ := isIn_at h
  exact ⟨x, List.mem_of_getElem? hx, Prod.ext h1 h2, hx⟩
theorem isIn_none {es : List En} {k : Ky} (hs : Asc es) (h : isIn k es = false) {x : En} (hx : x ∈ es) : enK x ≠ k := by
  rintro rfl
  rw [(isIn_of hs hx).1] at h
  cases h
theorem mem_ins {es : List En} {e x : En} (hs : Asc es) (hi : isIn (enK e) es = false) (p : Nat) : x ∈ insAt es p e ↔ x = e ∨ (x ∈ es ∧ enK x ≠ enK e) := by
  have h1 : x ∈ insAt es p e ↔ x = e ∨ x ∈ es := by
    unfold insAt
    have : es.take p ++ es.drop p = es := List.take_append_drop p es
    constructor
    · intro h
      rcases List.mem_append.1 h with h | h
      · rcases List.mem_append.1 h with h | h
        · exact .inr (List.mem_of_mem_take h)
        · exact .inl (by simpa using h)
      · exact .inr (List.mem_of_mem_drop h)
    · intro h
      rcases h with h | h
      · exact List.mem_append.2 (.inl (List.mem_append.2 (.inr (by simpa using h))))
      · rw [← this] at h
        rcases List.mem_append.1 h with h | h
        · exact List.mem_append.2 (.inl (List.mem_append.2 (.inl h)))
        · exact List.mem_append.2 (.inr h)
  rw [h1]
  constructor
  · rintro (h | h)
    · exact .inl h
    · exact .inr ⟨h, isIn_none hs hi h⟩
  · rintro (h | h)
    · exact .inl h
    · exact .inr h.1
theorem mem_set {es : List En} {e x : En} (hs : Asc es) (hi : isIn (enK e) es = true) : x ∈ es.set (low (enK e) es) e ↔ x = e ∨ (x ∈ es ∧ enK x ≠ enK e) := by
  obtain ⟨y, hy, e1, hy2⟩ := isIn_ex hi
  obtain ⟨p, hp⟩ : ∃ p, low (enK e) es = p := ⟨_, rfl⟩
  rw [hp] at hy2 ⊢
  have hl := (List.getElem?_eq_some_iff.1 hy2).1
  constructor
  · intro h
    obtain ⟨q, hq⟩ := List.mem_iff_getElem?.1 h
    rw [List.getElem?_set] at hq
    split at hq
    · exact .inl (by simpa using hq.symm)
    · rename_i hne
      exact .inr ⟨List.mem_of_getElem? hq, fun e2 => hne (asc_key hs hy2 hq (e1.trans e2.symm))⟩
  · rintro (h | ⟨h, h2⟩)
    · subst h
      refine List.mem_iff_getElem?.2 ⟨p, ?_⟩
      rw [List.getElem?_set, if_pos rfl, if_pos hl]
    · obtain ⟨q, hq⟩ := List.mem_iff_getElem?.1 h
      refine List.mem_iff_getElem?.2 ⟨q, ?_⟩
      rw [List.getElem?_set, if_neg (fun e2 => h2 (by subst e2; rw [hy2] at hq; simp at hq; subst hq; exact e1))]
      exact hq
theorem asc_nodup {es : List En} (h : Asc es) : (es.map enK).Nodup := by
  refine List.pairwise_map.2 (List.Pairwise.imp (fun {x y} h e => ?_) h)
  have e1 : x.c.a = y.c.a := congrArg Prod.fst e
  have e2 : x.c.i = y.c.i := congrArg Prod.snd e
  rw [e1, e2, kc_refl] at h
  omega

/- how a card reads as a datum -/
open Classical in
noncomputable def RC (v : Value) : Option (DataW Cd × List MemPlace) := if h : ∃ c : Cd, v = .agg #[.string c.a, .string c.i, .int .i64 c.s, .int .i64 c.o, .int .i64 c.l, .int .i64 c.t, .int .i64 c.k, .int .i64 c.n, .bool c.g] then some (.held h.choose, []) else none
abbrev OwnMC (w : World) (b n : Nat) (D : DataW Cd) : Prop := w.ownsMap Try.prog 30 RC b n D
def KyDC (D : DataW Cd) : Prop := ∀ l, Maps.has D l = true → ∃ k, KyS k ∧ l = klit k
/-- the datum holds the cards of es by key -/
def HoD (D : DataW Cd) (es : List En) : Prop := (∀ e ∈ es, KyS (enK e) ∧ Maps.has D (klit (enK e)) = true ∧ ∀ z, D.atKey (klit (enK e)) z = .held e.c) ∧ (∀ k, KyS k → (∀ e ∈ es, enK e ≠ k) → Maps.has D (klit k) = false) ∧ KyDC D
def MpD (w : World) (b n : Nat) (es : List En) : Prop := ∃ D : DataW Cd, OwnMC w b n D ∧ HoD D es
theorem MpD.made (w : World) : MpD (w.alloc (.map #[] 0)) w.heap.size 0 [] := ⟨_, World.ownsMap_made _ _ _ _, fun e he => (by cases he), fun k _ _ => rfl, fun l h => by cases h⟩
theorem MpD.map {w : World} {b n : Nat} {es : List En} (h : MpD w b n es) : ∃ ms clock, w.heap[b]? = some (.map ms clock) := by
  obtain ⟨D, ⟨ms, clock, e1, -⟩, -⟩ := h
  exact ⟨ms, clock, e1⟩
theorem MpD.lt {w : World} {b n : Nat} {es : List En} (h : MpD w b n es) : b < w.heap.size := by
  obtain ⟨D, h, -⟩ := h
  exact h.lt
theorem MpD.blk {w w' : World} {b n : Nat} {es : List En} (h : MpD w b n es) (hb : w'.heap[b]? = w.heap[b]?) : MpD w' b n es := by
  obtain ⟨D, ⟨ms, clock, e1, e2⟩, h2⟩ := h
  exact ⟨D, ⟨ms, clock, hb.trans e1, e2⟩, h2⟩
theorem MpD.ext {w w' : World} {b n : Nat} {es : List En} (h : MpD w b n es) (hb : Below w.heap.size w w') : MpD w' b n es := h.blk (hb.block b h.lt)
theorem MpD.ne {w : World} {b n : Nat} {es : List En} (h : MpD w b n es) {k : Nat} {cur : Array Value} {T : TypeId} {p : Nat × Nat} (hc : w.heap[k]? = some (.cells cur T p)) : k ≠ b := by
  intro e
  subst e
  obtain ⟨ms, clock, e1⟩ := h.map
  rw [hc] at e1
  cases e1
theorem HoD.put {D : DataW Cd} {es fs : List En} (h : HoD D es) (hD : Maps.IsMap D) (e : En) (hk : KyS (enK e)) (hm : ∀ x, x ∈ fs ↔ x = e ∨ (x ∈ es ∧ enK x ≠ enK e)) : HoD (D.put (klit (enK e)) (.held e.c)) fs := by
  refine ⟨fun x hx => ?_, fun k hk2 hno => ?_, fun l hl => ?_⟩
  · rcases (hm x).1 hx with rfl | ⟨hx1, hx2⟩
    · exact ⟨hk, Maps.has_put_same hD (klit_key _ hk) _, fun z => Maps.atKey_put_same hD (klit_key _ hk) _ _⟩
    · obtain ⟨q1, q2, q3⟩ := h.1 x hx1
      have hne : klit (enK x) ≠ klit (enK e) := fun e' => hx2 (klit_inj q1 hk e')
      exact ⟨q1, (Maps.has_put_other hne _).trans q2, fun z => (Maps.atKey_put_other hne _ _).trans (q3 z)⟩
  · have hne2 : k ≠ enK e := fun e' => hno e ((hm e).2 (.inl rfl)) e'.symm
    have hne : klit k ≠ klit (enK e) := fun e' => hne2 (klit_inj hk2 hk e')
    rw [Maps.has_put_other hne]
    exact h.2.1 k hk2 fun x hx e' => hno x ((hm x).2 (.inr ⟨hx, by rw [e']; exact hne2⟩)) e'
  · by_cases e' : l = klit (enK e)
    · exact ⟨_, hk, e'⟩
    · rw [Maps.has_put_other e'] at hl
      exact h.2.2 l hl
theorem HoD.no {D : DataW Cd} {es : List En} (h : HoD D es) {l : Lit} (hl : Maps.has D l = true) : ∃ e ∈ es, l = klit (enK e) ∧ KyS (enK e) := by
  obtain ⟨k, hk, rfl⟩ := h.2.2 l hl
  rcases Classical.em (∃ e ∈ es, enK e = k) with ⟨e, he, rfl⟩ | hno
  · exact ⟨e, he, rfl, hk⟩
  · have := h.2.1 k hk fun e he e' => hno ⟨e, he, e'⟩
    rw [hl] at this
    cases this
theorem HoD.size {w : World} {b n : Nat} {D : DataW Cd} {es : List En} (ho : OwnMC w b n D) (h : HoD D es) (hs : Asc es) : Maps.size D = es.length := by
  obtain ⟨ms, rfl, hp, hl⟩ := ho.canon keyedK
  have h1 : (ms.map (·.1)).Nodup := List.pairwise_map.2 (Maps.apart_of_rising hp)
  have h2 : (es.map (fun e => klit (enK e))).Nodup := by
    have h3 := asc_nodup hs
    rw [List.Nodup, List.pairwise_map] at h3 ⊢
    refine List.Pairwise.imp_of_mem ?_ h3
    intro a c ha hc hne e
    exact hne (klit_inj (h.1 a ha).1 (h.1 c hc).1 e)
  have hp := (List.perm_ext_iff_of_nodup h1 h2).2 (fun l => by
    constructor
    · intro hm
      obtain ⟨p, hp, rfl⟩ := List.mem_map.1 hm
      have hh : Maps.has (DataW.map ms) p.1 = true := by
        rw [Maps.has_eq]
        exact List.any_eq_true.2 ⟨p, hp, WideAt.sameKey_self (hl p hp)⟩
      obtain ⟨e, he, e1, -⟩ := h.no hh
      exact List.mem_map.2 ⟨e, he, e1.symm⟩
    · intro hm
      obtain ⟨e, he, rfl⟩ := List.mem_map.1 hm
      have h5 := (h.1 e he).2.1
      rw [Maps.has_eq] at h5
      obtain ⟨p, hp, e⟩ := List.any_eq_true.1 h5
      exact List.mem_map.2 ⟨p, hp, WideAt.sameKey_eq e⟩)
  have := hp.length_eq
  rw [Maps.size_eq]
  simpa using this
section
variable (w : World) {ops : Array Oper} {rest : List Oper} {o : Oper} {a : Act} {Q : Exit → Act → World → Prop}
end

/- of those that have been met, how many are not gone -/
end Go.Proofs.Ytloeabdohgdmkaa
