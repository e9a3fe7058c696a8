/- A map from keys to numbers in which keys are counted. -/
import Derived.Test.YtkblblcjkkgbeaaMapK
import Derived.WideKeyEntry
import Derived.Maps.Ext
namespace Go.Proofs.Ytkblblcjkkgbeaa
open Go.RowKit
open Go.ChangeMaps (setBlock heap_setBlock_same heap_setBlock_other)
set_option linter.unusedVariables false
set_option linter.unusedSimpArgs false

def cnt (L : List Ky) (k : Ky) : Nat := (L.filter (fun q => decide (q = k))).length
theorem cnt_snoc' (L : List Ky) (k q : Ky) : cnt (L ++ [k]) q = cnt L q + (if q = k then 1 else 0) := by
  unfold cnt
  rw [List.filter_append]
  by_cases h : k = q
  · simp [h]
  · have h' : ¬ q = k := fun e => h e.symm
    simp [h, h']
theorem cnt_app (L M : List Ky) (q : Ky) : cnt (L ++ M) q = cnt L q + cnt M q := by simp [cnt]
theorem cnt_le (L : List Ky) (q : Ky) : cnt L q ≤ L.length := List.length_filter_le _ _
theorem cnt_pos {L : List Ky} {q : Ky} (h : q ∈ L) : 0 < cnt L q := by
  unfold cnt
  exact List.length_pos_of_mem (List.mem_filter.2 ⟨h, by simp⟩)
theorem cnt_mem {L : List Ky} {q : Ky} (h : 0 < cnt L q) : q ∈ L := by
  obtain ⟨x, hx⟩ := List.exists_mem_of_length_pos h
  have := List.mem_filter.1 hx
  have e : x = q := by simpa using this.2
  rw [← e]; exact this.1
def cntF (L : List Ky) (k : Ky) : Option Int := if cnt L k = 0 then none else some (cnt L k : Int)
theorem cntF_put (L : List Ky) (k q : Ky) : fput (cntF L) k ((cnt L k : Int) + 1) q = cntF (L ++ [k]) q := by
  unfold fput cntF
  rw [cnt_snoc']
  by_cases h : q = k
  · subst h; simp
  · simp [h]
/-- all keys that the datum has are keys -/
def KyD (D : DataW Unit) : Prop := ∀ l, Maps.has D l = true → ∃ k, KyS k ∧ l = klit k
abbrev OwnM (w : World) (b n : Nat) (D : DataW Unit) : Prop := w.ownsMap Try.prog 36 (plainElem Try.prog 3) b n D
/-- the datum counts the keys of L -/
def CntD (D : DataW Unit) (L : List Ky) : Prop := (∀ k, KyS k → Rd D (klit k) (cntF L k)) ∧ KyD D
def MpC (w : World) (b n : Nat) (L : List Ky) : Prop := ∃ D : DataW Unit, OwnM w b n D ∧ CntD D L
theorem MpC.made (w : World) : MpC (w.alloc (.map #[] 0)) w.heap.size 0 [] := ⟨_, World.ownsMap_made _ _ _ _, fun k _ => rfl, fun l h => by cases h⟩
theorem MpC.lt {w : World} {b n : Nat} {L : List Ky} (h : MpC w b n L) : b < w.heap.size := by
  obtain ⟨D, h, -⟩ := h
  exact h.lt
theorem MpC.ext {w w' : World} {b n : Nat} {L : List Ky} (h : MpC w b n L) (hb : Below w.heap.size w w') : MpC w' b n L := by
  obtain ⟨D, h1, h2⟩ := h
  obtain ⟨es, clock, e1, e2⟩ := h1
  exact ⟨D, ⟨es, clock, ext_block hb e1, e2⟩, h2⟩
theorem MpC.kept {w w' : World} {b n : Nat} {L : List Ky} {row : Option Nat} (h : MpC w b n L) (hg : w.grownBy w' row) (hne : some b ≠ row) : MpC w' b n L := by
  obtain ⟨D, h1, h2⟩ := h
  exact ⟨D, h1.kept hg hne, h2⟩
theorem MpC.ne {w : World} {b n : Nat} {L : List Ky} (h : MpC w b n L) {k : Nat} {cur : Array Value} {T : TypeId} {p : Nat × Nat} (hc : w.heap[k]? = some (.cells cur T p)) : k ≠ b := by
  intro e
  subst e
  obtain ⟨D, ⟨es, clock, e1, -⟩, -⟩ := h
  rw [hc] at e1
  cases e1
theorem CntD.put {D : DataW Unit} {L : List Ky} (h : CntD D L) (hD : Maps.IsMap D) (k : Ky) (hk : KyS k) : CntD (D.put (klit k) (.lit (.int .i64 ((cnt L k : Int) + 1)))) (L ++ [k]) := by
  refine ⟨fun q hq => ?_, fun l hl => ?_⟩
  · rw [← cntF_put]
    exact Rd.put hD k hk _ h.1 q hq
  · by_cases e : l = klit k
    · exact ⟨k, hk, e⟩
    · rw [Maps.has_put_other e] at hl
      exact h.2 l hl
theorem CntD.look {D : DataW Unit} {L : List Ky} (h : CntD D L) (k : Ky) (hk : KyS k) {c : Int} (hc : D.atKey (klit k) (.lit (.int .i64 0)) = .lit (.int .i64 c)) : c = (cnt L k : Int) := by
  have h3 := h.1 k hk
  unfold cntF at h3
  by_cases h0 : cnt L k = 0
  · rw [if_pos h0] at h3
    have h4 : D.atKey (klit k) (.lit (.int .i64 0)) = .lit (.int .i64 0) := Maps.atKey_of_not_has h3 _
    rw [h4] at hc
    have : (0 : Int) = c := by simpa using hc
    omega
  · rw [if_neg h0] at h3
    rw [h3.2] at hc
    have : ((cnt L k : Nat) : Int) = c := by simpa using hc
    omega
theorem wf_small {c : Int} (h0 : 0 ≤ c) (h1 : c ≤ 100000) : (Lit.int .i64 c).wf = true := WalkArith.wf_i64 (by omega)
/-- m[k]++: what its three operations do -/
theorem MpC.bump {w : World} {b n : Nat} {L : List Ky} (h : MpC w b n L) (hn : n < 10000) (hL : L.length ≤ 1000) (k : Ky) (hk : KyS k) :
    ∃ (v0 : Value) (st : Int) (w1 w2 : World), (Instr.lookup 34 (.map (some b)) (.agg #[.string k.1, .string k.2]) false).run Try.prog w = .ok (.int .i64 (cnt L k : Int)) w ∧
      (Instr.lookup 34 (.map (some b)) (.agg #[.string k.1, .string k.2]) false).run Try.prog w1 = .ok (.int .i64 (cnt L k : Int)) w1 ∧
      (Instr.mapEntry 34 (.map (some b)) (.agg #[.string k.1, .string k.2])).run Try.prog w = .ok (.tuple #[v0, .int .i64 st]) w1 ∧
      (Instr.entryStore 34 (.map (some b)) (.int .i64 st) (.int .i64 ((cnt L k : Int) + 1))).run Try.prog w1 = .ok () w2 ∧
      MpC w2 b (n + 1) (L ++ [k]) ∧ w.grownBy w2 (some b) := by
  obtain ⟨D, h1, h2⟩ := h
  have hmax : n < maxLen := by unfold maxLen; omega
  have hcl := cnt_le L k
  have hz1 := wf_small (c := (cnt L k : Int) + 1) (by omega) (by omega)
  have hkey := key_of k hk
  obtain ⟨c, hc1, hc2, -⟩ := h1.lookup_int keyedK Try.underlying34 Try.underlying3 (zeroInt w) hkey
  have hcc := h2.look k hk hc2
  subst hcc
  have h1' := h1
  obtain ⟨es, clock, hb, F, hs, hD⟩ := h1
  obtain ⟨v0, st, es1, clock1, hE, -, hS⟩ := WideElems.entry_then_store lawKey Try.underlying34 zeroInt hb F hkey
  obtain ⟨es', clock', hT, hU⟩ := hS (setBlock w b (.map es1 clock1)) (.int .i64 ((cnt L k : Int) + 1)) (heap_setBlock_same hb _)
  obtain ⟨w2, hU', ho2, hg2⟩ := h1'.update keyedK Try.underlying34 hmax hkey (plainElem_int Try.underlying3 hz1)
  rw [hU] at hU'
  have hw2 : setBlock w b (.map es' clock') = w2 := by simpa using hU'
  subst hw2
  have hb1 : (setBlock w b (.map es1 clock1)).heap[b]? = some (.map es1 clock1) := heap_setBlock_same hb _
  refine ⟨v0, (st : Int), setBlock w b (.map es1 clock1), _, hc1, ?_, hE, hT, ?_, ?_⟩
  · rcases lawKey.find w hkey es.toList F.keys with ⟨f1, f2⟩ | ⟨j, e0, f1, f2, f3⟩
    · have q0 : (Instr.lookup 34 (.map (some b)) (.agg #[.string k.1, .string k.2]) false).run Try.prog w = .ok (.int .i64 0) w := by
        simp [Instr.lookup, run_underlying Try.underlying34, MapKept.run_getObj_map hb, lawKey.check w _ hkey, f1, zeroInt, Result.andThen]
      have hc0 : (cnt L k : Int) = 0 := by rw [q0] at hc1; simpa using hc1.symm
      have hE2 : (Instr.mapEntry 34 (.map (some b)) (.agg #[.string k.1, .string k.2])).run Try.prog w = .ok (.tuple #[.int .i64 0, goInt clock]) (setBlock w b (.map (es.push ⟨(.agg #[.string k.1, .string k.2]), .int .i64 0, clock⟩) (clock + 1))) := by
        simp [Instr.mapEntry, run_underlying Try.underlying34, MapKept.run_getObj_map hb, lawKey.check w false hkey, f1, zeroInt, MapKept.run_setObj_map _ hb, Result.andThen, setBlock]
      have hU2 : (Instr.mapUpdate 34 (.map (some b)) (.agg #[.string k.1, .string k.2]) (.int .i64 0)).run Try.prog w = .ok () (setBlock w b (.map (es.push ⟨(.agg #[.string k.1, .string k.2]), .int .i64 0, clock⟩) (clock + 1))) := by
        simp [Instr.mapUpdate, run_underlying Try.underlying34, MapKept.run_getObj_map hb, lawKey.check w false hkey, f1, MapKept.run_setObj_map _ hb, Result.andThen, setBlock]
      obtain ⟨w1, hU1, ho1, -⟩ := h1'.update keyedK Try.underlying34 hmax hkey (plainElem_int Try.underlying3 (wf_small (c := 0) (by omega) (by omega)))
      rw [hU2] at hU1
      rw [hE2] at hE
      have e1 : setBlock w b (.map (es.push ⟨(.agg #[.string k.1, .string k.2]), .int .i64 0, clock⟩) (clock + 1)) = w1 := by simpa using hU1
      have e2 : setBlock w b (.map (es.push ⟨(.agg #[.string k.1, .string k.2]), .int .i64 0, clock⟩) (clock + 1)) = setBlock w b (.map es1 clock1) := by
        have := (Result.ok.injEq _ _ _ _).mp hE
        exact this.2
      rw [← e1] at ho1
      rw [← e2]
      obtain ⟨c', r1, r2, -⟩ := ho1.lookup_int keyedK Try.underlying34 Try.underlying3 (zeroInt _) hkey
      rw [Maps.atKey_put_same h1'.isMap (klit_key k hk)] at r2
      have : (0 : Int) = c' := by simpa using r2
      rw [hc0]
      rw [← this] at r1
      exact r1
    · have hj : es[j]? = some e0 := by simpa using f2
      have hsame : es.modify j (fun e => { e with key := (.agg #[.string k.1, .string k.2]) }) = es := by
        apply Array.ext'
        rw [Array.toList_modify, ChangeMaps.modify_eq_set _ _ _ _ f2]
        have : ({ e0 with key := (.agg #[.string k.1, .string k.2]) } : MapEntry) = e0 := by rw [← f3]
        rw [this]
        exact WideElems.set_self _ _ _ f2
      have hE2 : (Instr.mapEntry 34 (.map (some b)) (.agg #[.string k.1, .string k.2])).run Try.prog w = .ok (.tuple #[e0.val, goInt e0.born]) (setBlock w b (.map es clock)) := by
        simp [Instr.mapEntry, run_underlying Try.underlying34, MapKept.run_getObj_map hb, lawKey.check w false hkey, f1, hj, f3, lawKey.stays w hkey, hsame, MapKept.run_setObj_map _ hb, Result.andThen, setBlock]
      rw [hE2] at hE
      have e2 : setBlock w b (.map es clock) = setBlock w b (.map es1 clock1) := by
        have := (Result.ok.injEq _ _ _ _).mp hE
        exact this.2
      rw [← e2]
      have ho1 : OwnM (setBlock w b (.map es clock)) b n D := ⟨es, clock, heap_setBlock_same hb _, F, hs, hD⟩
      obtain ⟨c', r1, r2, -⟩ := ho1.lookup_int keyedK Try.underlying34 Try.underlying3 (zeroInt _) hkey
      have := h2.look k hk r2
      rw [← this]
      exact r1
  · obtain ⟨es2, clock2, hb2, k2⟩ := ho2
    rw [heap_setBlock_same hb] at hb2
    refine ⟨_, ⟨es2, clock2, ?_, k2⟩, h2.put h1'.isMap k hk⟩
    rw [heap_setBlock_same hb1]
    exact hb2
  · exact ⟨rfl, rfl, rfl, by simp [setBlock], fun i _ hi => (heap_setBlock_other hb1 _ (fun e => hi (by rw [e]))).trans (heap_setBlock_other hb _ (fun e => hi (by rw [e])))⟩
/-- how many keys there are -/
theorem CntD.size {w : World} {b n : Nat} {D : DataW Unit} {L : List Ky} (ho : OwnM w b n D) (h : CntD D L) (K : List Ky) (hnd : K.Nodup) (hK : ∀ k ∈ K, KyS k) (hLK : ∀ k, k ∈ L ↔ k ∈ K) : Maps.size D = K.length := by
  obtain ⟨es, rfl, hp, hl⟩ := ho.canon keyedK
  have h1 : (es.map (·.1)).Nodup := List.pairwise_map.2 (Maps.apart_of_rising hp)
  have h2 : (K.map klit).Nodup := by
    refine List.pairwise_map.2 ?_
    refine List.Pairwise.imp_of_mem ?_ hnd
    intro a c ha hc hne e
    exact hne (klit_inj (hK a ha) (hK c hc) e)
  have hp := (List.perm_ext_iff_of_nodup h1 h2).2 (fun l => by
    constructor
    · intro hm
      obtain ⟨p, hp, rfl⟩ := List.mem_map.1 hm
      have hh : Maps.has (DataW.map es) p.1 = true := by
        rw [Maps.has_eq]
        exact List.any_eq_true.2 ⟨p, hp, WideAt.sameKey_self (hl p hp)⟩
      obtain ⟨k, hk, e⟩ := h.2 _ hh
      have h3 := h.1 k hk
      unfold cntF at h3
      by_cases h0 : cnt L k = 0
      · rw [if_pos h0] at h3
        have h3' : Maps.has (DataW.map es) (klit k) = false := h3
        rw [← e, hh] at h3'
        cases h3'
      · exact List.mem_map.2 ⟨k, (hLK k).1 (cnt_mem (by omega)), e.symm⟩
    · intro hm
      obtain ⟨k, hk, rfl⟩ := List.mem_map.1 hm
      have h3 := h.1 k (hK k hk)
      have h4 := cnt_pos ((hLK k).2 hk)
      unfold cntF at h3
      rw [if_neg (by omega)] at h3
      have h5 := h3.1
      rw [Maps.has_eq] at h5
      obtain ⟨p, hp, e⟩ := List.any_eq_true.1 h5
      exact List.mem_map.2 ⟨p, hp, WideAt.sameKey_eq e⟩)
  have := hp.length_eq
  rw [Maps.size_eq]
  simpa using this
/-- what is at a key that is there -/
theorem CntD.at {D : DataW Unit} {L : List Ky} (h : CntD D L) (l : Lit) (hl : Maps.has D l = true) {y : DataW Unit} (hy : ∀ z, D.atKey l z = y) : ∃ k, k ∈ L ∧ y = .lit (.int .i64 (cnt L k : Int)) := by
  obtain ⟨k, hk, rfl⟩ := h.2 l hl
  have h3 := h.1 k hk
  unfold cntF at h3
  by_cases h0 : cnt L k = 0
  · rw [if_pos h0] at h3
    have h3' : Maps.has D (klit k) = false := h3
    rw [hl] at h3'
    cases h3'
  · rw [if_neg h0] at h3
    exact ⟨k, cnt_mem (by omega), by rw [← hy (.lit (.int .i64 0))]; exact h3.2 _⟩
end Go.Proofs.Ytkblblcjkkgbeaa
