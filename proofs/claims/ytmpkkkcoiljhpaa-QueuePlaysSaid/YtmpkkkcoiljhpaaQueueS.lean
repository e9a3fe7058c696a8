/- The document's queue: what stays. -/
import Derived.Test.YtmpkkkcoiljhpaaQueueZ
namespace Go.Proofs.Ytmpkkkcoiljhpaa
open Go.RowKit
set_option linter.unusedVariables false

/-- two blocks may change, new memory may be made -/
structure Rim2 (a b : Nat) (w w' : World) : Prop where
  os : w'.os = w.os
  tape : w'.tape = w.tape
  output : w'.output = w.output
  size : w.heap.size ≤ w'.heap.size
  block : ∀ k, k ≠ a → k ≠ b → k < w.heap.size → w'.heap[k]? = w.heap[k]?
section
variable {a b : Nat} {u w w' : World}
theorem Rim2.of (h : Below w.heap.size w w') : Rim2 a b w w' := ⟨h.os, h.tape, h.output, h.size, fun k _ _ hl => h.block k hl⟩
theorem Rim2.fst (h : Kept a w w') : Rim2 a b w w' := ⟨h.os, h.tape, h.output, Nat.le_of_eq h.size.symm, fun k hk _ _ => h.block k hk⟩
theorem Rim2.snd (h : Kept b w w') : Rim2 a b w w' := ⟨h.os, h.tape, h.output, Nat.le_of_eq h.size.symm, fun k _ hk _ => h.block k hk⟩
theorem Rim2.trans (h : Rim2 a b u w) (k : Rim2 a b w w') : Rim2 a b u w' :=
  ⟨k.os.trans h.os, k.tape.trans h.tape, k.output.trans h.output, Nat.le_trans h.size k.size, fun i hi hj hl => (k.block i hi hj (Nat.lt_of_lt_of_le hl h.size)).trans (h.block i hi hj hl)⟩
theorem Rim2.below {n : Nat} (h : Rim2 a b w w') (ha : n ≤ a) (hb : n ≤ b) (hz : n ≤ w.heap.size) : Below n w w' := ⟨h.os, h.tape, h.output, h.size, fun k hk => h.block k (by omega) (by omega) (by omega)⟩
theorem Rim2.grown {row : Option Nat} (h : Rim2 a b u w) (hg : w.grownBy w' row) (hr : ∀ q, row = some q → u.heap.size ≤ q) : Rim2 a b u w' :=
  ⟨hg.os.trans h.os, hg.tape.trans h.tape, hg.output.trans h.output, Nat.le_trans h.size hg.size, fun k hk hk' hl => (hg.block k (Nat.lt_of_lt_of_le hl h.size) (fun e => by have := hr k e.symm; omega)).trans (h.block k hk hk' hl)⟩
end
section
variable {w w' : World} {rb lb np : Nat} {rs : List (Int × List Cd)} {lost : Int}
theorem RQ.six (h : RQ w rb lb np rs lost) : np ≤ 6 ∧ rs.length = 6 := ⟨h.1, h.2.1⟩
theorem RQ.le (h : RQ w rb lb np rs lost) {i : Nat} {p : Int} {cs : List Cd} (hi : rs[i]? = some (p, cs)) : cs.length ≤ 16 := h.2.2.1 _ (List.mem_of_getElem? hi)
theorem ty_ne {w : World} {k b : Nat} {cur X : Array Value} {T U : TypeId} (hT : T ≠ U) (hc : w.heap[k]? = some (.cells cur T (0, 0))) (hb : w.heap[b]? = some (.cells X U (0, 0))) : k ≠ b := by
  intro e
  subst e
  rw [hc] at hb
  simp only [Option.some.injEq, Obj.cells.injEq] at hb
  exact hT hb.2.1
/-- blocks of other types are as they were -/
theorem RQ.blk (h : RQ w rb lb np rs lost) (hr : Rim2 rb lb w w') {k : Nat} {cur : Array Value} {T : TypeId} (h1 : T ≠ 51) (h2 : T ≠ 25) (hc : w.heap[k]? = some (.cells cur T (0, 0))) : w'.heap[k]? = some (.cells cur T (0, 0)) := by
  obtain ⟨-, -, -, pv, X, h4, h5, h6, h7⟩ := h
  exact (hr.block k (ty_ne h1 hc h4) (ty_ne h2 hc h6) (blk_lt hc)).trans hc
theorem RQ.cat (h : RQ w rb lb np rs lost) (hr : Rim2 rb lb w w') {a : Option Addr} {cs : List Cd} (ho : CAt w a cs) : CAt w' a cs :=
  ho.keep (fun b cur hc _ => (h.blk hr (by decide) (by decide) hc).trans hc.symm)
theorem RQ.slc (h : RQ w rb lb np rs lost) (hr : Rim2 rb lb w w') {v : Value} {cs : List Cd} (ho : SlC w v cs) : SlC w' v cs := by
  obtain ⟨a, c, h1, h2, h3, h4, h5⟩ := ho
  exact ⟨a, c, h1, h2, h3, h.cat hr h4, h5⟩
theorem RQ.own (h : RQ w rb lb np rs lost) (hr : Rim2 rb lb w w') {base size m : Nat} {T : TypeId} {v : Value} {xs : List Value} (h1 : T ≠ 51) (h2 : T ≠ 25) (ho : w.ownsRow base T size v m xs) : w'.ownsRow base T size v m xs :=
  own_blocks ho (fun b cur hc => (h.blk hr h1 h2 hc).trans hc.symm)
theorem RQ.setv (h : RQ w rb lb np rs lost) {i : Nat} {p : Int} {cs cs' : List Cd} {v' : Value} (hi : rs[i]? = some (p, cs)) (hn : i < np) (hs : SlC w v' cs') (hl : cs'.length ≤ 16) : RQ (w.setCell ⟨lb, i, none⟩ v') rb lb np (rs.set i (p, cs')) lost := by
  have H := h
  obtain ⟨h1, h2, h3, pv, X, h4, h5, h6, h7⟩ := h
  have hk : Kept lb w (w.setCell ⟨lb, i, none⟩ v') := (Kept.refl lb w).setCell i v'
  have hr : Rim2 rb lb w (w.setCell ⟨lb, i, none⟩ v') := Rim2.snd hk
  obtain ⟨v, h8, -⟩ := h7 i p cs hn hi
  have hiX : i < X.size := by
    rcases Nat.lt_or_ge i X.size with h' | h'
    · exact h'
    · rw [Array.getElem?_eq_none h'] at h8; cases h8
  refine ⟨h1, by rw [List.length_set]; exact h2, ?_, pv, X.setIfInBounds i v', (hk.block rb (ty_ne (by decide) h4 h6)).trans h4, ?_, blk_set h6 rfl, ?_⟩
  · intro y hy
    rcases List.mem_or_eq_of_mem_set hy with hy | rfl
    · exact h3 y hy
    · exact hl
  · have e : pk (np, rs.set i (p, cs')) = pk (np, rs) := by
      unfold pk
      simp only
      rw [List.map_take, List.map_take, List.map_set]
      congr 1
      apply List.ext_getElem?
      intro j
      by_cases e : i = j
      · subst e
        rw [List.getElem?_set_self (by rw [List.length_map]; omega), List.getElem?_map, hi]; rfl
      · rw [List.getElem?_set_ne e]
    rw [e]
    exact H.own hr (by decide) (by decide) h5
  · intro j q ds hj hjr
    by_cases e : i = j
    · subst e
      rw [List.getElem?_set_self (by omega)] at hjr
      cases hjr
      exact ⟨v', by simp [hiX], H.slc hr hs⟩
    · rw [List.getElem?_set_ne e] at hjr
      obtain ⟨u, h9, h10⟩ := h7 j q ds hj hjr
      exact ⟨u, by rw [Array.getElem?_setIfInBounds_ne e]; exact h9, H.slc hr h10⟩
theorem RQ.setl (h : RQ w rb lb np rs lost) (m : Int) : RQ (w.setCell ⟨rb, 2, none⟩ (.int .i64 m)) rb lb np rs m := by
  have H := h
  obtain ⟨h1, h2, h3, pv, X, h4, h5, h6, h7⟩ := h
  have hk : Kept rb w (w.setCell ⟨rb, 2, none⟩ (.int .i64 m)) := (Kept.refl rb w).setCell 2 _
  have hr : Rim2 rb lb w (w.setCell ⟨rb, 2, none⟩ (.int .i64 m)) := Rim2.fst hk
  refine ⟨h1, h2, h3, pv, X, blk_set h4 rfl, H.own hr (by decide) (by decide) h5, (hk.block lb (ty_ne (by decide) h6 h4)).trans h6, ?_⟩
  intro j q ds hj hjr
  obtain ⟨u, h9, h10⟩ := h7 j q ds hj hjr
  exact ⟨u, h9, H.slc hr h10⟩
end

end Go.Proofs.Ytmpkkkcoiljhpaa
