/- The document's own line: the tables of its map literals; what holds while two of them are laid in whatever order. -/
import Derived.Test.YtcgembfdejjliaaGreatDoorScH
import Derived.Test.YtcgembfdejjliaaGreatDoorScL
namespace Go.Proofs.YtcgembfdejjliaaGreatDoor
open Go.RowKit
set_option linter.unusedVariables false
set_option linter.unusedSimpArgs false

def TF : List (ByteArray × Value) := [(⟨#[116, 105, 99, 107]⟩, .string ⟨#[65, 110]⟩), (⟨#[100, 101, 108, 105, 118, 101, 114]⟩, .string ⟨#[110]⟩), (⟨#[100, 114, 111, 112]⟩, .string ⟨#[110]⟩), (⟨#[116, 119, 105, 99, 101]⟩, .string ⟨#[110]⟩), (⟨#[99, 117, 116]⟩, .string ⟨#[65, 66]⟩), (⟨#[104, 101, 97, 108]⟩, .string ⟨#[65, 66]⟩), (⟨#[99, 114, 97, 115, 104]⟩, .string ⟨#[65]⟩), (⟨#[114, 101, 103, 105, 115, 116, 101, 114]⟩, .string ⟨#[65, 110, 115]⟩), (⟨#[99, 97, 110, 99, 101, 108]⟩, .string ⟨#[65]⟩), (⟨#[111, 118, 101, 114, 114, 105, 100, 101]⟩, .string ⟨#[65, 115]⟩), (⟨#[108, 111, 111, 107]⟩, .string ⟨#[65, 119]⟩)]
def TK : List (ByteArray × Value) := [(⟨#[116, 105, 99, 107]⟩, .int .i64 1), (⟨#[100, 101, 108, 105, 118, 101, 114]⟩, .int .i64 2), (⟨#[100, 114, 111, 112]⟩, .int .i64 3), (⟨#[116, 119, 105, 99, 101]⟩, .int .i64 4), (⟨#[99, 117, 116]⟩, .int .i64 5), (⟨#[104, 101, 97, 108]⟩, .int .i64 6), (⟨#[99, 114, 97, 115, 104]⟩, .int .i64 7), (⟨#[108, 111, 111, 107]⟩, .int .i64 9), (⟨#[114, 101, 103, 105, 115, 116, 101, 114]⟩, .int .i64 8), (⟨#[99, 97, 110, 99, 101, 108]⟩, .int .i64 8), (⟨#[111, 118, 101, 114, 114, 105, 100, 101]⟩, .int .i64 8)]
def TO : List (ByteArray × Value) := [(⟨#[114, 101, 103, 105, 115, 116, 101, 114]⟩, .int .i64 1), (⟨#[99, 97, 110, 99, 101, 108]⟩, .int .i64 3), (⟨#[111, 118, 101, 114, 114, 105, 100, 101]⟩, .int .i64 4)]
theorem TF_ok : TabOk 9 TF := by
  refine ⟨by decide, fun k v h => ?_, by decide⟩
  simp only [TF, List.mem_cons, List.mem_nil_iff, or_false, Prod.mk.injEq] at h
  rcases h with ⟨rfl, rfl⟩ | ⟨rfl, rfl⟩ | ⟨rfl, rfl⟩ | ⟨rfl, rfl⟩ | ⟨rfl, rfl⟩ | ⟨rfl, rfl⟩ | ⟨rfl, rfl⟩ | ⟨rfl, rfl⟩ | ⟨rfl, rfl⟩ | ⟨rfl, rfl⟩ | ⟨rfl, rfl⟩ <;> exact ⟨by unfold maxLen; decide, plainElem_string Tryz.underlying9 (by unfold maxLen; decide)⟩
theorem TK_ok : TabOk 3 TK := by
  refine ⟨by decide, fun k v h => ?_, by decide⟩
  simp only [TK, List.mem_cons, List.mem_nil_iff, or_false, Prod.mk.injEq] at h
  rcases h with ⟨rfl, rfl⟩ | ⟨rfl, rfl⟩ | ⟨rfl, rfl⟩ | ⟨rfl, rfl⟩ | ⟨rfl, rfl⟩ | ⟨rfl, rfl⟩ | ⟨rfl, rfl⟩ | ⟨rfl, rfl⟩ | ⟨rfl, rfl⟩ | ⟨rfl, rfl⟩ | ⟨rfl, rfl⟩ <;> exact ⟨by unfold maxLen; decide, plainElem_int Tryz.underlying3 (by decide)⟩
theorem TO_ok : TabOk 3 TO := by
  refine ⟨by decide, fun k v h => ?_, by decide⟩
  simp only [TO, List.mem_cons, List.mem_nil_iff, or_false, Prod.mk.injEq] at h
  rcases h with ⟨rfl, rfl⟩ | ⟨rfl, rfl⟩ | ⟨rfl, rfl⟩ <;> exact ⟨by unfold maxLen; decide, plainElem_int Tryz.underlying3 (by decide)⟩
/-- the letter of a form -/
def flet (f : UInt8) : UInt8 := if f = 97 then 65 else if f = 98 then 66 else if f = 116 then 119 else f
def frm (s : Sh) : ByteArray := ⟨(s.fs.data.toList.map flet).toArray⟩
theorem tab_in (s : Sh) (h : s ∈ shs) : (s.w, Value.string (frm s)) ∈ TF ∧ (s.w, Value.int .i64 s.k) ∈ TK ∧ ((s.w, Value.int .i64 s.op) ∈ TO ∨ (s.op = 0 ∧ ∀ u, (s.w, u) ∉ TO)) := by
  simp only [shs, List.mem_cons, List.mem_nil_iff, or_false] at h
  rcases h with rfl | rfl | rfl | rfl | rfl | rfl | rfl | rfl | rfl | rfl | rfl <;> refine ⟨by simp [TF, frm, flet], by simp [TK], by simp [TO]⟩
theorem tab_no (k : ByteArray) (h : ∀ s ∈ shs, s.w ≠ k) : ∀ u, (k, u) ∉ TF := fun u hu => by
  simp only [TF, List.mem_cons, List.mem_nil_iff, or_false, Prod.mk.injEq] at hu
  rcases hu with ⟨e, -⟩ | ⟨e, -⟩ | ⟨e, -⟩ | ⟨e, -⟩ | ⟨e, -⟩ | ⟨e, -⟩ | ⟨e, -⟩ | ⟨e, -⟩ | ⟨e, -⟩ | ⟨e, -⟩ | ⟨e, -⟩
  · exact h shs[0] (by simp [shs]) e.symm
  · exact h shs[1] (by simp [shs]) e.symm
  · exact h shs[2] (by simp [shs]) e.symm
  · exact h shs[3] (by simp [shs]) e.symm
  · exact h shs[4] (by simp [shs]) e.symm
  · exact h shs[5] (by simp [shs]) e.symm
  · exact h shs[6] (by simp [shs]) e.symm
  · exact h shs[7] (by simp [shs]) e.symm
  · exact h shs[8] (by simp [shs]) e.symm
  · exact h shs[9] (by simp [shs]) e.symm
  · exact h shs[10] (by simp [shs]) e.symm
theorem idx_off (i J off : Nat) (h : i + off ≠ J) : (i + off == J) = false := by simpa using h
theorem MpT.off {e : TypeId} {T : List (ByteArray × Value)} {d : Nat → Bool} {x : World} {b off J : Nat} (h : MpT e T (fun i => d (i + off)) x b) (hJ : ∀ i, i < T.length → i + off ≠ J) : MpT e T (fun i => d (i + off) || i + off == J) x b :=
  h.as fun i hi => by rw [idx_off i J off (hJ i hi), Bool.or_false]
theorem MpT.on {e : TypeId} {T : List (ByteArray × Value)} {d : Nat → Bool} {x : World} {b off J i : Nat} (h : MpT e T (fun j => d (j + off) || j == i) x b) (hJ : J = i + off) : MpT e T (fun j => d (j + off) || j + off == J) x b :=
  h.as fun j hj => by
    have : (j == i) = (j + off == J) := by rw [Bool.eq_iff_iff]; simp; omega
    rw [this]
/-- what holds while they are laid -/
structure RI (W : World) (VS PA : Value) (X0 : ByteArray) (kd op : Int) (d : Nat → Bool) (x : World) (u37 u38 u39 u40 u41 u42 u43 u44 u45 u46 u47 u48 u49 u8 : Value) : Prop where
  bl : Below W.heap.size W x
  m1 : d 0 = true → ∃ b, u37 = .map (some b) ∧ W.heap.size ≤ b ∧ MpT 3 TK (fun i => d (i + 1)) x b
  m2 : d 17 = true → ∃ b, u43 = .map (some b) ∧ W.heap.size ≤ b ∧ MpT 3 TO (fun i => d (i + 18)) x b
  ne : d 0 = true → d 17 = true → ∀ b b', u37 = .map (some b) → u43 = .map (some b') → b ≠ b'
  k1 : ∀ i, i < 11 → d (i + 1) = true → d 0 = true
  k2 : ∀ i, i < 3 → d (i + 18) = true → d 17 = true
  k3 : d 28 = true → d 27 = true
  c12 : d 12 = true → d 0 = true ∧ ∀ i, i < 11 → d (i + 1) = true
  c21 : d 21 = true → d 17 = true ∧ ∀ i, i < 3 → d (i + 18) = true
  s12 : d 12 = true → u38 = u37
  s13 : d 13 = true → u39 = VS
  s14 : d 14 = true → u40 = PA
  s15 : d 15 = true → u41 = .string X0
  s16 : d 16 = true → u42 = .int .i64 kd
  s21 : d 21 = true → u44 = u43
  s22 : d 22 = true → u45 = VS
  s23 : d 23 = true → u46 = PA
  s24 : d 24 = true → u47 = .string X0
  s25 : d 25 = true → u48 = .int .i64 op
  s26 : d 26 = true → u49 = .agg #[.int .i64 kd, .int .i64 0, .int .i64 0, .int .i64 op, .int .i64 0, .int .i64 0, .string ⟨#[]⟩]
  p8 : d 27 = true → ∃ b : Nat, u8 = .pointer (some ⟨b, 0, none⟩) ∧ W.heap.size ≤ b ∧ (d 28 = false → x.heap[b]? = some (.cells #[.int .i64 0, .int .i64 0, .int .i64 0, .int .i64 0, .int .i64 0, .int .i64 0, .string ⟨#[]⟩] 29 (0, 0))) ∧ (d 28 = true → x.heap[b]? = some (.cells #[.int .i64 kd, .int .i64 0, .int .i64 0, .int .i64 op, .int .i64 0, .int .i64 0, .string ⟨#[]⟩] 29 (0, 0)))
theorem insC {b : Nat} {x x' : World} {e : TypeId} {T : List (ByteArray × Value)} {dn : Nat → Bool} {q : Nat} {cs : Array Value} {U : TypeId} (hg : x.grownBy x' (some b)) (hm : MpT e T dn x b) (h : x.heap[q]? = some (.cells cs U (0, 0))) : x'.heap[q]? = some (.cells cs U (0, 0)) :=
  (hg.block q (blk_lt h) (by simpa using hm.ne h)).trans h
theorem insM {b q : Nat} {x x' : World} {e : TypeId} {T : List (ByteArray × Value)} {dn : Nat → Bool} (hg : x.grownBy x' (some b)) (hm : MpT e T dn x q) (h : q ≠ b) : MpT e T dn x' q :=
  hm.kept (hg.block q hm.lt (by simpa using h))
theorem heap_fill7 {w : World} {b g : Nat} {v0 v1 v2 v3 v4 v5 v6 : Value} (hn : g ≠ b) : (((((((w.setCell ⟨b, 0, none⟩ v0).setCell ⟨b, 1, none⟩ v1).setCell ⟨b, 2, none⟩ v2).setCell ⟨b, 3, none⟩ v3).setCell ⟨b, 4, none⟩ v4).setCell ⟨b, 5, none⟩ v5).setCell ⟨b, 6, none⟩ v6).heap[g]? = w.heap[g]? := by
  have e : ∀ (y : World) (k : Nat) (v : Value), (y.setCell ⟨b, k, none⟩ v).heap[g]? = y.heap[g]? := fun y k v => Below.heap_setCell _ _ _ _ hn
  rw [e, e, e, e, e, e, e]
theorem look_K {s : Sh} (hs : s ∈ shs) {X0 : ByteArray} (hX : s.w = X0) (hz : X0.size ≤ maxLen) {dn : Nat → Bool} {x : World} {b : Nat} (hm : MpT 3 TK dn x b) (hall : ∀ i, i < 11 → dn i = true) : (Instr.lookup 82 (.map (some b)) (.string X0) false).run Tryz.prog x = .ok (.int .i64 s.k) x := by
  obtain ⟨v, hv, h1, -⟩ := hm.look Tryz.underlying82 TK_ok hall X0 hz (z := .int .i64 0) (fun y => by kernel_rfl) (plainElem_int Tryz.underlying3 (by decide)) inv_int
  have hin := (tab_in s hs).2.1
  rw [hX] at hin
  obtain rfl : v = .int .i64 s.k := by
    rcases hv with h | h
    · exact tab_one TK_ok.nd h hin
    · exact absurd hin (h.1 _)
  exact h1
theorem look_O {s : Sh} (hs : s ∈ shs) {X0 : ByteArray} (hX : s.w = X0) (hz : X0.size ≤ maxLen) {dn : Nat → Bool} {x : World} {b : Nat} (hm : MpT 3 TO dn x b) (hall : ∀ i, i < 3 → dn i = true) : (Instr.lookup 82 (.map (some b)) (.string X0) false).run Tryz.prog x = .ok (.int .i64 s.op) x := by
  obtain ⟨v, hv, h1, -⟩ := hm.look Tryz.underlying82 TO_ok hall X0 hz (z := .int .i64 0) (fun y => by kernel_rfl) (plainElem_int Tryz.underlying3 (by decide)) inv_int
  have hin := (tab_in s hs).2.2
  rw [hX] at hin
  obtain rfl : v = .int .i64 s.op := by
    rcases hv with h | h
    · rcases hin with k | k
      · exact tab_one TO_ok.nd h k
      · exact absurd h (k.2 _)
    · rcases hin with k | k
      · exact absurd k (h.1 _)
      · rw [h.2, k.1]
  exact h1
theorem al_below (x : World) (o : Obj) : Below x.heap.size x (x.alloc o) := (Below.refl _ _).alloc (Nat.le_refl _) _
theorem op_insert {t e : TypeId} {Q : Exit → Act → World → Prop} {K : Act → World → Prop} {o : Oper} {a : Act} {x : World} (m k v : Operand) (hop : o.op = Op.insert t m k v) (ht : Tryz.prog.underlying t = some (.map 9 e)) {T : List (ByteArray × Value)} (hT : TabOk e T) {dn : Nat → Bool} {b : Nat} (hm : a.eval m = .map (some b)) (h : MpT e T dn x b) (i : Nat) (kk : ByteArray) (vv : Value) (hi : T[i]? = some (kk, vv)) (hd : dn i = false) (hk : a.eval k = .string kk) (hv : a.eval v = vv)
    (hK : ∀ x', MpT e T (fun j => dn j || j == i) x' b → x.grownBy x' (some b) → K (a.put o.dst undef) x') : o.wp Tryz.prog a x K Q := by
  obtain ⟨x', r1, r2, r3⟩ := h.put ht hT i kk vv hi hd
  unfold Oper.wp
  simp [execOp, hop, hm, hk, hv, r1, Result.andThen]
  exact hK x' r2 r3
theorem wpList_insert {t e : TypeId} {ops : Array Oper} {rest : List Oper} {Q : Exit → Act → World → Prop} {o : Oper} {a : Act} {w0 x : World} {B : Nat} (hg : o.guard = none) (m k v : Operand) (hop : o.op = Op.insert t m k v) (ht : Tryz.prog.underlying t = some (.map 9 e)) {T : List (ByteArray × Value)} (hT : TabOk e T) {i : Nat} {b : Nat} (hm : a.eval m = .map (some b)) (h : MpT e T (fun j => decide (j < i)) x b) (hB : B ≤ b) (hbl : Below B w0 x) (kk : ByteArray) (vv : Value) (hi : T[i]? = some (kk, vv)) (hk : a.eval k = .string kk) (hv : a.eval v = vv)
    (hK : ∀ x', MpT e T (fun j => decide (j < i + 1)) x' b → Below B w0 x' → wpList Tryz.prog ops Q rest (a.put o.dst undef) x') : wpList Tryz.prog ops Q (o :: rest) a x := by
  refine wpList_plain hg fun K' hK' => ?_
  refine op_insert m k v hop ht hT hm h i kk vv hi (by simp) hk hv fun x' h1 h2 => hK' _ _ (hK x' ?_ (hbl.grown h2 (by have := hbl.size; have := h.lt; omega) (fun q hq => by cases hq; exact hB)))
  exact h1.as fun j hj => by
    rw [Bool.eq_iff_iff]
    simp
    omega
end Go.Proofs.YtcgembfdejjliaaGreatDoor
