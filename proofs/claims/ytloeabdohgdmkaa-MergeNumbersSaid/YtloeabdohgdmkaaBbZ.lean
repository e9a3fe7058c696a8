/- Several texts as one: Bytes, Ints, Rim, RowGen, Cards, CardRow, RawCards, CardSl. -/
import Derived.Test.YtloeabdohgdmkaaBaZ
import Derived.Laws.AppendOwn
import Derived.Maps.AppendAt
import Derived.Laws.OwnMore
import Derived.Laws.MakeOwn
import Derived.Laws.BytesArg
import Derived.Lib.AppendStr
import Derived.Lib.EndianBits
import Derived.ChangeAlike
import Derived.Lib.SliceRun
import Derived.Lib.MinMax
/- Rows of bytes: what lies behind a slice of bytes. -/
namespace Go.Proofs.Ytloeabdohgdmkaa
open Go.RowKit
set_option linter.unusedVariables false

theorem str_inj {a b : ByteArray} (h : a.toList = b.toList) : a = b := by
  rw [ByteArray.toList_eq, ByteArray.toList_eq] at h
  cases a; cases b
  exact congrArg ByteArray.mk (Array.toList_inj.1 h)

theorem info_parts {t : TypeId} {z : Value} {s b : Nat} (h : (Try.prog.info? t).map (fun i => (i.zero, i.size, i.bytes)) = some (some z, s, b)) : ∃ i, Try.prog.info? t = some i ∧ i.zero = some z ∧ i.size = s ∧ i.bytes = b := by
  cases e : Try.prog.info? t with
  | none => rw [e] at h; cases h
  | some i =>
    rw [e] at h
    simp only [Option.map_some, Option.some.injEq, Prod.mk.injEq] at h
    exact ⟨i, rfl, h.1, h.2.1, h.2.2⟩
theorem ownsRow_ext {w w' : World} {base size n : Nat} {e : TypeId} {v : Value} {xs : List Value} (h : w.ownsRow base e size v n xs) (hb : Below w.heap.size w w') : w'.ownsRow base e size v n xs := by
  obtain ⟨h1, h2⟩ := h
  refine ⟨h1, ?_⟩
  rcases h2 with h2 | ⟨g, cap, cur, hv, hg, hh, r⟩
  · exact .inl h2
  · exact .inr ⟨g, cap, cur, hv, hg, ext_block hb hh, r⟩
theorem own_ne {w : World} {base size n : Nat} {e e' : TypeId} {v : Value} {xs : List Value} (h : w.ownsRow base e size v n xs) {b : Nat} {cur : Array Value} (hb : w.heap[b]? = some (.cells cur e' (0, 0))) (he : e' ≠ e) : some b ≠ v.ownBlock := by
  obtain ⟨_, h2⟩ := h
  rcases h2 with ⟨rfl, _⟩ | ⟨g, cap, cur', rfl, hg, hh, _⟩
  · simp [Value.ownBlock]
  · simp only [Value.ownBlock, ne_eq, Option.some.injEq]
    intro e1
    subst e1
    rw [hb] at hh
    simp at hh
    exact he hh.2
theorem ownsRow_base {w : World} {base base' size n : Nat} {e : TypeId} {v : Value} {xs : List Value} (h : w.ownsRow base e size v n xs) (hb : base' ≤ base) : w.ownsRow base' e size v n xs := by
  obtain ⟨h1, h2⟩ := h
  refine ⟨h1, ?_⟩
  rcases h2 with h2 | ⟨g, cap, cur, hv, hg, r⟩
  · exact .inl h2
  · exact .inr ⟨g, cap, cur, hv, by omega, r⟩
theorem Kept.trans {b : Nat} {u v w : World} (h : Kept b u v) (k : Kept b v w) : Kept b u w :=
  ⟨k.os.trans h.os, k.tape.trans h.tape, k.output.trans h.output, k.size.trans h.size, fun i hi => (k.block i hi).trans (h.block i hi)⟩

/-- numbers as cells of bytes -/
def bc (xs : List Int) : List Value := xs.map (Value.int .u8)
/-- each is a byte -/
def Wb (xs : List Int) : Prop := ∀ n ∈ xs, 0 ≤ n ∧ n < 256
theorem Wb.nil : Wb [] := by intro n h; cases h
theorem Wb.app {xs ys : List Int} (h : Wb xs) (k : Wb ys) : Wb (xs ++ ys) := fun n hn => (List.mem_append.1 hn).elim (h n) (k n)
theorem Wb.drop {xs : List Int} (h : Wb xs) (k : Nat) : Wb (xs.drop k) := fun n hn => h n (List.mem_of_mem_drop hn)
theorem Wb.take {xs : List Int} (h : Wb xs) (k : Nat) : Wb (xs.take k) := fun n hn => h n (List.mem_of_mem_take hn)
theorem Wb.one {n : Int} (h0 : 0 ≤ n) (h1 : n < 256) : Wb [n] := by intro m hm; simp at hm; subst hm; exact ⟨h0, h1⟩
/-- a text's bytes -/
def sb (s : ByteArray) : List Int := s.data.toList.map fun b => (b.toNat : Int)
/-- behind the address a the bytes xs lie -/
def BAt (w : World) (a : Option Addr) (xs : List Int) : Prop := xs = [] ∨ ∃ b o, a = some ⟨b, o, none⟩ ∧ ∀ i n, xs[i]? = some n → w.cell? ⟨b, o + i, none⟩ = some (.int .u8 n)
theorem BAt.nil (w : World) (a : Option Addr) : BAt w a [] := .inl rfl
theorem BAt.keep {w w' : World} {a : Option Addr} {xs : List Int} (h : BAt w a xs) (hk : ∀ b o, a = some ⟨b, o, none⟩ → ∀ p v, w.cell? ⟨b, p, none⟩ = some v → w'.cell? ⟨b, p, none⟩ = some v) : BAt w' a xs := by
  rcases h with h | ⟨b, o, e, h⟩
  · exact .inl h
  · exact .inr ⟨b, o, e, fun i n hi => hk b o e _ _ (h i n hi)⟩
theorem BAt.ext {w w' : World} {a : Option Addr} {xs : List Int} (h : BAt w a xs) (hb : Below w.heap.size w w') : BAt w' a xs := h.keep fun _ _ _ _ _ hc => ext_cell hb hc
theorem BAt.drop {w : World} {b o : Nat} {xs : List Int} (k : Nat) (h : BAt w (some ⟨b, o, none⟩) xs) : BAt w (some ⟨b, o + k, none⟩) (xs.drop k) := by
  rcases h with h | ⟨b', o', e, h⟩
  · left; simp [h]
  · simp at e
    obtain ⟨rfl, rfl⟩ := e
    refine .inr ⟨_, _, rfl, fun i x hi => ?_⟩
    have h1 := h (k + i) x (by simpa using hi)
    rw [show o + k + i = o + (k + i) from by omega]
    exact h1
theorem BAt.take {w : World} {a : Option Addr} {xs : List Int} (k : Nat) (h : BAt w a xs) : BAt w a (xs.take k) := by
  rcases h with h | ⟨b, o, e, h⟩
  · left; simp [h]
  · refine .inr ⟨b, o, e, fun i x hi => h i x ?_⟩
    rcases Nat.lt_or_ge i k with hlt | hge
    · rwa [List.getElem?_take_of_lt hlt] at hi
    · rw [List.getElem?_eq_none (by simp; omega)] at hi; cases hi
theorem BAt.cells {w : World} {b o : Nat} {xs : List Int} (h : BAt w (some ⟨b, o, none⟩) xs) (j : Nat) (u : Value) (hj : (bc xs)[j]? = some u) : w.cell? ((⟨b, o, none⟩ : Addr).add j) = some u := by
  have e0 : (⟨b, o, none⟩ : Addr).add j = ⟨b, o + j, none⟩ := by
    by_cases h0 : j = 0
    · subst h0; simp [Addr.add]
    · simp [Addr.add, h0]
  rw [e0]
  simp only [bc, List.getElem?_map, Option.map_eq_some_iff] at hj
  obtain ⟨n, hn, rfl⟩ := hj
  rcases h with h | ⟨b', o', e, h⟩
  · subst h; simp at hn
  · simp at e
    obtain ⟨rfl, rfl⟩ := e
    exact h j n hn

section
variable {P : Program} (w : World)
end

end Go.Proofs.Ytloeabdohgdmkaa

/- Rows of numbers that came in, put behind rows of the call's own. -/
namespace Go.Proofs.Ytloeabdohgdmkaa
open Go.RowKit
set_option linter.unusedVariables false

section
variable {P : Program} (w : World)
end

end Go.Proofs.Ytloeabdohgdmkaa

/- Worlds that differ in one block, and own rows that outlive them. -/
namespace Go.Proofs.Ytloeabdohgdmkaa
open Go.RowKit
set_option linter.unusedVariables false

structure Rim (b : Nat) (w w' : World) : Prop where
  os : w'.os = w.os
  tape : w'.tape = w.tape
  output : w'.output = w.output
  size : w.heap.size ≤ w'.heap.size
  block : ∀ k, k ≠ b → k < w.heap.size → w'.heap[k]? = w.heap[k]?
theorem Rim.of {b : Nat} {w w' : World} (h : Below w.heap.size w w') : Rim b w w' := ⟨h.os, h.tape, h.output, h.size, fun k _ hl => h.block k hl⟩
theorem Rim.kept {b : Nat} {w w' : World} (h : Kept b w w') : Rim b w w' := ⟨h.os, h.tape, h.output, Nat.le_of_eq h.size.symm, fun k hk _ => h.block k hk⟩
theorem Rim.trans {b : Nat} {u v w : World} (h : Rim b u v) (k : Rim b v w) : Rim b u w :=
  ⟨k.os.trans h.os, k.tape.trans h.tape, k.output.trans h.output, Nat.le_trans h.size k.size, fun i hi hl => (k.block i hi (Nat.lt_of_lt_of_le hl h.size)).trans (h.block i hi hl)⟩
theorem Rim.below {b n : Nat} {w w' : World} (h : Rim b w w') (hn : n ≤ b) (hz : n ≤ w.heap.size) : Below n w w' := ⟨h.os, h.tape, h.output, h.size, fun k hk => h.block k (by omega) (by omega)⟩

theorem own_blocks {w w' : World} {base size n : Nat} {e : TypeId} {v : Value} {vs : List Value} (h : w.ownsRow base e size v n vs) (hk : ∀ (b : Nat) (cur : Array Value), w.heap[b]? = some (.cells cur e (0, 0)) → w'.heap[b]? = w.heap[b]?) : w'.ownsRow base e size v n vs := by
  obtain ⟨h1, h2⟩ := h
  refine ⟨h1, ?_⟩
  rcases h2 with h2 | ⟨g, cap', cur, hv, hg, hh, r⟩
  · exact .inl h2
  · exact .inr ⟨g, cap', cur, hv, hg, (hk g cur hh).trans hh, r⟩
end Go.Proofs.Ytloeabdohgdmkaa

/- Rows of structs, whatever their cells. -/
namespace Go.Proofs.Ytloeabdohgdmkaa
open Go.RowKit
set_option linter.unusedVariables false

section
variable {α : Type} {enc : α → List Value} {k : Nat} {T : TypeId}

/-- the cells of a row -/
def flat (enc : α → List Value) (ls : List α) : List Value := ls.flatMap enc
theorem flat_nil : flat enc ([] : List α) = [] := rfl
theorem flat_cons (x : α) (ls : List α) : flat enc (x :: ls) = enc x ++ flat enc ls := by simp [flat]
theorem flat_app (xs ys : List α) : flat enc (xs ++ ys) = flat enc xs ++ flat enc ys := by simp [flat]
theorem flat_snoc (xs : List α) (x : α) : flat enc (xs ++ [x]) = flat enc xs ++ enc x := by simp [flat]
theorem flat_len (hk : ∀ x, (enc x).length = k) (ls : List α) : (flat enc ls).length = ls.length * k := by
  induction ls with
  | nil => simp [flat]
  | cons x xs ih => rw [flat_cons, List.length_append, ih, hk, List.length_cons, Nat.succ_mul]; omega
theorem flat_take (hk : ∀ x, (enc x).length = k) (ls : List α) (i : Nat) : (flat enc ls).take (i * k) = flat enc (ls.take i) := by
  induction ls generalizing i with
  | nil => simp [flat]
  | cons x xs ih =>
    cases i with
    | zero => simp [flat]
    | succ i =>
      rw [flat_cons, List.take_succ_cons, flat_cons, ← ih i, Nat.succ_mul, List.take_append, hk, List.take_of_length_le (by rw [hk]; omega)]
      congr 2
      omega
theorem flat_drop (hk : ∀ x, (enc x).length = k) (ls : List α) (i : Nat) : (flat enc ls).drop (i * k) = flat enc (ls.drop i) := by
  induction ls generalizing i with
  | nil => simp [flat]
  | cons x xs ih =>
    cases i with
    | zero => simp [flat]
    | succ i =>
      rw [flat_cons, List.drop_succ_cons, ← ih i, Nat.succ_mul, List.drop_append, hk, List.drop_of_length_le (by rw [hk]; omega), List.nil_append]
      congr 1
      omega
theorem flat_at (hk : ∀ x, (enc x).length = k) (ls : List α) (i : Nat) (x : α) (hi : ls[i]? = some x) (q : Nat) (hq : q < k) : (flat enc ls)[i * k + q]? = (enc x)[q]? := by
  have h := flat_drop hk ls i
  have hd : ls.drop i = x :: ls.drop (i + 1) := by
    have hlt : i < ls.length := by
      rcases Nat.lt_or_ge i ls.length with h | h
      · exact h
      · rw [List.getElem?_eq_none h] at hi; cases hi
    rw [List.drop_eq_getElem_cons hlt]
    rw [List.getElem?_eq_getElem hlt] at hi
    cases hi
    rfl
  rw [hd, flat_cons] at h
  rw [← List.getElem?_drop, h, List.getElem?_append_left (by rw [hk]; exact hq)]
theorem flat_one (h1 : ∀ x, ∀ u ∈ enc x, u.oneCell' = true) (ls : List α) : ∀ u ∈ flat enc ls, u.oneCell' = true := by
  intro u hu
  simp only [flat, List.mem_flatMap] at hu
  obtain ⟨x, _, h⟩ := hu
  exact h1 x u h
theorem flat_set (hk : ∀ x, (enc x).length = k) (ls : List α) (i : Nat) (y : α) (hi : i < ls.length) : flat enc (ls.set i y) = (flat enc ls).take (i * k) ++ enc y ++ (flat enc ls).drop ((i + 1) * k) := by
  rw [flat_take hk, flat_drop hk, List.set_eq_take_append_cons_drop, if_pos hi, flat_app, flat_cons, List.append_assoc]

/-- a row in blocks of its own -/
def OwnR (enc : α → List Value) (k : Nat) (T : TypeId) (base : Nat) (w : World) (v : Value) (ls : List α) : Prop := w.ownsRow base T k v ls.length (flat enc ls)
theorem OwnR.form {base : Nat} {w : World} {v : Value} {ls : List α} (h : OwnR enc k T base w v ls) : ∃ a c, v = .slice a ls.length c ∧ ls.length ≤ c ∧ c ≤ maxLen ∧ ((a = none ∧ c = 0 ∧ ls = []) ∨ ∃ g, a = some ⟨g, 0, none⟩ ∧ base ≤ g ∧ g < w.heap.size) := by
  rcases h.2 with ⟨rfl, h0⟩ | ⟨g, cap, cur, rfl, hg, hh, hnc, hcm, hcs, ht⟩
  · exact ⟨none, 0, by rw [h0], by omega, by simp [maxLen], .inl ⟨rfl, rfl, List.eq_nil_of_length_eq_zero h0⟩⟩
  · exact ⟨_, _, rfl, hnc, hcm, .inr ⟨g, rfl, hg, blk_lt hh⟩⟩
theorem OwnR.addr {base n c : Nat} {a : Option Addr} {w : World} {ls : List α} (h : OwnR enc k T base w (.slice a n c) ls) (hl : ls.length = n) (hn : 0 < n) : ∃ g, a = some ⟨g, 0, none⟩ ∧ base ≤ g ∧ g < w.heap.size ∧ n ≤ c ∧ c ≤ maxLen := by
  obtain ⟨a', c', e, h1, h2, h3⟩ := h.form
  simp only [Value.slice.injEq] at e
  obtain ⟨rfl, rfl, rfl⟩ := e
  rcases h3 with ⟨-, -, e⟩ | ⟨g, e, h4, h5⟩
  · rw [e] at hn; simp at hn
  · exact ⟨g, e, h4, h5, h1, h2⟩
theorem own_rd (hk : ∀ x, (enc x).length = k) {base : Nat} {w : World} {g n c : Nat} {ls : List α} (h : OwnR enc k T base w (.slice (some ⟨g, 0, none⟩) n c) ls) {q : Nat} {u : Value} (hq : (flat enc ls)[q]? = some u) : w.cell? ⟨g, q, none⟩ = some u := by
  rcases h.2 with ⟨e, _⟩ | ⟨g', cap, cur, e, hg, hh, hnc, hcm, hcs, ht⟩
  · cases e
  · simp only [Value.slice.injEq, Option.some.injEq, Addr.mk.injEq] at e
    obtain ⟨⟨rfl, -⟩, rfl, rfl⟩ := e
    rw [← ht] at hq
    have hq1 : q < ls.length * k := by
      rcases Nat.lt_or_ge q (ls.length * k) with h | h
      · exact h
      · rw [List.getElem?_eq_none (by simp; omega)] at hq; cases hq
    rw [List.getElem?_take_of_lt hq1] at hq
    simp only [World.cell?, hh]
    simpa using hq
theorem OwnR.at (hk : ∀ x, (enc x).length = k) {base : Nat} {w : World} {g n c i : Nat} {ls : List α} {x : α} (h : OwnR enc k T base w (.slice (some ⟨g, 0, none⟩) n c) ls) (hi : ls[i]? = some x) (q : Nat) (u : Value) (hq : (enc x)[q]? = some u) : w.cell? ⟨g, i * k + q, none⟩ = some u := by
  refine own_rd hk h ?_
  rw [flat_at hk ls i x hi q ?_]
  · exact hq
  · rcases Nat.lt_or_ge q k with h' | h'
    · exact h'
    · rw [List.getElem?_eq_none (by rw [hk]; exact h')] at hq; cases hq
theorem OwnR.ext {base : Nat} {w w' : World} {v : Value} {ls : List α} (h : OwnR enc k T base w v ls) (hb : Below w.heap.size w w') : OwnR enc k T base w' v ls := ownsRow_ext h hb
theorem OwnR.base {base base' : Nat} {w : World} {v : Value} {ls : List α} (h : OwnR enc k T base w v ls) (hb : base' ≤ base) : OwnR enc k T base' w v ls := ownsRow_base h hb
theorem OwnR.nil (base : Nat) (w : World) : OwnR enc k T base w (.slice none 0 0) [] := by
  refine ⟨by simp [flat], .inl ⟨rfl, rfl⟩⟩
theorem OwnR.made (base : Nat) (w : World) (h : base ≤ w.heap.size) : OwnR enc k T base (w.alloc (.cells #[] T)) (.slice (some ⟨w.heap.size, 0, none⟩) 0 0) [] := by
  have := World.ownsRow_made (size := k) (e := T) w #[] 0 h (by unfold maxLen; omega) (by simp)
  simpa [OwnR, flat] using this
theorem OwnR.take (hk : ∀ x, (enc x).length = k) {base : Nat} {w : World} {g n c i : Nat} {ls : List α} (h : OwnR enc k T base w (.slice (some ⟨g, 0, none⟩) n c) ls) (hi : i ≤ ls.length) : OwnR enc k T base w (.slice (some ⟨g, 0, none⟩) i c) (ls.take i) := by
  rcases h.2 with ⟨e, _⟩ | ⟨g', cap, cur, e, hg, hh, hnc, hcm, hcs, ht⟩
  · cases e
  · simp only [Value.slice.injEq, Option.some.injEq, Addr.mk.injEq] at e
    obtain ⟨⟨rfl, -⟩, rfl, rfl⟩ := e
    have hl : (ls.take i).length = i := by rw [List.length_take]; omega
    refine ⟨flat_len hk _, .inr ⟨_, _, cur, by rw [hl], hg, hh, by omega, hcm, hcs, ?_⟩⟩
    rw [hl, ← flat_take hk, ← ht, List.take_take]
    congr 1
    exact (Nat.min_eq_left (Nat.mul_le_mul_right k hi)).symm
theorem add_off (g q j : Nat) : (⟨g, q, none⟩ : Addr).add j = ⟨g, q + j, none⟩ := by
  by_cases h0 : j = 0
  · subst h0; simp [Addr.add]
  · simp [Addr.add, h0]
end

end Go.Proofs.Ytloeabdohgdmkaa

/- Cards and entries as values. -/
namespace Go.Proofs.Ytloeabdohgdmkaa
open Go.RowKit
set_option linter.unusedVariables false

structure Cd where
  a : ByteArray
  i : ByteArray
  s : Int
  o : Int
  l : Int
  t : Int
  k : Int
  n : Int
  g : Bool
@[reducible] def Cd.v (c : Cd) : Value := .agg #[.string c.a, .string c.i, .int .i64 c.s, .int .i64 c.o, .int .i64 c.l, .int .i64 c.t, .int .i64 c.k, .int .i64 c.n, .bool c.g]
structure En where
  c : Cd
  seen : Int
@[reducible] def En.v (e : En) : Value := .agg #[.string e.c.a, .string e.c.i, .int .i64 e.c.s, .int .i64 e.c.o, .int .i64 e.c.l, .int .i64 e.c.t, .int .i64 e.c.k, .int .i64 e.c.n, .bool e.c.g, .int .i64 e.seen]
@[reducible] def Cd.zero : Cd := ⟨⟨#[]⟩, ⟨#[]⟩, 0, 0, 0, 0, 0, 0, false⟩
@[reducible] def En.zero : En := ⟨Cd.zero, 0⟩
@[reducible] def stv (t k n : Int) : Value := .agg #[.int .i64 t, .int .i64 k, .int .i64 n]

end Go.Proofs.Ytloeabdohgdmkaa

/- Rows of cards. -/
namespace Go.Proofs.Ytloeabdohgdmkaa
open Go.RowKit
set_option linter.unusedVariables false

/-- a card's cells -/
def cc (c : Cd) : List Value := [.string c.a, .string c.i, .int .i64 c.s, .int .i64 c.o, .int .i64 c.l, .int .i64 c.t, .int .i64 c.k, .int .i64 c.n, .bool c.g]
theorem cc_len (c : Cd) : (cc c).length = 9 := rfl
theorem cc_one (c : Cd) : ∀ u ∈ cc c, u.oneCell' = true := by
  intro u hu
  simp only [cc, List.mem_cons, List.not_mem_nil, or_false] at hu
  rcases hu with rfl | rfl | rfl | rfl | rfl | rfl | rfl | rfl | rfl <;> rfl
theorem info_card : (Try.prog.info? 34).map (fun i => (i.zero, i.size, i.bytes)) = some (some Cd.zero.v, 9, 88) := by kernel_rfl
abbrev OwnC (base : Nat) (w : World) (v : Value) (ls : List Cd) : Prop := OwnR cc 9 34 base w v ls
theorem info_parts' {t : TypeId} {z : Value} {s b : Nat} (h : (Try.prog.info? t).map (fun i => (i.zero, i.size, i.bytes)) = some (some z, s, b)) : ∃ i, Try.prog.info? t = some i ∧ i.zero = some z ∧ i.size = s ∧ i.bytes = b := by
  cases e : Try.prog.info? t with
  | none => rw [e] at h; cases h
  | some i =>
    rw [e] at h
    simp only [Option.map_some, Option.some.injEq, Prod.mk.injEq] at h
    exact ⟨i, rfl, h.1, h.2.1, h.2.2⟩

/-- behind the address a the cards cs lie -/
def CAt (w : World) (a : Option Addr) (cs : List Cd) : Prop := cs = [] ∨ ∃ b o, a = some ⟨b, o, none⟩ ∧ (∃ cur, w.heap[b]? = some (.cells cur 34 (0, 0))) ∧ ∀ q u, (flat cc cs)[q]? = some u → w.cell? ⟨b, o + q, none⟩ = some u
theorem CAt.nil (w : World) (a : Option Addr) : CAt w a [] := .inl rfl
theorem CAt.keep {w w' : World} {a : Option Addr} {cs : List Cd} (h : CAt w a cs) (hk : ∀ (b : Nat) (cur : Array Value), w.heap[b]? = some (.cells cur 34 (0, 0)) → (∃ o, a = some ⟨b, o, none⟩) → w'.heap[b]? = w.heap[b]?) : CAt w' a cs := by
  rcases h with h | ⟨b, o, e, ⟨cur, hb⟩, h⟩
  · exact .inl h
  · have e1 := hk b cur hb ⟨o, e⟩
    exact .inr ⟨b, o, e, ⟨cur, e1.trans hb⟩, fun q u hq => (World.cell?_of_block (w := w) e1).trans (h q u hq)⟩
theorem CAt.ext {w w' : World} {a : Option Addr} {cs : List Cd} (h : CAt w a cs) (hb : Below w.heap.size w w') : CAt w' a cs :=
  h.keep fun b cur hc _ => hb.block b (blk_lt hc)
theorem CAt.drop {w : World} {b o : Nat} {cs : List Cd} (k : Nat) (h : CAt w (some ⟨b, o, none⟩) cs) : CAt w (some ⟨b, o + k * 9, none⟩) (cs.drop k) := by
  rcases h with h | ⟨b', o', e, hb, h⟩
  · left; simp [h]
  · simp at e
    obtain ⟨rfl, rfl⟩ := e
    refine .inr ⟨_, _, rfl, hb, fun q u hq => ?_⟩
    rw [← flat_drop cc_len, List.getElem?_drop] at hq
    rw [Nat.add_assoc]
    exact h _ _ hq
theorem CAt.take {w : World} {a : Option Addr} {cs : List Cd} (k : Nat) (h : CAt w a cs) : CAt w a (cs.take k) := by
  rcases h with h | ⟨b, o, e, hb, h⟩
  · left; simp [h]
  · refine .inr ⟨b, o, e, hb, fun q u hq => h q u ?_⟩
    rw [← flat_take cc_len] at hq
    rcases Nat.lt_or_ge q (k * 9) with h' | h'
    · rwa [List.getElem?_take_of_lt h'] at hq
    · rw [List.getElem?_eq_none (by simp; omega)] at hq; cases hq
theorem CAt.at {w : World} {b o i : Nat} {cs : List Cd} {x : Cd} (h : CAt w (some ⟨b, o, none⟩) cs) (hi : cs[i]? = some x) :
    w.cell? ⟨b, o + i * 9, none⟩ = some (.string x.a) ∧ w.cell? ⟨b, o + i * 9 + 1, none⟩ = some (.string x.i) ∧ w.cell? ⟨b, o + i * 9 + 2, none⟩ = some (.int .i64 x.s) ∧ w.cell? ⟨b, o + i * 9 + 3, none⟩ = some (.int .i64 x.o) ∧ w.cell? ⟨b, o + i * 9 + 4, none⟩ = some (.int .i64 x.l) ∧
    w.cell? ⟨b, o + i * 9 + 5, none⟩ = some (.int .i64 x.t) ∧ w.cell? ⟨b, o + i * 9 + 6, none⟩ = some (.int .i64 x.k) ∧ w.cell? ⟨b, o + i * 9 + 7, none⟩ = some (.int .i64 x.n) ∧ w.cell? ⟨b, o + i * 9 + 8, none⟩ = some (.bool x.g) := by
  rcases h with h | ⟨b', o', e, hb, h⟩
  · rw [h] at hi; simp at hi
  · simp at e
    obtain ⟨rfl, rfl⟩ := e
    have g : ∀ q u, q < 9 → (cc x)[q]? = some u → w.cell? ⟨b, o + (i * 9 + q), none⟩ = some u := fun q u hq hu => h _ _ ((flat_at cc_len cs i x hi q hq).trans hu)
    refine ⟨?_, ?_, ?_, ?_, ?_, ?_, ?_, ?_, ?_⟩
    · exact g 0 _ (by omega) rfl
    · have := g 1 _ (by omega) rfl; rwa [← Nat.add_assoc] at this
    · have := g 2 _ (by omega) rfl; rwa [← Nat.add_assoc] at this
    · have := g 3 _ (by omega) rfl; rwa [← Nat.add_assoc] at this
    · have := g 4 _ (by omega) rfl; rwa [← Nat.add_assoc] at this
    · have := g 5 _ (by omega) rfl; rwa [← Nat.add_assoc] at this
    · have := g 6 _ (by omega) rfl; rwa [← Nat.add_assoc] at this
    · have := g 7 _ (by omega) rfl; rwa [← Nat.add_assoc] at this
    · have := g 8 _ (by omega) rfl; rwa [← Nat.add_assoc] at this
/-- an own row, read -/
theorem OwnC.read {base : Nat} {w : World} {v : Value} {ls : List Cd} (h : OwnC base w v ls) : ∃ a c, v = .slice a ls.length c ∧ ls.length ≤ c ∧ c ≤ maxLen ∧ CAt w a ls ∧ (∀ b o, a = some ⟨b, o, none⟩ → base ≤ b ∧ b < w.heap.size ∧ o = 0) ∧ ((a = none ∧ c = 0 ∧ ls = []) ∨ ∃ g, a = some ⟨g, 0, none⟩) := by
  obtain ⟨a, c, rfl, h1, h2, h3⟩ := h.form
  rcases h3 with ⟨rfl, rfl, e⟩ | ⟨g, rfl, h4, h5⟩
  · exact ⟨none, 0, rfl, h1, h2, .inl e, fun b o e => (by cases e), .inl ⟨rfl, rfl, e⟩⟩
  · refine ⟨_, c, rfl, h1, h2, .inr ⟨g, 0, rfl, ?_, fun q u hq => by rw [Nat.zero_add]; exact own_rd cc_len h hq⟩, fun b o e => (by cases e; exact ⟨h4, h5, rfl⟩), .inr ⟨g, rfl⟩⟩
    rcases h.2 with ⟨e, _⟩ | ⟨g', cap, cur, e, hg, hh, _⟩
    · cases e
    · simp only [Value.slice.injEq, Option.some.injEq, Addr.mk.injEq] at e
      obtain ⟨⟨rfl, -⟩, -⟩ := e
      exact ⟨cur, hh⟩

end Go.Proofs.Ytloeabdohgdmkaa

/- Rows of cards wherever they lie. -/
namespace Go.Proofs.Ytloeabdohgdmkaa
open Go.RowKit
set_option linter.unusedVariables false

/-- behind the address a the cards cs lie, in memory of whatever kind -/
def RAt (w : World) (a : Option Addr) (cs : List Cd) : Prop := cs = [] ∨ ∃ b o, a = some ⟨b, o, none⟩ ∧ ∀ q u, (flat cc cs)[q]? = some u → w.cell? ⟨b, o + q, none⟩ = some u
theorem RAt.ext {w w' : World} {a : Option Addr} {cs : List Cd} (h : RAt w a cs) (hb : Below w.heap.size w w') : RAt w' a cs := by
  rcases h with h | ⟨b, o, e, h⟩
  · exact .inl h
  · exact .inr ⟨b, o, e, fun q u hq => ext_cell hb (h q u hq)⟩
theorem RAt.take {w : World} {a : Option Addr} {cs : List Cd} (k : Nat) (h : RAt w a cs) : RAt w a (cs.take k) := by
  rcases h with h | ⟨b, o, e, h⟩
  · left; simp [h]
  · refine .inr ⟨b, o, e, fun q u hq => h q u ?_⟩
    rw [← flat_take cc_len] at hq
    rcases Nat.lt_or_ge q (k * 9) with h' | h'
    · rwa [List.getElem?_take_of_lt h'] at hq
    · rw [List.getElem?_eq_none (by simp; omega)] at hq; cases hq
theorem RAt.at {w : World} {b o i : Nat} {cs : List Cd} {x : Cd} (h : RAt w (some ⟨b, o, none⟩) cs) (hi : cs[i]? = some x) :
    w.cell? ⟨b, o + i * 9, none⟩ = some (.string x.a) ∧ w.cell? ⟨b, o + i * 9 + 1, none⟩ = some (.string x.i) ∧ w.cell? ⟨b, o + i * 9 + 2, none⟩ = some (.int .i64 x.s) ∧ w.cell? ⟨b, o + i * 9 + 3, none⟩ = some (.int .i64 x.o) ∧ w.cell? ⟨b, o + i * 9 + 4, none⟩ = some (.int .i64 x.l) ∧
    w.cell? ⟨b, o + i * 9 + 5, none⟩ = some (.int .i64 x.t) ∧ w.cell? ⟨b, o + i * 9 + 6, none⟩ = some (.int .i64 x.k) ∧ w.cell? ⟨b, o + i * 9 + 7, none⟩ = some (.int .i64 x.n) ∧ w.cell? ⟨b, o + i * 9 + 8, none⟩ = some (.bool x.g) := by
  rcases h with h | ⟨b', o', e, h⟩
  · rw [h] at hi; simp at hi
  · simp at e
    obtain ⟨rfl, rfl⟩ := e
    have g : ∀ q u, q < 9 → (cc x)[q]? = some u → w.cell? ⟨b, o + i * 9 + q, none⟩ = some u := fun q u hq hu => by rw [Nat.add_assoc]; exact h _ _ ((flat_at cc_len cs i x hi q hq).trans hu)
    exact ⟨g 0 _ (by omega) rfl, g 1 _ (by omega) rfl, g 2 _ (by omega) rfl, g 3 _ (by omega) rfl, g 4 _ (by omega) rfl, g 5 _ (by omega) rfl, g 6 _ (by omega) rfl, g 7 _ (by omega) rfl, g 8 _ (by omega) rfl⟩
end Go.Proofs.Ytloeabdohgdmkaa

/- Rows of cards: read, copied. -/
namespace Go.Proofs.Ytloeabdohgdmkaa
open Go.RowKit
set_option linter.unusedVariables false

/-- a slice of cards that may be read -/
def SlC (w : World) (v : Value) (cs : List Cd) : Prop := ∃ a c, v = .slice a cs.length c ∧ cs.length ≤ c ∧ c ≤ maxLen ∧ CAt w a cs ∧ ((a = none ∧ c = 0) ∨ ∃ b o, a = some ⟨b, o, none⟩)
theorem SlC.ext {w w' : World} {v : Value} {cs : List Cd} (h : SlC w v cs) (hb : Below w.heap.size w w') : SlC w' v cs := by
  obtain ⟨a, c, h1, h2, h3, h4, h5⟩ := h
  exact ⟨a, c, h1, h2, h3, h4.ext hb, h5⟩
set_option maxRecDepth 100000 in
set_option maxHeartbeats 1000000 in
theorem cloneC (a : Option Addr) (n c : Nat) (ls : List Cd) (w : World) (h : CAt w a ls) (hl : ls.length = n) (hn : n ≤ 1000) (hf : (a = none ∧ c = 0) ∨ ∃ b o, a = some ⟨b, o, none⟩) :
    Calls Try.prog 51 #[.slice a n c] w fun e w' => ∃ v', e = .returned v' ∧ OwnC w.heap.size w' v' ls ∧ Below w.heap.size w w' := by
  obtain ⟨i0, hi, hz0, hz1, hz2⟩ := info_parts' info_card
  rcases hf with ⟨rfl, rfl⟩ | ⟨b, o, rfl⟩
  · have h0 : ls = [] := by
      rcases h with h | ⟨b, o, e, _⟩
      · exact h
      · cases e
    subst h0
    have hn0 : n = 0 := by simpa using hl.symm
    subst hn0
    have hq := (fun w : World => Lib.run_eql_slice_nil (P := Try.prog) w 28 34 none 0 0 0 0 Try.underlying28)
    clear h hl
    go_enter Try.func51, Try.ntmps51
    go_wp2
    go_ret
    exact ⟨_, rfl, OwnR.nil _ _, Below.refl _ _⟩
  · have HN := Lib.hid hl
    have hq := (fun w : World => Lib.run_eql_slice_nil (P := Try.prog) w 28 34 (some ⟨b, o, none⟩) n c 0 0 Try.underlying28)
    have O0 := (OwnR.made (enc := cc) (k := 9) (T := 34) w.heap.size w (Nat.le_refl _))
    have B0 : Below w.heap.size w (w.alloc (.cells #[] 34)) := (Below.refl _ _).alloc (Nat.le_refl _) _
    have hcells := Lib.hid (show ∀ j u, (flat cc ls)[j]? = some u → (w.alloc (.cells #[] 34)).cell? ((⟨b, o, none⟩ : Addr).add j) = some u from fun j u hj => by
      rw [add_off]
      rcases h with h | ⟨b', o', e, _, h⟩
      · rw [h] at hj; simp [flat] at hj
      · simp at e
        obtain ⟨rfl, rfl⟩ := e
        exact ext_cell B0 (h j u hj))
    clear h hl
    go_enter Try.func51, Try.ntmps51
    go_wp2_with (at_builtin; refine wpList_append_own _ rfl _ _ 28 rfl (w.heap.size) 34 i0 Cd.zero.v 9 88 Try.underlying28 hi hz0 hz1 hz2 rfl (by decide) (.slice (some ⟨w.heap.size, 0, none⟩) 0 0) 0 (flat cc []) rfl O0 ⟨b, o, none⟩ n c (flat cc ls) rfl ?c0 ?c1 ?c2 ?c3 ?c4 ?c5 ?_)
    case c0 => rw [flat_len cc_len, HN.out]
    case c1 => exact hcells.out
    case c2 => exact flat_one cc_one ls
    case c3 => unfold maxLen; omega
    case c4 => omega
    case c5 => exact B0.size
    intro v' w1 ho hg _
    have B1 := B0.grown hg B0.size (fun q hq => own_ge O0 hq)
    have ho' := Lib.hid (show OwnC w.heap.size w1 v' ls by unfold OwnC OwnR; rw [HN.out]; simpa [flat_nil] using ho)
    clear ho hg O0 B0 hq
    go_wp2
    go_ret
    exact ⟨_, rfl, ho'.out, B1⟩

theorem drop_at {α : Type} {l : List α} {i : Nat} {x : α} (h : l[i]? = some x) : l.drop i = x :: l.drop (i + 1) := by
  have hlt : i < l.length := by
    rcases Nat.lt_or_ge i l.length with h' | h'
    · exact h'
    · rw [List.getElem?_eq_none h'] at h; cases h
  rw [List.drop_eq_getElem_cons hlt]
  rw [List.getElem?_eq_getElem hlt] at h
  cases h
  rfl
theorem cat_cells {w : World} {b o : Nat} {cs : List Cd} (h : CAt w (some ⟨b, o, none⟩) cs) (j : Nat) (u : Value) (hj : (flat cc cs)[j]? = some u) : w.cell? ⟨b, o + j, none⟩ = some u := by
  rcases h with h | ⟨b', o', e, _, h⟩
  · rw [h] at hj; simp [flat] at hj
  · simp at e
    obtain ⟨rfl, rfl⟩ := e
    exact h j u hj
theorem run_append_nil (w : World) (ty : TypeId) (a : Option Addr) (n c : Nat) (h : n ≤ c) : (Builtin.append_ #[28, 28] ty #[.slice a n c, .slice none 0 0]).run Try.prog w = .ok (.slice a n c) w := by
  obtain ⟨i0, hi, hz0, hz1, hz2⟩ := info_parts' info_card
  cases a <;> simp [Builtin.append_, run_underlying Try.underlying28, sizeOf, typeInfo, hi, Builtin.lenOf, h, Builtin.firstCells, storeCells]


end Go.Proofs.Ytloeabdohgdmkaa
