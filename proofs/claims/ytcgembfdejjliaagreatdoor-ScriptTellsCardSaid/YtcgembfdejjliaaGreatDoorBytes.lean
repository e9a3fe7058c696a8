/- Rows of bytes: what lies behind a slice of bytes. -/
import Derived.Test.YtcgembfdejjliaaGreatDoorInv
import Derived.Test.YtcgembfdejjliaaGreatDoorOwn
import Derived.Laws.AppendOwn
import Derived.Maps.AppendAt
import Derived.Laws.OwnMore
import Derived.Laws.MakeOwn
import Derived.Laws.BytesArg
import Derived.Lib.AppendStr
import Derived.Lib.EndianBits
import Derived.ChangeAlike
namespace Go.Proofs.YtcgembfdejjliaaGreatDoor
open Go.RowKit
set_option linter.unusedVariables false

theorem str_inj {a b : ByteArray} (h : a.toList = b.toList) : a = b := by
  rw [ByteArray.toList_eq, ByteArray.toList_eq] at h
  cases a; cases b
  exact congrArg ByteArray.mk (Array.toList_inj.1 h)

theorem info_parts {t : TypeId} {z : Value} {s b : Nat} (h : (Tryz.prog.info? t).map (fun i => (i.zero, i.size, i.bytes)) = some (some z, s, b)) : ∃ i, Tryz.prog.info? t = some i ∧ i.zero = some z ∧ i.size = s ∧ i.bytes = b := by
  cases e : Tryz.prog.info? t with
  | none => rw [e] at h; cases h
  | some i =>
    rw [e] at h
    simp only [Option.map_some, Option.some.injEq, Prod.mk.injEq] at h
    exact ⟨i, rfl, h.1, h.2.1, h.2.2⟩
theorem ownsRow_ext {w w' : World} {base size n : Nat} {e : TypeId} {v : Value} {xs : List Value} (h : w.ownsRow base e size v n xs) (hb : Below w.heap.size w w') : w'.ownsRow base e size v n xs := by
  obtain ⟨h1, h2⟩ := h
  refine ⟨h1, ?_⟩
  rcases h2 with h2 | ⟨g, cap, cur, hv, hg, hh, r⟩
  · exact .inl h2
  · exact .inr ⟨g, cap, cur, hv, hg, ext_block hb hh, r⟩
theorem own_ne {w : World} {base size n : Nat} {e e' : TypeId} {v : Value} {xs : List Value} (h : w.ownsRow base e size v n xs) {b : Nat} {cur : Array Value} (hb : w.heap[b]? = some (.cells cur e' (0, 0))) (he : e' ≠ e) : some b ≠ v.ownBlock := by
  obtain ⟨_, h2⟩ := h
  rcases h2 with ⟨rfl, _⟩ | ⟨g, cap, cur', rfl, hg, hh, _⟩
  · simp [Value.ownBlock]
  · simp only [Value.ownBlock, ne_eq, Option.some.injEq]
    intro e1
    subst e1
    rw [hb] at hh
    simp at hh
    exact he hh.2
theorem ownsRow_base {w : World} {base base' size n : Nat} {e : TypeId} {v : Value} {xs : List Value} (h : w.ownsRow base e size v n xs) (hb : base' ≤ base) : w.ownsRow base' e size v n xs := by
  obtain ⟨h1, h2⟩ := h
  refine ⟨h1, ?_⟩
  rcases h2 with h2 | ⟨g, cap, cur, hv, hg, r⟩
  · exact .inl h2
  · exact .inr ⟨g, cap, cur, hv, by omega, r⟩
theorem ownsRow_kept {w w' : World} {base size n b : Nat} {e : TypeId} {v : Value} {xs : List Value} (h : w.ownsRow base e size v n xs) (hk : Kept b w w') (hb : b < base) : w'.ownsRow base e size v n xs := by
  obtain ⟨h1, h2⟩ := h
  refine ⟨h1, ?_⟩
  rcases h2 with h2 | ⟨g, cap, cur, hv, hg, hh, r⟩
  · exact .inl h2
  · exact .inr ⟨g, cap, cur, hv, hg, (hk.block g (by omega)).trans hh, r⟩

theorem Kept.trans {b : Nat} {u v w : World} (h : Kept b u v) (k : Kept b v w) : Kept b u w :=
  ⟨k.os.trans h.os, k.tape.trans h.tape, k.output.trans h.output, k.size.trans h.size, fun i hi => (k.block i hi).trans (h.block i hi)⟩

/-- numbers as cells of bytes -/
def bc (xs : List Int) : List Value := xs.map (Value.int .u8)
theorem bc_nil : bc [] = [] := rfl
theorem bc_len (xs : List Int) : (bc xs).length = xs.length := by simp [bc]
theorem bc_one (xs : List Int) : ∀ u ∈ bc xs, u.oneCell' = true := by
  intro u hu
  simp only [bc, List.mem_map] at hu
  obtain ⟨n, _, rfl⟩ := hu
  rfl
theorem bc_append (xs ys : List Int) : bc (xs ++ ys) = bc xs ++ bc ys := by simp [bc]
/-- each is a byte -/
def Wb (xs : List Int) : Prop := ∀ n ∈ xs, 0 ≤ n ∧ n < 256
theorem Wb.nil : Wb [] := by intro n h; cases h
theorem Wb.app {xs ys : List Int} (h : Wb xs) (k : Wb ys) : Wb (xs ++ ys) := fun n hn => (List.mem_append.1 hn).elim (h n) (k n)
theorem Wb.drop {xs : List Int} (h : Wb xs) (k : Nat) : Wb (xs.drop k) := fun n hn => h n (List.mem_of_mem_drop hn)
theorem Wb.take {xs : List Int} (h : Wb xs) (k : Nat) : Wb (xs.take k) := fun n hn => h n (List.mem_of_mem_take hn)
theorem Wb.one {n : Int} (h0 : 0 ≤ n) (h1 : n < 256) : Wb [n] := by intro m hm; simp at hm; subst hm; exact ⟨h0, h1⟩
/-- a text's bytes -/
def sb (s : ByteArray) : List Int := s.data.toList.map fun b => (b.toNat : Int)
theorem sb_len (s : ByteArray) : (sb s).length = s.size := by rw [sb, List.length_map, Array.length_toList]; rfl
theorem sb_wb (s : ByteArray) : Wb (sb s) := by
  intro n hn
  simp only [sb, List.mem_map] at hn
  obtain ⟨b, _, rfl⟩ := hn
  have := UInt8.toNat_lt b
  omega
theorem bc_sb (s : ByteArray) : bc (sb s) = Lib.strCells s := by simp [bc, sb, Lib.strCells]
theorem str_sb (s : ByteArray) : strOfNums (sb s) = s := by
  unfold strOfNums sb
  cases s with
  | mk d =>
    congr 1
    apply Array.toList_inj.1
    simp only [List.map_map]
    have h : ∀ b ∈ d.toList, ((fun n : Int => UInt8.ofNat n.toNat) ∘ fun b : UInt8 => (b.toNat : Int)) b = b := by
      intro b _
      simp
    exact (List.map_congr_left h).trans (by simp)
theorem sb_str (xs : List Int) (h : Wb xs) : sb (strOfNums xs) = xs := by
  simp only [sb, strOfNums, List.map_map]
  have : ∀ n ∈ xs, ((fun b : UInt8 => (b.toNat : Int)) ∘ fun n : Int => UInt8.ofNat n.toNat) n = n := by
    intro n hn
    have := h n hn
    simp
    omega
  exact (List.map_congr_left this).trans (by simp)
theorem str_nums_inj {xs ys : List Int} (hx : Wb xs) (hy : Wb ys) (h : strOfNums xs = strOfNums ys) : xs = ys := by
  rw [← sb_str xs hx, ← sb_str ys hy, h]

/-- behind the address a the bytes xs lie -/
def BAt (w : World) (a : Option Addr) (xs : List Int) : Prop := xs = [] ∨ ∃ b o, a = some ⟨b, o, none⟩ ∧ ∀ i n, xs[i]? = some n → w.cell? ⟨b, o + i, none⟩ = some (.int .u8 n)
theorem BAt.nil (w : World) (a : Option Addr) : BAt w a [] := .inl rfl
theorem BAt.keep {w w' : World} {a : Option Addr} {xs : List Int} (h : BAt w a xs) (hk : ∀ b o, a = some ⟨b, o, none⟩ → ∀ p v, w.cell? ⟨b, p, none⟩ = some v → w'.cell? ⟨b, p, none⟩ = some v) : BAt w' a xs := by
  rcases h with h | ⟨b, o, e, h⟩
  · exact .inl h
  · exact .inr ⟨b, o, e, fun i n hi => hk b o e _ _ (h i n hi)⟩
theorem BAt.ext {w w' : World} {a : Option Addr} {xs : List Int} (h : BAt w a xs) (hb : Below w.heap.size w w') : BAt w' a xs := h.keep fun _ _ _ _ _ hc => ext_cell hb hc
theorem BAt.drop {w : World} {b o : Nat} {xs : List Int} (k : Nat) (h : BAt w (some ⟨b, o, none⟩) xs) : BAt w (some ⟨b, o + k, none⟩) (xs.drop k) := by
  rcases h with h | ⟨b', o', e, h⟩
  · left; simp [h]
  · simp at e
    obtain ⟨rfl, rfl⟩ := e
    refine .inr ⟨_, _, rfl, fun i x hi => ?_⟩
    have h1 := h (k + i) x (by simpa using hi)
    rw [show o + k + i = o + (k + i) from by omega]
    exact h1
theorem BAt.take {w : World} {a : Option Addr} {xs : List Int} (k : Nat) (h : BAt w a xs) : BAt w a (xs.take k) := by
  rcases h with h | ⟨b, o, e, h⟩
  · left; simp [h]
  · refine .inr ⟨b, o, e, fun i x hi => h i x ?_⟩
    rcases Nat.lt_or_ge i k with hlt | hge
    · rwa [List.getElem?_take_of_lt hlt] at hi
    · rw [List.getElem?_eq_none (by simp; omega)] at hi; cases hi
theorem bat_row {w : World} {a : Option Addr} {len cap : Nat} {zs : List Int} (h : IsRow .u8 w a len cap zs) : BAt w a zs ∧ zs.length = len ∧ len ≤ cap ∧ cap ≤ maxLen ∧ Wb zs := by
  obtain ⟨h1, h2, h3, h4, h5⟩ := h
  refine ⟨?_, h3, h1, h2, fun n hn => ?_⟩
  · rcases h5 with h5 | ⟨b, o, e, h5⟩
    · left; exact List.eq_nil_of_length_eq_zero (by omega)
    · refine .inr ⟨b, o, e, fun i n hi => ?_⟩
      have hl : i < zs.length := by
        rcases Nat.lt_or_ge i zs.length with h | h
        · exact h
        · rw [List.getElem?_eq_none h] at hi; cases hi
      rw [h5 i (by omega)]
      simp [List.getD, hi]
  · have := h4 n hn
    simp [Lit.wf, IntKind.min, IntKind.max, IntKind.signed, IntKind.bits] at this
    omega
theorem own_read {w : World} {U : TypeId} {base n : Nat} {v : Value} {xs : List Int} (h : w.ownsRow base U 1 v n (bc xs)) : ∃ a cap, v = .slice a n cap ∧ n = xs.length ∧ n ≤ cap ∧ cap ≤ maxLen ∧ BAt w a xs ∧ (∀ b o, a = some ⟨b, o, none⟩ → v.ownBlock = some b ∧ base ≤ b ∧ b < w.heap.size ∧ o = 0) ∧ (a = none → n = 0 ∧ cap = 0) := by
  obtain ⟨h1, h2⟩ := h
  rw [bc_len] at h1
  rcases h2 with ⟨rfl, rfl⟩ | ⟨g, cap, cur, rfl, hg, hh, hnc, hcm, hcs, ht⟩
  · exact ⟨none, 0, rfl, by omega, Nat.le_refl _, by simp [maxLen], .inl (List.eq_nil_of_length_eq_zero (by omega)), by simp, by simp⟩
  · refine ⟨_, _, rfl, by omega, hnc, hcm, .inr ⟨g, 0, rfl, fun i m hi => ?_⟩, fun b o e => ?_, by simp⟩
    · have hl : i < xs.length := by
        rcases Nat.lt_or_ge i xs.length with h | h
        · exact h
        · rw [List.getElem?_eq_none h] at hi; cases hi
      have hq : (bc xs)[i]? = some (.int .u8 m) := by simp [bc, hi]
      rw [← ht, List.getElem?_take_of_lt (by omega)] at hq
      simp only [World.cell?, hh]
      simpa using hq
    · cases e
      exact ⟨rfl, hg, (Array.getElem?_eq_some_iff.1 hh).1, rfl⟩
theorem BAt.cells {w : World} {b o : Nat} {xs : List Int} (h : BAt w (some ⟨b, o, none⟩) xs) (j : Nat) (u : Value) (hj : (bc xs)[j]? = some u) : w.cell? ((⟨b, o, none⟩ : Addr).add j) = some u := by
  have e0 : (⟨b, o, none⟩ : Addr).add j = ⟨b, o + j, none⟩ := by
    by_cases h0 : j = 0
    · subst h0; simp [Addr.add]
    · simp [Addr.add, h0]
  rw [e0]
  simp only [bc, List.getElem?_map, Option.map_eq_some_iff] at hj
  obtain ⟨n, hn, rfl⟩ := hj
  rcases h with h | ⟨b', o', e, h⟩
  · subst h; simp at hn
  · simp at e
    obtain ⟨rfl, rfl⟩ := e
    exact h j n hn

section
variable {P : Program} (w : World)
/-- append of a row of bytes, whether it is nil, empty or not -/
theorem run_append_bytes (base : Nat) (t ty e : TypeId) (i : TypeInfo) (ht : P.underlying t = some (.slice e)) (hi : P.info? e = some i) (hz : i.zero = some (.int .u8 0))
    (hsize : i.size = 1) (hby : i.bytes = 1) (v : Value) (n : Nat) (xs : List Int) (hown : w.ownsRow base e 1 v n (bc xs))
    (A : Option Addr) (m c : Nat) (ys : List Int) (hr : BAt w A ys) (hm : ys.length = m)
    (h63 : n + m ≤ maxLen) (hbytes : n + m ≤ 140737488355328) (hbase : base ≤ w.heap.size) :
    ∃ v' w', (Builtin.append_ #[t, t] ty #[v, .slice A m c]).run P w = .ok v' w' ∧ w'.ownsRow base e 1 v' (n + m) (bc (xs ++ ys)) ∧ w.grownBy w' v.ownBlock := by
  rcases A with _ | ⟨b, o, s⟩
  · have h0 : ys = [] := by
      rcases hr with h | ⟨b, o, e, _⟩
      · exact h
      · cases e
    subst h0
    simp at hm
    subst hm
    refine ⟨v, w, ?_, by simpa using hown, World.grownBy.refl w _⟩
    rcases hown.2 with ⟨rfl, rfl⟩ | ⟨g, cap, cur, rfl, _, _, hnc, _⟩
    · simp [Builtin.append_, run_underlying ht, sizeOf, typeInfo, hi, Builtin.lenOf, Builtin.firstCells]
    · simp [Builtin.append_, run_underlying ht, sizeOf, typeInfo, hi, Builtin.lenOf, Builtin.firstCells, hnc, storeCells]
  · have hcells : ∀ j u, (bc ys)[j]? = some u → w.cell? ((⟨b, o, s⟩ : Addr).add j) = some u := by
      intro j u hu
      have hr' := hr
      rcases hr with h | ⟨b', o', e, _⟩
      · subst h; simp [bc] at hu
      · simp at e
        obtain ⟨rfl, rfl, rfl⟩ := e
        exact hr'.cells j u hu
    obtain ⟨v', w', hrun, h2, h3, -, -⟩ := run_append_own_at (P := P) w base t ty e i (.int .u8 0) 1 1 ht hi hz hsize hby rfl (by decide) v n (bc xs) hown ⟨b, o, s⟩ m c (bc ys) (by rw [bc_len]; omega) hcells (bc_one ys) h63 (by omega) hbase
    exact ⟨v', w', hrun, by rw [bc_append]; exact h2, h3⟩

theorem wp_append_bytes {o : Oper} {a : Act} {K : Act → World → Prop} {Q : Exit → Act → World → Prop} (s x : Operand) (t : TypeId)
    (ho : o.op = .call { callee := .builtin .append, args := #[s, x], argTypes := #[t, t] })
    (base : Nat) (e : TypeId) (i : TypeInfo) (ht : P.underlying t = some (.slice e)) (hi : P.info? e = some i) (hz : i.zero = some (.int .u8 0)) (hsize : i.size = 1) (hby : i.bytes = 1)
    (v : Value) (n : Nat) (xs : List Int) (hs : a.eval s = v) (hown : w.ownsRow base e 1 v n (bc xs))
    (A : Option Addr) (m c : Nat) (ys : List Int) (hx : a.eval x = .slice A m c) (hr : BAt w A ys) (hm : ys.length = m)
    (h63 : n + m ≤ maxLen) (hbytes : n + m ≤ 140737488355328) (hbase : base ≤ w.heap.size)
    (h : ∀ v' w', w'.ownsRow base e 1 v' (n + m) (bc (xs ++ ys)) → w.grownBy w' v.ownBlock → K (a.put o.dst v') w') : o.wp P a w K Q := by
  obtain ⟨v', w', hrun, h2, h3⟩ := run_append_bytes (P := P) w base t o.type e i ht hi hz hsize hby v n xs hown A m c ys hr hm h63 hbytes hbase
  unfold Oper.wp execOp
  simp only [ho, resolve, invoke, builtin, Sem.run_bind, Sem.run_pure, Result.andThen_ok, List.map_toArray, List.map_cons, List.map_nil, hs, hx, hrun]
  exact h v' w' h2 h3

theorem wpList_append_bytes {ops : Array Oper} {rest : List Oper} {o : Oper} {a : Act} {Q : Exit → Act → World → Prop} (hgd : o.guard = none) (s x : Operand) (t : TypeId)
    (ho : o.op = .call { callee := .builtin .append, args := #[s, x], argTypes := #[t, t] })
    (base : Nat) (e : TypeId) (i : TypeInfo) (ht : P.underlying t = some (.slice e)) (hi : P.info? e = some i) (hz : i.zero = some (.int .u8 0)) (hsize : i.size = 1) (hby : i.bytes = 1)
    (v : Value) (n : Nat) (xs : List Int) (hs : a.eval s = v) (hown : w.ownsRow base e 1 v n (bc xs))
    (A : Option Addr) (m c : Nat) (ys : List Int) (hx : a.eval x = .slice A m c) (hr : BAt w A ys) (hm : ys.length = m)
    (h63 : n + m ≤ maxLen) (hbytes : n + m ≤ 140737488355328) (hbase : base ≤ w.heap.size)
    (h : ∀ v' w', w'.ownsRow base e 1 v' (n + m) (bc (xs ++ ys)) → w.grownBy w' v.ownBlock → wpList P ops Q rest (a.put o.dst v') w') : wpList P ops Q (o :: rest) a w :=
  wpList_plain hgd fun _ hK => wp_append_bytes w s x t ho base e i ht hi hz hsize hby v n xs hs hown A m c ys hx hr hm h63 hbytes hbase fun v' w' h2 h3 => hK _ _ (h v' w' h2 h3)

theorem wpList_wanted {Q : Exit → Act → World → Prop} {ops : Array Oper} {a : Act} {rest : List Oper} {o : Oper} (hw : Region.wanted o (yielded ops a.tmps) = true)
    (h : ∀ K : Act → World → Prop, (∀ a w, wpList P ops Q rest a w → K a w) → o.wp P a w K Q) : wpList P ops Q (o :: rest) a w :=
  wpList_step fun K hK => by rw [if_pos hw]; exact h K hK

theorem wpList_append_bytes_w {ops : Array Oper} {rest : List Oper} {o : Oper} {a : Act} {Q : Exit → Act → World → Prop} (hgd : Region.wanted o (yielded ops a.tmps) = true) (s x : Operand) (t : TypeId)
    (ho : o.op = .call { callee := .builtin .append, args := #[s, x], argTypes := #[t, t] })
    (base : Nat) (e : TypeId) (i : TypeInfo) (ht : P.underlying t = some (.slice e)) (hi : P.info? e = some i) (hz : i.zero = some (.int .u8 0)) (hsize : i.size = 1) (hby : i.bytes = 1)
    (v : Value) (n : Nat) (xs : List Int) (hs : a.eval s = v) (hown : w.ownsRow base e 1 v n (bc xs))
    (A : Option Addr) (m c : Nat) (ys : List Int) (hx : a.eval x = .slice A m c) (hr : BAt w A ys) (hm : ys.length = m)
    (h63 : n + m ≤ maxLen) (hbytes : n + m ≤ 140737488355328) (hbase : base ≤ w.heap.size)
    (h : ∀ v' w', w'.ownsRow base e 1 v' (n + m) (bc (xs ++ ys)) → w.grownBy w' v.ownBlock → wpList P ops Q rest (a.put o.dst v') w') : wpList P ops Q (o :: rest) a w :=
  wpList_wanted w hgd fun _ hK => wp_append_bytes w s x t ho base e i ht hi hz hsize hby v n xs hs hown A m c ys hx hr hm h63 hbytes hbase fun v' w' h2 h3 => hK _ _ (h v' w' h2 h3)

/-- string(b) -/
theorem run_text (src e : TypeId) (hs : P.underlying src = some (.slice e)) (he : P.underlying e = some (.int .u8)) (dst : TypeId) (hd : P.underlying dst = some .string) (A : Option Addr) (len cap : Nat) (xs : List Int) (hl : xs.length = len) (hr : BAt w A xs) :
    (convert src dst (.slice A len cap)).run P w = .ok (.string (strOfNums xs)) w := by
  rcases A with _ | ⟨b, o, s⟩
  · have h0 : xs = [] := by
      rcases hr with h | ⟨b, o, e, _⟩
      · exact h
      · cases e
    subst h0
    exact run_convert_bytes_nil w src e hs he len cap dst hd
  · by_cases h0 : xs = []
    · subst h0
      simp at hl
      subst hl
      have hl0 : (loadCells ⟨b, o, s⟩ 0).run P w = .ok ([] : List Value).toArray w := by
        have := run_loadCells_list (P := P) w ⟨b, o, s⟩ [] (by simp)
        simpa using this
      rw [run_convert_bytes_string w src dst e _ 0 cap hs he hd, run_bytesToString w _ 0 cap [] (by simpa using hl0)]
      rfl
    · rcases hr with h | ⟨b', o', e', hc⟩
      · exact absurd h h0
      · simp at e'
        obtain ⟨rfl, rfl, rfl⟩ := e'
        refine run_convert_bytes_arg w src e hs he b o len cap xs hl (fun i hi => ?_) dst hd
        have := hc i (xs.getD i 0) (by simp [List.getD, show i < xs.length by omega])
        exact this
end

end Go.Proofs.YtcgembfdejjliaaGreatDoor
