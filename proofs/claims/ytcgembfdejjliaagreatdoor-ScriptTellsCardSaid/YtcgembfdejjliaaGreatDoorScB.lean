/- strings.Builder: written strings and bytes (the laid contracts of these two fall at this seat: walked here). -/
import Derived.Test.YtcgembfdejjliaaGreatDoorScN
import Derived.Test.YtcgembfdejjliaaGreatDoorRowGen
import Derived.Test.YtcgembfdejjliaaGreatDoorFauI
import Derived.Test.YtcgembfdejjliaaGreatDoorRim
import Derived.Test.YtcgembfdejjliaaGreatDoorBytes
import Derived.Lib.AppendStr
import Derived.Shelf.Strings.Builder1
namespace Go.Proofs.YtcgembfdejjliaaGreatDoor
open Go.RowKit
set_option linter.unusedVariables false

/-- a builder at block b holds l -/
def Bd (B b : Nat) (l : List UInt8) (w : World) : Prop := B ≤ b ∧ ∃ p v, (p = .pointer none ∨ p = .pointer (some ⟨b, 0, none⟩)) ∧ w.heap[b]? = some (.cells #[p, v] 53 (0, 0)) ∧ w.ownsRow B 5 1 v (Lib.byteCells l).length (Lib.byteCells l)
theorem info_u8 : (Tryz.prog.info? 5).map (fun i => (i.zero, i.size, i.bytes)) = some (some (.int .u8 0), 1, 1) := by kernel_rfl
theorem bd_ne {w : World} {B b : Nat} {l : List Value} {cur : Array Value} {v : Value} (hb : w.heap[b]? = some (.cells cur 53 (0, 0))) (ho : w.ownsRow B 5 1 v l.length l) : some b ≠ v.ownBlock := own_ne ho hb (by decide)
theorem Bd.ext {B b : Nat} {l : List UInt8} {w w' : World} (h : Bd B b l w) (hb : Below w.heap.size w w') : Bd B b l w' := by
  obtain ⟨h0, p, v, h1, h2, h3⟩ := h
  exact ⟨h0, p, v, h1, blk_ext hb h2, ownsRow_ext h3 hb⟩
theorem Bd.is {B b : Nat} {l : List UInt8} {w : World} (h : Bd B b l w) : Lib.IsBuilder 53 5 B b (Lib.byteCells l) w := by
  obtain ⟨h0, p, v, h1, h2, h3⟩ := h
  have h4 : v.ownBlock ≠ some b := fun e => bd_ne h2 h3 e.symm
  rcases h1 with rfl | rfl
  · exact .inl ⟨h0, v, h2, h3, h4⟩
  · exact .inr ⟨h0, v, h2, h3, h4⟩

set_option maxRecDepth 100000 in
set_option maxHeartbeats 1000000 in
/-- the copy check: the builder's own address is laid -/
theorem bdCheck (B b : Nat) (l : List UInt8) (w : World) (h : Bd B b l w) :
    Calls Tryz.prog 41 #[.pointer (some ⟨b, 0, none⟩)] w fun e w' => e = .returned (.tuple #[]) ∧ (∃ v, w'.heap[b]? = some (.cells #[.pointer (some ⟨b, 0, none⟩), v] 53 (0, 0)) ∧ w'.ownsRow B 5 1 v (Lib.byteCells l).length (Lib.byteCells l)) ∧ Below B w w' := by
  obtain ⟨h0, p, v, h1, h2, h3⟩ := h
  have hc := blk_cell h2
  have hf := blk_free h2
  have hl := blk_lt h2
  have H2 := Lib.hid h2
  have H3 := Lib.hid h3
  clear h2 h3
  obtain ⟨j, hj, hjs⟩ := Option.map_eq_some_iff.1 (show (Tryz.prog.info? 53).map (·.size) = some 2 by kernel_rfl)
  have hsh : w.shape? b = some (53, 2) := by simp [World.shape?, H2.out]
  rcases h1 with rfl | rfl
  · go_enter Tryz.func41, Tryz.ntmps41
    go_wp2
    rw [Lib.run_to_unsafe w ⟨b, 0, none⟩ Tryz.underlying50 Tryz.underlying100 hj (by rw [hjs]; decide) hsh (Nat.zero_lt_succ 1)]
    simp only [Result.andThen]
    rw [Oper.upon_value]
    go_wp2
    rw [run_callFunc_extern Tryz.func56 (by kernel_rfl) (by kernel_rfl) (by kernel_rfl) (e := Extern.AbiNoEscape.same) (by kernel_rfl)]
    rw [Lib.run_noEscape]
    simp only [Result.andThen]
    rw [Oper.upon_value]
    go_wp2
    rw [Lib.run_from_unsafe w ⟨b, 0, none⟩ Tryz.underlying100 Tryz.underlying50 hj hsh (by kernel_rfl)]
    simp only [Result.andThen]
    rw [Oper.upon_value]
    go_wp2
    go_end0
    refine ⟨rfl, ⟨v, blk_set H2.out rfl, own_blocks H3.out fun b' cur hb' => ?_⟩, (Below.refl _ _).setCell h0 _⟩
    exact Below.heap_setCell _ _ _ _ (by rintro rfl; rw [H2.out] at hb'; simp at hb')
  · go_enter Tryz.func41, Tryz.ntmps41
    go_wp2
    rw [Lib.run_neq_ptr_same w _ Tryz.underlying50 hj]
    go_wp2
    go_end0
    exact ⟨rfl, ⟨v, H2.out, H3.out⟩, Below.refl _ _⟩

set_option maxRecDepth 100000 in
set_option maxHeartbeats 1000000 in
theorem bdStr (B b : Nat) (l : List UInt8) (s : ByteArray) (w : World) (h : Bd B b l w) (hlen : l.length + s.size ≤ 140737488355328) (hBw : B ≤ w.heap.size) :
    Calls Tryz.prog 22 #[.pointer (some ⟨b, 0, none⟩), .string s] w fun e w' => e = .returned (.tuple #[.int .i64 s.size, .nilIface]) ∧ Bd B b (l ++ s.data.toList) w' ∧ Below B w w' := by
  obtain ⟨i0, hi, hz0, hz1, hz2⟩ := info_parts2 info_u8
  obtain ⟨n, hn⟩ : ∃ n, (Lib.byteCells l).length = n := ⟨_, rfl⟩
  have hbl : n = l.length := hn.symm.trans (Lib.byteCells_length l)
  have hB0 := h.1
  go_enter Tryz.func22, Tryz.ntmps22
  go_wp2_with fail
  refine (bdCheck B b l w h).mono ?_
  rintro e w1 ⟨rfl, ⟨v, h1, h2⟩, hb1⟩
  rw [hn] at h2
  obtain ⟨ga, gc, rfl, -, -⟩ : ∃ ga gc, v = .slice ga n gc ∧ True ∧ True := by
    rcases h2.2 with ⟨hv, h0⟩ | ⟨g, cap, cur, hv, _⟩
    · exact ⟨none, 0, by rw [hv, h0], trivial, trivial⟩
    · exact ⟨_, _, hv, trivial, trivial⟩
  have c1 := blk_cell h1
  have l1 := blk_lt h1
  have H1 := Lib.hid (show _ ∧ _ ∧ _ from ⟨h1, h2, hb1⟩)
  have hn2 : n + s.size ≤ 140737488355328 := by omega
  have HB := Lib.hid hbl
  have z1 := hb1.size
  clear h1 h2 hb1 hbl
  go_wp2_with (at_builtin; refine Lib.wpList_append_own_string _ rfl _ _ 51 9 rfl B 5 i0 Tryz.underlying51 Tryz.underlying9 hi hz0 hz1 hz2 _ _ _ rfl H1.out.2.1 s rfl ?c3 ?c4 ?c5 ?_)
  case c3 => unfold maxLen; omega
  case c4 => omega
  case c5 => omega
  intro v2 w2 ho2 hg2 _
  have hne := own_ne H1.out.2.1 H1.out.1 (by decide)
  have h2 : w2.heap[b]? = some (.cells #[.pointer (some ⟨b, 0, none⟩), .slice ga n gc] 53 (0, 0)) := (hg2.block b l1 hne).trans H1.out.1
  have hb2 : Below B w w2 := H1.out.2.2.grown hg2 (by omega) (fun q hq => own_ge H1.out.2.1 hq)
  have c2 := blk_cell h2
  have f2 := blk_free h2
  have l2 := blk_lt h2
  obtain ⟨gb, n2, gd, rfl⟩ : ∃ gb n2 gd, v2 = .slice gb n2 gd := by
    rcases ho2.2 with ⟨hv, h0⟩ | ⟨g, cap, cur, hv, _⟩
    · exact ⟨_, _, _, hv⟩
    · exact ⟨_, _, _, hv⟩
  have H2 := Lib.hid (show _ ∧ _ ∧ _ from ⟨h2, ho2, hb2⟩)
  clear c1 h2 ho2 hb2 hg2 hne
  go_wp2
  go_ret2
  refine ⟨rfl, ⟨hB0, _, _, .inr rfl, blk_set H2.out.1 rfl, ?_⟩, H2.out.2.2.setCell hB0 _⟩
  have := own_blocks H2.out.2.1 (w' := w2.setCell ⟨b, 1, none⟩ (.slice gb n2 gd)) (fun b' cur hb' => Below.heap_setCell _ _ _ _ (by rintro rfl; rw [H2.out.1] at hb'; simp at hb'))
  rw [Lib.byteCells_append, List.length_append, hn, ← Lib.strCells_eq]
  simpa [Lib.strCells_eq, Lib.byteCells_length] using this

set_option maxRecDepth 100000 in
set_option maxHeartbeats 1000000 in
theorem bdByte (B b : Nat) (l : List UInt8) (c : UInt8) (w : World) (h : Bd B b l w) (hlen : l.length + 1 ≤ 140737488355328) (hBw : B ≤ w.heap.size) :
    Calls Tryz.prog 23 #[.pointer (some ⟨b, 0, none⟩), .int .u8 c.toNat] w fun e w' => e = .returned .nilIface ∧ Bd B b (l ++ [c]) w' ∧ Below B w w' := by
  obtain ⟨i0, hi, hz0, hz1, hz2⟩ := info_parts2 info_u8
  obtain ⟨n, hn⟩ : ∃ n, (Lib.byteCells l).length = n := ⟨_, rfl⟩
  have hbl : n = l.length := hn.symm.trans (Lib.byteCells_length l)
  have hB0 := h.1
  go_enter Tryz.func23, Tryz.ntmps23
  go_wp2_with fail
  refine (bdCheck B b l w h).mono ?_
  rintro e w1 ⟨rfl, ⟨v, h1, h2⟩, hb1⟩
  rw [hn] at h2
  obtain ⟨ga, gc, rfl, -, -⟩ : ∃ ga gc, v = .slice ga n gc ∧ True ∧ True := by
    rcases h2.2 with ⟨hv, h0⟩ | ⟨g, cap, cur, hv, _⟩
    · exact ⟨none, 0, by rw [hv, h0], trivial, trivial⟩
    · exact ⟨_, _, hv, trivial, trivial⟩
  have c1 := blk_cell h1
  have l1 := blk_lt h1
  have H1 := Lib.hid (show _ ∧ _ ∧ _ from ⟨h1, h2, hb1⟩)
  have hn2 : n + 1 ≤ 140737488355328 := by omega
  have HB := Lib.hid hbl
  have z1 := hb1.size
  clear h1 h2 hb1 hbl
  go_wp2_with (at_builtin; refine wpList_append_own _ rfl _ _ 51 rfl B 5 i0 (.int .u8 0) 1 1 Tryz.underlying51 hi hz0 hz1 hz2 rfl (by decide) _ n (Lib.byteCells l) rfl (H1.out.2.1.alloc (.cells #[.int .u8 c.toNat] 5)) ⟨w1.heap.size, 0, none⟩ 1 1 [.int .u8 c.toNat] rfl rfl ?c1 ?c2 ?c3 ?c4 ?c5 ?_)
  case c1 =>
    intro j u hj
    rw [add_off, Nat.zero_add, blk_cell (blk_new w1 #[.int .u8 c.toNat] 5)]
    simpa using hj
  case c2 => intro u hu; simp only [List.mem_cons, List.not_mem_nil, or_false] at hu; subst hu; rfl
  case c3 => unfold maxLen; omega
  case c4 => omega
  case c5 => first | (simp; omega) | omega
  intro v2 w2 ho2 hg2 _
  have h1' := blk_alloc H1.out.1 (.cells #[.int .u8 c.toNat] 5)
  have o1' := H1.out.2.1.alloc (.cells #[.int .u8 c.toNat] 5)
  have hne := own_ne o1' h1' (by decide)
  have h2 : w2.heap[b]? = some (.cells #[.pointer (some ⟨b, 0, none⟩), .slice ga n gc] 53 (0, 0)) := (hg2.block b (blk_lt h1') hne).trans h1'
  have hb2 : Below B w w2 := (H1.out.2.2.alloc (by omega) (.cells #[.int .u8 c.toNat] 5)).grown hg2 (by simp; omega) (fun q hq => own_ge o1' hq)
  have c2 := blk_cell h2
  have f2 := blk_free h2
  have l2 := blk_lt h2
  obtain ⟨gb, n2, gd, rfl⟩ : ∃ gb n2 gd, v2 = .slice gb n2 gd := by
    rcases ho2.2 with ⟨hv, h0⟩ | ⟨g, cap, cur, hv, _⟩
    · exact ⟨_, _, _, hv⟩
    · exact ⟨_, _, _, hv⟩
  have H2 := Lib.hid (show _ ∧ _ ∧ _ from ⟨h2, ho2, hb2⟩)
  clear c1 h2 ho2 hb2 hg2 hne h1' o1'
  go_wp2
  go_ret
  refine ⟨rfl, ⟨hB0, _, _, .inr rfl, blk_set H2.out.1 rfl, ?_⟩, H2.out.2.2.setCell hB0 _⟩
  have := own_blocks H2.out.2.1 (w' := w2.setCell ⟨b, 1, none⟩ (.slice gb n2 gd)) (fun b' cur hb' => Below.heap_setCell _ _ _ _ (by rintro rfl; rw [H2.out.1] at hb'; simp at hb'))
  rw [Lib.byteCells_append, List.length_append, hn]
  exact this
end Go.Proofs.YtcgembfdejjliaaGreatDoor
