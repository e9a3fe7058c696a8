/- Several texts as one: Tape, TapeKey, TapeCard, TapeCd. -/
import Derived.Test.YtloeabdohgdmkaaBaZ
import Derived.Test.YtloeabdohgdmkaaBbZ
import Derived.Deep.DeepCutAuto
import Derived.BigRegion
/- A tape of numbers: what is read off it. -/
namespace Go.Proofs.Ytloeabdohgdmkaa
open Go.RowKit
set_option linter.unusedVariables false

/-- block b may hold something other; new memory may have been made; all else is as it was -/
structure Bar (b : Nat) (w w' : World) : Prop where
  os : w'.os = w.os
  tape : w'.tape = w.tape
  output : w'.output = w.output
  size : w.heap.size ≤ w'.heap.size
  block : ∀ k, k ≠ b → k < w.heap.size → w'.heap[k]? = w.heap[k]?
theorem Bar.refl (b : Nat) (w : World) : Bar b w w := ⟨rfl, rfl, rfl, Nat.le_refl _, fun _ _ _ => rfl⟩
theorem Bar.trans {b : Nat} {u v w : World} (h : Bar b u v) (k : Bar b v w) : Bar b u w :=
  ⟨k.os.trans h.os, k.tape.trans h.tape, k.output.trans h.output, Nat.le_trans h.size k.size, fun i hi hl => (k.block i hi (Nat.lt_of_lt_of_le hl h.size)).trans (h.block i hi hl)⟩
theorem Bar.of {b : Nat} {w w' : World} (h : Below w.heap.size w w') : Bar b w w' := ⟨h.os, h.tape, h.output, h.size, fun k _ hl => h.block k hl⟩
theorem Bar.kept {b : Nat} {w w' : World} (h : Kept b w w') : Bar b w w' := ⟨h.os, h.tape, h.output, Nat.le_of_eq h.size.symm, fun k hk _ => h.block k hk⟩
theorem Bar.below {b n : Nat} {w w' : World} (h : Bar b w w') (hn : n ≤ b) (hz : n ≤ w.heap.size) : Below n w w' := ⟨h.os, h.tape, h.output, h.size, fun k hk => h.block k (by omega) (by omega)⟩
theorem Bar.blk {b : Nat} {w w' : World} (h : Bar b w w') {c : Nat} {o : Obj} (hc : c ≠ b) (hb : w.heap[c]? = some o) : w'.heap[c]? = some o := (h.block c hc (blk_lt hb)).trans hb
theorem Bar.cell {b : Nat} {w w' : World} (h : Bar b w w') {c o : Nat} {v : Value} (hc : c ≠ b) (hb : w.cell? ⟨c, o, none⟩ = some v) : w'.cell? ⟨c, o, none⟩ = some v :=
  (World.cell?_of_block (w := w) (h.block c hc (cell_lt hb))).trans hb

/-- at block b a tape lies: the row that it reads, and how far it has come -/
def TapeK (a : Option Addr) (len cap : Nat) (w : World) (b : Nat) : Prop := ∃ k : Nat, w.heap[b]? = some (.cells #[.slice a len cap, .int .i64 k] 50 (0, 0)) ∧ k ≤ len
def RowOk (a : Option Addr) (len cap : Nat) (zs : List Int) (w : World) (b : Nat) : Prop := IsRow .i64 w a len cap zs ∧ (len = 0 ∨ ∀ c o, a = some ⟨c, o, none⟩ → c ≠ b)
theorem RowOk.bar {a : Option Addr} {len cap : Nat} {zs : List Int} {w w' : World} {b : Nat} (h : RowOk a len cap zs w b) (hb : Bar b w w') : RowOk a len cap zs w' b := by
  obtain ⟨⟨i1, i2, i3, i4, i5⟩, h2⟩ := h
  refine ⟨⟨i1, i2, i3, i4, ?_⟩, h2⟩
  rcases i5 with i5 | ⟨c, o, e, i5⟩
  · exact .inl i5
  · by_cases h0 : len = 0
    · exact .inl h0
    · exact .inr ⟨c, o, e, fun i hi => hb.cell ((h2.resolve_left h0) c o e) (i5 i hi)⟩
theorem rowOk_new {a : Option Addr} {len cap : Nat} {zs : List Int} {w : World} (h : IsRow .i64 w a len cap zs) (o : Obj) : RowOk a len cap zs (w.alloc o) w.heap.size := by
  refine ⟨h.ext ((Below.refl _ _).alloc (Nat.le_refl _) _), ?_⟩
  obtain ⟨i1, i2, i3, i4, i5⟩ := h
  rcases i5 with i5 | ⟨c, o, e, i5⟩
  · exact .inl i5
  · by_cases h0 : len = 0
    · exact .inl h0
    · right
      intro c' o' e'
      have := cell_lt (i5 0 (by omega))
      rw [e] at e'
      simp at e'
      omega
theorem tapeK_new {a : Option Addr} {len cap : Nat} (w : World) : TapeK a len cap (w.alloc (.cells #[.slice a len cap, .int .i64 0] 50)) w.heap.size :=
  ⟨0, blk_new _ _ _, Nat.zero_le _⟩
def TapeAt (w : World) (b : Nat) : Prop := ∃ (a : Option Addr) (len cap : Nat) (zs : List Int), TapeK a len cap w b ∧ RowOk a len cap zs w b
theorem TapeK.lt {a : Option Addr} {len cap : Nat} {w : World} {b : Nat} (h : TapeK a len cap w b) : b < w.heap.size := by
  obtain ⟨k, h1, _⟩ := h
  exact blk_lt h1
theorem TapeK.ext {a : Option Addr} {len cap : Nat} {w w' : World} {b : Nat} (h : TapeK a len cap w b) (hb : Below w.heap.size w w') : TapeK a len cap w' b := by
  obtain ⟨k, h1, h2⟩ := h
  exact ⟨k, blk_ext hb h1, h2⟩
theorem TapeAt.lt {w : World} {b : Nat} (h : TapeAt w b) : b < w.heap.size := by
  obtain ⟨a, len, cap, zs, h1, _⟩ := h
  exact h1.lt
theorem TapeAt.ext {w w' : World} {b : Nat} (h : TapeAt w b) (hb : Below w.heap.size w w') : TapeAt w' b := by
  obtain ⟨a, len, cap, zs, h1, h2⟩ := h
  exact ⟨a, len, cap, zs, h1.ext hb, h2.bar (Bar.of hb)⟩
theorem TapeAt.keep {w w' : World} {b c : Nat} (h : TapeAt w b) (hb : Kept c w w') (hc : c ≠ b) (hn : ∀ (a : Option Addr) (len cap k : Nat), w.heap[b]? = some (.cells #[.slice a len cap, .int .i64 k] 50 (0, 0)) → len = 0 ∨ ∀ o, a ≠ some ⟨c, o, none⟩) : TapeAt w' b := by
  obtain ⟨a, len, cap, zs, ⟨k, h1, h3⟩, ⟨i1, i2, i3, i4, i5⟩, h2⟩ := h
  have h4 := hn _ _ _ _ h1
  refine ⟨a, len, cap, zs, ⟨k, (hb.block b (Ne.symm hc)).trans h1, h3⟩, ⟨i1, i2, i3, i4, ?_⟩, h2⟩
  rcases i5 with i5 | ⟨d, o, e, i5⟩
  · exact .inl i5
  · rcases h4 with h4 | h4
    · exact .inl h4
    · refine .inr ⟨d, o, e, fun i hi => hb.cell (fun ed => h4 o (by rw [e, ed])) (i5 i hi)⟩

def win (k lo hi : Int) : Int := if lo ≤ k ∧ k ≤ hi then k else lo + k % (hi - lo + 1)
theorem win_lo (k lo hi : Int) (h : lo ≤ hi) : lo ≤ win k lo hi := by
  unfold win; split
  · omega
  · have := Int.emod_nonneg k (b := hi - lo + 1) (by omega); omega
theorem win_hi (k lo hi : Int) (h : lo ≤ hi) : win k lo hi ≤ hi := by
  unfold win; split
  · omega
  · have := Int.emod_lt_of_pos k (b := hi - lo + 1) (by omega); omega
theorem tmod_neg_fix (k m : Int) (hm : 0 < m) (h : k.tmod m < 0) : k.tmod m + m = k % m := by
  rw [Int.tmod_eq_emod] at *
  split at h
  · have := Int.emod_nonneg k (b := m) (by omega); omega
  · rw [if_neg (by assumption)]; omega
theorem tmod_pos_fix (k m : Int) (hm : 0 < m) (h : 0 ≤ k.tmod m) : k.tmod m = k % m := by
  rw [Int.tmod_eq_emod] at *
  split at h
  · rw [if_pos (by assumption)]; omega
  · rename_i hc
    have := Int.emod_lt_of_pos k hm
    omega

set_option maxHeartbeats 400000 in
theorem within_any (k lo hi : Int) (w : World) (h : lo ≤ hi) (h1 : -1099511627776 ≤ lo) (h2 : hi ≤ 1099511627776) (k1 : -9223372036854775808 ≤ k) (k2 : k ≤ 9223372036854775807) :
    Calls Try.prog 50 #[.int .i64 k, .int .i64 lo, .int .i64 hi] w fun r w' => r = .returned (.int .i64 (win k lo hi)) ∧ w = w' := by
  by_cases a1 : lo ≤ k ∧ k ≤ hi
  · obtain ⟨a2, a3⟩ := a1
    go_enter Try.func50, Try.ntmps50
    go_wp2
    all_goals (go_ret; exact ⟨by simp [win, *], rfl⟩)
  · have hp : 0 < hi - lo + 1 := by omega
    have t1 := Int.tmod_lt_of_pos k hp
    have t2 : -(hi - lo + 1) < k.tmod (hi - lo + 1) := by have := Int.lt_tmod_of_pos k hp; omega
    have f1 := tmod_neg_fix k _ hp
    have f2 := tmod_pos_fix k _ hp
    have F1 := Lib.hid f1
    have F2 := Lib.hid f2
    have A1 := Lib.hid a1
    clear f1 f2
    by_cases a2 : lo ≤ k
    · have a3 : hi < k := by omega
      clear a1
      by_cases a4 : k.tmod (hi - lo + 1) < 0
      · go_enter Try.func50, Try.ntmps50
        go_wp2
        all_goals (go_ret; refine ⟨congrArg (fun z => Ending.returned (Value.int .i64 z)) ?_, rfl⟩; have z := F1.out (by omega); rw [win, if_neg A1.out]; omega)
      · have a5 : 0 ≤ k.tmod (hi - lo + 1) := by omega
        go_enter Try.func50, Try.ntmps50
        go_wp2
        all_goals (go_ret; refine ⟨congrArg (fun z => Ending.returned (Value.int .i64 z)) ?_, rfl⟩; have z := F2.out (by omega); rw [win, if_neg A1.out]; omega)
    · have a3 : k < lo := by omega
      clear a1
      by_cases a4 : k.tmod (hi - lo + 1) < 0
      · go_enter Try.func50, Try.ntmps50
        go_wp2
        all_goals (go_ret; refine ⟨congrArg (fun z => Ending.returned (Value.int .i64 z)) ?_, rfl⟩; have z := F1.out (by omega); rw [win, if_neg A1.out]; omega)
      · have a5 : 0 ≤ k.tmod (hi - lo + 1) := by omega
        go_enter Try.func50, Try.ntmps50
        go_wp2
        all_goals (go_ret; refine ⟨congrArg (fun z => Ending.returned (Value.int .i64 z)) ?_, rfl⟩; have z := F2.out (by omega); rw [win, if_neg A1.out]; omega)


set_option maxHeartbeats 1000000 in
theorem tapeNextK (a : Option Addr) (len cap : Nat) (zs : List Int) (b : Nat) (n : Int) (w : World) (hT : TapeK a len cap w b) (hR0 : RowOk a len cap zs w b) (hn : 1 ≤ n) (hn2 : n ≤ 4294967296) :
    Calls Try.prog 26 #[.pointer (some ⟨b, 0, none⟩), .int .i64 n] w fun r w' => ∃ v : Int, r = .returned (.int .i64 v) ∧ 0 ≤ v ∧ v < n ∧ TapeK a len cap w' b ∧ Bar b w w' := by
  obtain ⟨k, hb, hk⟩ := hT
  obtain ⟨hr, hne⟩ := hR0
  have hcap := hr.1
  have hmax := hr.2.1
  unfold maxLen at hmax
  have hB := Lib.hid hb
  have hR := Lib.hid hr
  have hc := blk_cell hb
  have hl := blk_lt hb
  have hf := blk_free hb
  clear hb hr
  by_cases hlt : k < len
  · obtain ⟨c, o, rfl, hz⟩ := hR.out.2.2.2.2.resolve_left (by omega)
    have hwf := bounds_i64 (getD_wf (j := k) (hR.out.2.2.2.1))
    have hx := hz k hlt
    have hcb : c ≠ b := (hne.resolve_left (by omega)) c o rfl
    clear hz hne
    generalize hxx : zs.getD k 0 = x at hx hwf
    clear hxx
    have hl2 := cell_lt hx
    have hlt' : (k : Int) < len := by omega
    have hn1 : ¬ n < 1 := by omega
    have hd1 : decide (len ≤ k) = false := by simp; omega
    have hd2 : decide (n < 1) = false := by simp; omega
    go_enter Try.func26, Try.ntmps26
    go_wp2_with fail
    haveI hIq : Nonempty (Of w) := of_some _
    have hF0 := blk_of hB.out
    refine wp_region_stay w (by kernel_rfl) (by kernel_rfl) (by go_grown) ?_
    repeat (go_big_quiet_step (fail))
    refine wpQuiet_nil ?_
    intro w1 hb
    have r1 := blk_ext hb hB.out
    have r2 := blk_cell r1
    have r3 := blk_free r1
    have r4 := ext_cell hb hx
    have R1 := Lib.hid r1
    clear hIq hF0 r1
    go_upto_region 4 with (fail)
    refine wp_letter (fun W => Bar b w W ∧ W.heap[b]? = some (.cells #[.slice (some ⟨c, o, none⟩) len cap, .int .i64 (k + 1)] 50 (0, 0)) ∧ W.cell? ⟨c, o + k, none⟩ = some (.int .i64 x)) ?_ ?_
    · have s := R1.out
      refine ⟨(Bar.of hb).trans (Bar.kept ((Kept.refl _ _).setCell _ _)), ?_, ?_⟩
      · repeat (first | (with_reducible assumption) | (with_reducible refine blk_new_at ?_ _ _; first | (with_reducible rfl) | (simp; done)) | (with_reducible refine blk_alloc ?_ _) | (with_reducible refine blk_drew ?_) | (with_reducible apply blk_set) | (show Array.setIfInBounds _ _ _ = _; first | (simp; done) | (simp; rfl)) | (with_reducible refine blk_set_other ?_ ?_; omega))
      · exact ((Kept.refl b w1).setCell _ _).cell hcb r4
    rintro w2 ⟨hbar', s1, s2⟩
    have hbar := Lib.hid hbar'
    clear hbar'
    have S1 := Lib.hid s1
    clear r2 r3 r4 R1 hb hc hf s1
    haveI hIq : Nonempty (Of w2) := of_some _
    have hF0 := blk_of S1.out
    have hF1 := of_cell s2
    have hw1 := win_lo x 0 1073741824 (by omega)
    have hw2 := win_hi x 0 1073741824 (by omega)
    refine wp_region_stay w2 (by kernel_rfl) (by kernel_rfl) (by go_grown) ?_
    repeat (go_big_quiet_step ((first | (go_at_call 50; refine stay_same (within_any _ _ _ _ (by omega) (by omega) (by omega) (by omega) (by omega))))))
    refine wpQuiet_nil ?_
    intro w3 hb
    clear hIq hF0 hF1
    go_wp2
    go_ret
    have hA := hbar.out
    refine ⟨_, rfl, Int.emod_nonneg _ (by omega), Int.emod_lt_of_pos _ (by omega), ?_, hA.trans (Bar.of hb)⟩
    refine TapeK.ext ⟨k + 1, ?_, by omega⟩ hb
    have s := S1.out
    simpa using s
  · have hlt' : (len : Int) ≤ k := by omega
    clear hlt
    have hd1 : decide (len ≤ k) = true := by simp; omega
    go_enter Try.func26, Try.ntmps26
    go_wp2_with fail
    haveI hIq : Nonempty (Of w) := of_some _
    have hF0 := blk_of hB.out
    refine wp_region_stay w (by kernel_rfl) (by kernel_rfl) (by go_grown) ?_
    repeat (go_big_quiet_step (fail))
    refine wpQuiet_nil ?_
    intro w1 hb
    clear hIq hF0
    go_wp2
    go_ret
    exact ⟨0, rfl, by omega, by omega, TapeK.ext ⟨k, hB.out, hk⟩ hb, Bar.of hb⟩

end Go.Proofs.Ytloeabdohgdmkaa

/- A key read off a tape. -/
namespace Go.Proofs.Ytloeabdohgdmkaa
open Go.RowKit
set_option linter.unusedVariables false

end Go.Proofs.Ytloeabdohgdmkaa

/- A stamp, a card read off a tape. -/
namespace Go.Proofs.Ytloeabdohgdmkaa
open Go.RowKit
set_option linter.unusedVariables false

set_option maxRecDepth 100000 in
set_option maxHeartbeats 1000000 in
theorem tapeStampK (a0 : Option Addr) (len cap : Nat) (zs : List Int) (b : Nat) (w : World) (hT : TapeK a0 len cap w b) (hRow : RowOk a0 len cap zs w b) :
    Calls Try.prog 66 #[.pointer (some ⟨b, 0, none⟩)] w fun r w' => ∃ t k n : Int, r = .returned (stv t k n) ∧ 0 ≤ t ∧ t < 40 ∧ 0 ≤ k ∧ k < 6 ∧ 0 ≤ n ∧ n < 9 ∧ TapeK a0 len cap w' b ∧ Bar b w w' := by
  have htb := hT.lt
  go_enter Try.func66, Try.ntmps66
  go_wp2_with fail
  have hT0 : TapeK a0 len cap (w.alloc (.cells #[.int .i64 0, .int .i64 0, .int .i64 0] 32)) b := hT.ext ((Below.refl _ _).alloc (Nat.le_refl _) _)
  have hb0 : Bar b w (w.alloc (.cells #[.int .i64 0, .int .i64 0, .int .i64 0] 32)) := Bar.of ((Below.refl _ _).alloc (Nat.le_refl _) _)
  have hr0 : (w.alloc (.cells #[.int .i64 0, .int .i64 0, .int .i64 0] 32)).heap[w.heap.size]? = some (.cells #[.int .i64 0, .int .i64 0, .int .i64 0] 32 (0, 0)) := blk_new _ _ _
  have HR0 := Lib.hid hr0
  clear hr0
  refine (tapeNextK _ _ _ zs _ 40 _ hT0 (hRow.bar hb0) (by omega) (by omega)).mono ?_
  rintro e w1 ⟨t, rfl, t0, t1, hT1, hx⟩
  have hb1 := hb0.trans hx
  have HR1 := Lib.hid (hx.blk (c := w.heap.size) (by omega) HR0.out)
  clear hx HR0
  go_wp2_with fail
  refine (tapeNextK _ _ _ zs _ 6 _ hT1 (hRow.bar hb1) (by omega) (by omega)).mono ?_
  rintro e w2 ⟨k, rfl, k0, k1, hT2, hx⟩
  have hb2 := hb1.trans hx
  have HR2 := Lib.hid (hx.blk (c := w.heap.size) (by omega) HR1.out)
  clear hx HR1
  go_wp2_with fail
  refine (tapeNextK _ _ _ zs _ 9 _ hT2 (hRow.bar hb2) (by omega) (by omega)).mono ?_
  rintro e w3 ⟨n, rfl, n0, n1, hT3, hx⟩
  have hb3 := hb2.trans hx
  have HR3 := Lib.hid (hx.blk (c := w.heap.size) (by omega) HR2.out)
  clear hx HR2
  have hr := HR3.out
  have hrc := blk_cell hr
  have hrf := blk_free hr
  have hrl := blk_lt hr
  clear hr
  go_upto_region 99 with fail
  have hr := HR3.out
  have hR : w.heap.size ≠ b := by omega
  obtain ⟨R, hRR⟩ : ∃ R, w.heap.size = R := ⟨_, rfl⟩
  have hRl : ∀ k, k < w.heap.size → k ≠ R := fun k hk => by omega
  rw [hRR] at hr hR hrc hrf hrl ⊢
  have hkp : Kept R w3 (((w3.setCell ⟨R, 0, none⟩ (.int .i64 t)).setCell ⟨R, 1, none⟩ (.int .i64 k)).setCell ⟨R, 2, none⟩ (.int .i64 n)) := ((((Kept.refl R w3).setCell _ _).setCell _ _).setCell _ _)
  have RB : (((w3.setCell ⟨R, 0, none⟩ (.int .i64 t)).setCell ⟨R, 1, none⟩ (.int .i64 k)).setCell ⟨R, 2, none⟩ (.int .i64 n)).heap[R]? = some (.cells #[.int .i64 t, .int .i64 k, .int .i64 n] 32 (0, 0)) := by repeat (first | (with_reducible assumption) | (with_reducible refine blk_new_at ?_ _ _; first | (with_reducible rfl) | (simp; done)) | (with_reducible refine blk_alloc ?_ _) | (with_reducible refine blk_drew ?_) | (with_reducible apply blk_set) | (show Array.setIfInBounds _ _ _ = _; first | (simp; done) | (simp; rfl)) | (with_reducible refine blk_set_other ?_ ?_; omega))
  have hTn : TapeK a0 len cap (((w3.setCell ⟨R, 0, none⟩ (.int .i64 t)).setCell ⟨R, 1, none⟩ (.int .i64 k)).setCell ⟨R, 2, none⟩ (.int .i64 n)) b := by
    obtain ⟨q, e1, e2⟩ := hT3
    exact ⟨q, (hkp.block b (Ne.symm hR)).trans e1, e2⟩
  have hbn : Bar b w (((w3.setCell ⟨R, 0, none⟩ (.int .i64 t)).setCell ⟨R, 1, none⟩ (.int .i64 k)).setCell ⟨R, 2, none⟩ (.int .i64 n)) := ⟨hkp.os.trans hb3.os, hkp.tape.trans hb3.tape, hkp.output.trans hb3.output, Nat.le_trans hb3.size (Nat.le_of_eq hkp.size.symm), fun k hk hl => (hkp.block k (hRl k hl)).trans (hb3.block k hk hl)⟩
  have hc := blk_cell RB
  generalize (((w3.setCell ⟨R, 0, none⟩ (.int .i64 t)).setCell ⟨R, 1, none⟩ (.int .i64 k)).setCell ⟨R, 2, none⟩ (.int .i64 n)) = X at *
  exact bodyPost_ret (v := stv t k n) (by simp [results, Try.results66, go_sem, hc]) rfl ⟨t, k, n, rfl, t0, t1, k0, k1, n0, n1, hTn, hbn⟩

/-- a card that a tape gives -/
def CdOk (c : Cd) : Prop := c.a.size ≤ 4 ∧ c.i.size ≤ 4 ∧ 1 ≤ c.s ∧ c.s ≤ 2 ∧ 0 ≤ c.o ∧ c.o ≤ 3 ∧ 1 ≤ c.l ∧ c.l ≤ 60 ∧ 0 ≤ c.t ∧ c.t < 40 ∧ 0 ≤ c.k ∧ c.k < 6 ∧ 0 ≤ c.n ∧ c.n < 9

end Go.Proofs.Ytloeabdohgdmkaa

/- A tape gives rows of cards; rows of cards are compared. -/
namespace Go.Proofs.Ytloeabdohgdmkaa
open Go.RowKit
set_option linter.unusedVariables false

theorem Bar.grown {b : Nat} {u w w' : World} {row : Option Nat} (h : Bar b u w) (hg : w.grownBy w' row) (hr : ∀ q, row = some q → u.heap.size ≤ q) : Bar b u w' :=
  ⟨hg.os.trans h.os, hg.tape.trans h.tape, hg.output.trans h.output, Nat.le_trans h.size hg.size, fun k hk hl => (hg.block k (Nat.lt_of_lt_of_le hl h.size) (fun e => by have := hr k e.symm; omega)).trans (h.block k hk hl)⟩
theorem TapeK.ne {a : Option Addr} {len cap : Nat} {w : World} {b : Nat} (h : TapeK a len cap w b) {k : Nat} {cur : Array Value} {T : TypeId} (hT : T ≠ 50) (hc : w.heap[k]? = some (.cells cur T (0, 0))) : k ≠ b := by
  intro e
  subst e
  obtain ⟨q, h1, -⟩ := h
  rw [hc] at h1
  simp only [Option.some.injEq, Obj.cells.injEq] at h1
  exact hT h1.2.1
theorem TapeK.own {a : Option Addr} {len cap : Nat} {w w' : World} {b base size m : Nat} {T : TypeId} {v : Value} {xs : List Value} (h : TapeK a len cap w b) (hr : Bar b w w') (hT : T ≠ 50) (ho : w.ownsRow base T size v m xs) : w'.ownsRow base T size v m xs :=
  own_blocks ho (fun k cur hc => hr.block k (h.ne hT hc) (blk_lt hc))

set_option maxRecDepth 100000 in
set_option maxHeartbeats 2000000 in
theorem same5 (a1 a2 : Option Addr) (n c1 c2 : Nat) (cs : List Cd) (w : World) (h1 : CAt w a1 cs) (h2 : CAt w a2 cs) (hl : cs.length = n) (hc1 : n ≤ c1) (hc2 : n ≤ c2) (hm1 : c1 ≤ maxLen) (hm2 : c2 ≤ maxLen) :
    Calls Try.prog 13 #[.slice a1 n c1, .slice a2 n c2] w fun e w' => e = .returned (.bool true) ∧ Below w.heap.size w w' := by
  have HA1 := Lib.hid h1
  have HA2 := Lib.hid h2
  have HN := Lib.hid hl
  unfold maxLen at hm1 hm2
  clear h1 h2 hl
  go_enter Try.func13, Try.ntmps13
  go_wp2_with fail
  go_loopw [13] (fun j wr => ∃ J : Nat, J ≤ n ∧ j = .int .i64 (J : Int) ∧ Below w.heap.size w wr) (fun j _ => n - (intOf j).toNat)
  case atStart => exact ⟨0, by omega, rfl, Below.refl _ _⟩
  case round =>
    obtain ⟨w2, rfl⟩ : ∃ y : World, y = wr := ⟨_, rfl⟩
    obtain ⟨J, hJ, rfl, hb2⟩ := hrel
    by_cases hlt : J < n
    · obtain ⟨x, hx⟩ : ∃ x, cs[J]? = some x := ⟨_, List.getElem?_eq_getElem (by have := HN.out; omega)⟩
      obtain ⟨b1, o1, rfl⟩ : ∃ b o, a1 = some ⟨b, o, none⟩ := by
        rcases HA1.out with h | ⟨b, o, e, _⟩
        · rw [h] at hx; simp at hx
        · exact ⟨b, o, e⟩
      obtain ⟨b2, o2, rfl⟩ : ∃ b o, a2 = some ⟨b, o, none⟩ := by
        rcases HA2.out with h | ⟨b, o, e, _⟩
        · rw [h] at hx; simp at hx
        · exact ⟨b, o, e⟩
      obtain ⟨y0, y1, y2, y3, y4, y5, y6, y7, y8⟩ := (HA1.out.ext hb2).at hx
      obtain ⟨z0, z1, z2, z3, z4, z5, z6, z7, z8⟩ := (HA2.out.ext hb2).at hx
      have HB2 := Lib.hid hb2
      clear hx hb2
      go_wp2_with fail
      haveI hIq : Nonempty (Of w2) := of_some _
      have hFq0 := of_cell (W := w2) (b := b1) (o := o1 + J * 9) (v := .string x.a) (by first | (with_reducible assumption) | (with_reducible (refine ext_cell ((Below.refl _ _).alloc (Nat.le_refl _) _) ?_; assumption)) | (go_cell; done) | (go_keep; done))
      have hFq1 := of_cell (W := w2) (b := b1) (o := o1 + J * 9 + 1) (v := .string x.i) (by first | (with_reducible assumption) | (with_reducible (refine ext_cell ((Below.refl _ _).alloc (Nat.le_refl _) _) ?_; assumption)) | (go_cell; done) | (go_keep; done))
      have hFq2 := of_cell (W := w2) (b := b1) (o := o1 + J * 9 + 2) (v := .int .i64 x.s) (by first | (with_reducible assumption) | (with_reducible (refine ext_cell ((Below.refl _ _).alloc (Nat.le_refl _) _) ?_; assumption)) | (go_cell; done) | (go_keep; done))
      have hFq3 := of_cell (W := w2) (b := b1) (o := o1 + J * 9 + 3) (v := .int .i64 x.o) (by first | (with_reducible assumption) | (with_reducible (refine ext_cell ((Below.refl _ _).alloc (Nat.le_refl _) _) ?_; assumption)) | (go_cell; done) | (go_keep; done))
      have hFq4 := of_cell (W := w2) (b := b1) (o := o1 + J * 9 + 4) (v := .int .i64 x.l) (by first | (with_reducible assumption) | (with_reducible (refine ext_cell ((Below.refl _ _).alloc (Nat.le_refl _) _) ?_; assumption)) | (go_cell; done) | (go_keep; done))
      have hFq5 := of_cell (W := w2) (b := b1) (o := o1 + J * 9 + 5) (v := .int .i64 x.t) (by first | (with_reducible assumption) | (with_reducible (refine ext_cell ((Below.refl _ _).alloc (Nat.le_refl _) _) ?_; assumption)) | (go_cell; done) | (go_keep; done))
      have hFq6 := of_cell (W := w2) (b := b1) (o := o1 + J * 9 + 6) (v := .int .i64 x.k) (by first | (with_reducible assumption) | (with_reducible (refine ext_cell ((Below.refl _ _).alloc (Nat.le_refl _) _) ?_; assumption)) | (go_cell; done) | (go_keep; done))
      have hFq7 := of_cell (W := w2) (b := b1) (o := o1 + J * 9 + 7) (v := .int .i64 x.n) (by first | (with_reducible assumption) | (with_reducible (refine ext_cell ((Below.refl _ _).alloc (Nat.le_refl _) _) ?_; assumption)) | (go_cell; done) | (go_keep; done))
      have hFq8 := of_cell (W := w2) (b := b1) (o := o1 + J * 9 + 8) (v := .bool x.g) (by first | (with_reducible assumption) | (with_reducible (refine ext_cell ((Below.refl _ _).alloc (Nat.le_refl _) _) ?_; assumption)) | (go_cell; done) | (go_keep; done))
      have hFq9 := of_cell (W := w2) (b := b2) (o := o2 + J * 9) (v := .string x.a) (by first | (with_reducible assumption) | (with_reducible (refine ext_cell ((Below.refl _ _).alloc (Nat.le_refl _) _) ?_; assumption)) | (go_cell; done) | (go_keep; done))
      have hFq10 := of_cell (W := w2) (b := b2) (o := o2 + J * 9 + 1) (v := .string x.i) (by first | (with_reducible assumption) | (with_reducible (refine ext_cell ((Below.refl _ _).alloc (Nat.le_refl _) _) ?_; assumption)) | (go_cell; done) | (go_keep; done))
      have hFq11 := of_cell (W := w2) (b := b2) (o := o2 + J * 9 + 2) (v := .int .i64 x.s) (by first | (with_reducible assumption) | (with_reducible (refine ext_cell ((Below.refl _ _).alloc (Nat.le_refl _) _) ?_; assumption)) | (go_cell; done) | (go_keep; done))
      have hFq12 := of_cell (W := w2) (b := b2) (o := o2 + J * 9 + 3) (v := .int .i64 x.o) (by first | (with_reducible assumption) | (with_reducible (refine ext_cell ((Below.refl _ _).alloc (Nat.le_refl _) _) ?_; assumption)) | (go_cell; done) | (go_keep; done))
      have hFq13 := of_cell (W := w2) (b := b2) (o := o2 + J * 9 + 4) (v := .int .i64 x.l) (by first | (with_reducible assumption) | (with_reducible (refine ext_cell ((Below.refl _ _).alloc (Nat.le_refl _) _) ?_; assumption)) | (go_cell; done) | (go_keep; done))
      have hFq14 := of_cell (W := w2) (b := b2) (o := o2 + J * 9 + 5) (v := .int .i64 x.t) (by first | (with_reducible assumption) | (with_reducible (refine ext_cell ((Below.refl _ _).alloc (Nat.le_refl _) _) ?_; assumption)) | (go_cell; done) | (go_keep; done))
      have hFq15 := of_cell (W := w2) (b := b2) (o := o2 + J * 9 + 6) (v := .int .i64 x.k) (by first | (with_reducible assumption) | (with_reducible (refine ext_cell ((Below.refl _ _).alloc (Nat.le_refl _) _) ?_; assumption)) | (go_cell; done) | (go_keep; done))
      have hFq16 := of_cell (W := w2) (b := b2) (o := o2 + J * 9 + 7) (v := .int .i64 x.n) (by first | (with_reducible assumption) | (with_reducible (refine ext_cell ((Below.refl _ _).alloc (Nat.le_refl _) _) ?_; assumption)) | (go_cell; done) | (go_keep; done))
      have hFq17 := of_cell (W := w2) (b := b2) (o := o2 + J * 9 + 8) (v := .bool x.g) (by first | (with_reducible assumption) | (with_reducible (refine ext_cell ((Below.refl _ _).alloc (Nat.le_refl _) _) ?_; assumption)) | (go_cell; done) | (go_keep; done))
      first | (refine wp_region_stay w2 (by kernel_rfl) (by kernel_rfl) (by go_grown) ?_) | (refine wp_region_stay_seq w2 (by go_grown) ?_)
      repeat (go_big_quiet_step (fail))
      refine wpQuiet_nil ?_
      intro wq hq
      clear hIq hFq0 hFq1 hFq2 hFq3 hFq4 hFq5 hFq6 hFq7 hFq8 hFq9 hFq10 hFq11 hFq12 hFq13 hFq14 hFq15 hFq16 hFq17

      have HBq := Lib.hid (ext_trans HB2.out hq)
      clear hq
      go_wp2
      go_roundw
      case rel => exact ⟨J + 1, by omega, by go_num, HBq.out⟩
      case measure => simp [intOf]; omega
    · go_wp2
      go_ret
      exact ⟨rfl, hb2⟩

end Go.Proofs.Ytloeabdohgdmkaa
