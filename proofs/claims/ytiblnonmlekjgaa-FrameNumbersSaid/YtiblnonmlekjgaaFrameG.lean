/- The document's own stream is fed. -/
import Derived.Test.YtiblnonmlekjgaaFrameR
namespace Go.Proofs.Ytiblnonmlekjgaa
open Go.RowKit
set_option linter.unusedVariables false

set_option maxRecDepth 100000 in
set_option maxHeartbeats 1000000 in
theorem refGet (a : Option Addr) (n cap : Nat) (xs : List Int) (w : World) (h : BAt w a xs) (hl : xs.length = n) (h4 : 4 ≤ n) (hw : Wb xs) :
    Calls Try.prog 28 #[.slice a n cap] w fun e w' => e = .returned (.int .u32 (r4 xs)) ∧ Below w.heap.size w w' := by
  match xs, hl with
  | x0 :: x1 :: x2 :: x3 :: t, hl =>
    obtain ⟨p0, q0⟩ := hw x0 (by simp)
    obtain ⟨p1, q1⟩ := hw x1 (by simp)
    obtain ⟨p2, q2⟩ := hw x2 (by simp)
    obtain ⟨p3, q3⟩ := hw x3 (by simp)
    rcases h with h | ⟨b, o, rfl, hc⟩
    · cases h
    · have c0 := hc 0 x0 rfl
      have c1 := hc 1 x1 rfl
      have c2 := hc 2 x2 rfl
      have c3 := hc 3 x3 rfl
      have hv := Lib.hid (word_val x0 x1 x2 x3 p0 q0 p1 q1 p2 q2 p3 q3)
      have hr : r4 (x0 :: x1 :: x2 :: x3 :: t) = x0 * 16777216 + x1 * 65536 + x2 * 256 + x3 := by simp [r4]
      rw [hr]
      rw [Nat.add_zero] at c0
      clear hc hl hw hr
      go_enter Try.func28, Try.ntmps28
      go_wp2_with fail
      haveI hIq : Nonempty (Of w) := of_some _
      have hF0 := of_cell c0
      have hF1 := of_cell c1
      have hF2 := of_cell c2
      have hF3 := of_cell c3
      refine wp_region_stay w (by kernel_rfl) (by kernel_rfl) (by go_grown) ?_
      repeat (go_big_quiet_step (fail))
      refine wpQuiet_nil ?_
      intro w1 hb
      clear hIq hF0 hF1 hF2 hF3
      go_wp2
      go_ret
      exact ⟨congrArg (fun z => Ending.returned (Value.int .u32 z)) hv.out, hb⟩
  | [], hl => simp at hl; omega
  | [_], hl => simp at hl; omega
  | [_, _], hl => simp at hl; omega
  | [_, _, _], hl => simp at hl; omega

/-- block b may hold something other; new memory may have been made -/
structure Rim (b : Nat) (w w' : World) : Prop where
  os : w'.os = w.os
  tape : w'.tape = w.tape
  output : w'.output = w.output
  size : w.heap.size ≤ w'.heap.size
  block : ∀ k, k ≠ b → k < w.heap.size → w'.heap[k]? = w.heap[k]?
theorem Rim.of {b : Nat} {w w' : World} (h : Below w.heap.size w w') : Rim b w w' := ⟨h.os, h.tape, h.output, h.size, fun k _ hl => h.block k hl⟩
theorem Rim.kept {b : Nat} {w w' : World} (h : Kept b w w') : Rim b w w' := ⟨h.os, h.tape, h.output, Nat.le_of_eq h.size.symm, fun k hk _ => h.block k hk⟩
theorem Rim.trans {b : Nat} {u v w : World} (h : Rim b u v) (k : Rim b v w) : Rim b u w :=
  ⟨k.os.trans h.os, k.tape.trans h.tape, k.output.trans h.output, Nat.le_trans h.size k.size, fun i hi hl => (k.block i hi (Nat.lt_of_lt_of_le hl h.size)).trans (h.block i hi hl)⟩
theorem Rim.below {b n : Nat} {w w' : World} (h : Rim b w w') (hn : n ≤ b) (hz : n ≤ w.heap.size) : Below n w w' := ⟨h.os, h.tape, h.output, h.size, fun k hk => h.block k (by omega) (by omega)⟩

/-- at block wb the document's own stream lies -/
def RefAt (w : World) (wb : Nat) (l : List Int) (why : Int) (g : Option Nat) : Prop := ∃ (a : Option Addr) (c : Nat), w.heap[wb]? = some (.cells #[.slice a l.length c, .int .i64 why] 47 (0, 0)) ∧ l.length ≤ c ∧ c ≤ maxLen ∧ BAt w a l ∧ UAt w a ∧ Wb l ∧ ((a = none ∧ c = 0) ∨ ∃ b o, a = some ⟨b, o, none⟩) ∧ (∀ b o, a = some ⟨b, o, none⟩ → some b ≠ g)
theorem RefAt.lt {w : World} {wb : Nat} {l : List Int} {why : Int} {g : Option Nat} (h : RefAt w wb l why g) : wb < w.heap.size := by
  obtain ⟨a, c, h1, _⟩ := h; exact blk_lt h1
theorem RefAt.ext {w w' : World} {wb : Nat} {l : List Int} {why : Int} {g : Option Nat} (h : RefAt w wb l why g) (hb : Below w.heap.size w w') : RefAt w' wb l why g := by
  obtain ⟨a, c, h1, h2, h3, h4, h5, h6⟩ := h
  exact ⟨a, c, blk_ext hb h1, h2, h3, h4.ext hb, h5.ext hb, h6⟩
def leftOf (wb : Nat) (w : World) : Nat := match w.heap[wb]? with
  | some (.cells cs _ _) => lenV (cs.getD 0 undef)
  | _ => 0
theorem leftOf_eq {wb : Nat} {w : World} {a : Option Addr} {n c : Nat} {v : Value} {T : TypeId} (h : w.heap[wb]? = some (.cells #[.slice a n c, v] T (0, 0))) : leftOf wb w = n := by
  unfold leftOf
  rw [h]
  rfl

def RefP (wb : Nat) (g : Option Nat) (l xs : List Int) (w : World) (e : Ending) (w' : World) : Prop :=
  ∃ (fv : Value) (fsx : List (List Int)) (l' : List Int) (why' : Int) (vals : List Value), e = .returned (.tuple #[fv, .int .i64 why']) ∧ Runs (l ++ xs) [] (fsx, l', why') ∧ RefAt w' wb l' why' g ∧
    w'.ownsRow w.heap.size 22 1 fv fsx.length vals ∧ VAt w.heap.size none w' vals fsx ∧ Rim wb w w'

set_option maxRecDepth 100000 in
set_option maxHeartbeats 1000000 in
theorem refFeed_no (wb : Nat) (g : Option Nat) (l : List Int) (why : Int) (a : Option Addr) (n cap : Nat) (w : World) (h : RefAt w wb l why g) (hy : why ≠ 0) :
    Calls Try.prog 21 #[.pointer (some ⟨wb, 0, none⟩), .slice a n cap] w fun e w' => e = .returned (.tuple #[.slice none 0 0, .int .i64 why]) ∧ Below w.heap.size w w' := by
  have hlt := h.lt
  obtain ⟨a1, c1, h1, -⟩ := h
  have hc := blk_cell h1
  have H1 := Lib.hid h1
  have hd : (why == 0) = false := by simp [hy]
  have hd2 : (why != 0) = true := by simp [hy]
  clear h1 hy
  go_enter Try.func21, Try.ntmps21
  go_wp2_with fail
  haveI hIq : Nonempty (Of w) := of_some _
  have hF0 := blk_of H1.out
  refine wp_region_stay w (by kernel_rfl) (by kernel_rfl) (by go_grown) ?_
  repeat (go_big_quiet_step (fail))
  refine wpQuiet_nil ?_
  intro w1 hb
  clear hIq hF0
  go_wp2
  go_ret2
  exact ⟨rfl, hb⟩

set_option maxRecDepth 100000 in
set_option maxHeartbeats 4000000 in
theorem refFeed (wb : Nat) (g : Option Nat) (l : List Int) (a : Option Addr) (n cap : Nat) (xs : List Int) (w : World) (h : RefAt w wb l 0 g) (hg : ∀ k, g = some k → k < w.heap.size) (hx : BAt w a xs) (hl : xs.length = n) (hw : Wb xs) (hs : 3 * (l.length + n) ≤ 140737488355328) :
    Calls Try.prog 21 #[.pointer (some ⟨wb, 0, none⟩), .slice a n cap] w (RefP wb g l xs w) := by
  obtain ⟨i0, hi, hz0, hz1, hz2⟩ := info_parts info_u8
  obtain ⟨j0, hj, hjz, hj1, hj2⟩ := info_parts info_bs
  have hlt := h.lt
  obtain ⟨al, cl, h1, hlc, hlm, hlb, hlu, hlw, -⟩ := h
  have hc := blk_cell h1
  have hf := blk_free h1
  have H1 := Lib.hid h1
  have HX := Lib.hid hx
  have HL := Lib.hid hl
  have HW := Lib.hid hw
  have HLW := Lib.hid hlw
  have O0 : (w.alloc (.cells #[] 5)).ownsRow w.heap.size 5 1 (.slice (some ⟨w.heap.size, 0, none⟩) 0 0) 0 (bc []) := World.ownsRow_made w #[] 0 (Nat.le_refl _) (by unfold maxLen; omega) rfl
  have B0 : Below w.heap.size w (w.alloc (.cells #[] 5)) := (Below.refl _ _).alloc (Nat.le_refl _) _
  have A0 := hlb.ext B0
  obtain ⟨Ln, hLn⟩ : ∃ Ln, l.length = Ln := ⟨_, rfl⟩
  have HLn := Lib.hid hLn
  rw [hLn] at hs hc hlc
  clear h1 hx hl hw hlb hlw hLn hlu
  go_enter Try.func21, Try.ntmps21
  go_wp2_with (at_builtin; refine wpList_append_bytes _ rfl _ _ 22 rfl (w.heap.size) 5 i0 Try.underlying22 hi hz0 hz1 hz2 (.slice (some ⟨w.heap.size, 0, none⟩) 0 0) (0) ([]) rfl (O0) (al) (Ln) (cl) (l) rfl (A0) (HLn.out) ?c3 ?c4 ?c5 ?_)
  case c3 => unfold maxLen; omega
  case c4 => omega
  case c5 => exact B0.size
  intro v1 w1 ho1 hg1
  have B1 := B0.grown hg1 B0.size (fun q hq => own_ge O0 hq)
  have HO1 := Lib.hid (show w1.ownsRow w.heap.size 5 1 v1 Ln (bc l) by simpa using ho1)
  have A1 := HX.out.ext B1
  clear ho1 hg1 O0 B0 A0
  go_wp2_with (at_builtin; refine wpList_append_bytes _ rfl _ _ 22 rfl (w.heap.size) 5 i0 Try.underlying22 hi hz0 hz1 hz2 _ (Ln) (l) rfl (HO1.out) (a) (n) (cap) (xs) rfl (A1) (HL.out) ?c3 ?c4 ?c5 ?_)
  case c3 => unfold maxLen; omega
  case c4 => omega
  case c5 => exact B1.size
  intro v2 w2 ho2 hg2
  have B2 := B1.grown hg2 B1.size (fun q hq => own_ge HO1.out hq)
  obtain ⟨y, hy⟩ : ∃ y, y = l ++ xs := ⟨_, rfl⟩
  have hyl : y.length = Ln + n := by rw [hy, List.length_append, HLn.out, HL.out]
  have ho2' : w2.ownsRow w.heap.size 5 1 v2 y.length (bc y) := by rw [hyl, hy]; exact ho2
  obtain ⟨a2, c2, rfl, -, hc2, hm2, hA2, hfr2, -⟩ := own_read ho2'
  have HFR2 := Lib.hid (show ∀ b o, a2 = some ⟨b, o, none⟩ → w.heap.size ≤ b from fun b o e => (hfr2 b o e).2.1)
  have HGG := Lib.hid hg
  clear hfr2 hg
  have hfm2 : (a2 = none ∧ c2 = 0) ∨ ∃ b o, a2 = some ⟨b, o, none⟩ := by
    rcases ho2'.2 with ⟨e, _⟩ | ⟨g, cp, cur, e, _⟩
    · simp at e; exact .inl ⟨e.1, e.2.2⟩
    · simp at e; exact .inr ⟨g, 0, e.1⟩
  have HFM2 := Lib.hid hfm2
  have HU2 := Lib.hid (own_uat ho2')
  have HA2 := Lib.hid hA2
  have HY := Lib.hid hy
  have HWY := Lib.hid (show Wb y by rw [hy]; exact HLW.out.app HW.out)
  have hylle : 3 * y.length ≤ 140737488355328 := by omega
  have HB2 := Lib.hid (blk_ext B2 H1.out)
  have hcb := blk_cell HB2.out
  have hfb := blk_free HB2.out
  have hlb2 := blk_lt HB2.out
  unfold maxLen at hm2
  clear ho2 hg2 ho2' hA2 hy hyl A1 hc hf hfm2 HO1
  go_wp2_with fail
  have hk3 : Kept wb w2 (w2.setCell ⟨wb, 0, none⟩ (.slice a2 y.length c2)) := (Kept.refl _ _).setCell _ _
  have R3 := Lib.hid ((Rim.of B2).trans (Rim.kept hk3))
  have HB3 := Lib.hid (blk_set (vs' := #[.slice a2 y.length c2, .int .i64 0]) HB2.out (by simp) : (w2.setCell ⟨wb, 0, none⟩ (.slice a2 y.length c2)).heap[wb]? = some (.cells #[.slice a2 y.length c2, .int .i64 0] 47 (0, 0)))
  have HU3 := Lib.hid (show UAt (w2.setCell ⟨wb, 0, none⟩ (.slice a2 y.length c2)) a2 from fun b o e => by
    obtain ⟨cur, hcur⟩ := HU2.out b o e
    refine ⟨cur, (hk3.block b (fun e' => ?_)).trans hcur⟩
    subst e'
    rw [HB2.out] at hcur
    simp at hcur)
  have HA3 := Lib.hid (HA2.out.keep (w' := w2.setCell ⟨wb, 0, none⟩ (.slice a2 y.length c2)) (fun b o e p v hc => by
    obtain ⟨cur, hcur⟩ := HU2.out b o e
    refine hk3.cell (fun e' => ?_) hc
    subst e'
    rw [HB2.out] at hcur
    simp at hcur))
  generalize (w2.setCell ⟨wb, 0, none⟩ (.slice a2 y.length c2)) = w3 at *
  have Z3 := R3.out.size
  clear hcb hfb hlb2 hk3 HB2 HU2 HA2 B1 B2
  go_loopw [6] (fun fv wr => ∃ (acc : List (List Int)) (rw : List Int) (a4 : Option Addr) (c4 : Nat) (vals : List Value), wr.heap[wb]? = some (.cells #[.slice a4 rw.length c4, .int .i64 0] 47 (0, 0)) ∧ BAt wr a4 rw ∧ UAt wr a4 ∧ rw.length ≤ c4 ∧ c4 ≤ 9223372036854775807 ∧ Wb rw ∧ ((a4 = none ∧ c4 = 0) ∨ ∃ b o, a4 = some ⟨b, o, none⟩) ∧ (∀ b o, a4 = some ⟨b, o, none⟩ → w.heap.size ≤ b) ∧ wr.ownsRow w.heap.size 22 1 fv acc.length vals ∧ 8 * acc.length + rw.length ≤ y.length ∧ VAt w.heap.size none wr vals acc ∧ Rim wb w wr ∧ (∀ out, Runs rw acc out → Runs y [] out)) (fun _ wr => leftOf wb wr)
  case atStart => exact ⟨[], y, a2, c2, [], HB3.out, HA3.out, HU3.out, hc2, by omega, HWY.out, HFM2.out, HFR2.out, World.ownsRow_nil _ _ _ _, by simp, VAt.nil _ _ _, R3.out, fun _ h => h⟩
  case round =>
    obtain ⟨w4, rfl⟩ : ∃ y : World, y = wr := ⟨_, rfl⟩
    obtain ⟨acc, rw', a4, c4, vals, hblk, hA4, hU4, hc4, hm4, hw4, hfm4, hfr4, hof, hal, hv, R4, hruns⟩ := hrel
    have HB4 := Lib.hid hblk
    have HA4 := Lib.hid hA4
    have HU4 := Lib.hid hU4
    have HW4 := Lib.hid hw4
    have HF4 := Lib.hid hfm4
    have HFR := Lib.hid hfr4
    have HOF := Lib.hid hof
    have HV := Lib.hid hv
    have HR4 := Lib.hid R4
    have HRU := Lib.hid hruns
    have hcb := blk_cell hblk
    have hfb := blk_free hblk
    have hlb := blk_lt hblk
    have Z4 := R4.size
    have HLF := Lib.hid (leftOf_eq hblk)
    clear hblk hA4 hU4 hw4 hfm4 hfr4 hof hv R4 hruns R3 HB3 HU3 HA3 Z3 HFM2
    have hcs := fs_cases rw'
    by_cases h4 : rw'.length < 4
    · have HFS := Lib.hid (fs_short h4)
      have hd : decide (4 ≤ (rw'.length : Int)) = false := by simp; omega
      obtain ⟨af, cf, rfl⟩ := own_form HOF.out
      clear hcs
      go_wp2
      go_ret2
      exact ⟨_, acc, rw', 0, vals, rfl, by rw [← HY.out]; exact HRU.out _ (.stop HFS.out), ⟨a4, c4, HB4.out, hc4, by unfold maxLen; omega, HA4.out, HU4.out, HW4.out, HF4.out, fun b o e h => by have h1 := HFR.out b o e; have h2 := HGG.out b h.symm; omega⟩, HOF.out, HV.out, HR4.out⟩
    · have hd : decide (4 ≤ (rw'.length : Int)) = true := by simp; omega
      obtain ⟨K, hK⟩ := Int.eq_ofNat_of_zero_le (r4_in rw' HW4.out).1
      rw [hK] at hcs
      simp only [Int.toNat_natCast] at hcs
      have HK := Lib.hid hK
      clear hK
      rcases hcs with ⟨h1, hf⟩ | ⟨h1, h2, hf⟩ | ⟨h1, h2, h3, hf⟩ | ⟨h1, h2, h3, hf⟩ | ⟨h1, h2, h3, hf⟩
      · omega
      · have HFS := Lib.hid hf
        have hd2 : decide (8192 < (K : Int)) = true := by simp; omega
        clear hf
        go_wp2_with fail
        refine (refGet a4 _ c4 rw' _ HA4.out rfl (by omega) HW4.out).mono ?_
        rintro e w5 ⟨rfl, hb⟩
        rw [HK.out]
        have HB5 := Lib.hid (blk_ext hb HB4.out)
        have HR5 := Lib.hid (HR4.out.trans (Rim.of hb))
        have HOF5 := Lib.hid (ownsRow_ext HOF.out hb)
        have HV5 := Lib.hid (HV.out.ext hb)
        have HA5 := Lib.hid (HA4.out.ext hb)
        have HU5 := Lib.hid (HU4.out.ext hb)
        have hcb5 := blk_cell HB5.out
        have hfb5 := blk_free HB5.out
        have hlb5 := blk_lt HB5.out
        clear hb hcb hfb hlb
        obtain ⟨af, cf, rfl⟩ := own_form HOF5.out
        go_wp2_with fail
        have hk7 : Kept wb w5 ((w5.setCell ⟨wb, 1, none⟩ (.int .i64 3)).setCell ⟨wb, 0, none⟩ (.slice none 0 0)) := ((Kept.refl _ _).setCell _ _).setCell _ _
        have HB7 := Lib.hid (blk_set (vs' := #[.slice none 0 0, .int .i64 3]) (blk_set (vs' := #[.slice a4 rw'.length c4, .int .i64 3]) HB5.out (by simp)) (by simp) : ((w5.setCell ⟨wb, 1, none⟩ (.int .i64 3)).setCell ⟨wb, 0, none⟩ (.slice none 0 0)).heap[wb]? = some (.cells #[.slice none 0 0, .int .i64 3] 47 (0, 0)))
        have HR7 := Lib.hid (HR5.out.trans (Rim.kept hk7))
        have HOF7 := Lib.hid (ownsRow_keep HOF5.out hk7 (own_ne HOF5.out HB5.out (by decide)))
        have HV7 := Lib.hid (HV5.out.keep (w' := ((w5.setCell ⟨wb, 1, none⟩ (.int .i64 3)).setCell ⟨wb, 0, none⟩ (.slice none 0 0))) (g' := none) (fun b cur hc _ _ => hk7.block b (fun e => by subst e; have h1 := HB5.out; rw [hc] at h1; simp at h1)) (fun b _ _ _ => by simp) (Nat.le_refl _))
        clear hk7
        generalize ((w5.setCell ⟨wb, 1, none⟩ (.int .i64 3)).setCell ⟨wb, 0, none⟩ (.slice none 0 0)) = w7 at *
        haveI hIq : Nonempty (Of w7) := of_some _
        have hF0 := blk_of HB7.out
        refine wp_region_stay w7 (by kernel_rfl) (by kernel_rfl) (by go_grown) ?_
        repeat (go_big_quiet_step (fail))
        refine wpQuiet_nil ?_
        intro w8 hb
        clear hIq hF0
        have HB8 := Lib.hid (blk_ext hb HB7.out)
        have HR8 := Lib.hid (HR7.out.trans (Rim.of hb))
        have HOF8 := Lib.hid (ownsRow_ext HOF7.out hb)
        have HV8 := Lib.hid (HV7.out.ext hb)
        clear hb
        go_wp2
        go_ret2
        refine ⟨_, acc, [], 3, vals, rfl, ?_, ⟨none, 0, HB8.out, Nat.le_refl _, Nat.zero_le _, .inl rfl, (fun b o e => by cases e), Wb.nil, .inl ⟨rfl, rfl⟩, (fun b o e => by cases e)⟩, HOF8.out, HV8.out, HR8.out⟩
        rw [← HY.out]
        have h1 := Runs.bad (row := rw') (acc := acc) (by rw [HFS.out]; simp)
        rw [HFS.out] at h1
        exact HRU.out _ h1
      · have HFS := Lib.hid hf
        have hd2 : decide (8192 < (K : Int)) = false := by simp; omega
        have hd3 : decide ((rw'.length : Int) < (K : Int) + 8) = true := by simp; omega
        clear hf
        go_wp2_with fail
        refine (refGet a4 _ c4 rw' _ HA4.out rfl (by omega) HW4.out).mono ?_
        rintro e w5 ⟨rfl, hb⟩
        rw [HK.out]
        have HB5 := Lib.hid (blk_ext hb HB4.out)
        have HR5 := Lib.hid (HR4.out.trans (Rim.of hb))
        have HOF5 := Lib.hid (ownsRow_ext HOF.out hb)
        have HV5 := Lib.hid (HV.out.ext hb)
        have HA5 := Lib.hid (HA4.out.ext hb)
        have HU5 := Lib.hid (HU4.out.ext hb)
        have hcb5 := blk_cell HB5.out
        have hfb5 := blk_free HB5.out
        have hlb5 := blk_lt HB5.out
        clear hb hcb hfb hlb
        obtain ⟨af, cf, rfl⟩ := own_form HOF5.out
        go_wp2
        go_ret2
        exact ⟨_, acc, rw', 0, vals, rfl, by rw [← HY.out]; exact HRU.out _ (.stop HFS.out), ⟨a4, c4, HB5.out, hc4, by unfold maxLen; omega, HA5.out, HU5.out, HW4.out, HF4.out, fun b o e h => by have h1 := HFR.out b o e; have h2 := HGG.out b h.symm; omega⟩, HOF5.out, HV5.out, HR5.out⟩
      · have HFS := Lib.hid hf
        have hEq : (r4 (rw'.drop (K + 4)) == sm (rw'.take (K + 4))) = true := beq_iff_eq.2 h3
        have hNe : (r4 (rw'.drop (K + 4)) != sm (rw'.take (K + 4))) = false := by simp [h3]
        clear hf h3
        obtain ⟨b, o, rfl⟩ : ∃ b o, a4 = some ⟨b, o, none⟩ := by
          rcases HA4.out with h | ⟨b, o, e, _⟩
          · rw [h] at h2; simp at h2
          · exact ⟨b, o, e⟩
        go_wp2_with fail
        refine (refGet (some ⟨b, o, none⟩) _ c4 rw' _ HA4.out rfl (by omega) HW4.out).mono ?_
        rintro e w5 ⟨rfl, hb⟩
        rw [HK.out]
        have HB5 := Lib.hid (blk_ext hb HB4.out)
        have HR5 := Lib.hid (HR4.out.trans (Rim.of hb))
        have HOF5 := Lib.hid (ownsRow_ext HOF.out hb)
        have HV5 := Lib.hid (HV.out.ext hb)
        have HA5 := Lib.hid (HA4.out.ext hb)
        have HU5 := Lib.hid (HU4.out.ext hb)
        have hcb5 := blk_cell HB5.out
        have hfb5 := blk_free HB5.out
        have hlb5 := blk_lt HB5.out
        clear hb hcb hfb hlb
        obtain ⟨af, cf, rfl⟩ := own_form HOF5.out
        have hne : ¬ c4 = K + 4 := by omega
        have HDL := Lib.hid (show (rw'.drop (K + 4)).length = rw'.length - (K + 4) by rw [List.length_drop])
        have HTL := Lib.hid (show (rw'.take (K + 4)).length = K + 4 by rw [List.length_take]; omega)
        have hd2 : decide (8192 < (K : Int)) = false := by simp; omega
        have hd3 : decide ((rw'.length : Int) < (K : Int) + 8) = false := by simp; omega
        go_wp2_with fail
        haveI hIq : Nonempty (Of w5) := of_some _
        have hF0 := blk_of HB5.out
        refine wp_region_stay w5 (by kernel_rfl) (by kernel_rfl) (by go_grown) ?_
        repeat (go_big_quiet_step ((first | (go_at_call 28; refine stay_call (refGet (some ⟨b, o + (K + 4), none⟩) (rw'.length - (K + 4)) (c4 - (K + 4)) (rw'.drop (K + 4)) _ ((HA5.out.drop (K + 4)).ext (In.h _)) HDL.out (by omega) (HW4.out.drop (K + 4)))) | (go_at_call 14; refine stay_same (refSum (some ⟨b, o, none⟩) (K + 4) c4 (rw'.take (K + 4)) _ ((HA5.out.take (K + 4)).ext (In.h _)) HTL.out (HW4.out.take (K + 4)) (by omega))))))
        refine wpQuiet_nil ?_
        intro w6 hb
        clear hIq hF0
        have HB6 := Lib.hid (blk_ext hb HB5.out)
        have HR6 := Lib.hid (HR5.out.trans (Rim.of hb))
        have HOF6 := Lib.hid (ownsRow_ext HOF5.out hb)
        have HV6 := Lib.hid (HV5.out.ext hb)
        have HA6 := Lib.hid (HA5.out.ext hb)
        have HU6 := Lib.hid (HU5.out.ext hb)
        have hcb6 := blk_cell HB6.out
        have hfb6 := blk_free HB6.out
        have hlb6 := blk_lt HB6.out
        clear hb hcb5 hfb5 hlb5
        have hin : inn (rw'.take (K + 8)) = (rw'.take (K + 4)).drop 4 := by
          unfold inn
          rw [List.length_take, show min (K + 8) rw'.length - 4 = K + 4 from by omega, List.take_take, show min (K + 4) (K + 8) = K + 4 from by omega]
        obtain ⟨f, hf⟩ : ∃ f, f = inn (rw'.take (K + 8)) := ⟨_, rfl⟩
        have HF7 := Lib.hid hf
        have HFL := Lib.hid (show f.length = 4 + K - 4 by rw [hf, hin, List.length_drop, List.length_take]; omega)
        have hAf : BAt w6 (some ⟨b, o + 4, none⟩) f := by rw [hf, hin]; exact (HA6.out.take (K + 4)).drop 4
        have hne4 : ¬ c4 = 4 := by omega
        have O0 : (w6.alloc (.cells #[] 5)).ownsRow w6.heap.size 5 1 (.slice (some ⟨w6.heap.size, 0, none⟩) 0 0) 0 (bc []) := World.ownsRow_made w6 #[] 0 (Nat.le_refl _) (by unfold maxLen; omega) rfl
        have B0 : Below w6.heap.size w6 (w6.alloc (.cells #[] 5)) := (Below.refl _ _).alloc (Nat.le_refl _) _
        have A0 := hAf.ext B0
        have Z6 := HR6.out.size
        have HDL8 := Lib.hid (show (rw'.drop (K + 8)).length = rw'.length - (K + 8) by rw [List.length_drop])
        clear hf hin hAf
        go_wp2_with (at_builtin; refine wpList_append_bytes _ rfl _ _ 22 rfl (w6.heap.size) 5 i0 Try.underlying22 hi hz0 hz1 hz2 (.slice (some ⟨w6.heap.size, 0, none⟩) 0 0) (0) ([]) rfl (O0) (some ⟨b, o + 4, none⟩) ((4 + K - 4)) (_) (f) rfl (A0) (HFL.out) ?c3 ?c4 ?c5 ?_)
        case c3 => unfold maxLen; omega
        case c4 => omega
        case c5 => exact B0.size
        intro v7 w7 ho7 hg7
        have B7 := B0.grown hg7 B0.size (fun q hq => own_ge O0 hq)
        have ho7' : w7.ownsRow w6.heap.size 5 1 v7 f.length (bc f) := by rw [HFL.out]; simpa using ho7
        obtain ⟨a7, c7, rfl, -, hc7, hm7, hA7, hown7, -⟩ := own_read ho7'
        have HA7' := Lib.hid hA7
        have HU7' := Lib.hid (own_uat ho7')
        have HLO7 := Lib.hid (show ∀ b o, a7 = some ⟨b, o, none⟩ → w.heap.size ≤ b ∧ some b ≠ (none : Option Nat) from fun b o e => ⟨Nat.le_trans Z6 (hown7 b o e).2.1, by simp⟩)
        have HC7 := Lib.hid hc7
        have HM7 := Lib.hid hm7
        have HB7 := Lib.hid (blk_ext B7 HB6.out)
        have HR7 := Lib.hid (HR6.out.trans (Rim.of B7))
        have O7 := ownsRow_ext HOF6.out B7
        have HV7 := Lib.hid (HV6.out.ext B7)
        have HA7 := Lib.hid (HA6.out.ext B7)
        have HU7 := Lib.hid (HU6.out.ext B7)
        have Z7 := HR7.out.size
        have hacl : 24 * (acc.length + 1) ≤ 140737488355328 := by omega
        clear ho7 hg7 ho7' hA7 hown7 O0 B0 A0 hc7 hm7 hcb6 hfb6 hlb6 B7
        go_wp2_with (at_builtin; refine wpList_append_own _ rfl _ _ 24 rfl (w.heap.size) 22 j0 (.slice none 0 0) 1 24 Try.underlying24 hj hjz hj1 hj2 rfl (by decide) _ _ _ rfl (O7.alloc _) ⟨w7.heap.size, 0, none⟩ 1 1 [.slice a7 f.length c7] rfl rfl ?c1 ?c2 ?c3 ?c4 ?c5 ?_)
        case c1 =>
          intro j' u hj'
          match j', hj' with
          | 0, hj' => simp at hj'; subst hj'; simp [Addr.add, go_sem]
        case c2 => intro u hu; simp at hu; subst hu; rfl
        case c3 => unfold maxLen; omega
        case c4 => omega
        case c5 => simp; omega
        intro v8 w8 ho8 hg8 _
        have hkb : ∀ (b : Nat) (cur : Array Value) (T : TypeId), T ≠ 22 → w7.heap[b]? = some (.cells cur T (0, 0)) → w8.heap[b]? = w7.heap[b]? := fun b cur T hT hc => by
          have h1 := hg8.block b (by have := blk_lt hc; simp; omega) (own_ne (e' := T) (cur := cur) (O7.alloc (Obj.cells #[.slice a7 f.length c7] 22)) (blk_alloc hc _) hT)
          exact h1.trans ((blk_alloc hc (Obj.cells #[.slice a7 f.length c7] 22)).trans hc.symm)
        have HV8 := Lib.hid ((HV7.out.snoc HA7'.out HC7.out HM7.out HU7'.out HLO7.out).keep (w' := w8) (g' := none) (fun b cur hc _ _ => hkb b cur _ (by decide) hc) (fun b _ _ _ => by simp) (Nat.le_refl _))
        have HOF8 := Lib.hid ho8
        have HB8 := Lib.hid ((hkb wb _ _ (by decide) HB7.out).trans HB7.out)
        have HA8 := Lib.hid (HA7.out.keep (w' := w8) (fun b' o' e p v hc => by
          obtain ⟨cur, hcur⟩ := HU7.out b' o' e
          exact (World.cell?_of_block (w := w7) (hkb b' cur _ (by decide) hcur)).trans hc))
        have HU8 := Lib.hid (show UAt w8 (some ⟨b, o, none⟩) from fun b' o' e => by
          obtain ⟨cur, hcur⟩ := HU7.out b' o' e
          exact ⟨cur, (hkb b' cur _ (by decide) hcur).trans hcur⟩)
        have HR8 := Lib.hid (show Rim wb w w8 from by
          have hbl : Below w.heap.size w7 w8 := ((Below.refl w.heap.size w7).alloc Z7 (Obj.cells #[.slice a7 f.length c7] 22)).grown hg8 (by simp; omega) (fun q hq => own_ge O7 hq)
          exact ⟨hbl.os.trans HR7.out.os, hbl.tape.trans HR7.out.tape, hbl.output.trans HR7.out.output, Nat.le_trans Z7 hbl.size, fun k h1 h2 => (hbl.block k h2).trans (HR7.out.block k h1 h2)⟩)
        have hcb8 := blk_cell HB8.out
        have hfb8 := blk_free HB8.out
        have hlb8 := blk_lt HB8.out
        clear ho8 hg8 hkb O7
        rcases Classical.propComplete (c4 = K + 8) with hce | hce
        · go_wp2
          have hk9 : Kept wb w8 (w8.setCell ⟨wb, 0, none⟩ (.slice (some ⟨b, o, none⟩) (rw'.length - (K + 8)) (c4 - (K + 8)))) := (Kept.refl _ _).setCell _ _
          have HB9 := (blk_set (vs' := #[.slice (some ⟨b, o, none⟩) (rw'.length - (K + 8)) (c4 - (K + 8)), .int .i64 0]) HB8.out (by simp) : (w8.setCell ⟨wb, 0, none⟩ (.slice (some ⟨b, o, none⟩) (rw'.length - (K + 8)) (c4 - (K + 8)))).heap[wb]? = some (.cells #[.slice (some ⟨b, o, none⟩) (rw'.length - (K + 8)) (c4 - (K + 8)), .int .i64 0] 47 (0, 0)))
          have hkb9 : ∀ (q : Nat) (cur : Array Value), w8.heap[q]? = some (.cells cur 5 (0, 0)) → (w8.setCell ⟨wb, 0, none⟩ (.slice (some ⟨b, o, none⟩) (rw'.length - (K + 8)) (c4 - (K + 8)))).heap[q]? = w8.heap[q]? := fun q cur hc => hk9.block q (fun e => by subst e; have h1 := HB8.out; rw [hc] at h1; simp at h1)
          have hA9 : BAt (w8.setCell ⟨wb, 0, none⟩ (.slice (some ⟨b, o, none⟩) (rw'.length - (K + 8)) (c4 - (K + 8)))) (some ⟨b, o, none⟩) rw' := HA8.out.keep (fun b' o' e p v hc => by
            obtain ⟨cur, hcur⟩ := HU8.out b' o' e
            exact (World.cell?_of_block (w := w8) (hkb9 b' cur hcur)).trans hc)
          have hU9 : UAt (w8.setCell ⟨wb, 0, none⟩ (.slice (some ⟨b, o, none⟩) (rw'.length - (K + 8)) (c4 - (K + 8)))) (some ⟨b, o, none⟩) := fun b' o' e => by
            obtain ⟨cur, hcur⟩ := HU8.out b' o' e
            exact ⟨cur, (hkb9 b' cur hcur).trans hcur⟩
          refine ⟨⟨acc ++ [f], rw'.drop (K + 8), some ⟨b, o, none⟩, c4 - (K + 8), vals ++ [.slice a7 f.length c7], by rw [HDL8.out]; exact HB9, .inl (List.drop_eq_nil_of_le (by have := of_eq_true hce; omega)), hU9, by rw [HDL8.out]; omega, by omega, HW4.out.drop _, .inr ⟨_, _, rfl⟩, (fun b' o' e => by simp at e; have h := HFR.out b o rfl; omega), by have h := ownsRow_keep HOF8.out hk9 (own_ne HOF8.out HB8.out (by decide)); simpa using h, by rw [HDL8.out]; simp; omega, HV8.out.keep (fun q cur hc _ _ => hkb9 q cur hc) (fun b _ _ _ => by simp) (Nat.le_refl _), HR8.out.trans (Rim.kept hk9), fun out h => HRU.out out (.step (by rw [HFS.out]) (by rw [HFS.out]; simp) (by rw [HFS.out, ← HF7.out]; exact h))⟩, ?_⟩
          rw [HLF.out, leftOf_eq HB9]
          omega
        · go_wp2
          have hk9 : Kept wb w8 (w8.setCell ⟨wb, 0, none⟩ (.slice (some ⟨b, o + (K + 8), none⟩) (rw'.length - (K + 8)) (c4 - (K + 8)))) := (Kept.refl _ _).setCell _ _
          have HB9 := (blk_set (vs' := #[.slice (some ⟨b, o + (K + 8), none⟩) (rw'.length - (K + 8)) (c4 - (K + 8)), .int .i64 0]) HB8.out (by simp) : (w8.setCell ⟨wb, 0, none⟩ (.slice (some ⟨b, o + (K + 8), none⟩) (rw'.length - (K + 8)) (c4 - (K + 8)))).heap[wb]? = some (.cells #[.slice (some ⟨b, o + (K + 8), none⟩) (rw'.length - (K + 8)) (c4 - (K + 8)), .int .i64 0] 47 (0, 0)))
          have hkb9 : ∀ (q : Nat) (cur : Array Value), w8.heap[q]? = some (.cells cur 5 (0, 0)) → (w8.setCell ⟨wb, 0, none⟩ (.slice (some ⟨b, o + (K + 8), none⟩) (rw'.length - (K + 8)) (c4 - (K + 8)))).heap[q]? = w8.heap[q]? := fun q cur hc => hk9.block q (fun e => by subst e; have h1 := HB8.out; rw [hc] at h1; simp at h1)
          have hA9 : BAt (w8.setCell ⟨wb, 0, none⟩ (.slice (some ⟨b, o + (K + 8), none⟩) (rw'.length - (K + 8)) (c4 - (K + 8)))) (some ⟨b, o, none⟩) rw' := HA8.out.keep (fun b' o' e p v hc => by
            obtain ⟨cur, hcur⟩ := HU8.out b' o' e
            exact (World.cell?_of_block (w := w8) (hkb9 b' cur hcur)).trans hc)
          have hU9 : UAt (w8.setCell ⟨wb, 0, none⟩ (.slice (some ⟨b, o + (K + 8), none⟩) (rw'.length - (K + 8)) (c4 - (K + 8)))) (some ⟨b, o, none⟩) := fun b' o' e => by
            obtain ⟨cur, hcur⟩ := HU8.out b' o' e
            exact ⟨cur, (hkb9 b' cur hcur).trans hcur⟩
          refine ⟨⟨acc ++ [f], rw'.drop (K + 8), some ⟨b, o + (K + 8), none⟩, c4 - (K + 8), vals ++ [.slice a7 f.length c7], by rw [HDL8.out]; exact HB9, hA9.drop (K + 8), fun b' o' e => by simp at e; exact hU9 b' o (by rw [e.1]), by rw [HDL8.out]; omega, by omega, HW4.out.drop _, .inr ⟨_, _, rfl⟩, (fun b' o' e => by simp at e; have h := HFR.out b o rfl; omega), by have h := ownsRow_keep HOF8.out hk9 (own_ne HOF8.out HB8.out (by decide)); simpa using h, by rw [HDL8.out]; simp; omega, HV8.out.keep (fun q cur hc _ _ => hkb9 q cur hc) (fun b _ _ _ => by simp) (Nat.le_refl _), HR8.out.trans (Rim.kept hk9), fun out h => HRU.out out (.step (by rw [HFS.out]) (by rw [HFS.out]; simp) (by rw [HFS.out, ← HF7.out]; exact h))⟩, ?_⟩
          rw [HLF.out, leftOf_eq HB9]
          omega
      · have HFS := Lib.hid hf
        have hEq : (r4 (rw'.drop (K + 4)) == sm (rw'.take (K + 4))) = false := beq_eq_false_iff_ne.2 h3
        have hNe : (r4 (rw'.drop (K + 4)) != sm (rw'.take (K + 4))) = true := by simp [h3]
        clear hf h3
        obtain ⟨b, o, rfl⟩ : ∃ b o, a4 = some ⟨b, o, none⟩ := by
          rcases HA4.out with h | ⟨b, o, e, _⟩
          · rw [h] at h2; simp at h2
          · exact ⟨b, o, e⟩
        go_wp2_with fail
        refine (refGet (some ⟨b, o, none⟩) _ c4 rw' _ HA4.out rfl (by omega) HW4.out).mono ?_
        rintro e w5 ⟨rfl, hb⟩
        rw [HK.out]
        have HB5 := Lib.hid (blk_ext hb HB4.out)
        have HR5 := Lib.hid (HR4.out.trans (Rim.of hb))
        have HOF5 := Lib.hid (ownsRow_ext HOF.out hb)
        have HV5 := Lib.hid (HV.out.ext hb)
        have HA5 := Lib.hid (HA4.out.ext hb)
        have HU5 := Lib.hid (HU4.out.ext hb)
        have hcb5 := blk_cell HB5.out
        have hfb5 := blk_free HB5.out
        have hlb5 := blk_lt HB5.out
        clear hb hcb hfb hlb
        obtain ⟨af, cf, rfl⟩ := own_form HOF5.out
        have hne : ¬ c4 = K + 4 := by omega
        have HDL := Lib.hid (show (rw'.drop (K + 4)).length = rw'.length - (K + 4) by rw [List.length_drop])
        have HTL := Lib.hid (show (rw'.take (K + 4)).length = K + 4 by rw [List.length_take]; omega)
        have hd2 : decide (8192 < (K : Int)) = false := by simp; omega
        have hd3 : decide ((rw'.length : Int) < (K : Int) + 8) = false := by simp; omega
        go_wp2_with fail
        haveI hIq : Nonempty (Of w5) := of_some _
        have hF0 := blk_of HB5.out
        refine wp_region_stay w5 (by kernel_rfl) (by kernel_rfl) (by go_grown) ?_
        repeat (go_big_quiet_step ((first | (go_at_call 28; refine stay_call (refGet (some ⟨b, o + (K + 4), none⟩) (rw'.length - (K + 4)) (c4 - (K + 4)) (rw'.drop (K + 4)) _ ((HA5.out.drop (K + 4)).ext (In.h _)) HDL.out (by omega) (HW4.out.drop (K + 4)))) | (go_at_call 14; refine stay_same (refSum (some ⟨b, o, none⟩) (K + 4) c4 (rw'.take (K + 4)) _ ((HA5.out.take (K + 4)).ext (In.h _)) HTL.out (HW4.out.take (K + 4)) (by omega))))))
        refine wpQuiet_nil ?_
        intro w6 hb
        clear hIq hF0
        have HB6 := Lib.hid (blk_ext hb HB5.out)
        have HR6 := Lib.hid (HR5.out.trans (Rim.of hb))
        have HOF6 := Lib.hid (ownsRow_ext HOF5.out hb)
        have HV6 := Lib.hid (HV5.out.ext hb)
        have HA6 := Lib.hid (HA5.out.ext hb)
        have HU6 := Lib.hid (HU5.out.ext hb)
        have hcb6 := blk_cell HB6.out
        have hfb6 := blk_free HB6.out
        have hlb6 := blk_lt HB6.out
        clear hb hcb5 hfb5 hlb5
        go_wp2_with fail
        have hk7 : Kept wb w6 ((w6.setCell ⟨wb, 1, none⟩ (.int .i64 13)).setCell ⟨wb, 0, none⟩ (.slice none 0 0)) := ((Kept.refl _ _).setCell _ _).setCell _ _
        have HBx := Lib.hid (blk_set (vs' := #[.slice none 0 0, .int .i64 13]) (blk_set (vs' := #[.slice (some ⟨b, o, none⟩) rw'.length c4, .int .i64 13]) HB6.out (by simp)) (by simp) : ((w6.setCell ⟨wb, 1, none⟩ (.int .i64 13)).setCell ⟨wb, 0, none⟩ (.slice none 0 0)).heap[wb]? = some (.cells #[.slice none 0 0, .int .i64 13] 47 (0, 0)))
        have HRx := Lib.hid (HR6.out.trans (Rim.kept hk7))
        have HOFx := Lib.hid (ownsRow_keep HOF6.out hk7 (own_ne HOF6.out HB6.out (by decide)))
        have HVx := Lib.hid (HV6.out.keep (w' := ((w6.setCell ⟨wb, 1, none⟩ (.int .i64 13)).setCell ⟨wb, 0, none⟩ (.slice none 0 0))) (g' := none) (fun b cur hc _ _ => hk7.block b (fun e => by subst e; have h1 := HB6.out; rw [hc] at h1; simp at h1)) (fun b _ _ _ => by simp) (Nat.le_refl _))
        clear hk7
        generalize ((w6.setCell ⟨wb, 1, none⟩ (.int .i64 13)).setCell ⟨wb, 0, none⟩ (.slice none 0 0)) = w7 at *
        haveI hIq : Nonempty (Of w7) := of_some _
        have hF0 := blk_of HBx.out
        refine wp_region_stay w7 (by kernel_rfl) (by kernel_rfl) (by go_grown) ?_
        repeat (go_big_quiet_step (fail))
        refine wpQuiet_nil ?_
        intro w8 hb
        clear hIq hF0
        have HB8 := Lib.hid (blk_ext hb HBx.out)
        have HR8 := Lib.hid (HRx.out.trans (Rim.of hb))
        have HOF8 := Lib.hid (ownsRow_ext HOFx.out hb)
        have HV8 := Lib.hid (HVx.out.ext hb)
        clear hb
        go_wp2
        go_ret2
        refine ⟨_, acc, [], 13, vals, rfl, ?_, ⟨none, 0, HB8.out, Nat.le_refl _, Nat.zero_le _, .inl rfl, (fun b o e => by cases e), Wb.nil, .inl ⟨rfl, rfl⟩, (fun b o e => by cases e)⟩, HOF8.out, HV8.out, HR8.out⟩
        rw [← HY.out]
        have h1 := Runs.bad (row := rw') (acc := acc) (by rw [HFS.out]; simp)
        rw [HFS.out] at h1
        exact HRU.out _ h1

end Go.Proofs.Ytiblnonmlekjgaa
