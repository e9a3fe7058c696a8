/- Messages are read. -/
import Derived.Test.YtfdalmodnkkfiaaDoorMlW
import Derived.Test.YtfdalmodnkkfiaaDoorBd
namespace Go.Proofs.YtfdalmodnkkfiaaDoor
open Go.RowKit
set_option linter.unusedVariables false
set_option linter.unusedSimpArgs false

/-- blocks p and q alone may hold something other -/
structure Rq (p q : Nat) (w w' : World) : Prop where
  os : w'.os = w.os
  tape : w'.tape = w.tape
  output : w'.output = w.output
  size : w.heap.size ≤ w'.heap.size
  block : ∀ k, k ≠ p → k ≠ q → k < w.heap.size → w'.heap[k]? = w.heap[k]?
theorem Rq.of {p q : Nat} {w w' : World} (h : Below w.heap.size w w') : Rq p q w w' := ⟨h.os, h.tape, h.output, h.size, fun k _ _ hl => h.block k hl⟩
theorem Rq.kq {p q : Nat} {w w' : World} (h : Kept q w w') : Rq p q w w' := ⟨h.os, h.tape, h.output, Nat.le_of_eq h.size.symm, fun k _ hk _ => h.block k hk⟩
theorem Rq.kp {p q : Nat} {w w' : World} (h : Kept p w w') : Rq p q w w' := ⟨h.os, h.tape, h.output, Nat.le_of_eq h.size.symm, fun k hk _ _ => h.block k hk⟩
theorem Rq.trans {p q : Nat} {u v w : World} (h : Rq p q u v) (k : Rq p q v w) : Rq p q u w :=
  ⟨k.os.trans h.os, k.tape.trans h.tape, k.output.trans h.output, Nat.le_trans h.size k.size, fun i hi hj hl => (k.block i hi hj (Nat.lt_of_lt_of_le hl h.size)).trans (h.block i hi hj hl)⟩
theorem Rq.below {p q n : Nat} {w w' : World} (h : Rq p q w w') (hp : n ≤ p) (hq : n ≤ q) (hz : n ≤ w.heap.size) : Below n w w' := ⟨h.os, h.tape, h.output, h.size, fun k hk => h.block k (by omega) (by omega) (by omega)⟩
/-- a block that is younger than the entry is written -/
theorem Rq.setnew {p q t o : Nat} {v : Value} {u w : World} (h : Rq p q u w) (ht : u.heap.size ≤ t) : Rq p q u (w.setCell ⟨t, o, none⟩ v) :=
  ⟨h.os, h.tape, h.output, by have := h.size; simpa [World.setCell] using this, fun i hi hj hl => (Below.heap_setCell _ _ _ _ (show i ≠ t by omega)).trans (h.block i hi hj hl)⟩
theorem Rq.alloc {p q : Nat} {o : Obj} {u w : World} (h : Rq p q u w) : Rq p q u (w.alloc o) := h.trans (Rq.of ((Below.refl _ _).alloc (Nat.le_refl _) _))
theorem Rq.grown {p q : Nat} {u w w' : World} {row : Option Nat} (h : Rq p q u w) (hg : w.grownBy w' row) (hr : ∀ q, row = some q → u.heap.size ≤ q) : Rq p q u w' :=
  ⟨hg.os.trans h.os, hg.tape.trans h.tape, hg.output.trans h.output, Nat.le_trans h.size hg.size, fun k hk hk2 hl => (hg.block k (Nat.lt_of_lt_of_le hl h.size) (fun e => by have := hr k e.symm; omega)).trans (h.block k hk hk2 hl)⟩
/-- a reader of messages lies at p, its reader of bytes at rb -/
def RwAt (w : World) (p rb : Nat) (s : Rw) : Prop := w.heap[p]? = some (.cells #[.pointer (some ⟨rb, 0, none⟩), .bool s.2] 90 (0, 0)) ∧ RdAt 107 w rb s.1
section
variable {w w' : World} {p rb : Nat} {s : Rw}
theorem RwAt.ne (h : RwAt w p rb s) : p ≠ rb := by
  rintro rfl
  obtain ⟨h1, a, cap, h2, -⟩ := h
  rw [h1] at h2
  simp at h2
theorem RwAt.ext (h : RwAt w p rb s) (hb : Below w.heap.size w w') : RwAt w' p rb s := ⟨blk_ext hb h.1, h.2.ext hb⟩
theorem RwAt.lt (h : RwAt w p rb s) : p < w.heap.size := blk_lt h.1
theorem RwAt.lt2 (h : RwAt w p rb s) : rb < w.heap.size := h.2.lt
theorem RdAt.set {T' : TypeId} {q t o : Nat} {s : Rs} {v : Value} {cs : Array Value} {T : TypeId} (h : RdAt T' w q s) (hx : w.heap[t]? = some (.cells cs T (0, 0))) (hn : T ≠ 5) (hq : q ≠ t) : RdAt T' (w.setCell ⟨t, o, none⟩ v) q s := by
  obtain ⟨a, cap, h1, h2, h3, h4, h5, h6⟩ := h
  have hne : ∀ b o', a = some ⟨b, o', none⟩ → b ≠ t := fun b o' e => by
    obtain ⟨-, cur, h7⟩ := h5.2 b o' e
    rintro rfl
    rw [hx] at h7
    simp at h7
    exact hn h7.2
  exact ⟨a, cap, (((Kept.refl t w).setCell o v).block q hq).trans h1, h2, h3, h4.keep fun b o' e p u hc => ((Kept.refl t w).setCell o v).cell (hne b o' e) hc, ⟨h5.1, fun b o' e => by obtain ⟨h8, cur, h7⟩ := h5.2 b o' e; exact ⟨h8, cur, (((Kept.refl t w).setCell o v).block b (hne b o' e)).trans h7⟩⟩, h6⟩
theorem RwAt.set {t o : Nat} {v : Value} {cs : Array Value} {T : TypeId} (h : RwAt w p rb s) (hx : w.heap[t]? = some (.cells cs T (0, 0))) (hn : T ≠ 5) (hp : t ≠ p) (hq : t ≠ rb) : RwAt (w.setCell ⟨t, o, none⟩ v) p rb s :=
  ⟨(((Kept.refl t w).setCell o v).block p (Ne.symm hp)).trans h.1, h.2.set hx hn (Ne.symm hq)⟩
/-- behind package pack's call -/
theorem RwAt.got (h : RwAt w p rb s) {s' : Rs} (hr : RdAt 107 w' rb s') (hk : Kept rb w w') : RwAt w' p rb (s', s.2) := ⟨(hk.block p h.ne).trans h.1, hr⟩
/-- the mark -/
theorem RwAt.mark (h : RwAt w p rb s) : RwAt (w.setCell ⟨p, 1, none⟩ (.bool true)) p rb (s.1, true) := by
  refine ⟨?_, h.2.set h.1 (by decide) (Ne.symm h.ne)⟩
  exact blk_set (vs' := #[.pointer (some ⟨rb, 0, none⟩), .bool true]) h.1 (by simp)
/-- blocks of the reader's types stay -/
theorem RwAt.blocks (h : RwAt w p rb s) (hk : ∀ (k : Nat) (cs : Array Value) (T : TypeId), w.heap[k]? = some (.cells cs T (0, 0)) → (T = 90 ∨ T = 107 ∨ T = 5) → w'.heap[k]? = w.heap[k]?) : RwAt w' p rb s := by
  obtain ⟨h0, a, cap, h1, h2, h3, h4, h5, h6⟩ := h
  refine ⟨(hk _ _ _ h0 (.inl rfl)).trans h0, a, cap, (hk _ _ _ h1 (.inr (.inl rfl))).trans h1, h2, h3, h4.keep fun b o e q u hc => ?_, ⟨h5.1, fun b o e => ?_⟩, h6⟩
  · obtain ⟨-, cur, h7⟩ := h5.2 b o e
    exact (World.cell?_of_block (w := w) (hk _ _ _ h7 (.inr (.inr rfl)))).trans hc
  · obtain ⟨h8, cur, h7⟩ := h5.2 b o e
    exact ⟨h8, cur, (hk _ _ _ h7 (.inr (.inr rfl))).trans h7⟩
/-- a row of another type outlives the reader's calls -/
theorem RwAt.own {base size m : Nat} {T : TypeId} {v : Value} {xs : List Value} (h : RwAt w p rb s) (hr : Rq p rb w w') (h1 : T ≠ 90) (h2 : T ≠ 107) (ho : w.ownsRow base T size v m xs) : w'.ownsRow base T size v m xs := by
  obtain ⟨h0, a, cap, h3, -⟩ := h
  exact own_blocks ho (fun k cur hc => hr.block k (by rintro rfl; rw [h0] at hc; simp at hc; exact h1 hc.2.symm) (by rintro rfl; rw [h3] at hc; simp at hc; exact h2 hc.2.symm) (blk_lt hc))
theorem RwAt.in (h : RwAt w p rb s) : 0 ≤ (rB s).1 ∧ (rB s).1 < 256 := tByte_in s.1 h.2.wb
theorem RwAt.of_eq {s' : Rw} (h : RwAt w p rb s) (e : s = s') : RwAt w p rb s' := e ▸ h
end
theorem blk_fill13 {w : World} {b : Nat} {T : TypeId} {vs : Array Value} {v0 v1 v2 v3 v4 v5 v6 v7 v8 v9 v10 v11 v12 : Value} (h : w.heap[b]? = some (.cells vs T (0, 0))) (hs : vs.size = 13) : (((((((((((((w.setCell ⟨b, 0, none⟩ v0).setCell ⟨b, 1, none⟩ v1).setCell ⟨b, 2, none⟩ v2).setCell ⟨b, 3, none⟩ v3).setCell ⟨b, 4, none⟩ v4).setCell ⟨b, 5, none⟩ v5).setCell ⟨b, 6, none⟩ v6).setCell ⟨b, 7, none⟩ v7).setCell ⟨b, 8, none⟩ v8).setCell ⟨b, 9, none⟩ v9).setCell ⟨b, 10, none⟩ v10).setCell ⟨b, 11, none⟩ v11).setCell ⟨b, 12, none⟩ v12).heap[b]? = some (.cells #[v0, v1, v2, v3, v4, v5, v6, v7, v8, v9, v10, v11, v12] T (0, 0)) := by
  obtain ⟨l⟩ := vs
  match l, hs with
  | [x0, x1, x2, x3, x4, x5, x6, x7, x8, x9, x10, x11, x12], _ =>
    have h0 := blk_set (n := 0) (u := v0) (vs' := #[v0, x1, x2, x3, x4, x5, x6, x7, x8, x9, x10, x11, x12]) h (by simp)
    have h1 := blk_set (n := 1) (u := v1) (vs' := #[v0, v1, x2, x3, x4, x5, x6, x7, x8, x9, x10, x11, x12]) h0 (by simp)
    have h2 := blk_set (n := 2) (u := v2) (vs' := #[v0, v1, v2, x3, x4, x5, x6, x7, x8, x9, x10, x11, x12]) h1 (by simp)
    have h3 := blk_set (n := 3) (u := v3) (vs' := #[v0, v1, v2, v3, x4, x5, x6, x7, x8, x9, x10, x11, x12]) h2 (by simp)
    have h4 := blk_set (n := 4) (u := v4) (vs' := #[v0, v1, v2, v3, v4, x5, x6, x7, x8, x9, x10, x11, x12]) h3 (by simp)
    have h5 := blk_set (n := 5) (u := v5) (vs' := #[v0, v1, v2, v3, v4, v5, x6, x7, x8, x9, x10, x11, x12]) h4 (by simp)
    have h6 := blk_set (n := 6) (u := v6) (vs' := #[v0, v1, v2, v3, v4, v5, v6, x7, x8, x9, x10, x11, x12]) h5 (by simp)
    have h7 := blk_set (n := 7) (u := v7) (vs' := #[v0, v1, v2, v3, v4, v5, v6, v7, x8, x9, x10, x11, x12]) h6 (by simp)
    have h8 := blk_set (n := 8) (u := v8) (vs' := #[v0, v1, v2, v3, v4, v5, v6, v7, v8, x9, x10, x11, x12]) h7 (by simp)
    have h9 := blk_set (n := 9) (u := v9) (vs' := #[v0, v1, v2, v3, v4, v5, v6, v7, v8, v9, x10, x11, x12]) h8 (by simp)
    have h10 := blk_set (n := 10) (u := v10) (vs' := #[v0, v1, v2, v3, v4, v5, v6, v7, v8, v9, v10, x11, x12]) h9 (by simp)
    have h11 := blk_set (n := 11) (u := v11) (vs' := #[v0, v1, v2, v3, v4, v5, v6, v7, v8, v9, v10, v11, x12]) h10 (by simp)
    have h12 := blk_set (n := 12) (u := v12) (vs' := #[v0, v1, v2, v3, v4, v5, v6, v7, v8, v9, v10, v11, v12]) h11 (by simp)
    exact h12
theorem blk_over13 {w : World} {b c : Nat} {o : Obj} {v0 v1 v2 v3 v4 v5 v6 v7 v8 v9 v10 v11 v12 : Value} (hn : c ≠ b) (h : w.heap[c]? = some o) : (((((((((((((w.setCell ⟨b, 0, none⟩ v0).setCell ⟨b, 1, none⟩ v1).setCell ⟨b, 2, none⟩ v2).setCell ⟨b, 3, none⟩ v3).setCell ⟨b, 4, none⟩ v4).setCell ⟨b, 5, none⟩ v5).setCell ⟨b, 6, none⟩ v6).setCell ⟨b, 7, none⟩ v7).setCell ⟨b, 8, none⟩ v8).setCell ⟨b, 9, none⟩ v9).setCell ⟨b, 10, none⟩ v10).setCell ⟨b, 11, none⟩ v11).setCell ⟨b, 12, none⟩ v12).heap[c]? = some o := by
  exact (blk_set_other hn (blk_set_other hn (blk_set_other hn (blk_set_other hn (blk_set_other hn (blk_set_other hn (blk_set_other hn (blk_set_other hn (blk_set_other hn (blk_set_other hn (blk_set_other hn (blk_set_other hn (blk_set_other hn h)))))))))))))
theorem below_fill13 {m : Nat} {u w : World} {b : Nat} {v0 v1 v2 v3 v4 v5 v6 v7 v8 v9 v10 v11 v12 : Value} (h : Below m u w) (hb : m ≤ b) : Below m u (((((((((((((w.setCell ⟨b, 0, none⟩ v0).setCell ⟨b, 1, none⟩ v1).setCell ⟨b, 2, none⟩ v2).setCell ⟨b, 3, none⟩ v3).setCell ⟨b, 4, none⟩ v4).setCell ⟨b, 5, none⟩ v5).setCell ⟨b, 6, none⟩ v6).setCell ⟨b, 7, none⟩ v7).setCell ⟨b, 8, none⟩ v8).setCell ⟨b, 9, none⟩ v9).setCell ⟨b, 10, none⟩ v10).setCell ⟨b, 11, none⟩ v11).setCell ⟨b, 12, none⟩ v12) := (((((((((((((h.setCell hb _).setCell hb _).setCell hb _).setCell hb _).setCell hb _).setCell hb _).setCell hb _).setCell hb _).setCell hb _).setCell hb _).setCell hb _).setCell hb _).setCell hb _)


set_option maxRecDepth 100000 in
set_option maxHeartbeats 1000000 in
theorem mailFlag (p rb : Nat) (s : Rw) (w : World) (h : RwAt w p rb s) :
    Calls Tryd.prog 51 #[.pointer (some ⟨p, 0, none⟩)] w fun r w' => r = .returned (.bool (rF s).1) ∧ RwAt w' p rb ((rF s).2) ∧ Rq p rb w w' := by
  have HIN := Lib.hid h.in
  have HH := Lib.hid h
  obtain ⟨h1, h2⟩ := h
  have hc := blk_cell h1
  have hl := blk_lt h1
  have H1 := Lib.hid h1
  have H2 := Lib.hid h2
  clear h1 h2
  go_enter Tryd.func51, Tryd.ntmps51
  go_wp2_with fail
  refine (packRByte rb s.1 w H2.out).mono ?_
  rintro e w1 ⟨rfl, hr, hk⟩
  have HR := Lib.hid (HH.out.got hr hk)
  have HK := Lib.hid (Rq.kq (p := p) hk)
  have hc1 := blk_cell HR.out.1
  have hf1 := blk_free HR.out.1
  have hl1 := HR.out.lt
  clear hr hk hc hl
  have hc1 : ∀ n, w1.cell? ⟨p, n, none⟩ = (#[.pointer (some ⟨rb, 0, none⟩), .bool s.2] : Array Value)[n]? := hc1
  have hin := HIN.out
  have HE := Lib.hid (show (rF s) = (decide ((tByte s.1).1 = 1), ((tByte s.1).2, s.2 || decide (1 < (tByte s.1).1))) from rfl)
  have HI2 := Lib.hid (show 0 ≤ (tByte s.1).1 ∧ (tByte s.1).1 < 256 from hin)
  clear hin
  generalize (tByte s.1).1 = z at *
  generalize (tByte s.1).2 = s2 at *
  by_cases h1 : 1 < z
  · have hz : decide (1 < z) = true := decide_eq_true h1
    have hz1 : (z == 1) = false := by simpa using (show z ≠ 1 by omega)
    have hz2 : decide (z = 1) = false := by simpa using (show z ≠ 1 by omega)
    go_wp2
    go_ret
    rw [HE.out]
    refine ⟨by simp [hz2], ?_, HK.out.trans (Rq.kp ((Kept.refl _ _).setCell _ _))⟩
    exact HR.out.mark.of_eq (by simp [hz])
  · have hz : decide (1 < z) = false := decide_eq_false h1
    go_wp2
    go_ret
    rw [HE.out]
    refine ⟨by first | rfl | simp, ?_, HK.out⟩
    exact HR.out.of_eq (by simp [hz])

set_option maxRecDepth 100000 in
set_option maxHeartbeats 1000000 in
theorem mailSum (p rb : Nat) (s : Rw) (w : World) (h : RwAt w p rb s) :
    Calls Tryd.prog 52 #[.pointer (some ⟨p, 0, none⟩)] w fun r w' => r = .returned (.int .u32 (rS s).1) ∧ RwAt w' p rb ((rS s).2) ∧ Rq p rb w w' := by
  have HH := Lib.hid h
  obtain ⟨h1, h2⟩ := h
  have hc := blk_cell h1
  have hl := blk_lt h1
  have H1 := Lib.hid h1
  have H2 := Lib.hid h2
  clear h1 h2
  go_enter Tryd.func52, Tryd.ntmps52
  go_wp2_with fail
  refine (packRInt rb s.1 w H2.out).mono ?_
  rintro e w1 ⟨rfl, hr, hk⟩
  have HR := Lib.hid (HH.out.got hr hk)
  have HK := Lib.hid (Rq.kq (p := p) hk)
  have hc1 := blk_cell HR.out.1
  have hf1 := blk_free HR.out.1
  have hl1 := HR.out.lt
  clear hr hk hc hl
  have HE := Lib.hid (show (rS s) = ((tInt s.1).1 % 4294967296, ((tInt s.1).2, s.2 || decide ((tInt s.1).1 < 0) || decide (4294967295 < (tInt s.1).1))) from rfl)
  have hc1 : ∀ n, w1.cell? ⟨p, n, none⟩ = (#[.pointer (some ⟨rb, 0, none⟩), .bool s.2] : Array Value)[n]? := hc1
  generalize (tInt s.1).1 = z at *
  generalize (tInt s.1).2 = s2 at *
  have hw : IntKind.u32.wrap z = z % 4294967296 := by first | rfl | (simp [IntKind.wrap]; done) | (rw [IntKind.wrap_u32])
  have HWW := Lib.hid hw
  by_cases h1 : z < 0
  · have hz : decide (z < 0) = true := decide_eq_true h1
    go_wp2
    go_ret
    rw [HE.out]
    refine ⟨by first | rfl | rw [HWW.out] | simp [HWW.out], ?_, HK.out.trans (Rq.kp ((Kept.refl _ _).setCell _ _))⟩
    exact HR.out.mark.of_eq (by simp [hz])
  · have hz : decide (z < 0) = false := decide_eq_false h1
    by_cases h2 : 4294967295 < z
    · have hz2 : decide (4294967295 < z) = true := decide_eq_true h2
      go_wp2
      go_ret
      rw [HE.out]
      refine ⟨by first | rfl | rw [HWW.out] | simp [HWW.out], ?_, HK.out.trans (Rq.kp ((Kept.refl _ _).setCell _ _))⟩
      exact HR.out.mark.of_eq (by simp [hz, hz2])
    · have hz2 : decide (4294967295 < z) = false := decide_eq_false h2
      go_wp2
      go_ret
      rw [HE.out]
      refine ⟨by first | rfl | rw [HWW.out] | simp [HWW.out], ?_, HK.out⟩
      exact HR.out.of_eq (by simp [hz, hz2])

set_option maxRecDepth 100000 in
set_option maxHeartbeats 1000000 in
theorem mailKey (p rb : Nat) (s : Rw) (w : World) (h : RwAt w p rb s) :
    Calls Tryd.prog 68 #[.pointer (some ⟨p, 0, none⟩)] w fun r w' => r = .returned (.agg #[.string (rK s).1.1, .string (rK s).1.2]) ∧ RwAt w' p rb ((rK s).2) ∧ Rq p rb w w' := by
  have hE := (Below.refl w.heap.size w).alloc (Nat.le_refl _) (.cells #[.string ⟨#[]⟩, .string ⟨#[]⟩] 24)
  have HB0 := Lib.hid hE
  have HX0 := Lib.hid (blk_new w #[.string ⟨#[]⟩, .string ⟨#[]⟩] 24)
  have HH0 := Lib.hid (h.ext hE)
  have hlp := h.lt
  have hlq := h.lt2
  clear hE h
  go_enter Tryd.func68, Tryd.ntmps68
  go_upto_region 1 with (fail)
  obtain ⟨t, ht⟩ : ∃ t, w.heap.size = t := ⟨_, rfl⟩
  have htp : t ≠ p := by omega
  have htq : t ≠ rb := by omega
  have HT := Lib.hid (show w.heap.size ≤ t by omega)
  rw [ht] at HX0
  try rw [ht]
  clear ht
  generalize (w.alloc (.cells #[.string ⟨#[]⟩, .string ⟨#[]⟩] 24)) = w0 at *
  have hc := blk_cell HH0.out.1
  have hl := HH0.out.lt
  go_wp2_with fail
  refine (packRText rb s.1 w0 HH0.out.2).mono ?_
  rintro e w1 ⟨rfl, hr, hk⟩
  have HX1 := Lib.hid ((hk.block t htq).trans HX0.out)
  have HR1 := Lib.hid (HH0.out.got hr hk)
  have HK1 := Lib.hid ((Rq.of (p := p) (q := rb) HB0.out).trans (Rq.kq hk))
  clear hr hk hc hl HX0 HB0
  have hc := blk_cell HR1.out.1
  have hl := HR1.out.lt
  go_wp2_with fail
  refine (packRText rb (tText s.1).2 w1 HR1.out.2).mono ?_
  rintro e w2 ⟨rfl, hr, hk⟩
  have HX2 := Lib.hid ((hk.block t htq).trans HX1.out)
  have HR2 := Lib.hid (HR1.out.got hr hk)
  have HK2 := Lib.hid (HK1.out.trans (Rq.kq hk))
  clear hr hk hc hl HX1 HK1
  have hc := blk_cell HX2.out
  have hf := blk_free HX2.out
  have hl := blk_lt HX2.out
  have HV := Lib.hid (show (rK s).1.1 = (tText s.1).1 ∧ (rK s).1.2 = (tText (tText s.1).2).1 ∧ (rK s).2 = ((tText (tText s.1).2).2, s.2) from ⟨rfl, rfl, rfl⟩)
  go_wp2_with fail
  have hk2 := blk_cell (blk_set (n := 1) (u := .string (tText (tText s.1).2).1) (vs' := #[.string (tText s.1).1, .string (tText (tText s.1).2).1]) (blk_set (n := 0) (u := .string (tText s.1).1) (vs' := #[.string (tText s.1).1, .string ⟨#[]⟩]) HX2.out (by simp)) (by simp))
  have hr9 := (HR2.out.set (o := 0) (v := .string (tText s.1).1) HX2.out (by decide) htp htq)
  have hx9 := blk_set (n := 0) (u := .string (tText s.1).1) (vs' := #[.string (tText s.1).1, .string ⟨#[]⟩]) HX2.out (by simp)
  exact bodyPost_ret (v := .agg #[.string (tText s.1).1, .string (tText (tText s.1).2).1]) (by simp [results, Tryd.results68, go_sem, hk2]) rfl ⟨by rw [HV.out.1, HV.out.2.1], by rw [HV.out.2.2]; exact hr9.set (o := 1) hx9 (by decide) htp htq, (HK2.out.setnew HT.out).setnew HT.out⟩

end Go.Proofs.YtfdalmodnkkfiaaDoor
