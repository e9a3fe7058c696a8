/- The document's own desk: what a merge wants beside. -/
import Derived.Test.YtloeabdohgdmkaaRkaZ
import Derived.Test.YtloeabdohgdmkaaCacRZ
import Derived.Test.YtloeabdohgdmkaaHistZ
namespace Go.Proofs.Ytloeabdohgdmkaa
open Go.RowKit
set_option linter.unusedVariables false
set_option linter.unusedSimpArgs false

section
variable {w w' : World} {rb sb gb wb : Nat} {nd t0 n0 g l tt : Int} {es : List En} {ks : List Ky}
theorem RDk.keepB {b : Nat} {cs : Array Value} {T : TypeId} (h : RDk w rb sb gb wb nd t0 n0 es g l tt ks) (hr : Rim4 rb sb gb wb w w') (hc : w.heap[b]? = some (.cells cs T (0, 0))) (h1 : T ≠ 72) (h2 : T ≠ 67) (h3 : T ≠ 104) (h4 : T ≠ 75) : w'.heap[b]? = w.heap[b]? := by
  obtain ⟨a, c, k1, -⟩ := h.s
  obtain ⟨a', c', k2, -⟩ := h.r
  exact hr.block b (blk_two hc h.d h1) (blk_two hc k1 h2) (blk_two hc h.g h3) (blk_two hc k2 h4) (blk_lt hc)
theorem RDk.grownC {base n : Nat} {v : Value} {xs : List Value} (h : RDk w rb sb gb wb nd t0 n0 es g l tt ks) (hg : w.grownBy w' v.ownBlock) (ho : w.ownsRow base 34 9 v n xs) : RDk w' rb sb gb wb nd t0 n0 es g l tt ks := by
  have hb : ∀ (b : Nat) (cs : Array Value) (T : TypeId), w.heap[b]? = some (.cells cs T (0, 0)) → T ≠ 34 → w'.heap[b]? = w.heap[b]? := fun b cs T hc hT => hg.block b (blk_lt hc) (own_ne ho hc hT)
  obtain ⟨h1, ⟨a, c, k1, k2, k3⟩, h3, ⟨a', c', j1, j2, j3, j4, j5, j6, j7⟩⟩ := h
  unfold BoxR at k1
  refine ⟨(hb _ _ _ h1 (by decide)).trans h1, ⟨a, c, (hb _ _ _ k1 (by decide)).trans k1, k2.keep fun b cur hc _ => hb b _ _ hc (by decide), k3⟩, (hb _ _ _ h3 (by decide)).trans h3, ⟨a', c', (hb _ _ _ j1 (by decide)).trans j1, j2, j3, j4.keep fun b o e p v hv => ?_, j5, j6, fun b o e => ?_⟩⟩
  · obtain ⟨cs, hc⟩ := j7 b o e
    exact (World.cell?_of_block (w := w) (hb b _ _ hc (by decide))).trans hv
  · obtain ⟨cs, hc⟩ := j7 b o e
    exact ⟨cs, (hb b _ _ hc (by decide)).trans hc⟩
end
theorem rsGet (sb : Nat) (most : Int) (es : List En) (k : Ky) (w : World) (h : RShP w sb most es) (hs : Asc es) (hn : es.length ≤ 900) (e : En) (b : Bool) (he : ge es k = e) (hb : isIn k es = b) :
    Calls Try.prog 44 #[.pointer (some ⟨sb, 0, none⟩), .agg #[.string k.1, .string k.2]] w fun r w' => r = .returned (.tuple #[.agg #[.string e.c.a, .string e.c.i, .int .i64 e.c.s, .int .i64 e.c.o, .int .i64 e.c.l, .int .i64 e.c.t, .int .i64 e.c.k, .int .i64 e.c.n, .bool e.c.g, .int .i64 e.seen], .bool b]) ∧ Below w.heap.size w w' := by
  subst he hb
  cases hi : isIn k es
  · exact (rshGetNo sb most es k w h hs hn hi).mono fun r w' ⟨h1, h2⟩ => ⟨by rw [h1, ge_no hi], h2⟩
  · obtain ⟨h3, h4⟩ := ge_yes hi
    exact (rshGetYes sb most es k w h _ hs hn h3 hi).mono fun r w' ⟨h1, h2⟩ => ⟨h1, h2⟩
theorem rsPut (sb : Nat) (es : List En) (e : En) (u : World) (hu : RShP u sb 32 es) (hs : Asc es) (hn : es.length ≤ 900) (hin : isIn (enK e) es = true ∨ es.length < 32) :
    Calls Try.prog 45 #[.pointer (some ⟨sb, 0, none⟩), .agg #[.string e.c.a, .string e.c.i, .int .i64 e.c.s, .int .i64 e.c.o, .int .i64 e.c.l, .int .i64 e.c.t, .int .i64 e.c.k, .int .i64 e.c.n, .bool e.c.g, .int .i64 e.seen]] u fun r u' => r = .returned (.int .i64 0) ∧ RShP u' sb 32 (putE es e) ∧ Rim sb u u' := by
  cases hi : isIn (enK e) es
  · have hl : es.length < 32 := by rcases hin with h | h; (· rw [hi] at h; cases h); (· exact h)
    refine (rshPutNew sb 32 es e u hu hs hn hi (by omega)).mono fun r w' h => ?_
    unfold putE
    rw [if_neg (by rw [hi]; simp)]
    exact h
  · refine (rshPutIn sb 32 es e u hu hs hn hi).mono fun r w' h => ?_
    unfold putE
    rw [if_pos hi]
    exact h
set_option maxRecDepth 100000 in
set_option maxHeartbeats 4000000 in
theorem rdSetNo (rb sb gb wb : Nat) (nd t0 n0 : Int) (es : List En) (g l tt : Int) (ks : List Ky) (e : En) (w : World) (h : RDk w rb sb gb wb nd t0 n0 es g l tt ks) (hs : Asc es) (hn : es.length ≤ 900) (hin : isIn (enK e) es = false) (hm : (32 : Int) ≤ es.length) :
    Calls Try.prog 46 #[.pointer (some ⟨rb, 0, none⟩), .agg #[.string e.c.a, .string e.c.i, .int .i64 e.c.s, .int .i64 e.c.o, .int .i64 e.c.l, .int .i64 e.c.t, .int .i64 e.c.k, .int .i64 e.c.n, .bool e.c.g, .int .i64 e.seen]] w fun r w' => r = .returned (.int .i64 24) ∧ Below w.heap.size w w' := by
  have D0 := Lib.hid (show Below w.heap.size w (w.alloc (.cells #[.string e.c.a, .string e.c.i, .int .i64 e.c.s, .int .i64 e.c.o, .int .i64 e.c.l, .int .i64 e.c.t, .int .i64 e.c.k, .int .i64 e.c.n, .bool e.c.g, .int .i64 e.seen] 77)) from (Below.refl _ _).alloc (Nat.le_refl _) _)
  have HX := Lib.hid (blk_new w #[.string e.c.a, .string e.c.i, .int .i64 e.c.s, .int .i64 e.c.o, .int .i64 e.c.l, .int .i64 e.c.t, .int .i64 e.c.k, .int .i64 e.c.n, .bool e.c.g, .int .i64 e.seen] 77)
  have HP := Lib.hid (h.ext D0.out)
  have HAS := Lib.hid hs
  clear h hs
  go_enter Try.func46, Try.ntmps46
  go_upto_region 1 with (fail)
  obtain ⟨p, hp⟩ : ∃ p, w.heap.size = p := ⟨_, rfl⟩
  rw [hp] at HX
  try rw [hp]
  clear hp
  generalize (w.alloc (.cells #[.string e.c.a, .string e.c.i, .int .i64 e.c.s, .int .i64 e.c.o, .int .i64 e.c.l, .int .i64 e.c.t, .int .i64 e.c.k, .int .i64 e.c.n, .bool e.c.g, .int .i64 e.seen] 77)) = w1 at *
  have HX0 := Lib.hid (blk_ext ((Below.refl w1.heap.size w1).drew) HX.out)
  have HP0 := Lib.hid (HP.out.ext ((Below.refl w1.heap.size w1).drew))
  have D1 := Lib.hid (ext_trans D0.out ((Below.refl w1.heap.size w1).drew))
  have hldb := blk_lt HP.out.d
  haveI hI0 : Nonempty (In (fun W : World => W.heap[p]? = some (.cells #[.string e.c.a, .string e.c.i, .int .i64 e.c.s, .int .i64 e.c.o, .int .i64 e.c.l, .int .i64 e.c.t, .int .i64 e.c.k, .int .i64 e.c.n, .bool e.c.g, .int .i64 e.seen] 77 (0, 0)) ∧ W.heap[rb]? = some (.cells #[.pointer (some ⟨sb, 0, none⟩), .pointer (some ⟨gb, 0, none⟩), .pointer (some ⟨wb, 0, none⟩), .int .i64 t0, .int .i64 nd, .int .i64 n0] 72 (0, 0)))) := ⟨⟨_, HX0.out, HP0.out.d⟩⟩
  have hL0 : ∀ g : In (fun W : World => W.heap[p]? = some (.cells #[.string e.c.a, .string e.c.i, .int .i64 e.c.s, .int .i64 e.c.o, .int .i64 e.c.l, .int .i64 e.c.t, .int .i64 e.c.k, .int .i64 e.c.n, .bool e.c.g, .int .i64 e.seen] 77 (0, 0)) ∧ W.heap[rb]? = some (.cells #[.pointer (some ⟨sb, 0, none⟩), .pointer (some ⟨gb, 0, none⟩), .pointer (some ⟨wb, 0, none⟩), .int .i64 t0, .int .i64 nd, .int .i64 n0] 72 (0, 0))), p < g.w.heap.size := fun g => blk_lt g.h.1
  have hM0 : ∀ g : In (fun W : World => W.heap[p]? = some (.cells #[.string e.c.a, .string e.c.i, .int .i64 e.c.s, .int .i64 e.c.o, .int .i64 e.c.l, .int .i64 e.c.t, .int .i64 e.c.k, .int .i64 e.c.n, .bool e.c.g, .int .i64 e.seen] 77 (0, 0)) ∧ W.heap[rb]? = some (.cells #[.pointer (some ⟨sb, 0, none⟩), .pointer (some ⟨gb, 0, none⟩), .pointer (some ⟨wb, 0, none⟩), .int .i64 t0, .int .i64 nd, .int .i64 n0] 72 (0, 0))), rb < g.w.heap.size := fun g => blk_lt g.h.2
  have hB0_0 : ∀ g : In (fun W : World => W.heap[p]? = some (.cells #[.string e.c.a, .string e.c.i, .int .i64 e.c.s, .int .i64 e.c.o, .int .i64 e.c.l, .int .i64 e.c.t, .int .i64 e.c.k, .int .i64 e.c.n, .bool e.c.g, .int .i64 e.seen] 77 (0, 0)) ∧ W.heap[rb]? = some (.cells #[.pointer (some ⟨sb, 0, none⟩), .pointer (some ⟨gb, 0, none⟩), .pointer (some ⟨wb, 0, none⟩), .int .i64 t0, .int .i64 nd, .int .i64 n0] 72 (0, 0))), g.w.cell? ⟨p, 0, none⟩ = some (.string e.c.a) := fun g => by rw [blk_cell g.h.1]; rfl
  have hB0_1 : ∀ g : In (fun W : World => W.heap[p]? = some (.cells #[.string e.c.a, .string e.c.i, .int .i64 e.c.s, .int .i64 e.c.o, .int .i64 e.c.l, .int .i64 e.c.t, .int .i64 e.c.k, .int .i64 e.c.n, .bool e.c.g, .int .i64 e.seen] 77 (0, 0)) ∧ W.heap[rb]? = some (.cells #[.pointer (some ⟨sb, 0, none⟩), .pointer (some ⟨gb, 0, none⟩), .pointer (some ⟨wb, 0, none⟩), .int .i64 t0, .int .i64 nd, .int .i64 n0] 72 (0, 0))), g.w.cell? ⟨p, 1, none⟩ = some (.string e.c.i) := fun g => by rw [blk_cell g.h.1]; rfl
  have hB0_2 : ∀ g : In (fun W : World => W.heap[p]? = some (.cells #[.string e.c.a, .string e.c.i, .int .i64 e.c.s, .int .i64 e.c.o, .int .i64 e.c.l, .int .i64 e.c.t, .int .i64 e.c.k, .int .i64 e.c.n, .bool e.c.g, .int .i64 e.seen] 77 (0, 0)) ∧ W.heap[rb]? = some (.cells #[.pointer (some ⟨sb, 0, none⟩), .pointer (some ⟨gb, 0, none⟩), .pointer (some ⟨wb, 0, none⟩), .int .i64 t0, .int .i64 nd, .int .i64 n0] 72 (0, 0))), g.w.cell? ⟨p, 2, none⟩ = some (.int .i64 e.c.s) := fun g => by rw [blk_cell g.h.1]; rfl
  have hB0_3 : ∀ g : In (fun W : World => W.heap[p]? = some (.cells #[.string e.c.a, .string e.c.i, .int .i64 e.c.s, .int .i64 e.c.o, .int .i64 e.c.l, .int .i64 e.c.t, .int .i64 e.c.k, .int .i64 e.c.n, .bool e.c.g, .int .i64 e.seen] 77 (0, 0)) ∧ W.heap[rb]? = some (.cells #[.pointer (some ⟨sb, 0, none⟩), .pointer (some ⟨gb, 0, none⟩), .pointer (some ⟨wb, 0, none⟩), .int .i64 t0, .int .i64 nd, .int .i64 n0] 72 (0, 0))), g.w.cell? ⟨p, 3, none⟩ = some (.int .i64 e.c.o) := fun g => by rw [blk_cell g.h.1]; rfl
  have hB0_4 : ∀ g : In (fun W : World => W.heap[p]? = some (.cells #[.string e.c.a, .string e.c.i, .int .i64 e.c.s, .int .i64 e.c.o, .int .i64 e.c.l, .int .i64 e.c.t, .int .i64 e.c.k, .int .i64 e.c.n, .bool e.c.g, .int .i64 e.seen] 77 (0, 0)) ∧ W.heap[rb]? = some (.cells #[.pointer (some ⟨sb, 0, none⟩), .pointer (some ⟨gb, 0, none⟩), .pointer (some ⟨wb, 0, none⟩), .int .i64 t0, .int .i64 nd, .int .i64 n0] 72 (0, 0))), g.w.cell? ⟨p, 4, none⟩ = some (.int .i64 e.c.l) := fun g => by rw [blk_cell g.h.1]; rfl
  have hB0_5 : ∀ g : In (fun W : World => W.heap[p]? = some (.cells #[.string e.c.a, .string e.c.i, .int .i64 e.c.s, .int .i64 e.c.o, .int .i64 e.c.l, .int .i64 e.c.t, .int .i64 e.c.k, .int .i64 e.c.n, .bool e.c.g, .int .i64 e.seen] 77 (0, 0)) ∧ W.heap[rb]? = some (.cells #[.pointer (some ⟨sb, 0, none⟩), .pointer (some ⟨gb, 0, none⟩), .pointer (some ⟨wb, 0, none⟩), .int .i64 t0, .int .i64 nd, .int .i64 n0] 72 (0, 0))), g.w.cell? ⟨p, 5, none⟩ = some (.int .i64 e.c.t) := fun g => by rw [blk_cell g.h.1]; rfl
  have hB0_6 : ∀ g : In (fun W : World => W.heap[p]? = some (.cells #[.string e.c.a, .string e.c.i, .int .i64 e.c.s, .int .i64 e.c.o, .int .i64 e.c.l, .int .i64 e.c.t, .int .i64 e.c.k, .int .i64 e.c.n, .bool e.c.g, .int .i64 e.seen] 77 (0, 0)) ∧ W.heap[rb]? = some (.cells #[.pointer (some ⟨sb, 0, none⟩), .pointer (some ⟨gb, 0, none⟩), .pointer (some ⟨wb, 0, none⟩), .int .i64 t0, .int .i64 nd, .int .i64 n0] 72 (0, 0))), g.w.cell? ⟨p, 6, none⟩ = some (.int .i64 e.c.k) := fun g => by rw [blk_cell g.h.1]; rfl
  have hB0_7 : ∀ g : In (fun W : World => W.heap[p]? = some (.cells #[.string e.c.a, .string e.c.i, .int .i64 e.c.s, .int .i64 e.c.o, .int .i64 e.c.l, .int .i64 e.c.t, .int .i64 e.c.k, .int .i64 e.c.n, .bool e.c.g, .int .i64 e.seen] 77 (0, 0)) ∧ W.heap[rb]? = some (.cells #[.pointer (some ⟨sb, 0, none⟩), .pointer (some ⟨gb, 0, none⟩), .pointer (some ⟨wb, 0, none⟩), .int .i64 t0, .int .i64 nd, .int .i64 n0] 72 (0, 0))), g.w.cell? ⟨p, 7, none⟩ = some (.int .i64 e.c.n) := fun g => by rw [blk_cell g.h.1]; rfl
  have hB0_8 : ∀ g : In (fun W : World => W.heap[p]? = some (.cells #[.string e.c.a, .string e.c.i, .int .i64 e.c.s, .int .i64 e.c.o, .int .i64 e.c.l, .int .i64 e.c.t, .int .i64 e.c.k, .int .i64 e.c.n, .bool e.c.g, .int .i64 e.seen] 77 (0, 0)) ∧ W.heap[rb]? = some (.cells #[.pointer (some ⟨sb, 0, none⟩), .pointer (some ⟨gb, 0, none⟩), .pointer (some ⟨wb, 0, none⟩), .int .i64 t0, .int .i64 nd, .int .i64 n0] 72 (0, 0))), g.w.cell? ⟨p, 8, none⟩ = some (.bool e.c.g) := fun g => by rw [blk_cell g.h.1]; rfl
  have hB0_9 : ∀ g : In (fun W : World => W.heap[p]? = some (.cells #[.string e.c.a, .string e.c.i, .int .i64 e.c.s, .int .i64 e.c.o, .int .i64 e.c.l, .int .i64 e.c.t, .int .i64 e.c.k, .int .i64 e.c.n, .bool e.c.g, .int .i64 e.seen] 77 (0, 0)) ∧ W.heap[rb]? = some (.cells #[.pointer (some ⟨sb, 0, none⟩), .pointer (some ⟨gb, 0, none⟩), .pointer (some ⟨wb, 0, none⟩), .int .i64 t0, .int .i64 nd, .int .i64 n0] 72 (0, 0))), g.w.cell? ⟨p, 9, none⟩ = some (.int .i64 e.seen) := fun g => by rw [blk_cell g.h.1]; rfl
  have hD0_0 : ∀ g : In (fun W : World => W.heap[p]? = some (.cells #[.string e.c.a, .string e.c.i, .int .i64 e.c.s, .int .i64 e.c.o, .int .i64 e.c.l, .int .i64 e.c.t, .int .i64 e.c.k, .int .i64 e.c.n, .bool e.c.g, .int .i64 e.seen] 77 (0, 0)) ∧ W.heap[rb]? = some (.cells #[.pointer (some ⟨sb, 0, none⟩), .pointer (some ⟨gb, 0, none⟩), .pointer (some ⟨wb, 0, none⟩), .int .i64 t0, .int .i64 nd, .int .i64 n0] 72 (0, 0))), g.w.cell? ⟨rb, 0, none⟩ = some (.pointer (some ⟨sb, 0, none⟩)) := fun g => by rw [blk_cell g.h.2]; rfl
  have hD0_2 : ∀ g : In (fun W : World => W.heap[p]? = some (.cells #[.string e.c.a, .string e.c.i, .int .i64 e.c.s, .int .i64 e.c.o, .int .i64 e.c.l, .int .i64 e.c.t, .int .i64 e.c.k, .int .i64 e.c.n, .bool e.c.g, .int .i64 e.seen] 77 (0, 0)) ∧ W.heap[rb]? = some (.cells #[.pointer (some ⟨sb, 0, none⟩), .pointer (some ⟨gb, 0, none⟩), .pointer (some ⟨wb, 0, none⟩), .int .i64 t0, .int .i64 nd, .int .i64 n0] 72 (0, 0))), g.w.cell? ⟨rb, 2, none⟩ = some (.pointer (some ⟨wb, 0, none⟩)) := fun g => by rw [blk_cell g.h.2]; rfl
  refine Hist.wp_region_hist (fun W : World => W.heap[p]? = some (.cells #[.string e.c.a, .string e.c.i, .int .i64 e.c.s, .int .i64 e.c.o, .int .i64 e.c.l, .int .i64 e.c.t, .int .i64 e.c.k, .int .i64 e.c.n, .bool e.c.g, .int .i64 e.seen] 77 (0, 0)) ∧ W.heap[rb]? = some (.cells #[.pointer (some ⟨sb, 0, none⟩), .pointer (some ⟨gb, 0, none⟩), .pointer (some ⟨wb, 0, none⟩), .int .i64 t0, .int .i64 nd, .int .i64 n0] 72 (0, 0))) (by kernel_rfl) (by kernel_rfl) (by kernel_rfl) ⟨HX0.out, HP0.out.d⟩ ?_
  clear HX HP D0
  generalize w1.drew = x0 at *
  repeat (first | (refine Hist.wpG_plain 0 _ (by decide +kernel) rfl (by rfl) (by rfl) (fun K hK => ?_); go_big_quiet_op; refine hK _ ?_; clear hK K))
  refine Hist.wpG_call (by rfl) (by rfl) (fun K hK => ?_)
  go_big_op
  refine (rshPutNo sb 32 es e _ HP0.out.s HAS.out hn hin hm).mono ?_
  rintro r x1 ⟨rfl, hb⟩
  have HX1 := Lib.hid (blk_ext hb HX0.out)
  have HP1 := Lib.hid (HP0.out.ext hb)
  have D2 := Lib.hid (ext_trans D1.out hb)
  refine hK _ _ ⟨(fun W : World => W.heap[p]? = some (.cells #[.string e.c.a, .string e.c.i, .int .i64 e.c.s, .int .i64 e.c.o, .int .i64 e.c.l, .int .i64 e.c.t, .int .i64 e.c.k, .int .i64 e.c.n, .bool e.c.g, .int .i64 e.seen] 77 (0, 0)) ∧ W.heap[rb]? = some (.cells #[.pointer (some ⟨sb, 0, none⟩), .pointer (some ⟨gb, 0, none⟩), .pointer (some ⟨wb, 0, none⟩), .int .i64 t0, .int .i64 nd, .int .i64 n0] 72 (0, 0))), (by simp only [List.cons_append, List.nil_append, List.forall_mem_cons]; repeat' (first | exact ⟨HX1.out, HP1.out.d⟩ | (intro _ h; cases h; done) | constructor)), ?_⟩
  clear hK K hb HX0 HP0 D1
  repeat (first | (refine Hist.wpG_plain 1 _ (by decide +kernel) rfl (by rfl) (by rfl) (fun K hK => ?_); go_big_quiet_op; refine hK _ ?_; clear hK K) | (refine Hist.wpG_plain 0 _ (by decide +kernel) rfl (by rfl) (by rfl) (fun K hK => ?_); go_big_quiet_op; refine hK _ ?_; clear hK K))
  refine Hist.wpG_nil ?_
  clear hI0 hL0 hM0 hB0_0 hB0_1 hB0_2 hB0_3 hB0_4 hB0_5 hB0_6 hB0_7 hB0_8 hB0_9 hD0_0 hD0_2
  go_wp2
  go_ret
  exact ⟨rfl, D2.out⟩
open Go.PlainAid (bt get_bt)
set_option maxRecDepth 100000 in
set_option maxHeartbeats 2000000 in
theorem refNameOk (s : ByteArray) (w : World) (h : NmOk s) :
    Calls Try.prog 70 #[.string s] w fun r w' => r = .returned (.bool true) ∧ Below w.heap.size w w' := by
  obtain ⟨h1, h2, h3⟩ := h
  have HL := Lib.hid h3
  clear h3
  obtain ⟨n, hn⟩ : ∃ n, s.size = n := ⟨_, rfl⟩
  have hb := get_bt s
  go_enter Try.func70, Try.ntmps70
  go_wp2_with fail
  go_loopw [3] (fun j wr => ∃ J : Nat, J ≤ n ∧ j = .int .i64 (J : Int) ∧ Below w.heap.size w wr) (fun j _ => n - (intOf j).toNat)
  case atStart => exact ⟨0, by omega, rfl, Below.refl _ _⟩
  case round =>
    obtain ⟨w2, rfl⟩ : ∃ y : World, y = wr := ⟨_, rfl⟩
    obtain ⟨J, hJ, rfl, hb2⟩ := hrel
    have HB2 := Lib.hid hb2
    clear hb2
    by_cases hlt : J < n
    · have hlt2 : (J : Int) < (n : Int) := by omega
      have hd : decide ((J : Int) < (n : Int)) = true := decide_eq_true hlt2
      have hL := HL.out J (by omega)
      obtain ⟨q, hq⟩ : ∃ q, bt s J = q := ⟨_, rfl⟩
      rw [hq] at hL
      have HQ := Lib.hid hq
      have hbj : ∃ a b c d : Bool, decide (q < 97) = a ∧ decide (122 < q) = b ∧ decide (q < 48) = c ∧ decide (57 < q) = d ∧ ((a = false ∧ b = false) ∨ (c = false ∧ d = false)) := by
        refine ⟨_, _, _, _, rfl, rfl, rfl, rfl, ?_⟩
        rcases hL with h | h
        · exact .inl ⟨decide_eq_false (by omega), decide_eq_false (by omega)⟩
        · exact .inr ⟨decide_eq_false (by omega), decide_eq_false (by omega)⟩
      obtain ⟨a, b, c, d, e1, e2, e3, e4, e5⟩ := hbj
      clear hL
      have e1' : decide (bt s J < 97) = a := by rw [HQ.out]; exact e1
      have e2' : decide (122 < bt s J) = b := by rw [HQ.out]; exact e2
      have e3' : decide (bt s J < 48) = c := by rw [HQ.out]; exact e3
      have e4' : decide (57 < bt s J) = d := by rw [HQ.out]; exact e4
      clear e1 e2 e3 e4 hq
      cases a
      all_goals cases b
      all_goals cases c
      all_goals cases d
      all_goals first
        | (exfalso; simp at e5; done)
        | skip
      all_goals
        clear e5
        go_wp2
        go_roundw
        case rel => exact ⟨J + 1, by omega, by go_num, HB2.out⟩
        case measure => simp [intOf]; omega
    · obtain rfl : J = n := by omega
      have hlt2 : decide ((J : Int) < (J : Int)) = false := by simp
      have d1 : decide (1 ≤ (J : Int)) = true := decide_eq_true (by omega)
      have d2 : decide ((J : Int) ≤ 16) = true := decide_eq_true (by omega)
      go_wp2
      go_ret
      exact ⟨rfl, HB2.out⟩

set_option maxRecDepth 100000 in
set_option maxHeartbeats 1000000 in
theorem refStampOk (t k n : Int) (w : World) (h1 : 0 ≤ t) (h2 : 0 ≤ k) (h3 : k < 6) (h4 : 0 ≤ n) :
    Calls Try.prog 71 #[.agg #[.int .i64 t, .int .i64 k, .int .i64 n]] w fun r w' => r = .returned (.bool true) ∧ Below w.heap.size w w' := by
  have D0 := Lib.hid (show Below w.heap.size w (w.alloc (.cells #[.int .i64 t, .int .i64 k, .int .i64 n] 32)) from (Below.refl _ _).alloc (Nat.le_refl _) _)
  have HX := Lib.hid (blk_new w #[.int .i64 t, .int .i64 k, .int .i64 n] 32)
  have d1 : decide (0 ≤ t) = true := decide_eq_true (by omega)
  have d2 : decide (0 ≤ k) = true := decide_eq_true (by omega)
  have d3 : decide (k < 6) = true := decide_eq_true (by omega)
  have d4 : decide (0 ≤ n) = true := decide_eq_true (by omega)
  go_enter Try.func71, Try.ntmps71
  go_upto_region 1 with (fail)
  obtain ⟨p, hp⟩ : ∃ p, w.heap.size = p := ⟨_, rfl⟩
  rw [hp] at HX
  try rw [hp]
  clear hp
  generalize (w.alloc (.cells #[.int .i64 t, .int .i64 k, .int .i64 n] 32)) = w1 at *
  have hk := blk_cell HX.out
  have hl := blk_lt HX.out
  go_wp2
  go_ret
  exact ⟨rfl, D0.out⟩

set_option maxRecDepth 100000 in
set_option maxHeartbeats 2000000 in
theorem refCdOk (c : Cd) (w : World) (h : CdR c) :
    Calls Try.prog 43 #[.agg #[.string c.a, .string c.i, .int .i64 c.s, .int .i64 c.o, .int .i64 c.l, .int .i64 c.t, .int .i64 c.k, .int .i64 c.n, .bool c.g]] w fun r w' => r = .returned (.bool true) ∧ Below w.heap.size w w' := by
  obtain ⟨ha, hi, h3, h4, h5, h6, h7, h8, h9, h10, h11, h12⟩ := h
  have HA := Lib.hid ha
  have HI := Lib.hid hi
  have HS := Lib.hid (And.intro h9 (And.intro h10 (And.intro h11 h12)))
  have D0 := Lib.hid (show Below w.heap.size w (w.alloc (.cells #[.string c.a, .string c.i, .int .i64 c.s, .int .i64 c.o, .int .i64 c.l, .int .i64 c.t, .int .i64 c.k, .int .i64 c.n, .bool c.g] 34)) from (Below.refl _ _).alloc (Nat.le_refl _) _)
  have HX := Lib.hid (blk_new w #[.string c.a, .string c.i, .int .i64 c.s, .int .i64 c.o, .int .i64 c.l, .int .i64 c.t, .int .i64 c.k, .int .i64 c.n, .bool c.g] 34)
  have d5 : decide (0 ≤ c.o) = true := decide_eq_true (by omega)
  have d6 : decide (c.o ≤ 3) = true := decide_eq_true (by omega)
  have d7 : decide (1 ≤ c.l) = true := decide_eq_true (by omega)
  have d8 : decide (c.l ≤ 1048576) = true := decide_eq_true (by omega)
  have hs : c.s = 1 ∨ c.s = 2 := by omega
  clear ha hi h3 h4 h5 h6 h7 h8 h9 h10 h11 h12
  go_enter Try.func43, Try.ntmps43
  go_upto_region 1 with (fail)
  obtain ⟨p, hp⟩ : ∃ p, w.heap.size = p := ⟨_, rfl⟩
  rw [hp] at HX
  try rw [hp]
  clear hp
  generalize (w.alloc (.cells #[.string c.a, .string c.i, .int .i64 c.s, .int .i64 c.o, .int .i64 c.l, .int .i64 c.t, .int .i64 c.k, .int .i64 c.n, .bool c.g] 34)) = w1 at *
  have hk := blk_cell HX.out
  have hl := blk_lt HX.out
  go_wp2_with fail
  refine (refNameOk c.a _ HA.out).mono ?_
  rintro e w2 ⟨rfl, hb⟩
  have HX2 := Lib.hid (blk_ext hb HX.out)
  have D2 := Lib.hid (ext_trans D0.out hb)
  clear hk hl hb HX D0
  have hk := blk_cell HX2.out
  have hl := blk_lt HX2.out
  go_wp2_with fail
  refine (refNameOk c.i _ HI.out).mono ?_
  rintro e w3 ⟨rfl, hb⟩
  have HX3 := Lib.hid (blk_ext hb HX2.out)
  have D3 := Lib.hid (ext_trans D2.out hb)
  clear hk hl hb HX2 D2
  have hk := blk_cell HX3.out
  have hl := blk_lt HX3.out
  rcases hs with hs | hs
  · skip
    have e1 : (c.s == 1) = true := by rw [hs]; rfl
    have e2 : (c.s == 2) = false := by rw [hs]; rfl
    go_wp2_with fail
    refine (refStampOk c.t c.k c.n _ HS.out.1 HS.out.2.1 HS.out.2.2.1 HS.out.2.2.2).mono ?_
    rintro e w4 ⟨rfl, hb⟩
    have D4 := Lib.hid (ext_trans D3.out hb)
    clear hb
    go_wp2
    go_ret
    exact ⟨rfl, D4.out⟩
  · skip
    have e1 : (c.s == 1) = false := by rw [hs]; rfl
    have e2 : (c.s == 2) = true := by rw [hs]; rfl
    go_wp2_with fail
    refine (refStampOk c.t c.k c.n _ HS.out.1 HS.out.2.1 HS.out.2.2.1 HS.out.2.2.2).mono ?_
    rintro e w4 ⟨rfl, hb⟩
    have D4 := Lib.hid (ext_trans D3.out hb)
    clear hb
    go_wp2
    go_ret
    exact ⟨rfl, D4.out⟩

end Go.Proofs.Ytloeabdohgdmkaa
