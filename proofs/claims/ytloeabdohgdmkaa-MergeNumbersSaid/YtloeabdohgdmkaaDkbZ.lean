/- A desk: New. -/
import Derived.Test.YtloeabdohgdmkaaDkaZ
import Derived.Test.YtloeabdohgdmkaaHistZ
import Derived.Test.YtloeabdohgdmkaaBeZ
namespace Go.Proofs.Ytloeabdohgdmkaa
open Go.RowKit
set_option linter.unusedVariables false
set_option linter.unusedSimpArgs false

set_option maxRecDepth 100000 in
set_option maxHeartbeats 4000000 in
theorem deskNew (nd now : Int) (w : World) (h1 : 0 ≤ nd) (h2 : nd < 6) (h3 : 0 ≤ now) (h4 : now ≤ 1099511627776) :
    Calls Try.prog 10 #[.int .i64 nd, .int .i64 now] w fun r w' => ∃ db, r = .returned (.pointer (some ⟨db, 0, none⟩)) ∧ w.heap.size ≤ db ∧ DkP w' db nd 0 nd 0 [] now 0 0 [] ∧ Below w.heap.size w w' := by
  have d1 : decide (nd < 0) = false := decide_eq_false (by omega)
  have d2 : decide (6 ≤ nd) = false := decide_eq_false (by omega)
  have d3 : decide (now < 0) = false := decide_eq_false (by omega)
  have d4 : decide (1099511627776 < now) = false := decide_eq_false (by omega)
  go_enter Try.func10, Try.ntmps10
  go_upto_region 3 with (fail)
  haveI hI0 : Nonempty (In (fun _ : World => True)) := ⟨⟨w, trivial⟩⟩
  refine Hist.wp_region_hist (fun _ => True) (by kernel_rfl) (by kernel_rfl) (by kernel_rfl) trivial ?_
  have D0 := Lib.hid ((Below.refl w.heap.size w).drew)
  generalize w.drew = x0 at *
  repeat (first | (refine Hist.wpG_plain 0 _ (by decide +kernel) rfl (by rfl) (by rfl) (fun K hK => ?_); go_big_quiet_op; refine hK _ ?_; clear hK K))
  refine Hist.wpG_call (by rfl) (by rfl) (fun K hK => ?_)
  go_big_op
  refine (shNew 32 _ (by omega)).mono ?_
  rintro e x1 ⟨rfl, hs, hb⟩
  obtain ⟨sb, hsb⟩ : ∃ sb, x0.heap.size = sb := ⟨_, rfl⟩
  rw [hsb] at hs
  try rw [hsb]
  obtain ⟨a, c, g1, g2, g3, g4, g5⟩ := hs
  have HX1 := Lib.hid (show x1.heap[sb]? = some (.cells #[.int .i64 32, .slice a 0 c] 83 (0, 0)) from g1)
  have HF := Lib.hid (And.intro g3 (And.intro g4 g5))
  have D1 := Lib.hid (ext_trans D0.out hb)
  haveI hI1 : Nonempty (In (fun W : World => W.heap[sb]? = some (.cells #[.int .i64 32, .slice a 0 c] 83 (0, 0)))) := ⟨⟨_, HX1.out⟩⟩
  have hL1 : ∀ g : In (fun W : World => W.heap[sb]? = some (.cells #[.int .i64 32, .slice a 0 c] 83 (0, 0))), sb < g.w.heap.size := fun g => blk_lt g.h
  have hB1_0 : ∀ g : In (fun W : World => W.heap[sb]? = some (.cells #[.int .i64 32, .slice a 0 c] 83 (0, 0))), g.w.cell? ⟨sb, 0, none⟩ = some (.int .i64 32) := fun g => by rw [blk_cell g.h]; rfl
  have hB1_1 : ∀ g : In (fun W : World => W.heap[sb]? = some (.cells #[.int .i64 32, .slice a 0 c] 83 (0, 0))), g.w.cell? ⟨sb, 1, none⟩ = some (.slice a 0 c) := fun g => by rw [blk_cell g.h]; rfl
  refine hK _ _ ⟨(fun W : World => W.heap[sb]? = some (.cells #[.int .i64 32, .slice a 0 c] 83 (0, 0))), (by simp only [List.cons_append, List.nil_append, List.forall_mem_cons]; repeat' (first | exact HX1.out | (intro _ h; cases h; done) | (exact trivial) | constructor)), ?_⟩
  clear hK K g1 g2 g3 g4 g5 hb hsb D0
  repeat (first | (refine Hist.wpG_plain 1 _ (by decide +kernel) rfl (by rfl) (by rfl) (fun K hK => ?_); go_big_quiet_op; refine hK _ ?_; clear hK K) | (refine Hist.wpG_plain 0 _ (by decide +kernel) rfl (by rfl) (by rfl) (fun K hK => ?_); go_big_quiet_op; refine hK _ ?_; clear hK K))
  refine Hist.wpG_call (by rfl) (by rfl) (fun K hK => ?_)
  go_big_op
  refine (guardNew now _).mono ?_
  rintro e x2 ⟨rfl, hx2⟩
  have hb : Below x1.heap.size x1 x2 := by rw [hx2]; exact (Below.refl _ _).alloc (Nat.le_refl _) _
  obtain ⟨gb, hgb⟩ : ∃ gb, x1.heap.size = gb := ⟨_, rfl⟩
  have HX2 := Lib.hid (show x2.heap[gb]? = some (.cells #[.int .i64 now, .int .i64 0, .int .i64 0] 86 (0, 0)) from by rw [hx2, ← hgb]; exact blk_new _ _ _)
  try rw [hgb]
  clear hx2 hgb
  have HX12 := Lib.hid (blk_ext hb HX1.out)
  have D2 := Lib.hid (ext_trans D1.out hb)
  haveI hI2 : Nonempty (In (fun W : World => W.heap[gb]? = some (.cells #[.int .i64 now, .int .i64 0, .int .i64 0] 86 (0, 0)))) := ⟨⟨_, HX2.out⟩⟩
  have hL2 : ∀ g : In (fun W : World => W.heap[gb]? = some (.cells #[.int .i64 now, .int .i64 0, .int .i64 0] 86 (0, 0))), gb < g.w.heap.size := fun g => blk_lt g.h
  have hB2_0 : ∀ g : In (fun W : World => W.heap[gb]? = some (.cells #[.int .i64 now, .int .i64 0, .int .i64 0] 86 (0, 0))), g.w.cell? ⟨gb, 0, none⟩ = some (.int .i64 now) := fun g => by rw [blk_cell g.h]; rfl
  have hB2_1 : ∀ g : In (fun W : World => W.heap[gb]? = some (.cells #[.int .i64 now, .int .i64 0, .int .i64 0] 86 (0, 0))), g.w.cell? ⟨gb, 1, none⟩ = some (.int .i64 0) := fun g => by rw [blk_cell g.h]; rfl
  have hB2_2 : ∀ g : In (fun W : World => W.heap[gb]? = some (.cells #[.int .i64 now, .int .i64 0, .int .i64 0] 86 (0, 0))), g.w.cell? ⟨gb, 2, none⟩ = some (.int .i64 0) := fun g => by rw [blk_cell g.h]; rfl
  refine hK _ _ ⟨(fun W : World => W.heap[gb]? = some (.cells #[.int .i64 now, .int .i64 0, .int .i64 0] 86 (0, 0))), (by simp only [List.cons_append, List.nil_append, List.forall_mem_cons]; repeat' (first | exact HX12.out | exact HX2.out | (intro _ h; cases h; done) | (exact trivial) | constructor)), ?_⟩
  clear hK K hb D1
  repeat (first | (refine Hist.wpG_plain 2 _ (by decide +kernel) rfl (by rfl) (by rfl) (fun K hK => ?_); go_big_quiet_op; refine hK _ ?_; clear hK K) | (refine Hist.wpG_plain 1 _ (by decide +kernel) rfl (by rfl) (by rfl) (fun K hK => ?_); go_big_quiet_op; refine hK _ ?_; clear hK K) | (refine Hist.wpG_plain 0 _ (by decide +kernel) rfl (by rfl) (by rfl) (fun K hK => ?_); go_big_quiet_op; refine hK _ ?_; clear hK K))
  refine Hist.wpG_call (by rfl) (by rfl) (fun K hK => ?_)
  go_big_op
  refine (recentNew _).mono ?_
  rintro e x3 ⟨rfl, hq, hb⟩
  obtain ⟨rb, hrb⟩ : ∃ rb, x2.heap.size = rb := ⟨_, rfl⟩
  rw [hrb] at hq
  try rw [hrb]
  obtain ⟨ka, kc, q1, -, -, -, -, q6⟩ := hq
  obtain ⟨rfl, rfl⟩ := q6 rfl
  have HX3 := Lib.hid (show x3.heap[rb]? = some (.cells #[.int .i64 0, .slice none 0 0] 90 (0, 0)) from q1)
  have HX13 := Lib.hid (blk_ext hb HX12.out)
  have HX23 := Lib.hid (blk_ext hb HX2.out)
  have D3 := Lib.hid (ext_trans D2.out hb)
  haveI hI3 : Nonempty (In (fun W : World => W.heap[rb]? = some (.cells #[.int .i64 0, .slice none 0 0] 90 (0, 0)))) := ⟨⟨_, HX3.out⟩⟩
  have hL3 : ∀ g : In (fun W : World => W.heap[rb]? = some (.cells #[.int .i64 0, .slice none 0 0] 90 (0, 0))), rb < g.w.heap.size := fun g => blk_lt g.h
  have hB3_0 : ∀ g : In (fun W : World => W.heap[rb]? = some (.cells #[.int .i64 0, .slice none 0 0] 90 (0, 0))), g.w.cell? ⟨rb, 0, none⟩ = some (.int .i64 0) := fun g => by rw [blk_cell g.h]; rfl
  have hB3_1 : ∀ g : In (fun W : World => W.heap[rb]? = some (.cells #[.int .i64 0, .slice none 0 0] 90 (0, 0))), g.w.cell? ⟨rb, 1, none⟩ = some (.slice none 0 0) := fun g => by rw [blk_cell g.h]; rfl
  refine hK _ _ ⟨(fun W : World => W.heap[rb]? = some (.cells #[.int .i64 0, .slice none 0 0] 90 (0, 0))), (by simp only [List.cons_append, List.nil_append, List.forall_mem_cons]; repeat' (first | exact HX13.out | exact HX23.out | exact HX3.out | (intro _ h; cases h; done) | (exact trivial) | constructor)), ?_⟩
  clear hK K hb hrb q1 q6 D2
  repeat (first | (refine Hist.wpG_plain 3 _ (by decide +kernel) rfl (by rfl) (by rfl) (fun K hK => ?_); go_big_quiet_op; refine hK _ ?_; clear hK K) | (refine Hist.wpG_plain 2 _ (by decide +kernel) rfl (by rfl) (by rfl) (fun K hK => ?_); go_big_quiet_op; refine hK _ ?_; clear hK K) | (refine Hist.wpG_plain 1 _ (by decide +kernel) rfl (by rfl) (by rfl) (fun K hK => ?_); go_big_quiet_op; refine hK _ ?_; clear hK K) | (refine Hist.wpG_plain 0 _ (by decide +kernel) rfl (by rfl) (by rfl) (fun K hK => ?_); go_big_quiet_op; refine hK _ ?_; clear hK K))
  refine Hist.wpG_call (by rfl) (by rfl) (fun K hK => ?_)
  go_big_op
  have E4 := (Below.refl x3.heap.size x3).alloc (Nat.le_refl _) (.cells #[.int .i64 nd, .int .i64 0, .int .i64 nd, .int .i64 0, .int .i64 32, .slice a 0 c, .int .i64 now, .int .i64 0, .int .i64 0, .int .i64 0, .slice none 0 0] 92)
  have HX4 := Lib.hid (blk_new x3 #[.int .i64 nd, .int .i64 0, .int .i64 nd, .int .i64 0, .int .i64 32, .slice a 0 c, .int .i64 now, .int .i64 0, .int .i64 0, .int .i64 0, .slice none 0 0] 92)
  have HX14 := Lib.hid (blk_ext E4 HX13.out)
  have HX24 := Lib.hid (blk_ext E4 HX23.out)
  have HX34 := Lib.hid (blk_ext E4 HX3.out)
  have D4 := Lib.hid (ext_trans D3.out E4)
  have hdb := D3.out.size
  obtain ⟨db, hdb2⟩ : ∃ db, x3.heap.size = db := ⟨_, rfl⟩
  refine hK _ _ ⟨fun _ => True, (by simp only [List.cons_append, List.nil_append, List.forall_mem_cons]; repeat' (first | exact HX14.out | exact HX24.out | exact HX34.out | (intro _ h; cases h; done) | (exact trivial) | constructor)), ?_⟩
  clear hK K E4
  try simp only [Act.put, List.setIfInBounds_toArray, List.set_cons_succ, List.set_cons_zero]
  repeat (first | (refine Hist.wpG_plain 4 _ (by decide +kernel) rfl (by rfl) (by rfl) (fun K hK => ?_); go_big_quiet_op; refine hK _ ?_; clear hK K) | (refine Hist.wpG_plain 3 _ (by decide +kernel) rfl (by rfl) (by rfl) (fun K hK => ?_); go_big_quiet_op; refine hK _ ?_; clear hK K) | (refine Hist.wpG_plain 2 _ (by decide +kernel) rfl (by rfl) (by rfl) (fun K hK => ?_); go_big_quiet_op; refine hK _ ?_; clear hK K) | (refine Hist.wpG_plain 1 _ (by decide +kernel) rfl (by rfl) (by rfl) (fun K hK => ?_); go_big_quiet_op; refine hK _ ?_; clear hK K) | (refine Hist.wpG_plain 0 _ (by decide +kernel) rfl (by rfl) (by rfl) (fun K hK => ?_); go_big_quiet_op; refine hK _ ?_; clear hK K))
  refine Hist.wpG_nil ?_
  clear hI0 hI1 hL1 hB1_0 hB1_1 hI2 hL2 hB2_0 hB2_1 hB2_2 hI3 hL3 hB3_0 hB3_1
  go_wp2
  go_ret
  rw [hdb2] at HX4 hdb
  refine ⟨db, by rw [hdb2]; rfl, hdb, ⟨a, c, none, 0, HX4.out, ⟨.inl rfl, HF.out.1, HF.out.2.1, HF.out.2.2⟩, Nat.le_refl _, by simp [maxLen], .inl rfl, (by simp), (by simp), fun b o e => by cases e⟩, D4.out⟩

end Go.Proofs.Ytloeabdohgdmkaa

/- Stamps, for a desk. -/
namespace Go.Proofs.Ytloeabdohgdmkaa
open Go.RowKit
set_option linter.unusedVariables false
set_option linter.unusedSimpArgs false

end Go.Proofs.Ytloeabdohgdmkaa

/- What becomes of an entry; Get of a desk's shelf; the next stamp. -/
namespace Go.Proofs.Ytloeabdohgdmkaa
open Go.RowKit
set_option linter.unusedVariables false
set_option linter.unusedSimpArgs false

/-- the entry of a key; the empty one, if there is none -/
def ge (es : List En) (k : Ky) : En := if isIn k es = true then (es[low k es]?).getD En.zero else En.zero
theorem ge_yes {es : List En} {k : Ky} (hi : isIn k es = true) : es[low k es]? = some (ge es k) ∧ enK (ge es k) = k := by
  obtain ⟨x, hx, h2, h3⟩ := isIn_at hi
  have e : ge es k = x := by unfold ge; rw [if_pos hi, hx]; rfl
  rw [e]
  exact ⟨hx, (Prod.ext h2 h3 : enK x = k)⟩
theorem ge_no {es : List En} {k : Ky} (hi : isIn k es = false) : ge es k = En.zero := by unfold ge; rw [if_neg (by rw [hi]; simp)]
theorem dkGet (Dk0 : DkR) (sb : Nat) (most : Int) (es : List En) (k : Ky) (w : World) (h : DkS Dk0 w sb most es) (hs : Asc es) (hn : es.length ≤ 900) :
    Calls Try.prog 19 #[.pointer (some ⟨sb, 4, none⟩), .agg #[.string k.1, .string k.2]] w fun r w' => r = .returned (.tuple #[(ge es k).v, .bool (isIn k es)]) ∧ Below w.heap.size w w' := by
  cases hi : isIn k es
  · exact (dkGetNo Dk0 sb most es k w h hs hn hi).mono fun r w' ⟨h1, h2⟩ => ⟨by rw [h1, ge_no hi], h2⟩
  · obtain ⟨h3, h4⟩ := ge_yes hi
    exact (dkGetYes Dk0 sb most es k w h _ hs hn h3 hi).mono fun r w' ⟨h1, h2⟩ => ⟨h1, h2⟩
/-- the same, of a desk -/
theorem dkGetP (db : Nat) (nd t0 k0 n0 : Int) (es : List En) (g l tt : Int) (ks : List Ky) (k : Ky) (w : World) (h : DkP w db nd t0 k0 n0 es g l tt ks) (hs : Asc es) (hn : es.length ≤ 900) (e : En) (b : Bool) (he : ge es k = e) (hb : isIn k es = b) :
    Calls Try.prog 19 #[.pointer (some ⟨db, 4, none⟩), .agg #[.string k.1, .string k.2]] w fun r w' => r = .returned (.tuple #[.agg #[.string e.c.a, .string e.c.i, .int .i64 e.c.s, .int .i64 e.c.o, .int .i64 e.c.l, .int .i64 e.c.t, .int .i64 e.c.k, .int .i64 e.c.n, .bool e.c.g, .int .i64 e.seen], .bool b]) ∧ Below w.heap.size w w' := by
  obtain ⟨Dk0, h1, -⟩ := h.s
  subst he hb
  exact dkGet Dk0 db 32 es k w h1 hs hn
end Go.Proofs.Ytloeabdohgdmkaa

/- A desk: Set. -/
namespace Go.Proofs.Ytloeabdohgdmkaa
open Go.RowKit
set_option linter.unusedVariables false
set_option linter.unusedSimpArgs false

set_option maxRecDepth 100000 in
set_option maxHeartbeats 4000000 in
theorem deskSetIn (db : Nat) (nd t0 k0 n0 : Int) (es : List En) (g l tt : Int) (ks : List Ky) (e : En) (w : World) (h : DkP w db nd t0 k0 n0 es g l tt ks) (hs : Asc es) (hn : es.length ≤ 900) (hin : isIn (enK e) es = true) (hks : ks.length ≤ 1000000) :
    Calls Try.prog 35 #[.pointer (some ⟨db, 0, none⟩), .agg #[.string e.c.a, .string e.c.i, .int .i64 e.c.s, .int .i64 e.c.o, .int .i64 e.c.l, .int .i64 e.c.t, .int .i64 e.c.k, .int .i64 e.c.n, .bool e.c.g, .int .i64 e.seen]] w fun r w' => r = .returned (.int .i64 0) ∧ DkP w' db nd t0 k0 n0 (es.set (low (enK e) es) e) g l tt (ks ++ [(e.c.a, e.c.i)]) ∧ Rim db w w' := by
  have D0 := Lib.hid (show Below w.heap.size w (w.alloc (.cells #[.string e.c.a, .string e.c.i, .int .i64 e.c.s, .int .i64 e.c.o, .int .i64 e.c.l, .int .i64 e.c.t, .int .i64 e.c.k, .int .i64 e.c.n, .bool e.c.g, .int .i64 e.seen] 56)) from (Below.refl _ _).alloc (Nat.le_refl _) _)
  have HX := Lib.hid (blk_new w #[.string e.c.a, .string e.c.i, .int .i64 e.c.s, .int .i64 e.c.o, .int .i64 e.c.l, .int .i64 e.c.t, .int .i64 e.c.k, .int .i64 e.c.n, .bool e.c.g, .int .i64 e.seen] 56)
  have HP := Lib.hid (h.ext D0.out)
  have hlt := h.lt
  have HAS := Lib.hid hs
  clear h hs
  go_enter Try.func35, Try.ntmps35
  go_upto_region 1 with (fail)
  obtain ⟨p, hp⟩ : ∃ p, w.heap.size = p := ⟨_, rfl⟩
  have hpd : p ≠ db := by omega
  have HPW := Lib.hid hp
  rw [hp] at HX
  try rw [hp]
  clear hp hlt
  generalize (w.alloc (.cells #[.string e.c.a, .string e.c.i, .int .i64 e.c.s, .int .i64 e.c.o, .int .i64 e.c.l, .int .i64 e.c.t, .int .i64 e.c.k, .int .i64 e.c.n, .bool e.c.g, .int .i64 e.seen] 56)) = w1 at *
  have HX0 := Lib.hid (blk_ext ((Below.refl w1.heap.size w1).drew) HX.out)
  have HP0 := Lib.hid (HP.out.ext ((Below.refl w1.heap.size w1).drew))
  have D1 := Lib.hid (ext_trans D0.out ((Below.refl w1.heap.size w1).drew))
  have hldb := HP.out.lt
  haveI hI0 : Nonempty (In (fun W : World => W.heap[p]? = some (.cells #[.string e.c.a, .string e.c.i, .int .i64 e.c.s, .int .i64 e.c.o, .int .i64 e.c.l, .int .i64 e.c.t, .int .i64 e.c.k, .int .i64 e.c.n, .bool e.c.g, .int .i64 e.seen] 56 (0, 0)))) := ⟨⟨_, HX0.out⟩⟩
  have hL0 : ∀ g : In (fun W : World => W.heap[p]? = some (.cells #[.string e.c.a, .string e.c.i, .int .i64 e.c.s, .int .i64 e.c.o, .int .i64 e.c.l, .int .i64 e.c.t, .int .i64 e.c.k, .int .i64 e.c.n, .bool e.c.g, .int .i64 e.seen] 56 (0, 0))), p < g.w.heap.size := fun g => blk_lt g.h
  have hB0_0 : ∀ g : In (fun W : World => W.heap[p]? = some (.cells #[.string e.c.a, .string e.c.i, .int .i64 e.c.s, .int .i64 e.c.o, .int .i64 e.c.l, .int .i64 e.c.t, .int .i64 e.c.k, .int .i64 e.c.n, .bool e.c.g, .int .i64 e.seen] 56 (0, 0))), g.w.cell? ⟨p, 0, none⟩ = some (.string e.c.a) := fun g => by rw [blk_cell g.h]; rfl
  have hB0_1 : ∀ g : In (fun W : World => W.heap[p]? = some (.cells #[.string e.c.a, .string e.c.i, .int .i64 e.c.s, .int .i64 e.c.o, .int .i64 e.c.l, .int .i64 e.c.t, .int .i64 e.c.k, .int .i64 e.c.n, .bool e.c.g, .int .i64 e.seen] 56 (0, 0))), g.w.cell? ⟨p, 1, none⟩ = some (.string e.c.i) := fun g => by rw [blk_cell g.h]; rfl
  have hB0_2 : ∀ g : In (fun W : World => W.heap[p]? = some (.cells #[.string e.c.a, .string e.c.i, .int .i64 e.c.s, .int .i64 e.c.o, .int .i64 e.c.l, .int .i64 e.c.t, .int .i64 e.c.k, .int .i64 e.c.n, .bool e.c.g, .int .i64 e.seen] 56 (0, 0))), g.w.cell? ⟨p, 2, none⟩ = some (.int .i64 e.c.s) := fun g => by rw [blk_cell g.h]; rfl
  have hB0_3 : ∀ g : In (fun W : World => W.heap[p]? = some (.cells #[.string e.c.a, .string e.c.i, .int .i64 e.c.s, .int .i64 e.c.o, .int .i64 e.c.l, .int .i64 e.c.t, .int .i64 e.c.k, .int .i64 e.c.n, .bool e.c.g, .int .i64 e.seen] 56 (0, 0))), g.w.cell? ⟨p, 3, none⟩ = some (.int .i64 e.c.o) := fun g => by rw [blk_cell g.h]; rfl
  have hB0_4 : ∀ g : In (fun W : World => W.heap[p]? = some (.cells #[.string e.c.a, .string e.c.i, .int .i64 e.c.s, .int .i64 e.c.o, .int .i64 e.c.l, .int .i64 e.c.t, .int .i64 e.c.k, .int .i64 e.c.n, .bool e.c.g, .int .i64 e.seen] 56 (0, 0))), g.w.cell? ⟨p, 4, none⟩ = some (.int .i64 e.c.l) := fun g => by rw [blk_cell g.h]; rfl
  have hB0_5 : ∀ g : In (fun W : World => W.heap[p]? = some (.cells #[.string e.c.a, .string e.c.i, .int .i64 e.c.s, .int .i64 e.c.o, .int .i64 e.c.l, .int .i64 e.c.t, .int .i64 e.c.k, .int .i64 e.c.n, .bool e.c.g, .int .i64 e.seen] 56 (0, 0))), g.w.cell? ⟨p, 5, none⟩ = some (.int .i64 e.c.t) := fun g => by rw [blk_cell g.h]; rfl
  have hB0_6 : ∀ g : In (fun W : World => W.heap[p]? = some (.cells #[.string e.c.a, .string e.c.i, .int .i64 e.c.s, .int .i64 e.c.o, .int .i64 e.c.l, .int .i64 e.c.t, .int .i64 e.c.k, .int .i64 e.c.n, .bool e.c.g, .int .i64 e.seen] 56 (0, 0))), g.w.cell? ⟨p, 6, none⟩ = some (.int .i64 e.c.k) := fun g => by rw [blk_cell g.h]; rfl
  have hB0_7 : ∀ g : In (fun W : World => W.heap[p]? = some (.cells #[.string e.c.a, .string e.c.i, .int .i64 e.c.s, .int .i64 e.c.o, .int .i64 e.c.l, .int .i64 e.c.t, .int .i64 e.c.k, .int .i64 e.c.n, .bool e.c.g, .int .i64 e.seen] 56 (0, 0))), g.w.cell? ⟨p, 7, none⟩ = some (.int .i64 e.c.n) := fun g => by rw [blk_cell g.h]; rfl
  have hB0_8 : ∀ g : In (fun W : World => W.heap[p]? = some (.cells #[.string e.c.a, .string e.c.i, .int .i64 e.c.s, .int .i64 e.c.o, .int .i64 e.c.l, .int .i64 e.c.t, .int .i64 e.c.k, .int .i64 e.c.n, .bool e.c.g, .int .i64 e.seen] 56 (0, 0))), g.w.cell? ⟨p, 8, none⟩ = some (.bool e.c.g) := fun g => by rw [blk_cell g.h]; rfl
  have hB0_9 : ∀ g : In (fun W : World => W.heap[p]? = some (.cells #[.string e.c.a, .string e.c.i, .int .i64 e.c.s, .int .i64 e.c.o, .int .i64 e.c.l, .int .i64 e.c.t, .int .i64 e.c.k, .int .i64 e.c.n, .bool e.c.g, .int .i64 e.seen] 56 (0, 0))), g.w.cell? ⟨p, 9, none⟩ = some (.int .i64 e.seen) := fun g => by rw [blk_cell g.h]; rfl
  refine Hist.wp_region_hist (fun W : World => W.heap[p]? = some (.cells #[.string e.c.a, .string e.c.i, .int .i64 e.c.s, .int .i64 e.c.o, .int .i64 e.c.l, .int .i64 e.c.t, .int .i64 e.c.k, .int .i64 e.c.n, .bool e.c.g, .int .i64 e.seen] 56 (0, 0))) (by kernel_rfl) (by kernel_rfl) (by kernel_rfl) HX0.out ?_
  clear HX HP D0
  generalize w1.drew = x0 at *
  obtain ⟨Dk0, hds, hback⟩ := HP0.out.s
  have HDS := Lib.hid hds
  have HBK := Lib.hid hback
  clear hds hback
  repeat (first | (refine Hist.wpG_plain 0 _ (by decide +kernel) rfl (by rfl) (by rfl) (fun K hK => ?_); go_big_quiet_op; refine hK _ ?_; clear hK K))
  refine Hist.wpG_call (by rfl) (by rfl) (fun K hK => ?_)
  go_big_op
  refine (dkPutIn Dk0 db 32 es e _ HDS.out HAS.out hn hin).mono ?_
  rintro r x1 ⟨rfl, hds, hr⟩
  have HX1 := Lib.hid ((hr.block p hpd (blk_lt HX0.out)).trans HX0.out)
  have HP1 := Lib.hid (HBK.out x1 _ hds hr)
  have HR1 := Lib.hid ((Rim.of D1.out).trans hr)
  refine hK _ _ ⟨(fun W : World => W.heap[p]? = some (.cells #[.string e.c.a, .string e.c.i, .int .i64 e.c.s, .int .i64 e.c.o, .int .i64 e.c.l, .int .i64 e.c.t, .int .i64 e.c.k, .int .i64 e.c.n, .bool e.c.g, .int .i64 e.seen] 56 (0, 0))), (by simp only [List.cons_append, List.nil_append, List.forall_mem_cons]; repeat' (first | exact HX1.out | (intro _ h; cases h; done) | constructor)), ?_⟩
  clear hK K hds hr HX0 HP0 D1 HDS HBK
  repeat (first | (refine Hist.wpG_plain 1 _ (by decide +kernel) rfl (by rfl) (by rfl) (fun K hK => ?_); go_big_quiet_op; refine hK _ ?_; clear hK K) | (refine Hist.wpG_plain 0 _ (by decide +kernel) rfl (by rfl) (by rfl) (fun K hK => ?_); go_big_quiet_op; refine hK _ ?_; clear hK K))
  refine Hist.wpG_nil ?_
  clear hI0 hL0 hB0_0 hB0_1 hB0_2 hB0_3 hB0_4 hB0_5 hB0_6 hB0_7 hB0_8 hB0_9
  go_upto_region 3 with (fail)
  have HX2 := Lib.hid (blk_ext ((Below.refl x1.heap.size x1).drew) HX1.out)
  have HP2 := Lib.hid (HP1.out.ext ((Below.refl x1.heap.size x1).drew))
  have HR2 := Lib.hid (HR1.out.trans (Rim.of ((Below.refl x1.heap.size x1).drew)))
  haveI hI2 : Nonempty (In (fun W : World => W.heap[p]? = some (.cells #[.string e.c.a, .string e.c.i, .int .i64 e.c.s, .int .i64 e.c.o, .int .i64 e.c.l, .int .i64 e.c.t, .int .i64 e.c.k, .int .i64 e.c.n, .bool e.c.g, .int .i64 e.seen] 56 (0, 0)))) := ⟨⟨_, HX2.out⟩⟩
  have hL2 : ∀ g : In (fun W : World => W.heap[p]? = some (.cells #[.string e.c.a, .string e.c.i, .int .i64 e.c.s, .int .i64 e.c.o, .int .i64 e.c.l, .int .i64 e.c.t, .int .i64 e.c.k, .int .i64 e.c.n, .bool e.c.g, .int .i64 e.seen] 56 (0, 0))), p < g.w.heap.size := fun g => blk_lt g.h
  have hB2_0 : ∀ g : In (fun W : World => W.heap[p]? = some (.cells #[.string e.c.a, .string e.c.i, .int .i64 e.c.s, .int .i64 e.c.o, .int .i64 e.c.l, .int .i64 e.c.t, .int .i64 e.c.k, .int .i64 e.c.n, .bool e.c.g, .int .i64 e.seen] 56 (0, 0))), g.w.cell? ⟨p, 0, none⟩ = some (.string e.c.a) := fun g => by rw [blk_cell g.h]; rfl
  have hB2_1 : ∀ g : In (fun W : World => W.heap[p]? = some (.cells #[.string e.c.a, .string e.c.i, .int .i64 e.c.s, .int .i64 e.c.o, .int .i64 e.c.l, .int .i64 e.c.t, .int .i64 e.c.k, .int .i64 e.c.n, .bool e.c.g, .int .i64 e.seen] 56 (0, 0))), g.w.cell? ⟨p, 1, none⟩ = some (.string e.c.i) := fun g => by rw [blk_cell g.h]; rfl
  have hB2_2 : ∀ g : In (fun W : World => W.heap[p]? = some (.cells #[.string e.c.a, .string e.c.i, .int .i64 e.c.s, .int .i64 e.c.o, .int .i64 e.c.l, .int .i64 e.c.t, .int .i64 e.c.k, .int .i64 e.c.n, .bool e.c.g, .int .i64 e.seen] 56 (0, 0))), g.w.cell? ⟨p, 2, none⟩ = some (.int .i64 e.c.s) := fun g => by rw [blk_cell g.h]; rfl
  have hB2_3 : ∀ g : In (fun W : World => W.heap[p]? = some (.cells #[.string e.c.a, .string e.c.i, .int .i64 e.c.s, .int .i64 e.c.o, .int .i64 e.c.l, .int .i64 e.c.t, .int .i64 e.c.k, .int .i64 e.c.n, .bool e.c.g, .int .i64 e.seen] 56 (0, 0))), g.w.cell? ⟨p, 3, none⟩ = some (.int .i64 e.c.o) := fun g => by rw [blk_cell g.h]; rfl
  have hB2_4 : ∀ g : In (fun W : World => W.heap[p]? = some (.cells #[.string e.c.a, .string e.c.i, .int .i64 e.c.s, .int .i64 e.c.o, .int .i64 e.c.l, .int .i64 e.c.t, .int .i64 e.c.k, .int .i64 e.c.n, .bool e.c.g, .int .i64 e.seen] 56 (0, 0))), g.w.cell? ⟨p, 4, none⟩ = some (.int .i64 e.c.l) := fun g => by rw [blk_cell g.h]; rfl
  have hB2_5 : ∀ g : In (fun W : World => W.heap[p]? = some (.cells #[.string e.c.a, .string e.c.i, .int .i64 e.c.s, .int .i64 e.c.o, .int .i64 e.c.l, .int .i64 e.c.t, .int .i64 e.c.k, .int .i64 e.c.n, .bool e.c.g, .int .i64 e.seen] 56 (0, 0))), g.w.cell? ⟨p, 5, none⟩ = some (.int .i64 e.c.t) := fun g => by rw [blk_cell g.h]; rfl
  have hB2_6 : ∀ g : In (fun W : World => W.heap[p]? = some (.cells #[.string e.c.a, .string e.c.i, .int .i64 e.c.s, .int .i64 e.c.o, .int .i64 e.c.l, .int .i64 e.c.t, .int .i64 e.c.k, .int .i64 e.c.n, .bool e.c.g, .int .i64 e.seen] 56 (0, 0))), g.w.cell? ⟨p, 6, none⟩ = some (.int .i64 e.c.k) := fun g => by rw [blk_cell g.h]; rfl
  have hB2_7 : ∀ g : In (fun W : World => W.heap[p]? = some (.cells #[.string e.c.a, .string e.c.i, .int .i64 e.c.s, .int .i64 e.c.o, .int .i64 e.c.l, .int .i64 e.c.t, .int .i64 e.c.k, .int .i64 e.c.n, .bool e.c.g, .int .i64 e.seen] 56 (0, 0))), g.w.cell? ⟨p, 7, none⟩ = some (.int .i64 e.c.n) := fun g => by rw [blk_cell g.h]; rfl
  have hB2_8 : ∀ g : In (fun W : World => W.heap[p]? = some (.cells #[.string e.c.a, .string e.c.i, .int .i64 e.c.s, .int .i64 e.c.o, .int .i64 e.c.l, .int .i64 e.c.t, .int .i64 e.c.k, .int .i64 e.c.n, .bool e.c.g, .int .i64 e.seen] 56 (0, 0))), g.w.cell? ⟨p, 8, none⟩ = some (.bool e.c.g) := fun g => by rw [blk_cell g.h]; rfl
  have hB2_9 : ∀ g : In (fun W : World => W.heap[p]? = some (.cells #[.string e.c.a, .string e.c.i, .int .i64 e.c.s, .int .i64 e.c.o, .int .i64 e.c.l, .int .i64 e.c.t, .int .i64 e.c.k, .int .i64 e.c.n, .bool e.c.g, .int .i64 e.seen] 56 (0, 0))), g.w.cell? ⟨p, 9, none⟩ = some (.int .i64 e.seen) := fun g => by rw [blk_cell g.h]; rfl
  refine Hist.wp_region_hist (fun W : World => W.heap[p]? = some (.cells #[.string e.c.a, .string e.c.i, .int .i64 e.c.s, .int .i64 e.c.o, .int .i64 e.c.l, .int .i64 e.c.t, .int .i64 e.c.k, .int .i64 e.c.n, .bool e.c.g, .int .i64 e.seen] 56 (0, 0))) (by kernel_rfl) (by kernel_rfl) (by kernel_rfl) HX2.out ?_
  clear HX1 HP1 HR1
  generalize x1.drew = x2 at *
  obtain ⟨Dq, hdq, hback⟩ := HP2.out.r
  have HDQ := Lib.hid hdq
  have HBQ := Lib.hid hback
  clear hdq hback
  repeat (first | (refine Hist.wpG_plain 0 _ (by decide +kernel) rfl (by rfl) (by rfl) (fun K hK => ?_); go_big_quiet_op; refine hK _ ?_; clear hK K))
  refine Hist.wpG_call (by rfl) (by rfl) (fun K hK => ?_)
  go_big_op
  refine (recentAddD Dq db ks.length (lastK ks ks.length) (e.c.a, e.c.i) _ HDQ.out (by rw [lastK_len _ _ (Nat.le_refl _)]; omega) hks).mono ?_
  rintro r x3 ⟨rfl, hdq, hr⟩
  have HX3 := Lib.hid ((hr.block p hpd (blk_lt HX2.out)).trans HX2.out)
  have HP3 := Lib.hid (HBQ.out x3 (ks ++ [(e.c.a, e.c.i)]) (by have h9 := hdq; rw [addK_all] at h9; rw [List.length_append]; rw [List.length_append] at h9; exact h9) hr)
  have HR3 := Lib.hid (HR2.out.trans ⟨hr.os, hr.tape, hr.output, hr.size, fun k hk hl => hr.block k hk hl⟩)
  refine hK _ _ ⟨(fun W : World => W.heap[p]? = some (.cells #[.string e.c.a, .string e.c.i, .int .i64 e.c.s, .int .i64 e.c.o, .int .i64 e.c.l, .int .i64 e.c.t, .int .i64 e.c.k, .int .i64 e.c.n, .bool e.c.g, .int .i64 e.seen] 56 (0, 0))), (by simp only [List.cons_append, List.nil_append, List.forall_mem_cons]; repeat' (first | exact HX3.out | (intro _ h; cases h; done) | constructor)), ?_⟩
  clear hK K hdq hr HX2 HP2 HDQ HBQ HR2
  try simp only [Act.put, List.setIfInBounds_toArray, List.set_cons_succ, List.set_cons_zero]
  refine Hist.wpG_nil ?_
  clear hI2 hL2 hB2_0 hB2_1 hB2_2 hB2_3 hB2_4 hB2_5 hB2_6 hB2_7 hB2_8 hB2_9
  go_wp2
  go_ret
  exact ⟨rfl, HP3.out, HR3.out⟩

set_option maxRecDepth 100000 in
set_option maxHeartbeats 4000000 in
theorem deskSetNew (db : Nat) (nd t0 k0 n0 : Int) (es : List En) (g l tt : Int) (ks : List Ky) (e : En) (w : World) (h : DkP w db nd t0 k0 n0 es g l tt ks) (hs : Asc es) (hn : es.length ≤ 900) (hin : isIn (enK e) es = false) (hm : (es.length : Int) < 32) (hks : ks.length ≤ 1000000) :
    Calls Try.prog 35 #[.pointer (some ⟨db, 0, none⟩), .agg #[.string e.c.a, .string e.c.i, .int .i64 e.c.s, .int .i64 e.c.o, .int .i64 e.c.l, .int .i64 e.c.t, .int .i64 e.c.k, .int .i64 e.c.n, .bool e.c.g, .int .i64 e.seen]] w fun r w' => r = .returned (.int .i64 0) ∧ DkP w' db nd t0 k0 n0 (insAt es (low (enK e) es) e) g l tt (ks ++ [(e.c.a, e.c.i)]) ∧ Rim db w w' := by
  have D0 := Lib.hid (show Below w.heap.size w (w.alloc (.cells #[.string e.c.a, .string e.c.i, .int .i64 e.c.s, .int .i64 e.c.o, .int .i64 e.c.l, .int .i64 e.c.t, .int .i64 e.c.k, .int .i64 e.c.n, .bool e.c.g, .int .i64 e.seen] 56)) from (Below.refl _ _).alloc (Nat.le_refl _) _)
  have HX := Lib.hid (blk_new w #[.string e.c.a, .string e.c.i, .int .i64 e.c.s, .int .i64 e.c.o, .int .i64 e.c.l, .int .i64 e.c.t, .int .i64 e.c.k, .int .i64 e.c.n, .bool e.c.g, .int .i64 e.seen] 56)
  have HP := Lib.hid (h.ext D0.out)
  have hlt := h.lt
  have HAS := Lib.hid hs
  clear h hs
  go_enter Try.func35, Try.ntmps35
  go_upto_region 1 with (fail)
  obtain ⟨p, hp⟩ : ∃ p, w.heap.size = p := ⟨_, rfl⟩
  have hpd : p ≠ db := by omega
  have HPW := Lib.hid hp
  rw [hp] at HX
  try rw [hp]
  clear hp hlt
  generalize (w.alloc (.cells #[.string e.c.a, .string e.c.i, .int .i64 e.c.s, .int .i64 e.c.o, .int .i64 e.c.l, .int .i64 e.c.t, .int .i64 e.c.k, .int .i64 e.c.n, .bool e.c.g, .int .i64 e.seen] 56)) = w1 at *
  have HX0 := Lib.hid (blk_ext ((Below.refl w1.heap.size w1).drew) HX.out)
  have HP0 := Lib.hid (HP.out.ext ((Below.refl w1.heap.size w1).drew))
  have D1 := Lib.hid (ext_trans D0.out ((Below.refl w1.heap.size w1).drew))
  have hldb := HP.out.lt
  haveI hI0 : Nonempty (In (fun W : World => W.heap[p]? = some (.cells #[.string e.c.a, .string e.c.i, .int .i64 e.c.s, .int .i64 e.c.o, .int .i64 e.c.l, .int .i64 e.c.t, .int .i64 e.c.k, .int .i64 e.c.n, .bool e.c.g, .int .i64 e.seen] 56 (0, 0)))) := ⟨⟨_, HX0.out⟩⟩
  have hL0 : ∀ g : In (fun W : World => W.heap[p]? = some (.cells #[.string e.c.a, .string e.c.i, .int .i64 e.c.s, .int .i64 e.c.o, .int .i64 e.c.l, .int .i64 e.c.t, .int .i64 e.c.k, .int .i64 e.c.n, .bool e.c.g, .int .i64 e.seen] 56 (0, 0))), p < g.w.heap.size := fun g => blk_lt g.h
  have hB0_0 : ∀ g : In (fun W : World => W.heap[p]? = some (.cells #[.string e.c.a, .string e.c.i, .int .i64 e.c.s, .int .i64 e.c.o, .int .i64 e.c.l, .int .i64 e.c.t, .int .i64 e.c.k, .int .i64 e.c.n, .bool e.c.g, .int .i64 e.seen] 56 (0, 0))), g.w.cell? ⟨p, 0, none⟩ = some (.string e.c.a) := fun g => by rw [blk_cell g.h]; rfl
  have hB0_1 : ∀ g : In (fun W : World => W.heap[p]? = some (.cells #[.string e.c.a, .string e.c.i, .int .i64 e.c.s, .int .i64 e.c.o, .int .i64 e.c.l, .int .i64 e.c.t, .int .i64 e.c.k, .int .i64 e.c.n, .bool e.c.g, .int .i64 e.seen] 56 (0, 0))), g.w.cell? ⟨p, 1, none⟩ = some (.string e.c.i) := fun g => by rw [blk_cell g.h]; rfl
  have hB0_2 : ∀ g : In (fun W : World => W.heap[p]? = some (.cells #[.string e.c.a, .string e.c.i, .int .i64 e.c.s, .int .i64 e.c.o, .int .i64 e.c.l, .int .i64 e.c.t, .int .i64 e.c.k, .int .i64 e.c.n, .bool e.c.g, .int .i64 e.seen] 56 (0, 0))), g.w.cell? ⟨p, 2, none⟩ = some (.int .i64 e.c.s) := fun g => by rw [blk_cell g.h]; rfl
  have hB0_3 : ∀ g : In (fun W : World => W.heap[p]? = some (.cells #[.string e.c.a, .string e.c.i, .int .i64 e.c.s, .int .i64 e.c.o, .int .i64 e.c.l, .int .i64 e.c.t, .int .i64 e.c.k, .int .i64 e.c.n, .bool e.c.g, .int .i64 e.seen] 56 (0, 0))), g.w.cell? ⟨p, 3, none⟩ = some (.int .i64 e.c.o) := fun g => by rw [blk_cell g.h]; rfl
  have hB0_4 : ∀ g : In (fun W : World => W.heap[p]? = some (.cells #[.string e.c.a, .string e.c.i, .int .i64 e.c.s, .int .i64 e.c.o, .int .i64 e.c.l, .int .i64 e.c.t, .int .i64 e.c.k, .int .i64 e.c.n, .bool e.c.g, .int .i64 e.seen] 56 (0, 0))), g.w.cell? ⟨p, 4, none⟩ = some (.int .i64 e.c.l) := fun g => by rw [blk_cell g.h]; rfl
  have hB0_5 : ∀ g : In (fun W : World => W.heap[p]? = some (.cells #[.string e.c.a, .string e.c.i, .int .i64 e.c.s, .int .i64 e.c.o, .int .i64 e.c.l, .int .i64 e.c.t, .int .i64 e.c.k, .int .i64 e.c.n, .bool e.c.g, .int .i64 e.seen] 56 (0, 0))), g.w.cell? ⟨p, 5, none⟩ = some (.int .i64 e.c.t) := fun g => by rw [blk_cell g.h]; rfl
  have hB0_6 : ∀ g : In (fun W : World => W.heap[p]? = some (.cells #[.string e.c.a, .string e.c.i, .int .i64 e.c.s, .int .i64 e.c.o, .int .i64 e.c.l, .int .i64 e.c.t, .int .i64 e.c.k, .int .i64 e.c.n, .bool e.c.g, .int .i64 e.seen] 56 (0, 0))), g.w.cell? ⟨p, 6, none⟩ = some (.int .i64 e.c.k) := fun g => by rw [blk_cell g.h]; rfl
  have hB0_7 : ∀ g : In (fun W : World => W.heap[p]? = some (.cells #[.string e.c.a, .string e.c.i, .int .i64 e.c.s, .int .i64 e.c.o, .int .i64 e.c.l, .int .i64 e.c.t, .int .i64 e.c.k, .int .i64 e.c.n, .bool e.c.g, .int .i64 e.seen] 56 (0, 0))), g.w.cell? ⟨p, 7, none⟩ = some (.int .i64 e.c.n) := fun g => by rw [blk_cell g.h]; rfl
  have hB0_8 : ∀ g : In (fun W : World => W.heap[p]? = some (.cells #[.string e.c.a, .string e.c.i, .int .i64 e.c.s, .int .i64 e.c.o, .int .i64 e.c.l, .int .i64 e.c.t, .int .i64 e.c.k, .int .i64 e.c.n, .bool e.c.g, .int .i64 e.seen] 56 (0, 0))), g.w.cell? ⟨p, 8, none⟩ = some (.bool e.c.g) := fun g => by rw [blk_cell g.h]; rfl
  have hB0_9 : ∀ g : In (fun W : World => W.heap[p]? = some (.cells #[.string e.c.a, .string e.c.i, .int .i64 e.c.s, .int .i64 e.c.o, .int .i64 e.c.l, .int .i64 e.c.t, .int .i64 e.c.k, .int .i64 e.c.n, .bool e.c.g, .int .i64 e.seen] 56 (0, 0))), g.w.cell? ⟨p, 9, none⟩ = some (.int .i64 e.seen) := fun g => by rw [blk_cell g.h]; rfl
  refine Hist.wp_region_hist (fun W : World => W.heap[p]? = some (.cells #[.string e.c.a, .string e.c.i, .int .i64 e.c.s, .int .i64 e.c.o, .int .i64 e.c.l, .int .i64 e.c.t, .int .i64 e.c.k, .int .i64 e.c.n, .bool e.c.g, .int .i64 e.seen] 56 (0, 0))) (by kernel_rfl) (by kernel_rfl) (by kernel_rfl) HX0.out ?_
  clear HX HP D0
  generalize w1.drew = x0 at *
  obtain ⟨Dk0, hds, hback⟩ := HP0.out.s
  have HDS := Lib.hid hds
  have HBK := Lib.hid hback
  clear hds hback
  repeat (first | (refine Hist.wpG_plain 0 _ (by decide +kernel) rfl (by rfl) (by rfl) (fun K hK => ?_); go_big_quiet_op; refine hK _ ?_; clear hK K))
  refine Hist.wpG_call (by rfl) (by rfl) (fun K hK => ?_)
  go_big_op
  refine (dkPutNew Dk0 db 32 es e _ HDS.out HAS.out hn hin hm).mono ?_
  rintro r x1 ⟨rfl, hds, hr⟩
  have HX1 := Lib.hid ((hr.block p hpd (blk_lt HX0.out)).trans HX0.out)
  have HP1 := Lib.hid (HBK.out x1 _ hds hr)
  have HR1 := Lib.hid ((Rim.of D1.out).trans hr)
  refine hK _ _ ⟨(fun W : World => W.heap[p]? = some (.cells #[.string e.c.a, .string e.c.i, .int .i64 e.c.s, .int .i64 e.c.o, .int .i64 e.c.l, .int .i64 e.c.t, .int .i64 e.c.k, .int .i64 e.c.n, .bool e.c.g, .int .i64 e.seen] 56 (0, 0))), (by simp only [List.cons_append, List.nil_append, List.forall_mem_cons]; repeat' (first | exact HX1.out | (intro _ h; cases h; done) | constructor)), ?_⟩
  clear hK K hds hr HX0 HP0 D1 HDS HBK
  repeat (first | (refine Hist.wpG_plain 1 _ (by decide +kernel) rfl (by rfl) (by rfl) (fun K hK => ?_); go_big_quiet_op; refine hK _ ?_; clear hK K) | (refine Hist.wpG_plain 0 _ (by decide +kernel) rfl (by rfl) (by rfl) (fun K hK => ?_); go_big_quiet_op; refine hK _ ?_; clear hK K))
  refine Hist.wpG_nil ?_
  clear hI0 hL0 hB0_0 hB0_1 hB0_2 hB0_3 hB0_4 hB0_5 hB0_6 hB0_7 hB0_8 hB0_9
  go_upto_region 3 with (fail)
  have HX2 := Lib.hid (blk_ext ((Below.refl x1.heap.size x1).drew) HX1.out)
  have HP2 := Lib.hid (HP1.out.ext ((Below.refl x1.heap.size x1).drew))
  have HR2 := Lib.hid (HR1.out.trans (Rim.of ((Below.refl x1.heap.size x1).drew)))
  haveI hI2 : Nonempty (In (fun W : World => W.heap[p]? = some (.cells #[.string e.c.a, .string e.c.i, .int .i64 e.c.s, .int .i64 e.c.o, .int .i64 e.c.l, .int .i64 e.c.t, .int .i64 e.c.k, .int .i64 e.c.n, .bool e.c.g, .int .i64 e.seen] 56 (0, 0)))) := ⟨⟨_, HX2.out⟩⟩
  have hL2 : ∀ g : In (fun W : World => W.heap[p]? = some (.cells #[.string e.c.a, .string e.c.i, .int .i64 e.c.s, .int .i64 e.c.o, .int .i64 e.c.l, .int .i64 e.c.t, .int .i64 e.c.k, .int .i64 e.c.n, .bool e.c.g, .int .i64 e.seen] 56 (0, 0))), p < g.w.heap.size := fun g => blk_lt g.h
  have hB2_0 : ∀ g : In (fun W : World => W.heap[p]? = some (.cells #[.string e.c.a, .string e.c.i, .int .i64 e.c.s, .int .i64 e.c.o, .int .i64 e.c.l, .int .i64 e.c.t, .int .i64 e.c.k, .int .i64 e.c.n, .bool e.c.g, .int .i64 e.seen] 56 (0, 0))), g.w.cell? ⟨p, 0, none⟩ = some (.string e.c.a) := fun g => by rw [blk_cell g.h]; rfl
  have hB2_1 : ∀ g : In (fun W : World => W.heap[p]? = some (.cells #[.string e.c.a, .string e.c.i, .int .i64 e.c.s, .int .i64 e.c.o, .int .i64 e.c.l, .int .i64 e.c.t, .int .i64 e.c.k, .int .i64 e.c.n, .bool e.c.g, .int .i64 e.seen] 56 (0, 0))), g.w.cell? ⟨p, 1, none⟩ = some (.string e.c.i) := fun g => by rw [blk_cell g.h]; rfl
  have hB2_2 : ∀ g : In (fun W : World => W.heap[p]? = some (.cells #[.string e.c.a, .string e.c.i, .int .i64 e.c.s, .int .i64 e.c.o, .int .i64 e.c.l, .int .i64 e.c.t, .int .i64 e.c.k, .int .i64 e.c.n, .bool e.c.g, .int .i64 e.seen] 56 (0, 0))), g.w.cell? ⟨p, 2, none⟩ = some (.int .i64 e.c.s) := fun g => by rw [blk_cell g.h]; rfl
  have hB2_3 : ∀ g : In (fun W : World => W.heap[p]? = some (.cells #[.string e.c.a, .string e.c.i, .int .i64 e.c.s, .int .i64 e.c.o, .int .i64 e.c.l, .int .i64 e.c.t, .int .i64 e.c.k, .int .i64 e.c.n, .bool e.c.g, .int .i64 e.seen] 56 (0, 0))), g.w.cell? ⟨p, 3, none⟩ = some (.int .i64 e.c.o) := fun g => by rw [blk_cell g.h]; rfl
  have hB2_4 : ∀ g : In (fun W : World => W.heap[p]? = some (.cells #[.string e.c.a, .string e.c.i, .int .i64 e.c.s, .int .i64 e.c.o, .int .i64 e.c.l, .int .i64 e.c.t, .int .i64 e.c.k, .int .i64 e.c.n, .bool e.c.g, .int .i64 e.seen] 56 (0, 0))), g.w.cell? ⟨p, 4, none⟩ = some (.int .i64 e.c.l) := fun g => by rw [blk_cell g.h]; rfl
  have hB2_5 : ∀ g : In (fun W : World => W.heap[p]? = some (.cells #[.string e.c.a, .string e.c.i, .int .i64 e.c.s, .int .i64 e.c.o, .int .i64 e.c.l, .int .i64 e.c.t, .int .i64 e.c.k, .int .i64 e.c.n, .bool e.c.g, .int .i64 e.seen] 56 (0, 0))), g.w.cell? ⟨p, 5, none⟩ = some (.int .i64 e.c.t) := fun g => by rw [blk_cell g.h]; rfl
  have hB2_6 : ∀ g : In (fun W : World => W.heap[p]? = some (.cells #[.string e.c.a, .string e.c.i, .int .i64 e.c.s, .int .i64 e.c.o, .int .i64 e.c.l, .int .i64 e.c.t, .int .i64 e.c.k, .int .i64 e.c.n, .bool e.c.g, .int .i64 e.seen] 56 (0, 0))), g.w.cell? ⟨p, 6, none⟩ = some (.int .i64 e.c.k) := fun g => by rw [blk_cell g.h]; rfl
  have hB2_7 : ∀ g : In (fun W : World => W.heap[p]? = some (.cells #[.string e.c.a, .string e.c.i, .int .i64 e.c.s, .int .i64 e.c.o, .int .i64 e.c.l, .int .i64 e.c.t, .int .i64 e.c.k, .int .i64 e.c.n, .bool e.c.g, .int .i64 e.seen] 56 (0, 0))), g.w.cell? ⟨p, 7, none⟩ = some (.int .i64 e.c.n) := fun g => by rw [blk_cell g.h]; rfl
  have hB2_8 : ∀ g : In (fun W : World => W.heap[p]? = some (.cells #[.string e.c.a, .string e.c.i, .int .i64 e.c.s, .int .i64 e.c.o, .int .i64 e.c.l, .int .i64 e.c.t, .int .i64 e.c.k, .int .i64 e.c.n, .bool e.c.g, .int .i64 e.seen] 56 (0, 0))), g.w.cell? ⟨p, 8, none⟩ = some (.bool e.c.g) := fun g => by rw [blk_cell g.h]; rfl
  have hB2_9 : ∀ g : In (fun W : World => W.heap[p]? = some (.cells #[.string e.c.a, .string e.c.i, .int .i64 e.c.s, .int .i64 e.c.o, .int .i64 e.c.l, .int .i64 e.c.t, .int .i64 e.c.k, .int .i64 e.c.n, .bool e.c.g, .int .i64 e.seen] 56 (0, 0))), g.w.cell? ⟨p, 9, none⟩ = some (.int .i64 e.seen) := fun g => by rw [blk_cell g.h]; rfl
  refine Hist.wp_region_hist (fun W : World => W.heap[p]? = some (.cells #[.string e.c.a, .string e.c.i, .int .i64 e.c.s, .int .i64 e.c.o, .int .i64 e.c.l, .int .i64 e.c.t, .int .i64 e.c.k, .int .i64 e.c.n, .bool e.c.g, .int .i64 e.seen] 56 (0, 0))) (by kernel_rfl) (by kernel_rfl) (by kernel_rfl) HX2.out ?_
  clear HX1 HP1 HR1
  generalize x1.drew = x2 at *
  obtain ⟨Dq, hdq, hback⟩ := HP2.out.r
  have HDQ := Lib.hid hdq
  have HBQ := Lib.hid hback
  clear hdq hback
  repeat (first | (refine Hist.wpG_plain 0 _ (by decide +kernel) rfl (by rfl) (by rfl) (fun K hK => ?_); go_big_quiet_op; refine hK _ ?_; clear hK K))
  refine Hist.wpG_call (by rfl) (by rfl) (fun K hK => ?_)
  go_big_op
  refine (recentAddD Dq db ks.length (lastK ks ks.length) (e.c.a, e.c.i) _ HDQ.out (by rw [lastK_len _ _ (Nat.le_refl _)]; omega) hks).mono ?_
  rintro r x3 ⟨rfl, hdq, hr⟩
  have HX3 := Lib.hid ((hr.block p hpd (blk_lt HX2.out)).trans HX2.out)
  have HP3 := Lib.hid (HBQ.out x3 (ks ++ [(e.c.a, e.c.i)]) (by have h9 := hdq; rw [addK_all] at h9; rw [List.length_append]; rw [List.length_append] at h9; exact h9) hr)
  have HR3 := Lib.hid (HR2.out.trans ⟨hr.os, hr.tape, hr.output, hr.size, fun k hk hl => hr.block k hk hl⟩)
  refine hK _ _ ⟨(fun W : World => W.heap[p]? = some (.cells #[.string e.c.a, .string e.c.i, .int .i64 e.c.s, .int .i64 e.c.o, .int .i64 e.c.l, .int .i64 e.c.t, .int .i64 e.c.k, .int .i64 e.c.n, .bool e.c.g, .int .i64 e.seen] 56 (0, 0))), (by simp only [List.cons_append, List.nil_append, List.forall_mem_cons]; repeat' (first | exact HX3.out | (intro _ h; cases h; done) | constructor)), ?_⟩
  clear hK K hdq hr HX2 HP2 HDQ HBQ HR2
  try simp only [Act.put, List.setIfInBounds_toArray, List.set_cons_succ, List.set_cons_zero]
  refine Hist.wpG_nil ?_
  clear hI2 hL2 hB2_0 hB2_1 hB2_2 hB2_3 hB2_4 hB2_5 hB2_6 hB2_7 hB2_8 hB2_9
  go_wp2
  go_ret
  exact ⟨rfl, HP3.out, HR3.out⟩

end Go.Proofs.Ytloeabdohgdmkaa

/- A desk: its guard, its stamp; a change. -/
namespace Go.Proofs.Ytloeabdohgdmkaa
open Go.RowKit
set_option linter.unusedVariables false
set_option linter.unusedSimpArgs false

/-- the desk's own block is written, its rows stay -/
theorem DkP.over {w w' : World} {db : Nat} {nd t0 k0 n0 : Int} {es : List En} {g l tt : Int} {ks : List Ky} {t1 k1 n1 g1 l1 tt1 : Int} (h : DkP w db nd t0 k0 n0 es g l tt ks) (hr : Rim db w w') (hh : ∀ a c ka kc, w.heap[db]? = some (.cells #[.int .i64 nd, .int .i64 t0, .int .i64 k0, .int .i64 n0, .int .i64 32, .slice a es.length c, .int .i64 g, .int .i64 l, .int .i64 tt, .int .i64 ks.length, .slice ka (lastK ks ks.length).length kc] 92 (0, 0)) → w'.heap[db]? = some (.cells #[.int .i64 nd, .int .i64 t1, .int .i64 k1, .int .i64 n1, .int .i64 32, .slice a es.length c, .int .i64 g1, .int .i64 l1, .int .i64 tt1, .int .i64 ks.length, .slice ka (lastK ks ks.length).length kc] 92 (0, 0))) : DkP w' db nd t1 k1 n1 es g1 l1 tt1 ks := by
  obtain ⟨a, c, ka, kc, h1, ⟨h2, h3⟩, h4, h5, h6, h7, h8⟩ := h
  refine ⟨a, c, ka, kc, hh a c ka kc h1, ⟨h2.keep fun b cur hc _ => hr.block b (fun e => by subst e; rw [h1] at hc; simp at hc) (blk_lt hc), h3⟩, h4, h5, h6.keep fun b o e p v hv => ?_, h7, h8.1, h8.2.rim hr h7⟩
  exact (World.cell?_of_block (w := w) (hr.block b (h7 b o e) (cell_lt hv))).trans hv
/-- what is put on a shelf -/
def putE (es : List En) (e : En) : List En := if isIn (enK e) es = true then es.set (low (enK e) es) e else insAt es (low (enK e) es) e
theorem deskSet (db : Nat) (nd t0 k0 n0 : Int) (es : List En) (g l tt : Int) (ks : List Ky) (e : En) (w : World) (h : DkP w db nd t0 k0 n0 es g l tt ks) (hs : Asc es) (hn : es.length ≤ 900) (hin : isIn (enK e) es = true ∨ es.length < 32) (hks : ks.length ≤ 1000000) :
    Calls Try.prog 35 #[.pointer (some ⟨db, 0, none⟩), .agg #[.string e.c.a, .string e.c.i, .int .i64 e.c.s, .int .i64 e.c.o, .int .i64 e.c.l, .int .i64 e.c.t, .int .i64 e.c.k, .int .i64 e.c.n, .bool e.c.g, .int .i64 e.seen]] w fun r w' => r = .returned (.int .i64 0) ∧ DkP w' db nd t0 k0 n0 (putE es e) g l tt (ks ++ [enK e]) ∧ Rim db w w' := by
  cases hi : isIn (enK e) es
  · have hl : es.length < 32 := by rcases hin with h | h; (· rw [hi] at h; cases h); (· exact h)
    refine (deskSetNew db nd t0 k0 n0 es g l tt ks e w h hs hn hi (by omega) hks).mono fun r w' h => ?_
    unfold putE
    rw [if_neg (by rw [hi]; simp)]
    exact h
  · refine (deskSetIn db nd t0 k0 n0 es g l tt ks e w h hs hn hi hks).mono fun r w' h => ?_
    unfold putE
    rw [if_pos hi]
    exact h
end Go.Proofs.Ytloeabdohgdmkaa
