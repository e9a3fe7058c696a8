/- Cards are put into a desk: Into. -/
import Derived.Test.YtloeabdohgdmkaaMgIZ
import Derived.Test.YtloeabdohgdmkaaCacRZ
import Derived.Deep.DeepAppendRoom
import Derived.Test.YtloeabdohgdmkaaHistZ
namespace Go.Proofs.Ytloeabdohgdmkaa
open Go.RowKit
set_option linter.unusedVariables false
set_option linter.unusedSimpArgs false


/-- bounds of what a merge goes through -/
structure IB (K n : Nat) (s : Is) : Prop where
  asc : Asc s.es
  len : s.es.length ≤ 32
  ks : s.ks.length ≤ K + n
  out : s.out.length ≤ n
  ref : s.ref ≤ n
theorem len_put9 {es : List En} {e : En} (h : isIn (enK e) es = true ∨ es.length < 32) (hl : es.length ≤ 32) : (putE es e).length ≤ 32 := by
  unfold putE
  by_cases hi : isIn (enK e) es = true
  · rw [if_pos hi, List.length_set]; exact hl
  · rw [if_neg hi]
    have h1 : es.length < 32 := by rcases h with h | h; (· exact absurd h hi); (· exact h)
    have h2 := insAt_len es (low (enK e) es) e
    omega
theorem IB.step {K n : Nat} {s : Is} (h : IB K n s) (now : Int) (c : Cd) : IB K (n + 1) (into1 now s c) := by
  have h1 := h.ks
  have h2 := h.out
  have h3 := h.ref
  have hs : IB K (n + 1) s := ⟨h.asc, h.len, by omega, by omega, by omega⟩
  unfold into1
  split
  · exact hs
  · split
    · split
      · rename_i hc
        exact ⟨asc_putE h.asc, len_put9 hc h.len, by simp; omega, by simp; omega, by show s.ref ≤ _; omega⟩
      · exact ⟨h.asc, h.len, by show s.ks.length ≤ _; omega, by show s.out.length ≤ _; omega, by show s.ref + 1 ≤ _; omega⟩
    · rename_i hn
      split
      · have hi : isIn (ck c) s.es = true := by
          cases hi : isIn (ck c) s.es
          · exact absurd (.inl hi) hn
          · rfl
        have hk : enK (⟨(ge s.es (ck c)).c, now⟩ : En) = ck c := (ge_yes hi).2
        exact ⟨asc_putE h.asc, len_put9 (.inl (by rw [hk]; exact hi)) h.len, by show s.ks.length ≤ _; omega, by show s.out.length ≤ _; omega, by show s.ref ≤ _; omega⟩
      · exact hs
theorem IB.all {K : Nat} {now : Int} : ∀ (ls : List Cd) {n : Nat} {s : Is}, IB K n s → IB K (n + ls.length) (intoL now s ls) := by
  intro ls
  induction ls with
  | nil => intro n s h; exact h
  | cons c ls ih =>
    intro n s h
    have h2 := ih (h.step now c)
    rw [List.length_cons, show n + (ls.length + 1) = n + 1 + ls.length by omega]
    exact h2
theorem DkP.other {w w' : World} {db b : Nat} {nd t0 k0 n0 g l tt : Int} {es : List En} {ks : List Ky} {cs : Array Value} {T : TypeId} (h : DkP w db nd t0 k0 n0 es g l tt ks) (hr : Rim db w w') (hc : w.heap[b]? = some (.cells cs T (0, 0))) (hT : T ≠ 92) : w'.heap[b]? = w.heap[b]? :=
  hr.block b (by
    rintro rfl
    obtain ⟨_, _, _, _, h1, -⟩ := h
    rw [h1] at hc
    simp at hc
    exact hT hc.2.symm) (blk_lt hc)
/-- an own row of cards grows beside a desk -/
theorem DkP.grownC {w w' : World} {db base n : Nat} {nd t0 k0 n0 : Int} {es : List En} {g l tt : Int} {ks : List Ky} {v : Value} {xs : List Value} (h : DkP w db nd t0 k0 n0 es g l tt ks) (hg : w.grownBy w' v.ownBlock) (ho : w.ownsRow base 34 9 v n xs) : DkP w' db nd t0 k0 n0 es g l tt ks := by
  obtain ⟨a, c, ka, kc, h1, ⟨h2, h3⟩, h4, h5, h6, h7, h8, h9⟩ := h
  have hb : ∀ (b : Nat) (cs : Array Value) (T : TypeId), w.heap[b]? = some (.cells cs T (0, 0)) → T ≠ 34 → w'.heap[b]? = w.heap[b]? := fun b cs T hc hT => hg.block b (blk_lt hc) (own_ne ho hc hT)
  refine ⟨a, c, ka, kc, (hb db _ _ h1 (by decide)).trans h1, ⟨h2.keep fun b cur hc _ => hb b _ _ hc (by decide), h3⟩, h4, h5, h6.keep fun b o e p v hv => ?_, h7, h8, fun b o e => ?_⟩
  · obtain ⟨cs, hc⟩ := h9 b o e
    exact (World.cell?_of_block (w := w) (hb b _ _ hc (by decide))).trans hv
  · obtain ⟨cs, hc⟩ := h9 b o e
    exact ⟨cs, (hb b _ _ hc (by decide)).trans hc⟩
set_option maxRecDepth 100000 in
set_option maxHeartbeats 4000000 in
theorem deskSetNo (db : Nat) (nd t0 k0 n0 : Int) (es : List En) (g l tt : Int) (ks : List Ky) (e : En) (w : World) (h : DkP w db nd t0 k0 n0 es g l tt ks) (hs : Asc es) (hn : es.length ≤ 900) (hin : isIn (enK e) es = false) (hm : (32 : Int) ≤ es.length) :
    Calls Try.prog 35 #[.pointer (some ⟨db, 0, none⟩), .agg #[.string e.c.a, .string e.c.i, .int .i64 e.c.s, .int .i64 e.c.o, .int .i64 e.c.l, .int .i64 e.c.t, .int .i64 e.c.k, .int .i64 e.c.n, .bool e.c.g, .int .i64 e.seen]] w fun r w' => r = .returned (.int .i64 24) ∧ Below w.heap.size w w' := by
  have D0 := Lib.hid (show Below w.heap.size w (w.alloc (.cells #[.string e.c.a, .string e.c.i, .int .i64 e.c.s, .int .i64 e.c.o, .int .i64 e.c.l, .int .i64 e.c.t, .int .i64 e.c.k, .int .i64 e.c.n, .bool e.c.g, .int .i64 e.seen] 56)) from (Below.refl _ _).alloc (Nat.le_refl _) _)
  have HX := Lib.hid (blk_new w #[.string e.c.a, .string e.c.i, .int .i64 e.c.s, .int .i64 e.c.o, .int .i64 e.c.l, .int .i64 e.c.t, .int .i64 e.c.k, .int .i64 e.c.n, .bool e.c.g, .int .i64 e.seen] 56)
  have HP := Lib.hid (h.ext D0.out)
  have hlt := h.lt
  have HAS := Lib.hid hs
  clear h hs
  go_enter Try.func35, Try.ntmps35
  go_upto_region 1 with (fail)
  obtain ⟨p, hp⟩ : ∃ p, w.heap.size = p := ⟨_, rfl⟩
  have hpd : p ≠ db := by omega
  have HPW := Lib.hid hp
  rw [hp] at HX
  try rw [hp]
  clear hp hlt
  generalize (w.alloc (.cells #[.string e.c.a, .string e.c.i, .int .i64 e.c.s, .int .i64 e.c.o, .int .i64 e.c.l, .int .i64 e.c.t, .int .i64 e.c.k, .int .i64 e.c.n, .bool e.c.g, .int .i64 e.seen] 56)) = w1 at *
  have HX0 := Lib.hid (blk_ext ((Below.refl w1.heap.size w1).drew) HX.out)
  have HP0 := Lib.hid (HP.out.ext ((Below.refl w1.heap.size w1).drew))
  have D1 := Lib.hid (ext_trans D0.out ((Below.refl w1.heap.size w1).drew))
  have hldb := HP.out.lt
  haveI hI0 : Nonempty (In (fun W : World => W.heap[p]? = some (.cells #[.string e.c.a, .string e.c.i, .int .i64 e.c.s, .int .i64 e.c.o, .int .i64 e.c.l, .int .i64 e.c.t, .int .i64 e.c.k, .int .i64 e.c.n, .bool e.c.g, .int .i64 e.seen] 56 (0, 0)))) := ⟨⟨_, HX0.out⟩⟩
  have hL0 : ∀ g : In (fun W : World => W.heap[p]? = some (.cells #[.string e.c.a, .string e.c.i, .int .i64 e.c.s, .int .i64 e.c.o, .int .i64 e.c.l, .int .i64 e.c.t, .int .i64 e.c.k, .int .i64 e.c.n, .bool e.c.g, .int .i64 e.seen] 56 (0, 0))), p < g.w.heap.size := fun g => blk_lt g.h
  have hB0_0 : ∀ g : In (fun W : World => W.heap[p]? = some (.cells #[.string e.c.a, .string e.c.i, .int .i64 e.c.s, .int .i64 e.c.o, .int .i64 e.c.l, .int .i64 e.c.t, .int .i64 e.c.k, .int .i64 e.c.n, .bool e.c.g, .int .i64 e.seen] 56 (0, 0))), g.w.cell? ⟨p, 0, none⟩ = some (.string e.c.a) := fun g => by rw [blk_cell g.h]; rfl
  have hB0_1 : ∀ g : In (fun W : World => W.heap[p]? = some (.cells #[.string e.c.a, .string e.c.i, .int .i64 e.c.s, .int .i64 e.c.o, .int .i64 e.c.l, .int .i64 e.c.t, .int .i64 e.c.k, .int .i64 e.c.n, .bool e.c.g, .int .i64 e.seen] 56 (0, 0))), g.w.cell? ⟨p, 1, none⟩ = some (.string e.c.i) := fun g => by rw [blk_cell g.h]; rfl
  have hB0_2 : ∀ g : In (fun W : World => W.heap[p]? = some (.cells #[.string e.c.a, .string e.c.i, .int .i64 e.c.s, .int .i64 e.c.o, .int .i64 e.c.l, .int .i64 e.c.t, .int .i64 e.c.k, .int .i64 e.c.n, .bool e.c.g, .int .i64 e.seen] 56 (0, 0))), g.w.cell? ⟨p, 2, none⟩ = some (.int .i64 e.c.s) := fun g => by rw [blk_cell g.h]; rfl
  have hB0_3 : ∀ g : In (fun W : World => W.heap[p]? = some (.cells #[.string e.c.a, .string e.c.i, .int .i64 e.c.s, .int .i64 e.c.o, .int .i64 e.c.l, .int .i64 e.c.t, .int .i64 e.c.k, .int .i64 e.c.n, .bool e.c.g, .int .i64 e.seen] 56 (0, 0))), g.w.cell? ⟨p, 3, none⟩ = some (.int .i64 e.c.o) := fun g => by rw [blk_cell g.h]; rfl
  have hB0_4 : ∀ g : In (fun W : World => W.heap[p]? = some (.cells #[.string e.c.a, .string e.c.i, .int .i64 e.c.s, .int .i64 e.c.o, .int .i64 e.c.l, .int .i64 e.c.t, .int .i64 e.c.k, .int .i64 e.c.n, .bool e.c.g, .int .i64 e.seen] 56 (0, 0))), g.w.cell? ⟨p, 4, none⟩ = some (.int .i64 e.c.l) := fun g => by rw [blk_cell g.h]; rfl
  have hB0_5 : ∀ g : In (fun W : World => W.heap[p]? = some (.cells #[.string e.c.a, .string e.c.i, .int .i64 e.c.s, .int .i64 e.c.o, .int .i64 e.c.l, .int .i64 e.c.t, .int .i64 e.c.k, .int .i64 e.c.n, .bool e.c.g, .int .i64 e.seen] 56 (0, 0))), g.w.cell? ⟨p, 5, none⟩ = some (.int .i64 e.c.t) := fun g => by rw [blk_cell g.h]; rfl
  have hB0_6 : ∀ g : In (fun W : World => W.heap[p]? = some (.cells #[.string e.c.a, .string e.c.i, .int .i64 e.c.s, .int .i64 e.c.o, .int .i64 e.c.l, .int .i64 e.c.t, .int .i64 e.c.k, .int .i64 e.c.n, .bool e.c.g, .int .i64 e.seen] 56 (0, 0))), g.w.cell? ⟨p, 6, none⟩ = some (.int .i64 e.c.k) := fun g => by rw [blk_cell g.h]; rfl
  have hB0_7 : ∀ g : In (fun W : World => W.heap[p]? = some (.cells #[.string e.c.a, .string e.c.i, .int .i64 e.c.s, .int .i64 e.c.o, .int .i64 e.c.l, .int .i64 e.c.t, .int .i64 e.c.k, .int .i64 e.c.n, .bool e.c.g, .int .i64 e.seen] 56 (0, 0))), g.w.cell? ⟨p, 7, none⟩ = some (.int .i64 e.c.n) := fun g => by rw [blk_cell g.h]; rfl
  have hB0_8 : ∀ g : In (fun W : World => W.heap[p]? = some (.cells #[.string e.c.a, .string e.c.i, .int .i64 e.c.s, .int .i64 e.c.o, .int .i64 e.c.l, .int .i64 e.c.t, .int .i64 e.c.k, .int .i64 e.c.n, .bool e.c.g, .int .i64 e.seen] 56 (0, 0))), g.w.cell? ⟨p, 8, none⟩ = some (.bool e.c.g) := fun g => by rw [blk_cell g.h]; rfl
  have hB0_9 : ∀ g : In (fun W : World => W.heap[p]? = some (.cells #[.string e.c.a, .string e.c.i, .int .i64 e.c.s, .int .i64 e.c.o, .int .i64 e.c.l, .int .i64 e.c.t, .int .i64 e.c.k, .int .i64 e.c.n, .bool e.c.g, .int .i64 e.seen] 56 (0, 0))), g.w.cell? ⟨p, 9, none⟩ = some (.int .i64 e.seen) := fun g => by rw [blk_cell g.h]; rfl
  refine Hist.wp_region_hist (fun W : World => W.heap[p]? = some (.cells #[.string e.c.a, .string e.c.i, .int .i64 e.c.s, .int .i64 e.c.o, .int .i64 e.c.l, .int .i64 e.c.t, .int .i64 e.c.k, .int .i64 e.c.n, .bool e.c.g, .int .i64 e.seen] 56 (0, 0))) (by kernel_rfl) (by kernel_rfl) (by kernel_rfl) HX0.out ?_
  clear HX HP D0
  generalize w1.drew = x0 at *
  obtain ⟨Dk0, hds, hback⟩ := HP0.out.s
  have HDS := Lib.hid hds
  have HBK := Lib.hid hback
  clear hds hback
  repeat (first | (refine Hist.wpG_plain 0 _ (by decide +kernel) rfl (by rfl) (by rfl) (fun K hK => ?_); go_big_quiet_op; refine hK _ ?_; clear hK K))
  refine Hist.wpG_call (by rfl) (by rfl) (fun K hK => ?_)
  go_big_op
  refine (dkPutNo Dk0 db 32 es e _ HDS.out HAS.out hn hin hm).mono ?_
  rintro r x1 ⟨rfl, hb1⟩
  have HX1 := Lib.hid (blk_ext hb1 HX0.out)
  have D2 := Lib.hid (ext_trans D1.out hb1)
  refine hK _ _ ⟨(fun W : World => W.heap[p]? = some (.cells #[.string e.c.a, .string e.c.i, .int .i64 e.c.s, .int .i64 e.c.o, .int .i64 e.c.l, .int .i64 e.c.t, .int .i64 e.c.k, .int .i64 e.c.n, .bool e.c.g, .int .i64 e.seen] 56 (0, 0))), (by simp only [List.cons_append, List.nil_append, List.forall_mem_cons]; repeat' (first | exact HX1.out | (intro _ h; cases h; done) | constructor)), ?_⟩
  clear hK K hb1 HX0 HP0 D1 HDS HBK
  repeat (first | (refine Hist.wpG_plain 1 _ (by decide +kernel) rfl (by rfl) (by rfl) (fun K hK => ?_); go_big_quiet_op; refine hK _ ?_; clear hK K) | (refine Hist.wpG_plain 0 _ (by decide +kernel) rfl (by rfl) (by rfl) (fun K hK => ?_); go_big_quiet_op; refine hK _ ?_; clear hK K))
  refine Hist.wpG_nil ?_
  clear hI0 hL0 hB0_0 hB0_1 hB0_2 hB0_3 hB0_4 hB0_5 hB0_6 hB0_7 hB0_8 hB0_9
  go_wp2
  go_ret
  exact ⟨rfl, D2.out⟩
set_option maxRecDepth 100000 in
set_option maxHeartbeats 1000000 in
theorem nameNone (w : World) :
    Calls Try.prog 56 #[.string ⟨#[]⟩] w fun r w' => r = .returned (.bool false) ∧ Below w.heap.size w w' := by
  have hsz : (⟨#[]⟩ : ByteArray).size = 0 := rfl
  go_enter Try.func56, Try.ntmps56
  go_wp2
  go_ret
  exact ⟨rfl, Below.refl _ _⟩

set_option maxRecDepth 100000 in
set_option maxHeartbeats 1000000 in
theorem cardRightZero (w : World) :
    Calls Try.prog 33 #[.agg #[.string ⟨#[]⟩, .string ⟨#[]⟩, .int .i64 0, .int .i64 0, .int .i64 0, .int .i64 0, .int .i64 0, .int .i64 0, .bool false]] w fun r w' => r = .returned (.bool false) ∧ Below w.heap.size w w' := by
  have D0 := Lib.hid (show Below w.heap.size w (w.alloc (.cells #[.string ⟨#[]⟩, .string ⟨#[]⟩, .int .i64 0, .int .i64 0, .int .i64 0, .int .i64 0, .int .i64 0, .int .i64 0, .bool false] 34)) from (Below.refl _ _).alloc (Nat.le_refl _) _)
  have HX := Lib.hid (blk_new w #[.string ⟨#[]⟩, .string ⟨#[]⟩, .int .i64 0, .int .i64 0, .int .i64 0, .int .i64 0, .int .i64 0, .int .i64 0, .bool false] 34)
  go_enter Try.func33, Try.ntmps33
  go_upto_region 1 with (fail)
  obtain ⟨p, hp⟩ : ∃ p, w.heap.size = p := ⟨_, rfl⟩
  rw [hp] at HX
  try rw [hp]
  clear hp
  generalize (w.alloc (.cells #[.string ⟨#[]⟩, .string ⟨#[]⟩, .int .i64 0, .int .i64 0, .int .i64 0, .int .i64 0, .int .i64 0, .int .i64 0, .bool false] 34)) = w1 at *
  have hk := blk_cell HX.out
  have hl := blk_lt HX.out
  go_wp2_with fail
  refine (nameNone w1).mono ?_
  rintro r w2 ⟨rfl, hb⟩
  have D2 := Lib.hid (ext_trans D0.out hb)
  go_wp2
  go_ret
  exact ⟨rfl, D2.out⟩

theorem cardRightCd (c : Cd) (w : World) (h : CdR c) : Calls Try.prog 33 #[.agg #[.string c.a, .string c.i, .int .i64 c.s, .int .i64 c.o, .int .i64 c.l, .int .i64 c.t, .int .i64 c.k, .int .i64 c.n, .bool c.g]] w fun r w' => r = .returned (.bool true) ∧ Below w.heap.size w w' := cardRightOk c w h
theorem stampLessC (x y : Cd) (b : Bool) (w : World) (h : ltC x y = b) : Calls Try.prog 34 #[.agg #[.int .i64 x.t, .int .i64 x.k, .int .i64 x.n], .agg #[.int .i64 y.t, .int .i64 y.k, .int .i64 y.n]] w fun r w' => r = .returned (.bool b) ∧ Below w.heap.size w w' := by
  subst h
  exact stampLess x.t x.k x.n y.t y.k y.n w
theorem dkPutInP (db : Nat) (nd t0 k0 n0 : Int) (es : List En) (g l tt : Int) (ks : List Ky) (e : En) (w : World) (h : DkP w db nd t0 k0 n0 es g l tt ks) (hs : Asc es) (hn : es.length ≤ 900) (hin : isIn (enK e) es = true) :
    Calls Try.prog 36 #[.pointer (some ⟨db, 4, none⟩), .agg #[.string e.c.a, .string e.c.i, .int .i64 e.c.s, .int .i64 e.c.o, .int .i64 e.c.l, .int .i64 e.c.t, .int .i64 e.c.k, .int .i64 e.c.n, .bool e.c.g, .int .i64 e.seen]] w fun r w' => r = .returned (.int .i64 0) ∧ DkP w' db nd t0 k0 n0 (putE es e) g l tt ks ∧ Rim db w w' := by
  obtain ⟨Dk0, hds, hback⟩ := h.s
  refine (dkPutIn Dk0 db 32 es e w hds hs hn hin).mono ?_
  rintro r w' ⟨h1, h2, h3⟩
  refine ⟨h1, hback w' _ ?_ h3, h3⟩
  unfold putE
  rw [if_pos hin]
  exact h2
set_option maxRecDepth 100000 in
set_option maxHeartbeats 6000000 in
theorem mergeIntoV (db : Nat) (nd t0 k0 n0 : Int) (es : List En) (g l tt : Int) (ks : List Ky) (a : Option Addr) (n c : Nat) (ls : List Cd) (now : Int) (w : World) (h : DkP w db nd t0 k0 n0 es g l tt ks) (hs : Asc es) (he : es.length ≤ 32) (hat : CAt w a ls) (hl : ls.length = n) (hn : n ≤ 1000) (hr : ∀ x ∈ ls, CdR x ∨ x = Cd.zero) (hks : ks.length ≤ 900000) (nv nx : Int) (m1 : max nv 0 = nx) (m2 : min nx 1099511627776 = now) :
    Calls Try.prog 12 #[.pointer (some ⟨db, 0, none⟩), .slice a n c, .int .i64 nv] w fun r w' => ∃ v, r = .returned (.tuple #[v, .int .i64 ((intoL now ⟨es, ks, [], 0⟩ ls).ref : Int)]) ∧ OwnC w.heap.size w' v (intoL now ⟨es, ks, [], 0⟩ ls).out ∧ DkP w' db nd t0 k0 n0 (intoL now ⟨es, ks, [], 0⟩ ls).es g l tt (intoL now ⟨es, ks, [], 0⟩ ls).ks ∧ Rim db w w' := by
  obtain ⟨i0, hi, hz0, hz1, hz2⟩ := info_parts' info_card
  have HP := Lib.hid h
  have HAT := Lib.hid hat
  have HL := Lib.hid hl
  have HRT := Lib.hid hr
  have HI0 := Lib.hid (show IB ks.length 0 (⟨es, ks, [], 0⟩ : Is) from ⟨hs, he, Nat.le_refl _, Nat.le_refl _, Nat.le_refl _⟩)
  clear h hs hat hl hr
  go_enter Try.func12, Try.ntmps12
  go_wp2_with fail
  go_loopw [8, 9, 21] (fun v q j wr => ∃ J : Nat, J ≤ n ∧ j = .int .i64 (J : Int) ∧ q = .int .i64 ((intoL now ⟨es, ks, [], 0⟩ (ls.take J)).ref : Int) ∧ OwnC w.heap.size wr v (intoL now ⟨es, ks, [], 0⟩ (ls.take J)).out ∧ DkP wr db nd t0 k0 n0 (intoL now ⟨es, ks, [], 0⟩ (ls.take J)).es g l tt (intoL now ⟨es, ks, [], 0⟩ (ls.take J)).ks ∧ Rim db w wr) (fun v q j _ => n - (intOf j).toNat)
  case atStart => exact ⟨0, by omega, rfl, rfl, OwnR.nil _ _, HP.out, Rim.of (Below.refl _ _)⟩
  case round =>
    obtain ⟨w2, rfl⟩ : ∃ y : World, y = wr := ⟨_, rfl⟩
    obtain ⟨J, hJ, rfl, rfl, ho2, hp2, hr2⟩ := hrel
    have hib := HI0.out.all (now := now) (ls.take J)
    obtain ⟨S, hS⟩ : ∃ S, (intoL now ⟨es, ks, [], 0⟩ (ls.take J)) = S := ⟨_, rfl⟩
    rw [hS] at ho2 hp2 hib ⊢
    rw [Nat.zero_add, List.length_take, HL.out, Nat.min_eq_left hJ] at hib
    have HIB := Lib.hid hib
    have HSE := Lib.hid hS
    obtain ⟨ga, gc, rfl, hgn, hgm, hgf⟩ := OwnR.form ho2
    obtain ⟨m, hm⟩ : ∃ m, S.out.length = m := ⟨_, rfl⟩
    have HM := Lib.hid hm
    rw [hm] at hgn ho2 ⊢
    have hmJ : m ≤ J := by rw [← hm]; exact hib.out
    have hrJ := hib.ref
    obtain ⟨rf, hrf⟩ : ∃ rf, S.ref = rf := ⟨_, rfl⟩
    rw [hrf] at hrJ
    have HRF := Lib.hid hrf
    have HO2 := Lib.hid ho2
    have HP2 := Lib.hid hp2
    have HR2 := Lib.hid hr2
    clear hS hm ho2 hp2 hr2 hib hgf
    by_cases hlt : J < n
    · obtain ⟨y, hy⟩ : ∃ y, ls[J]? = some y := ⟨_, List.getElem?_eq_getElem (by have := HL.out; omega)⟩
      obtain ⟨ab, ao, rfl⟩ : ∃ b o, a = some ⟨b, o, none⟩ := by
        rcases HAT.out with h | ⟨b, o, e, _⟩
        · rw [h] at hy; simp at hy
        · exact ⟨b, o, e⟩
      have HAT2 := Lib.hid (show CAt w2 (some ⟨ab, ao, none⟩) ls from HAT.out.keep fun b cur hc _ => HP.out.other HR2.out hc (by decide))
      obtain ⟨y0, y1, y2, y3, y4, y5, y6, y7, y8⟩ := CAt.at HAT2.out hy
      have HST := Lib.hid (show (intoL now ⟨es, ks, [], 0⟩ (ls.take (J + 1))) = into1 now S y from by rw [List.take_add_one, hy, ← HSE.out]; exact intoL_snoc _ _ _ _)
      have HRY := Lib.hid (HRT.out y (List.mem_of_getElem? hy))
      have D3 := (Below.refl w2.heap.size w2).alloc (Nat.le_refl _) (.cells #[.string y.a, .string y.i, .int .i64 y.s, .int .i64 y.o, .int .i64 y.l, .int .i64 y.t, .int .i64 y.k, .int .i64 y.n, .bool y.g] 34)
      have HX3 := Lib.hid (blk_new w2 #[.string y.a, .string y.i, .int .i64 y.s, .int .i64 y.o, .int .i64 y.l, .int .i64 y.t, .int .i64 y.k, .int .i64 y.n, .bool y.g] 34)
      have HO3 := Lib.hid (show OwnC w.heap.size (w2.alloc (.cells #[.string y.a, .string y.i, .int .i64 y.s, .int .i64 y.o, .int .i64 y.l, .int .i64 y.t, .int .i64 y.k, .int .i64 y.n, .bool y.g] 34)) (.slice ga m gc) S.out from OwnR.ext HO2.out D3)
      have HP3 := Lib.hid (HP2.out.ext D3)
      have HR3 := Lib.hid (HR2.out.trans (Rim.of D3))
      have hdd := HP.out.lt
      clear hy D3 HO2 HP2 HR2 HAT2
      go_upto_region 9 with (fail)
      obtain ⟨p, hp⟩ : ∃ p, w2.heap.size = p := ⟨_, rfl⟩
      rw [hp] at HX3
      try rw [hp]
      clear hp y0 y1 y2 y3 y4 y5 y6 y7 y8
      generalize (w2.alloc (.cells #[.string y.a, .string y.i, .int .i64 y.s, .int .i64 y.o, .int .i64 y.l, .int .i64 y.t, .int .i64 y.k, .int .i64 y.n, .bool y.g] 34)) = w3 at *
      have hxc := blk_cell HX3.out
      have hxl := blk_lt HX3.out
      rcases HRY.out with hry | rfl
      · have HYR := Lib.hid hry
        have HYZ := Lib.hid (show y.a.size ≠ 0 from by have := hry.1.1; omega)
        clear hry
        go_wp2_with fail
        refine (cardRightCd y w3 HYR.out).mono ?_
        rintro r w4 ⟨rfl, hb4⟩
        have HX4 := Lib.hid (blk_ext hb4 HX3.out)
        have HO4 := Lib.hid (show OwnC w.heap.size w4 (.slice ga m gc) S.out from OwnR.ext HO3.out hb4)
        have HP4 := Lib.hid (HP3.out.ext hb4)
        have HR4 := Lib.hid (HR3.out.trans (Rim.of hb4))
        obtain ⟨e, he9⟩ : ∃ e, ge S.es (y.a, y.i) = e := ⟨_, rfl⟩
        obtain ⟨b, hb9⟩ : ∃ b, isIn (y.a, y.i) S.es = b := ⟨_, rfl⟩
        have HE := Lib.hid he9
        have HB := Lib.hid hb9
        clear hb4 hxc hxl HX3 HO3 HP3 HR3 he9 hb9
        go_upto_region 10 with (fail)
        refine wp_region_inv_eq (J := fun A d act x => ∃ u29 u30 u31 u32 u33 u28 u34 u35 u12 u13 : Value, act = ((((((((((A.put (some 29) u29).put (some 30) u30).put (some 31) u31).put (some 32) u32).put (some 33) u33).put (some 28) u28).put (some 34) u34).put (some 35) u35).put (some 12) u12).put (some 13) u13) ∧ (d 0 = true → u29 = .pointer (some ⟨db, 0, none⟩)) ∧ (d 1 = true → u30 = .pointer (some ⟨db, 4, none⟩)) ∧ (d 2 = true → u31 = .pointer (some ⟨p, 0, none⟩)) ∧ (d 3 = true → u32 = .agg #[.string y.a, .string y.i]) ∧ (d 4 = true → u33 = .tuple #[.agg #[.string e.c.a, .string e.c.i, .int .i64 e.c.s, .int .i64 e.c.o, .int .i64 e.c.l, .int .i64 e.c.t, .int .i64 e.c.k, .int .i64 e.c.n, .bool e.c.g, .int .i64 e.seen], .bool b]) ∧ (d 5 = true → u28 = .tuple #[.agg #[.string e.c.a, .string e.c.i, .int .i64 e.c.s, .int .i64 e.c.o, .int .i64 e.c.l, .int .i64 e.c.t, .int .i64 e.c.k, .int .i64 e.c.n, .bool e.c.g, .int .i64 e.seen], .bool b]) ∧ (d 6 = true → u34 = .agg #[.string e.c.a, .string e.c.i, .int .i64 e.c.s, .int .i64 e.c.o, .int .i64 e.c.l, .int .i64 e.c.t, .int .i64 e.c.k, .int .i64 e.c.n, .bool e.c.g, .int .i64 e.seen]) ∧ (d 7 = true → u35 = .bool b) ∧ (d 8 = true → (∃ b : Nat, u12 = .pointer (some ⟨b, 0, none⟩) ∧ w4.heap.size ≤ b ∧ (d 9 = false → x.heap[b]? = some (.cells #[.string ⟨#[]⟩, .string ⟨#[]⟩, .int .i64 0, .int .i64 0, .int .i64 0, .int .i64 0, .int .i64 0, .int .i64 0, .bool false, .int .i64 0] 56 (0, 0))) ∧ (d 9 = true → x.heap[b]? = some (.cells #[.string e.c.a, .string e.c.i, .int .i64 e.c.s, .int .i64 e.c.o, .int .i64 e.c.l, .int .i64 e.c.t, .int .i64 e.c.k, .int .i64 e.c.n, .bool e.c.g, .int .i64 e.seen] 56 (0, 0))))) ∧ (d 10 = true → u13 = .bool b) ∧ Below w4.heap.size w4 x ∧ (d 9 = true → d 8 = true)) (by simp only [Act.put, List.setIfInBounds_toArray, List.set_cons_succ, List.set_cons_zero]; rfl) (by kernel_rfl) (by kernel_rfl) ?_ ?_ ?_
        · refine ⟨_, _, _, _, _, _, _, _, _, _, rfl, ?_, ?_, ?_, ?_, ?_, ?_, ?_, ?_, ?_, ?_, ?_, ?_⟩
          · intro h; cases h
          · intro h; cases h
          · intro h; cases h
          · intro h; cases h
          · intro h; cases h
          · intro h; cases h
          · intro h; cases h
          · intro h; cases h
          · intro h; cases h
          · intro h; cases h
          · exact ((Below.refl _ _).drew)
          · exact (fun h => by cases h)
        · refine stepsOk_cons (k := 0) ?_ (stepsOk_cons (k := 1) ?_ (stepsOk_cons (k := 2) ?_ (stepsOk_cons (k := 3) ?_ (stepsOk_cons (k := 4) ?_ (stepsOk_cons (k := 5) ?_ (stepsOk_cons (k := 6) ?_ (stepsOk_cons (k := 7) ?_ (stepsOk_cons (k := 8) ?_ (stepsOk_cons (k := 9) ?_ (stepsOk_cons (k := 10) ?_ stepsOk_nil))))))))))
          · unfold StepOk
            rintro d act x ⟨u29, u30, u31, u32, u33, u28, u34, u35, u12, u13, rfl, f0, f1, f2, f3, f4, f5, f6, f7, f8, f10, g0, g1⟩ hd hdep Kc hKc
            rw [if_pos (by rfl)]
            go_big_op
            refine hKc _ _ ⟨_, _, _, _, _, _, _, _, _, _, rfl, ?_, ?_, ?_, ?_, ?_, ?_, ?_, ?_, ?_, ?_, ?_, ?_⟩
            · exact (fun _ => rfl)
            · exact (fun h => f1 (up h rfl))
            · exact (fun h => f2 (up h rfl))
            · exact (fun h => f3 (up h rfl))
            · exact (fun h => f4 (up h rfl))
            · exact (fun h => f5 (up h rfl))
            · exact (fun h => f6 (up h rfl))
            · exact (fun h => f7 (up h rfl))
            · exact (fun h => by obtain ⟨b, e, hb, h1, h2⟩ := f8 (up h rfl); exact ⟨b, e, hb, fun h => (h1 (dn h)), fun h => (h2 (up h rfl))⟩)
            · exact (fun h => f10 (up h rfl))
            · exact g0
            · exact (fun h => upl (g1 (up h rfl)))
          · unfold StepOk
            rintro d act x ⟨u29, u30, u31, u32, u33, u28, u34, u35, u12, u13, rfl, f0, f1, f2, f3, f4, f5, f6, f7, f8, f10, g0, g1⟩ hd hdep Kc hKc
            have hd0 : d 0 = true := hdep ⟨0, .data⟩ (by simp) rfl
            obtain rfl := f0 hd0
            rw [if_pos (by rfl)]
            go_big_op
            refine (deskShelf db nd t0 k0 n0 S.es g l tt S.ks x (HP4.out.ext g0)).mono ?_
            rintro e x1 ⟨rfl, hb1⟩
            refine hKc _ _ ⟨_, _, _, _, _, _, _, _, _, _, rfl, ?_, ?_, ?_, ?_, ?_, ?_, ?_, ?_, ?_, ?_, ?_, ?_⟩
            · exact (fun h => f0 (up h rfl))
            · exact (fun _ => rfl)
            · exact (fun h => f2 (up h rfl))
            · exact (fun h => f3 (up h rfl))
            · exact (fun h => f4 (up h rfl))
            · exact (fun h => f5 (up h rfl))
            · exact (fun h => f6 (up h rfl))
            · exact (fun h => f7 (up h rfl))
            · exact (fun h => by obtain ⟨b, e, hb, h1, h2⟩ := f8 (up h rfl); exact ⟨b, e, hb, fun h => blk_ext hb1 (h1 (dn h)), fun h => blk_ext hb1 (h2 (up h rfl))⟩)
            · exact (fun h => f10 (up h rfl))
            · exact (ext_trans g0 hb1)
            · exact (fun h => upl (g1 (up h rfl)))
          · unfold StepOk
            rintro d act x ⟨u29, u30, u31, u32, u33, u28, u34, u35, u12, u13, rfl, f0, f1, f2, f3, f4, f5, f6, f7, f8, f10, g0, g1⟩ hd hdep Kc hKc
            rw [if_pos (by rfl)]
            go_big_op
            refine hKc _ _ ⟨_, _, _, _, _, _, _, _, _, _, rfl, ?_, ?_, ?_, ?_, ?_, ?_, ?_, ?_, ?_, ?_, ?_, ?_⟩
            · exact (fun h => f0 (up h rfl))
            · exact (fun h => f1 (up h rfl))
            · exact (fun _ => rfl)
            · exact (fun h => f3 (up h rfl))
            · exact (fun h => f4 (up h rfl))
            · exact (fun h => f5 (up h rfl))
            · exact (fun h => f6 (up h rfl))
            · exact (fun h => f7 (up h rfl))
            · exact (fun h => by obtain ⟨b, e, hb, h1, h2⟩ := f8 (up h rfl); exact ⟨b, e, hb, fun h => (h1 (dn h)), fun h => (h2 (up h rfl))⟩)
            · exact (fun h => f10 (up h rfl))
            · exact g0
            · exact (fun h => upl (g1 (up h rfl)))
          · unfold StepOk
            rintro d act x ⟨u29, u30, u31, u32, u33, u28, u34, u35, u12, u13, rfl, f0, f1, f2, f3, f4, f5, f6, f7, f8, f10, g0, g1⟩ hd hdep Kc hKc
            have hd2 : d 2 = true := hdep ⟨2, .data⟩ (by simp) rfl
            obtain rfl := f2 hd2
            have hx := blk_cell (blk_ext g0 HX4.out)
            have hxl := blk_lt (blk_ext g0 HX4.out)
            rw [if_pos (by rfl)]
            go_big_op
            refine hKc _ _ ⟨_, _, _, _, _, _, _, _, _, _, rfl, ?_, ?_, ?_, ?_, ?_, ?_, ?_, ?_, ?_, ?_, ?_, ?_⟩
            · exact (fun h => f0 (up h rfl))
            · exact (fun h => f1 (up h rfl))
            · exact (fun h => f2 (up h rfl))
            · exact (fun _ => rfl)
            · exact (fun h => f4 (up h rfl))
            · exact (fun h => f5 (up h rfl))
            · exact (fun h => f6 (up h rfl))
            · exact (fun h => f7 (up h rfl))
            · exact (fun h => by obtain ⟨b, e, hb, h1, h2⟩ := f8 (up h rfl); exact ⟨b, e, hb, fun h => (h1 (dn h)), fun h => (h2 (up h rfl))⟩)
            · exact (fun h => f10 (up h rfl))
            · exact g0
            · exact (fun h => upl (g1 (up h rfl)))
          · unfold StepOk
            rintro d act x ⟨u29, u30, u31, u32, u33, u28, u34, u35, u12, u13, rfl, f0, f1, f2, f3, f4, f5, f6, f7, f8, f10, g0, g1⟩ hd hdep Kc hKc
            have hd1 : d 1 = true := hdep ⟨1, .data⟩ (by simp) rfl
            have hd3 : d 3 = true := hdep ⟨3, .data⟩ (by simp) rfl
            have hd1 : d 1 = true := hdep ⟨1, .chain⟩ (by simp) rfl
            obtain rfl := f1 hd1
            obtain rfl := f3 hd3
            rw [if_pos (by rfl)]
            go_big_op
            refine (dkGetP db nd t0 k0 n0 S.es g l tt S.ks (y.a, y.i) x (HP4.out.ext g0) HIB.out.asc (by have := HIB.out.len; omega) e b HE.out HB.out).mono ?_
            rintro e x1 ⟨rfl, hb1⟩
            refine hKc _ _ ⟨_, _, _, _, _, _, _, _, _, _, rfl, ?_, ?_, ?_, ?_, ?_, ?_, ?_, ?_, ?_, ?_, ?_, ?_⟩
            · exact (fun h => f0 (up h rfl))
            · exact (fun h => f1 (up h rfl))
            · exact (fun h => f2 (up h rfl))
            · exact (fun h => f3 (up h rfl))
            · exact (fun _ => rfl)
            · exact (fun h => f5 (up h rfl))
            · exact (fun h => f6 (up h rfl))
            · exact (fun h => f7 (up h rfl))
            · exact (fun h => by obtain ⟨b, e, hb, h1, h2⟩ := f8 (up h rfl); exact ⟨b, e, hb, fun h => blk_ext hb1 (h1 (dn h)), fun h => blk_ext hb1 (h2 (up h rfl))⟩)
            · exact (fun h => f10 (up h rfl))
            · exact (ext_trans g0 hb1)
            · exact (fun h => upl (g1 (up h rfl)))
          · unfold StepOk
            rintro d act x ⟨u29, u30, u31, u32, u33, u28, u34, u35, u12, u13, rfl, f0, f1, f2, f3, f4, f5, f6, f7, f8, f10, g0, g1⟩ hd hdep Kc hKc
            have hd4 : d 4 = true := hdep ⟨4, .data⟩ (by simp) rfl
            obtain rfl := f4 hd4
            rw [if_pos (by rfl)]
            go_big_op
            refine hKc _ _ ⟨_, _, _, _, _, _, _, _, _, _, rfl, ?_, ?_, ?_, ?_, ?_, ?_, ?_, ?_, ?_, ?_, ?_, ?_⟩
            · exact (fun h => f0 (up h rfl))
            · exact (fun h => f1 (up h rfl))
            · exact (fun h => f2 (up h rfl))
            · exact (fun h => f3 (up h rfl))
            · exact (fun h => f4 (up h rfl))
            · exact (fun _ => rfl)
            · exact (fun h => f6 (up h rfl))
            · exact (fun h => f7 (up h rfl))
            · exact (fun h => by obtain ⟨b, e, hb, h1, h2⟩ := f8 (up h rfl); exact ⟨b, e, hb, fun h => (h1 (dn h)), fun h => (h2 (up h rfl))⟩)
            · exact (fun h => f10 (up h rfl))
            · exact g0
            · exact (fun h => upl (g1 (up h rfl)))
          · unfold StepOk
            rintro d act x ⟨u29, u30, u31, u32, u33, u28, u34, u35, u12, u13, rfl, f0, f1, f2, f3, f4, f5, f6, f7, f8, f10, g0, g1⟩ hd hdep Kc hKc
            have hd5 : d 5 = true := hdep ⟨5, .data⟩ (by simp) rfl
            obtain rfl := f5 hd5
            rw [if_pos (by rfl)]
            go_big_op
            refine hKc _ _ ⟨_, _, _, _, _, _, _, _, _, _, rfl, ?_, ?_, ?_, ?_, ?_, ?_, ?_, ?_, ?_, ?_, ?_, ?_⟩
            · exact (fun h => f0 (up h rfl))
            · exact (fun h => f1 (up h rfl))
            · exact (fun h => f2 (up h rfl))
            · exact (fun h => f3 (up h rfl))
            · exact (fun h => f4 (up h rfl))
            · exact (fun h => f5 (up h rfl))
            · exact (fun _ => rfl)
            · exact (fun h => f7 (up h rfl))
            · exact (fun h => by obtain ⟨b, e, hb, h1, h2⟩ := f8 (up h rfl); exact ⟨b, e, hb, fun h => (h1 (dn h)), fun h => (h2 (up h rfl))⟩)
            · exact (fun h => f10 (up h rfl))
            · exact g0
            · exact (fun h => upl (g1 (up h rfl)))
          · unfold StepOk
            rintro d act x ⟨u29, u30, u31, u32, u33, u28, u34, u35, u12, u13, rfl, f0, f1, f2, f3, f4, f5, f6, f7, f8, f10, g0, g1⟩ hd hdep Kc hKc
            have hd5 : d 5 = true := hdep ⟨5, .data⟩ (by simp) rfl
            obtain rfl := f5 hd5
            rw [if_pos (by rfl)]
            go_big_op
            refine hKc _ _ ⟨_, _, _, _, _, _, _, _, _, _, rfl, ?_, ?_, ?_, ?_, ?_, ?_, ?_, ?_, ?_, ?_, ?_, ?_⟩
            · exact (fun h => f0 (up h rfl))
            · exact (fun h => f1 (up h rfl))
            · exact (fun h => f2 (up h rfl))
            · exact (fun h => f3 (up h rfl))
            · exact (fun h => f4 (up h rfl))
            · exact (fun h => f5 (up h rfl))
            · exact (fun h => f6 (up h rfl))
            · exact (fun _ => rfl)
            · exact (fun h => by obtain ⟨b, e, hb, h1, h2⟩ := f8 (up h rfl); exact ⟨b, e, hb, fun h => (h1 (dn h)), fun h => (h2 (up h rfl))⟩)
            · exact (fun h => f10 (up h rfl))
            · exact g0
            · exact (fun h => upl (g1 (up h rfl)))
          · unfold StepOk
            rintro d act x ⟨u29, u30, u31, u32, u33, u28, u34, u35, u12, u13, rfl, f0, f1, f2, f3, f4, f5, f6, f7, f8, f10, g0, g1⟩ hd hdep Kc hKc
            rw [if_pos (by rfl)]
            go_big_op
            refine hKc _ _ ⟨_, _, _, _, _, _, _, _, _, _, rfl, ?_, ?_, ?_, ?_, ?_, ?_, ?_, ?_, ?_, ?_, ?_, ?_⟩
            · exact (fun h => f0 (up h rfl))
            · exact (fun h => f1 (up h rfl))
            · exact (fun h => f2 (up h rfl))
            · exact (fun h => f3 (up h rfl))
            · exact (fun h => f4 (up h rfl))
            · exact (fun h => f5 (up h rfl))
            · exact (fun h => f6 (up h rfl))
            · exact (fun h => f7 (up h rfl))
            · exact (fun _ => ⟨_, rfl, g0.size, fun _ => blk_new _ _ _, fun h => absurd (g1 (up h rfl)) (by rw [hd]; simp)⟩)
            · exact (fun h => f10 (up h rfl))
            · exact (g0.alloc g0.size _)
            · exact (fun h => upl (g1 (up h rfl)))
          · unfold StepOk
            rintro d act x ⟨u29, u30, u31, u32, u33, u28, u34, u35, u12, u13, rfl, f0, f1, f2, f3, f4, f5, f6, f7, f8, f10, g0, g1⟩ hd hdep Kc hKc
            have hd8 : d 8 = true := hdep ⟨8, .data⟩ (by simp) rfl
            have hd6 : d 6 = true := hdep ⟨6, .data⟩ (by simp) rfl
            have hd6 : d 6 = true := hdep ⟨6, .phase⟩ (by simp) rfl
            have hd8 : d 8 = true := hdep ⟨8, .phase⟩ (by simp) rfl
            obtain ⟨nb, rfl, hnb, hz, hf⟩ := f8 hd8
            obtain rfl := f6 hd6
            have HZ := hz hd
            have hbc := blk_cell HZ
            have hbf := blk_free HZ
            have hbl := blk_lt HZ
            rw [if_pos (by rfl)]
            go_big_op
            have HFF := blk_fill10 (v0 := .string e.c.a) (v1 := .string e.c.i) (v2 := .int .i64 e.c.s) (v3 := .int .i64 e.c.o) (v4 := .int .i64 e.c.l) (v5 := .int .i64 e.c.t) (v6 := .int .i64 e.c.k) (v7 := .int .i64 e.c.n) (v8 := .bool e.c.g) (v9 := .int .i64 e.seen) HZ rfl
            have HBB := below_fill10 (v0 := .string e.c.a) (v1 := .string e.c.i) (v2 := .int .i64 e.c.s) (v3 := .int .i64 e.c.o) (v4 := .int .i64 e.c.l) (v5 := .int .i64 e.c.t) (v6 := .int .i64 e.c.k) (v7 := .int .i64 e.c.n) (v8 := .bool e.c.g) (v9 := .int .i64 e.seen) g0 hnb
            refine hKc _ _ ⟨_, _, _, _, _, _, _, _, _, _, rfl, ?_, ?_, ?_, ?_, ?_, ?_, ?_, ?_, ?_, ?_, ?_, ?_⟩
            · exact (fun h => f0 (up h rfl))
            · exact (fun h => f1 (up h rfl))
            · exact (fun h => f2 (up h rfl))
            · exact (fun h => f3 (up h rfl))
            · exact (fun h => f4 (up h rfl))
            · exact (fun h => f5 (up h rfl))
            · exact (fun h => f6 (up h rfl))
            · exact (fun h => f7 (up h rfl))
            · exact (fun h => ⟨nb, rfl, hnb, fun h => by simp at h, fun _ => HFF⟩)
            · exact (fun h => f10 (up h rfl))
            · exact HBB
            · exact (fun h => upl hd8)
          · unfold StepOk
            rintro d act x ⟨u29, u30, u31, u32, u33, u28, u34, u35, u12, u13, rfl, f0, f1, f2, f3, f4, f5, f6, f7, f8, f10, g0, g1⟩ hd hdep Kc hKc
            have hd7 : d 7 = true := hdep ⟨7, .data⟩ (by simp) rfl
            have hd7 : d 7 = true := hdep ⟨7, .phase⟩ (by simp) rfl
            obtain rfl := f7 hd7
            rw [if_pos (by rfl)]
            go_big_op
            refine hKc _ _ ⟨_, _, _, _, _, _, _, _, _, _, rfl, ?_, ?_, ?_, ?_, ?_, ?_, ?_, ?_, ?_, ?_, ?_, ?_⟩
            · exact (fun h => f0 (up h rfl))
            · exact (fun h => f1 (up h rfl))
            · exact (fun h => f2 (up h rfl))
            · exact (fun h => f3 (up h rfl))
            · exact (fun h => f4 (up h rfl))
            · exact (fun h => f5 (up h rfl))
            · exact (fun h => f6 (up h rfl))
            · exact (fun h => f7 (up h rfl))
            · exact (fun h => by obtain ⟨b, e, hb, h1, h2⟩ := f8 (up h rfl); exact ⟨b, e, hb, fun h => (h1 (dn h)), fun h => (h2 (up h rfl))⟩)
            · exact (fun _ => rfl)
            · exact g0
            · exact (fun h => upl (g1 (up h rfl)))
        · rintro d act x ⟨u29, u30, u31, u32, u33, u28, u34, u35, u12, u13, rfl, f0, f1, f2, f3, f4, f5, f6, f7, f8, f10, g0, g1⟩ hall
          obtain rfl := f0 (hall 0 (by decide))
          obtain rfl := f1 (hall 1 (by decide))
          obtain rfl := f2 (hall 2 (by decide))
          obtain rfl := f3 (hall 3 (by decide))
          obtain rfl := f4 (hall 4 (by decide))
          obtain rfl := f5 (hall 5 (by decide))
          obtain rfl := f6 (hall 6 (by decide))
          obtain rfl := f7 (hall 7 (by decide))
          obtain ⟨nb, rfl, hnb, hz, hf⟩ := f8 (hall 8 (by decide))
          obtain rfl := f10 (hall 10 (by decide))
          have HNB := Lib.hid (hf (hall 9 (by decide)))
          have HWB := Lib.hid g0
          have HNL := Lib.hid hnb
          clear f0 f1 f2 f3 f4 f5 f6 f7 f8 f10 g1 hz hf hall g0 hnb
          obtain ⟨w5, rfl⟩ : ∃ y : World, y = x := ⟨_, rfl⟩
          obtain ⟨q1, rfl⟩ : ∃ y : Nat, y = nb := ⟨_, rfl⟩
          clear d
          have HQ5 := Lib.hid HNB.out
          have HX5 := Lib.hid (blk_ext HWB.out HX4.out)
          have HO5 := Lib.hid (show OwnC w.heap.size w5 (.slice ga m gc) S.out from OwnR.ext HO4.out HWB.out)
          have HP5 := Lib.hid (HP4.out.ext HWB.out)
          have HR5 := Lib.hid (HR4.out.trans (Rim.of HWB.out))
          clear HNB HWB HNL HX4 HO4 HP4 HR4
          have hxc := blk_cell HX5.out
          have hxl := blk_lt HX5.out
          have hqc := blk_cell HQ5.out
          have hql := blk_lt HQ5.out
          cases b
          · have HX6 := HX5
            have HO6 := HO5
            have HP6 := HP5
            have HR6 := HR5
            clear HX5 HO5 HP5 HR5
            obtain ⟨w6, hw6⟩ : ∃ w6, w6 = w5 := ⟨_, rfl⟩
            subst hw6
            by_cases hfl : S.es.length < 32
            · have HFL := Lib.hid hfl
              clear hfl
              go_upto_region 12 with (fail)
              clear hxc hxl hqc hql
              have hxc := blk_cell HX6.out
              have hxl := blk_lt HX6.out
              go_wp2_with fail
              refine (deskSet db nd t0 k0 n0 S.es g l tt S.ks (⟨y, now⟩ : En) w6 HP6.out HIB.out.asc (by have := HIB.out.len; omega) (.inr HFL.out) (by have := HIB.out.ks; omega)).mono ?_
              rintro r w7 ⟨rfl, hp7, hr7⟩
              have HX7 := Lib.hid ((HP6.out.other hr7 HX6.out (by decide)).trans HX6.out)
              have HO7 := Lib.hid (show OwnC w.heap.size w7 (.slice ga m gc) S.out from own_blocks HO6.out fun b cur hc => HP6.out.other hr7 hc (by decide))
              have HP7 := Lib.hid hp7
              have HR7 := Lib.hid (HR6.out.trans hr7)
              have HS2 := Lib.hid (show into1 now S y = ⟨putE S.es ⟨y, now⟩, S.ks ++ [ck y], S.out ++ [y], S.ref⟩ from into_set HYZ.out (.inl HB.out) (.inr HFL.out))
              clear hp7 hr7 hxc hxl HX6 HO6 HP6 HR6
              have hxc := blk_cell HX7.out
              have hxl := blk_lt HX7.out
              have hz9 := HR7.out.size
              have D8 := (Below.refl w7.heap.size w7).alloc (Nat.le_refl _) (.cells #[.string y.a, .string y.i, .int .i64 y.s, .int .i64 y.o, .int .i64 y.l, .int .i64 y.t, .int .i64 y.k, .int .i64 y.n, .bool y.g] 34)
              have HV8 := Lib.hid (blk_new w7 #[.string y.a, .string y.i, .int .i64 y.s, .int .i64 y.o, .int .i64 y.l, .int .i64 y.t, .int .i64 y.k, .int .i64 y.n, .bool y.g] 34)
              have HP8 := Lib.hid (HP7.out.ext D8)
              have HO8 := Lib.hid (show (w7.alloc (.cells #[.string y.a, .string y.i, .int .i64 y.s, .int .i64 y.o, .int .i64 y.l, .int .i64 y.t, .int .i64 y.k, .int .i64 y.n, .bool y.g] 34)).ownsRow w.heap.size 34 9 (.slice ga m gc) m (flat cc S.out) from by
                have h9 := OwnR.ext HO7.out D8
                unfold OwnR at h9
                rwa [HM.out] at h9)
              have HR8 := Lib.hid (HR7.out.trans (Rim.of D8))
              clear D8 HP7 HO7 HR7
              go_wp2_with (at_builtin; refine wpList_append_own _ rfl _ _ 28 rfl (w.heap.size) 34 i0 Cd.zero.v 9 88 Try.underlying28 hi hz0 hz1 hz2 rfl (by decide) (.slice ga m gc) m (flat cc S.out) rfl HO8.out ⟨w7.heap.size, 0, none⟩ 1 1 (cc y) rfl rfl ?c1 ?c2 ?c3 ?c4 ?c5 ?_)
              case c1 => intro j u hj; rw [add_off, Nat.zero_add, blk_cell HV8.out]; simpa [cc] using hj
              case c2 => exact cc_one y
              case c3 => unfold maxLen; omega
              case c4 => omega
              case c5 => first | omega | (simp; omega)
              intro v9 w9 ho9 hg9 _
              have HO9 := Lib.hid (show OwnC w.heap.size w9 v9 (S.out ++ [y]) from by unfold OwnC OwnR; rw [flat_snoc, List.length_append, HM.out]; exact ho9)
              have HP9 := Lib.hid (HP8.out.grownC hg9 HO8.out)
              have HR9 := Lib.hid (show Rim db w w9 from ⟨hg9.os.trans HR8.out.os, hg9.tape.trans HR8.out.tape, hg9.output.trans HR8.out.output, Nat.le_trans HR8.out.size hg9.size, fun b hb hl => (hg9.block b (Nat.lt_of_lt_of_le hl HR8.out.size) (fun e => by have h9 := own_ge HO8.out e.symm; omega)).trans (HR8.out.block b hb hl)⟩)
              clear ho9 hg9 HO8 HP8 HR8 HV8 hxc hxl hz9
              go_wp2
              go_roundw
              case rel => exact ⟨J + 1, by omega, by go_num, by rw [HST.out, HS2.out, HRF.out], by rw [HST.out, HS2.out]; exact HO9.out, by rw [HST.out, HS2.out]; exact HP9.out, HR9.out⟩
              case measure => simp [intOf]; omega
            · go_upto_region 12 with (fail)
              clear hxc hxl hqc hql
              have hxc := blk_cell HX6.out
              have hxl := blk_lt HX6.out
              go_wp2_with fail
              refine (deskSetNo db nd t0 k0 n0 S.es g l tt S.ks (⟨y, now⟩ : En) w6 HP6.out HIB.out.asc (by have := HIB.out.len; omega) HB.out (by omega)).mono ?_
              rintro r w7 ⟨rfl, hb7⟩
              have HO7 := Lib.hid (show OwnC w.heap.size w7 (.slice ga m gc) S.out from OwnR.ext HO6.out hb7)
              have HP7 := Lib.hid (HP6.out.ext hb7)
              have HR7 := Lib.hid (HR6.out.trans (Rim.of hb7))
              have HS2 := Lib.hid (show into1 now S y = ⟨S.es, S.ks, S.out, S.ref + 1⟩ from into_full HYZ.out HB.out (by omega))
              clear hb7 hxc hxl HX6 HO6 HP6 HR6
              go_wp2
              go_roundw
              case rel => exact ⟨J + 1, by omega, by go_num, by rw [HST.out, HS2.out]; show _ = Value.int .i64 ((S.ref + 1 : Nat) : Int); rw [HRF.out]; first | rfl | (go_num; done) | (have := HIB.out.ref; go_num), by rw [HST.out, HS2.out]; exact HO7.out, by rw [HST.out, HS2.out]; exact HP7.out, HR7.out⟩
              case measure => simp [intOf]; omega
          · obtain ⟨tb, htb⟩ : ∃ tb, ltC e.c y = tb := ⟨_, rfl⟩
            have HTB := Lib.hid htb
            clear htb
            go_wp2_with fail
            refine (stampLessC e.c y tb w5 HTB.out).mono ?_
            rintro r w6 ⟨rfl, hb6⟩
            have HX6 := Lib.hid (blk_ext hb6 HX5.out)
            have HQ6 := Lib.hid (blk_ext hb6 HQ5.out)
            have HO6 := Lib.hid (show OwnC w.heap.size w6 (.slice ga m gc) S.out from OwnR.ext HO5.out hb6)
            have HP6 := Lib.hid (HP5.out.ext hb6)
            have HR6 := Lib.hid (HR5.out.trans (Rim.of hb6))
            clear hb6 hxc hxl hqc hql HX5 HQ5 HO5 HP5 HR5
            cases tb
            · have HEK := Lib.hid (show enK e = (y.a, y.i) from by rw [← HE.out]; exact (ge_yes HB.out).2)
              have hxc := blk_cell HX6.out
              have hxl := blk_lt HX6.out
              have hqc := blk_cell HQ6.out
              have hql := blk_lt HQ6.out
              obtain ⟨s1, hs1⟩ : ∃ s1, (e.c.t == y.t) = s1 := ⟨_, rfl⟩
              obtain ⟨s2, hs2⟩ : ∃ s2, (e.c.k == y.k) = s2 := ⟨_, rfl⟩
              obtain ⟨s3, hs3⟩ : ∃ s3, (e.c.n == y.n) = s3 := ⟨_, rfl⟩
              have HL3 := Lib.hid (show ltC (ge S.es (ck y)).c y = false from by show ltC (ge S.es (y.a, y.i)).c y = false; rw [HE.out]; exact HTB.out)
              have HSM := Lib.hid (show (s1 = true ∧ s2 = true ∧ s3 = true) ↔ ((ge S.es (ck y)).c.t = y.t ∧ (ge S.es (ck y)).c.k = y.k ∧ (ge S.es (ck y)).c.n = y.n) from by
                show _ ↔ ((ge S.es (y.a, y.i)).c.t = y.t ∧ (ge S.es (y.a, y.i)).c.k = y.k ∧ (ge S.es (y.a, y.i)).c.n = y.n)
                rw [HE.out, ← hs1, ← hs2, ← hs3]
                simp)
              by_cases hsm : s1 = true ∧ s2 = true ∧ s3 = true
              · obtain ⟨rfl, rfl, rfl⟩ := hsm
                obtain ⟨gg, hgg⟩ : ∃ gg, e.c.g = gg := ⟨_, rfl⟩
                have HGG := Lib.hid hgg
                cases gg
                · have HS2 := Lib.hid (show into1 now S y = ⟨putE S.es ⟨e.c, now⟩, S.ks, S.out, S.ref⟩ from by
                    have h9 := into_see (now := now) HYZ.out HB.out HL3.out ⟨HSM.out.1 ⟨rfl, rfl, rfl⟩, by show (ge S.es (y.a, y.i)).c.g = false; rw [HE.out]; exact HGG.out⟩
                    rw [show ge S.es (ck y) = e from HE.out] at h9
                    exact h9)
                  rw [hgg] at hqc
                  clear hgg
                  go_upto_region 16 with (fail)
                  clear hxc hxl hqc hql hs1 hs2 hs3
                  have HQ7 := Lib.hid (show (w6.drew).heap[q1]? = _ from blk_drew HQ6.out)
                  have HP7 := Lib.hid (HP6.out.ext ((Below.refl w6.heap.size w6).drew))
                  have HO7 := Lib.hid (show OwnC w.heap.size w6.drew (.slice ga m gc) S.out from OwnR.ext HO6.out ((Below.refl w6.heap.size w6).drew))
                  have HR7 := Lib.hid (HR6.out.trans (Rim.of ((Below.refl w6.heap.size w6).drew)))
                  haveI hI0 : Nonempty (In (fun W : World => W.heap[q1]? = some (.cells #[.string e.c.a, .string e.c.i, .int .i64 e.c.s, .int .i64 e.c.o, .int .i64 e.c.l, .int .i64 e.c.t, .int .i64 e.c.k, .int .i64 e.c.n, .bool e.c.g, .int .i64 e.seen] 56 (0, 0)))) := ⟨⟨_, HQ7.out⟩⟩
                  have hL0 : ∀ g : In (fun W : World => W.heap[q1]? = some (.cells #[.string e.c.a, .string e.c.i, .int .i64 e.c.s, .int .i64 e.c.o, .int .i64 e.c.l, .int .i64 e.c.t, .int .i64 e.c.k, .int .i64 e.c.n, .bool e.c.g, .int .i64 e.seen] 56 (0, 0))), q1 < g.w.heap.size := fun g => blk_lt g.h
                  have hB0_0 : ∀ g : In (fun W : World => W.heap[q1]? = some (.cells #[.string e.c.a, .string e.c.i, .int .i64 e.c.s, .int .i64 e.c.o, .int .i64 e.c.l, .int .i64 e.c.t, .int .i64 e.c.k, .int .i64 e.c.n, .bool e.c.g, .int .i64 e.seen] 56 (0, 0))), g.w.cell? ⟨q1, 0, none⟩ = some (.string e.c.a) := fun g => by rw [blk_cell g.h]; rfl
                  have hB0_1 : ∀ g : In (fun W : World => W.heap[q1]? = some (.cells #[.string e.c.a, .string e.c.i, .int .i64 e.c.s, .int .i64 e.c.o, .int .i64 e.c.l, .int .i64 e.c.t, .int .i64 e.c.k, .int .i64 e.c.n, .bool e.c.g, .int .i64 e.seen] 56 (0, 0))), g.w.cell? ⟨q1, 1, none⟩ = some (.string e.c.i) := fun g => by rw [blk_cell g.h]; rfl
                  have hB0_2 : ∀ g : In (fun W : World => W.heap[q1]? = some (.cells #[.string e.c.a, .string e.c.i, .int .i64 e.c.s, .int .i64 e.c.o, .int .i64 e.c.l, .int .i64 e.c.t, .int .i64 e.c.k, .int .i64 e.c.n, .bool e.c.g, .int .i64 e.seen] 56 (0, 0))), g.w.cell? ⟨q1, 2, none⟩ = some (.int .i64 e.c.s) := fun g => by rw [blk_cell g.h]; rfl
                  have hB0_3 : ∀ g : In (fun W : World => W.heap[q1]? = some (.cells #[.string e.c.a, .string e.c.i, .int .i64 e.c.s, .int .i64 e.c.o, .int .i64 e.c.l, .int .i64 e.c.t, .int .i64 e.c.k, .int .i64 e.c.n, .bool e.c.g, .int .i64 e.seen] 56 (0, 0))), g.w.cell? ⟨q1, 3, none⟩ = some (.int .i64 e.c.o) := fun g => by rw [blk_cell g.h]; rfl
                  have hB0_4 : ∀ g : In (fun W : World => W.heap[q1]? = some (.cells #[.string e.c.a, .string e.c.i, .int .i64 e.c.s, .int .i64 e.c.o, .int .i64 e.c.l, .int .i64 e.c.t, .int .i64 e.c.k, .int .i64 e.c.n, .bool e.c.g, .int .i64 e.seen] 56 (0, 0))), g.w.cell? ⟨q1, 4, none⟩ = some (.int .i64 e.c.l) := fun g => by rw [blk_cell g.h]; rfl
                  have hB0_5 : ∀ g : In (fun W : World => W.heap[q1]? = some (.cells #[.string e.c.a, .string e.c.i, .int .i64 e.c.s, .int .i64 e.c.o, .int .i64 e.c.l, .int .i64 e.c.t, .int .i64 e.c.k, .int .i64 e.c.n, .bool e.c.g, .int .i64 e.seen] 56 (0, 0))), g.w.cell? ⟨q1, 5, none⟩ = some (.int .i64 e.c.t) := fun g => by rw [blk_cell g.h]; rfl
                  have hB0_6 : ∀ g : In (fun W : World => W.heap[q1]? = some (.cells #[.string e.c.a, .string e.c.i, .int .i64 e.c.s, .int .i64 e.c.o, .int .i64 e.c.l, .int .i64 e.c.t, .int .i64 e.c.k, .int .i64 e.c.n, .bool e.c.g, .int .i64 e.seen] 56 (0, 0))), g.w.cell? ⟨q1, 6, none⟩ = some (.int .i64 e.c.k) := fun g => by rw [blk_cell g.h]; rfl
                  have hB0_7 : ∀ g : In (fun W : World => W.heap[q1]? = some (.cells #[.string e.c.a, .string e.c.i, .int .i64 e.c.s, .int .i64 e.c.o, .int .i64 e.c.l, .int .i64 e.c.t, .int .i64 e.c.k, .int .i64 e.c.n, .bool e.c.g, .int .i64 e.seen] 56 (0, 0))), g.w.cell? ⟨q1, 7, none⟩ = some (.int .i64 e.c.n) := fun g => by rw [blk_cell g.h]; rfl
                  have hB0_8 : ∀ g : In (fun W : World => W.heap[q1]? = some (.cells #[.string e.c.a, .string e.c.i, .int .i64 e.c.s, .int .i64 e.c.o, .int .i64 e.c.l, .int .i64 e.c.t, .int .i64 e.c.k, .int .i64 e.c.n, .bool e.c.g, .int .i64 e.seen] 56 (0, 0))), g.w.cell? ⟨q1, 8, none⟩ = some (.bool e.c.g) := fun g => by rw [blk_cell g.h]; rfl
                  have hB0_9 : ∀ g : In (fun W : World => W.heap[q1]? = some (.cells #[.string e.c.a, .string e.c.i, .int .i64 e.c.s, .int .i64 e.c.o, .int .i64 e.c.l, .int .i64 e.c.t, .int .i64 e.c.k, .int .i64 e.c.n, .bool e.c.g, .int .i64 e.seen] 56 (0, 0))), g.w.cell? ⟨q1, 9, none⟩ = some (.int .i64 e.seen) := fun g => by rw [blk_cell g.h]; rfl
                  refine Hist.wp_region_hist (fun W : World => W.heap[q1]? = some (.cells #[.string e.c.a, .string e.c.i, .int .i64 e.c.s, .int .i64 e.c.o, .int .i64 e.c.l, .int .i64 e.c.t, .int .i64 e.c.k, .int .i64 e.c.n, .bool e.c.g, .int .i64 e.seen] 56 (0, 0))) (by kernel_rfl) (by kernel_rfl) (by kernel_rfl) HQ7.out ?_
                  clear HQ6 HP6 HO6 HR6 HX6
                  generalize w6.drew = w7 at *
                  repeat (first | (refine Hist.wpG_plain 0 _ (by decide +kernel) rfl (by rfl) (by rfl) (fun K hK => ?_); go_big_quiet_op; refine hK _ ?_; clear hK K))
                  refine Hist.wpG_call (by rfl) (by rfl) (fun K hK => ?_)
                  go_big_op
                  refine (deskShelf db nd t0 k0 n0 S.es g l tt S.ks w7 HP7.out).mono ?_
                  rintro r w8 ⟨rfl, hb8⟩
                  have HQ8 := Lib.hid (blk_ext hb8 HQ7.out)
                  have HP8 := Lib.hid (HP7.out.ext hb8)
                  have HO8 := Lib.hid (show OwnC w.heap.size w8 (.slice ga m gc) S.out from OwnR.ext HO7.out hb8)
                  have HR8 := Lib.hid (HR7.out.trans (Rim.of hb8))
                  refine hK _ _ ⟨(fun W : World => W.heap[q1]? = some (.cells #[.string e.c.a, .string e.c.i, .int .i64 e.c.s, .int .i64 e.c.o, .int .i64 e.c.l, .int .i64 e.c.t, .int .i64 e.c.k, .int .i64 e.c.n, .bool e.c.g, .int .i64 e.seen] 56 (0, 0))), (by simp only [List.cons_append, List.nil_append, List.forall_mem_cons]; repeat' (first | exact HQ8.out | (intro _ h; cases h; done) | (exact trivial) | constructor)), ?_⟩
                  clear hK K hb8 HQ7 HP7 HO7 HR7
                  repeat (first | (refine Hist.wpG_plain 1 _ (by decide +kernel) rfl (by rfl) (by rfl) (fun K hK => ?_); go_big_quiet_op; refine hK _ ?_; clear hK K) | (refine Hist.wpG_plain 0 _ (by decide +kernel) rfl (by rfl) (by rfl) (fun K hK => ?_); go_big_quiet_op; refine hK _ ?_; clear hK K))
                  refine Hist.wpG_call (by rfl) (by rfl) (fun K hK => ?_)
                  go_big_op
                  refine (dkPutInP db nd t0 k0 n0 S.es g l tt S.ks (⟨e.c, now⟩ : En) w8 HP8.out HIB.out.asc (by have := HIB.out.len; omega) (by show isIn (enK e) S.es = true; rw [HEK.out]; exact HB.out)).mono ?_
                  rintro r w9 ⟨rfl, hp9, hr9⟩
                  have HQ9 := Lib.hid ((HP8.out.other hr9 HQ8.out (by decide)).trans HQ8.out)
                  have HO9 := Lib.hid (show OwnC w.heap.size w9 (.slice ga m gc) S.out from own_blocks HO8.out fun b cur hc => HP8.out.other hr9 hc (by decide))
                  have HP9 := Lib.hid hp9
                  have HR9 := Lib.hid (HR8.out.trans hr9)
                  refine hK _ _ ⟨(fun W : World => W.heap[q1]? = some (.cells #[.string e.c.a, .string e.c.i, .int .i64 e.c.s, .int .i64 e.c.o, .int .i64 e.c.l, .int .i64 e.c.t, .int .i64 e.c.k, .int .i64 e.c.n, .bool e.c.g, .int .i64 e.seen] 56 (0, 0))), (by simp only [List.cons_append, List.nil_append, List.forall_mem_cons]; repeat' (first | exact HQ9.out | (intro _ h; cases h; done) | (exact trivial) | constructor)), ?_⟩
                  clear hK K hp9 hr9 HQ8 HP8 HO8 HR8
                  repeat (first | (refine Hist.wpG_plain 2 _ (by decide +kernel) rfl (by rfl) (by rfl) (fun K hK => ?_); go_big_quiet_op; refine hK _ ?_; clear hK K) | (refine Hist.wpG_plain 1 _ (by decide +kernel) rfl (by rfl) (by rfl) (fun K hK => ?_); go_big_quiet_op; refine hK _ ?_; clear hK K) | (refine Hist.wpG_plain 0 _ (by decide +kernel) rfl (by rfl) (by rfl) (fun K hK => ?_); go_big_quiet_op; refine hK _ ?_; clear hK K))
                  refine Hist.wpG_nil ?_
                  clear hI0 hL0 hB0_0 hB0_1 hB0_2 hB0_3 hB0_4 hB0_5 hB0_6 hB0_7 hB0_8 hB0_9
                  go_wp2
                  go_roundw
                  case rel => exact ⟨J + 1, by omega, by go_num, by rw [HST.out, HS2.out, HRF.out], by rw [HST.out, HS2.out]; exact HO9.out, by rw [HST.out, HS2.out]; exact HP9.out, HR9.out⟩
                  case measure => simp [intOf]; omega
                · rw [hgg] at hqc
                  clear hgg
                  have HS2 := Lib.hid (show into1 now S y = S from into_no HYZ.out HB.out HL3.out (fun q => by have h9 : (ge S.es (y.a, y.i)).c.g = false := q.2; rw [HE.out, HGG.out] at h9; cases h9))
                  go_wp2
                  go_roundw
                  case rel => exact ⟨J + 1, by omega, by go_num, by rw [HST.out, HS2.out, HRF.out], by rw [HST.out, HS2.out]; exact HO6.out, by rw [HST.out, HS2.out]; exact HP6.out, HR6.out⟩
                  case measure => simp [intOf]; omega
              · have HS3 := Lib.hid (show ¬(s1 = true ∧ s2 = true ∧ s3 = true) from hsm)
                clear hsm
                cases s1
                all_goals cases s2
                all_goals cases s3
                all_goals first
                  | (exact absurd ⟨rfl, rfl, rfl⟩ HS3.out)
                  | skip
                all_goals
                  have HS2 := Lib.hid (show into1 now S y = S from into_no HYZ.out HB.out HL3.out (fun q => HS3.out (HSM.out.2 q.1)))
                  go_wp2
                  go_roundw
                  case rel => exact ⟨J + 1, by omega, by go_num, by rw [HST.out, HS2.out, HRF.out], by rw [HST.out, HS2.out]; exact HO6.out, by rw [HST.out, HS2.out]; exact HP6.out, HR6.out⟩
                  case measure => simp [intOf]; omega
            · go_upto_region 12 with (fail)
              have hxc := blk_cell HX6.out
              have hxl := blk_lt HX6.out
              go_wp2_with fail
              refine (deskSet db nd t0 k0 n0 S.es g l tt S.ks (⟨y, now⟩ : En) w6 HP6.out HIB.out.asc (by have := HIB.out.len; omega) (.inl HB.out) (by have := HIB.out.ks; omega)).mono ?_
              rintro r w7 ⟨rfl, hp7, hr7⟩
              have HX7 := Lib.hid ((HP6.out.other hr7 HX6.out (by decide)).trans HX6.out)
              have HO7 := Lib.hid (show OwnC w.heap.size w7 (.slice ga m gc) S.out from own_blocks HO6.out fun b cur hc => HP6.out.other hr7 hc (by decide))
              have HP7 := Lib.hid hp7
              have HR7 := Lib.hid (HR6.out.trans hr7)
              have HS2 := Lib.hid (show into1 now S y = ⟨putE S.es ⟨y, now⟩, S.ks ++ [ck y], S.out ++ [y], S.ref⟩ from into_set HYZ.out (.inr (by show ltC (ge S.es (y.a, y.i)).c y = true; rw [HE.out]; exact HTB.out)) (.inl HB.out))
              clear hp7 hr7 hxc hxl HX6 HO6 HP6 HR6
              have hxc := blk_cell HX7.out
              have hxl := blk_lt HX7.out
              have hz9 := HR7.out.size
              have D8 := (Below.refl w7.heap.size w7).alloc (Nat.le_refl _) (.cells #[.string y.a, .string y.i, .int .i64 y.s, .int .i64 y.o, .int .i64 y.l, .int .i64 y.t, .int .i64 y.k, .int .i64 y.n, .bool y.g] 34)
              have HV8 := Lib.hid (blk_new w7 #[.string y.a, .string y.i, .int .i64 y.s, .int .i64 y.o, .int .i64 y.l, .int .i64 y.t, .int .i64 y.k, .int .i64 y.n, .bool y.g] 34)
              have HP8 := Lib.hid (HP7.out.ext D8)
              have HO8 := Lib.hid (show (w7.alloc (.cells #[.string y.a, .string y.i, .int .i64 y.s, .int .i64 y.o, .int .i64 y.l, .int .i64 y.t, .int .i64 y.k, .int .i64 y.n, .bool y.g] 34)).ownsRow w.heap.size 34 9 (.slice ga m gc) m (flat cc S.out) from by
                have h9 := OwnR.ext HO7.out D8
                unfold OwnR at h9
                rwa [HM.out] at h9)
              have HR8 := Lib.hid (HR7.out.trans (Rim.of D8))
              clear D8 HP7 HO7 HR7
              go_wp2_with (at_builtin; refine wpList_append_own _ rfl _ _ 28 rfl (w.heap.size) 34 i0 Cd.zero.v 9 88 Try.underlying28 hi hz0 hz1 hz2 rfl (by decide) (.slice ga m gc) m (flat cc S.out) rfl HO8.out ⟨w7.heap.size, 0, none⟩ 1 1 (cc y) rfl rfl ?c1 ?c2 ?c3 ?c4 ?c5 ?_)
              case c1 => intro j u hj; rw [add_off, Nat.zero_add, blk_cell HV8.out]; simpa [cc] using hj
              case c2 => exact cc_one y
              case c3 => unfold maxLen; omega
              case c4 => omega
              case c5 => first | omega | (simp; omega)
              intro v9 w9 ho9 hg9 _
              have HO9 := Lib.hid (show OwnC w.heap.size w9 v9 (S.out ++ [y]) from by unfold OwnC OwnR; rw [flat_snoc, List.length_append, HM.out]; exact ho9)
              have HP9 := Lib.hid (HP8.out.grownC hg9 HO8.out)
              have HR9 := Lib.hid (show Rim db w w9 from ⟨hg9.os.trans HR8.out.os, hg9.tape.trans HR8.out.tape, hg9.output.trans HR8.out.output, Nat.le_trans HR8.out.size hg9.size, fun b hb hl => (hg9.block b (Nat.lt_of_lt_of_le hl HR8.out.size) (fun e => by have h9 := own_ge HO8.out e.symm; omega)).trans (HR8.out.block b hb hl)⟩)
              clear ho9 hg9 HO8 HP8 HR8 HV8 hxc hxl hz9
              go_wp2
              go_roundw
              case rel => exact ⟨J + 1, by omega, by go_num, by rw [HST.out, HS2.out, HRF.out], by rw [HST.out, HS2.out]; exact HO9.out, by rw [HST.out, HS2.out]; exact HP9.out, HR9.out⟩
              case measure => simp [intOf]; omega
      · go_wp2_with fail
        refine (cardRightZero w3).mono ?_
        rintro r w4 ⟨rfl, hb4⟩
        have HO6 := Lib.hid (show OwnC w.heap.size w4 (.slice ga m gc) S.out from OwnR.ext HO3.out hb4)
        have HP6 := Lib.hid (HP3.out.ext hb4)
        have HR6 := Lib.hid (HR3.out.trans (Rim.of hb4))
        clear hb4 hxc hxl HX3 HO3 HP3 HR3
        have HS2 := Lib.hid (show into1 now S Cd.zero = S from into_zero rfl)
        go_wp2
        go_roundw
        case rel => exact ⟨J + 1, by omega, by go_num, by rw [HST.out, HS2.out, HRF.out], by rw [HST.out, HS2.out]; exact HO6.out, by rw [HST.out, HS2.out]; exact HP6.out, HR6.out⟩
        case measure => simp [intOf]; omega
    · have hdJ : decide ((J : Int) < (n : Int)) = false := by simp; omega
      have hall : ls.take J = ls := List.take_of_length_le (by have := HL.out; omega)
      have HSF := Lib.hid (show (intoL now ⟨es, ks, [], 0⟩ ls) = S from by rw [← HSE.out, hall])
      clear hall
      go_wp2
      go_ret2
      refine ⟨_, by rw [HSF.out, HRF.out]; rfl, ?_, ?_, HR2.out⟩
      · rw [HSF.out]; have h9 := HO2.out; exact h9
      · rw [HSF.out]; exact HP2.out

theorem mergeInto (db : Nat) (nd t0 k0 n0 : Int) (es : List En) (g l tt : Int) (ks : List Ky) (a : Option Addr) (n c : Nat) (ls : List Cd) (now : Int) (w : World) (h : DkP w db nd t0 k0 n0 es g l tt ks) (hs : Asc es) (he : es.length ≤ 32) (hat : CAt w a ls) (hl : ls.length = n) (hn : n ≤ 1000) (hr : ∀ x ∈ ls, CdR x ∨ x = Cd.zero) (hks : ks.length ≤ 900000) (h0 : 0 ≤ now) (h1 : now ≤ 1099511627776) :
    Calls Try.prog 12 #[.pointer (some ⟨db, 0, none⟩), .slice a n c, .int .i64 now] w fun r w' => ∃ v, r = .returned (.tuple #[v, .int .i64 ((intoL now ⟨es, ks, [], 0⟩ ls).ref : Int)]) ∧ OwnC w.heap.size w' v (intoL now ⟨es, ks, [], 0⟩ ls).out ∧ DkP w' db nd t0 k0 n0 (intoL now ⟨es, ks, [], 0⟩ ls).es g l tt (intoL now ⟨es, ks, [], 0⟩ ls).ks ∧ Rim db w w' :=
  mergeIntoV db nd t0 k0 n0 es g l tt ks a n c ls now w h hs he hat hl hn hr hks now now (by omega) (by omega)
end Go.Proofs.Ytloeabdohgdmkaa
