/- The document's own desk in memory; New. -/
import Derived.Test.YtloeabdohgdmkaaRkFZ
import Derived.Test.YtloeabdohgdmkaaDkaZ
import Derived.Test.YtloeabdohgdmkaaDkbZ
import Derived.Test.YtloeabdohgdmkaaMgIZ
import Derived.Test.YtloeabdohgdmkaaShfNNZ
namespace Go.Proofs.Ytloeabdohgdmkaa
open Go.RowKit
set_option linter.unusedVariables false
set_option linter.unusedSimpArgs false


/-- four blocks may change, the others stay -/
structure Rim4 (rb sb gb wb : Nat) (w w' : World) : Prop where
  os : w'.os = w.os
  tape : w'.tape = w.tape
  output : w'.output = w.output
  size : w.heap.size ≤ w'.heap.size
  block : ∀ k, k ≠ rb → k ≠ sb → k ≠ gb → k ≠ wb → k < w.heap.size → w'.heap[k]? = w.heap[k]?
section
variable {rb sb gb wb : Nat} {u v w w' : World}
theorem Rim4.trans (h : Rim4 rb sb gb wb u v) (k : Rim4 rb sb gb wb v w) : Rim4 rb sb gb wb u w :=
  ⟨k.os.trans h.os, k.tape.trans h.tape, k.output.trans h.output, Nat.le_trans h.size k.size, fun q a b c d e => (k.block q a b c d (Nat.lt_of_lt_of_le e h.size)).trans (h.block q a b c d e)⟩
theorem Rim4.of (h : Below w.heap.size w w') : Rim4 rb sb gb wb w w' := ⟨h.os, h.tape, h.output, h.size, fun k _ _ _ _ hl => h.block k hl⟩
theorem Rim4.r (h : Rim rb w w') : Rim4 rb sb gb wb w w' := ⟨h.os, h.tape, h.output, h.size, fun k a _ _ _ hl => h.block k a hl⟩
theorem Rim4.s (h : Rim sb w w') : Rim4 rb sb gb wb w w' := ⟨h.os, h.tape, h.output, h.size, fun k _ a _ _ hl => h.block k a hl⟩
theorem Rim4.g (h : Rim gb w w') : Rim4 rb sb gb wb w w' := ⟨h.os, h.tape, h.output, h.size, fun k _ _ a _ hl => h.block k a hl⟩
theorem Rim4.q (h : Rim wb w w') : Rim4 rb sb gb wb w w' := ⟨h.os, h.tape, h.output, h.size, fun k _ _ _ a hl => h.block k a hl⟩
end
theorem rim_bar {b : Nat} {w w' : World} (h : Bar b w w') : Rim b w w' := ⟨h.os, h.tape, h.output, h.size, fun k a hl => h.block k a hl⟩
/-- blocks of two types are two -/
theorem blk_two {w : World} {b c : Nat} {x y : Array Value} {S T : TypeId} (h : w.heap[b]? = some (.cells x S (0, 0))) (k : w.heap[c]? = some (.cells y T (0, 0))) (hn : S ≠ T) : b ≠ c := by
  rintro rfl
  rw [h] at k
  simp at k
  exact hn k.2
theorem RefAt.rim {w w' : World} {wb s : Nat} {ks : List Ky} (h : RefAt w wb ks) (hr : Rim s w w') {cur : Array Value} {U : TypeId} (hs : w.heap[s]? = some (.cells cur U (0, 0))) (hU : 75 ≠ U) (hK : 30 ≠ U) : RefAt w' wb ks := by
  obtain ⟨a, c, h1, h2, h3, h4, h5, h6, h7⟩ := h
  have hk : ∀ b o, a = some ⟨b, o, none⟩ → b ≠ s := fun b o e => by
    obtain ⟨cs, hc⟩ := h7 b o e
    exact blk_two hc hs hK
  refine ⟨a, c, (hr.block wb (blk_two h1 hs hU) (blk_lt h1)).trans h1, h2, h3, h4.keep fun b o e p v hv => ?_, h5, h6, h7.rim hr hk⟩
  exact (World.cell?_of_block (w := w) (hr.block b (hk b o e) (cell_lt hv))).trans hv
/-- at block rb the document's own desk lies -/
structure RDk (w : World) (rb sb gb wb : Nat) (nd t0 n0 : Int) (es : List En) (g l tt : Int) (ks : List Ky) : Prop where
  d : w.heap[rb]? = some (.cells #[.pointer (some ⟨sb, 0, none⟩), .pointer (some ⟨gb, 0, none⟩), .pointer (some ⟨wb, 0, none⟩), .int .i64 t0, .int .i64 nd, .int .i64 n0] 72 (0, 0))
  s : RShP w sb 32 es
  g : w.heap[gb]? = some (.cells #[.int .i64 g, .int .i64 l, .int .i64 tt] 104 (0, 0))
  r : RefAt w wb ks
section
variable {w w' : World} {rb sb gb wb : Nat} {nd t0 n0 g l tt : Int} {es : List En} {ks : List Ky}
theorem RShP.rimU {b : Nat} {cur : Array Value} {U : TypeId} (h : RShP w sb 32 es) (hr : Rim b w w') (hs : w.heap[b]? = some (.cells cur U (0, 0))) (hS : 67 ≠ U) (hE : U ≠ 77) : RShP w' sb 32 es := by
  have h' := h
  obtain ⟨a, c, h1, -⟩ := h'
  exact h.rim hr (blk_two h1 hs hS) hE hs
theorem RDk.ext (h : RDk w rb sb gb wb nd t0 n0 es g l tt ks) (hb : Below w.heap.size w w') : RDk w' rb sb gb wb nd t0 n0 es g l tt ks := ⟨blk_ext hb h.d, h.s.ext hb, blk_ext hb h.g, h.r.ext hb⟩
theorem RDk.rim {b : Nat} {cur : Array Value} {U : TypeId} (h : RDk w rb sb gb wb nd t0 n0 es g l tt ks) (hr : Rim b w w') (hs : w.heap[b]? = some (.cells cur U (0, 0))) (h1 : 72 ≠ U) (h2 : 67 ≠ U) (h3 : 104 ≠ U) (h4 : 75 ≠ U) (h5 : U ≠ 77) (h6 : 30 ≠ U) : RDk w' rb sb gb wb nd t0 n0 es g l tt ks :=
  ⟨(hr.block rb (blk_two h.d hs h1) (blk_lt h.d)).trans h.d, h.s.rimU hr hs h2 h5, (hr.block gb (blk_two h.g hs h3) (blk_lt h.g)).trans h.g, h.r.rim hr hs h4 h6⟩
/-- the shelf is another -/
theorem RDk.sh (h : RDk w rb sb gb wb nd t0 n0 es g l tt ks) {fs : List En} (hs : RShP w' sb 32 fs) (hr : Rim sb w w') : RDk w' rb sb gb wb nd t0 n0 fs g l tt ks := by
  have h' := h.s
  obtain ⟨a, c, h1, -⟩ := h'
  unfold BoxR at h1
  exact ⟨(hr.block rb (blk_two h.d h1 (by decide)) (blk_lt h.d)).trans h.d, hs, (hr.block gb (blk_two h.g h1 (by decide)) (blk_lt h.g)).trans h.g, h.r.rim hr h1 (by decide) (by decide)⟩
/-- the row is another -/
theorem RDk.ro (h : RDk w rb sb gb wb nd t0 n0 es g l tt ks) {ms : List Ky} (hs : RefAt w' wb ms) (hr : Bar wb w w') : RDk w' rb sb gb wb nd t0 n0 es g l tt ms := by
  have h' := h.r
  obtain ⟨a, c, h1, -⟩ := h'
  exact ⟨(hr.block rb (blk_two h.d h1 (by decide)) (blk_lt h.d)).trans h.d, h.s.rimU (rim_bar hr) h1 (by decide) (by decide), (hr.block gb (blk_two h.g h1 (by decide)) (blk_lt h.g)).trans h.g, hs⟩
/-- the stamp is another -/
theorem RDk.st (h : RDk w rb sb gb wb nd t0 n0 es g l tt ks) {t1 n1 : Int} (hs : w'.heap[rb]? = some (.cells #[.pointer (some ⟨sb, 0, none⟩), .pointer (some ⟨gb, 0, none⟩), .pointer (some ⟨wb, 0, none⟩), .int .i64 t1, .int .i64 nd, .int .i64 n1] 72 (0, 0))) (hr : Rim rb w w') : RDk w' rb sb gb wb nd t1 n1 es g l tt ks :=
  ⟨hs, h.s.rimU hr h.d (by decide) (by decide), (hr.block gb (blk_two h.g h.d (by decide)) (blk_lt h.g)).trans h.g, h.r.rim hr h.d (by decide) (by decide)⟩
end
set_option maxRecDepth 100000 in
set_option maxHeartbeats 1000000 in
theorem rdNew (nd now : Int) (w : World) (h0 : 0 ≤ nd) (h6 : nd < 6) (hz : 0 ≤ now) (h1 : now ≤ 1099511627776) :
    Calls Try.prog 21 #[.int .i64 nd, .int .i64 now] w fun r w' => ∃ rb sb gb wb, r = .returned (.pointer (some ⟨rb, 0, none⟩)) ∧ RDk w' rb sb gb wb nd 0 0 [] now 0 0 [] ∧ (w.heap.size ≤ rb ∧ w.heap.size ≤ sb ∧ w.heap.size ≤ gb ∧ w.heap.size ≤ wb) ∧ Below w.heap.size w w' := by
  have d1 : decide (nd < 0) = false := decide_eq_false (by omega)
  have d2 : decide (6 ≤ nd) = false := decide_eq_false (by omega)
  have d3 : decide (now < 0) = false := decide_eq_false (by omega)
  have d4 : decide (1099511627776 < now) = false := decide_eq_false (by omega)
  go_enter Try.func21, Try.ntmps21
  go_wp2_with fail
  refine (rshNew 32 w (by omega)).mono ?_
  rintro r w1 ⟨rfl, hs, hb⟩
  obtain ⟨sb, hsb⟩ : ∃ x, w.heap.size = x := ⟨_, rfl⟩
  rw [hsb] at hs
  have HS := Lib.hid hs
  have HB := Lib.hid hb
  have HE := Lib.hid hsb
  try rw [hsb]
  clear hs hb hsb
  obtain ⟨G, hG⟩ : ∃ x, x = (Obj.cells #[.int .i64 now, .int .i64 0, .int .i64 0] 104) := ⟨_, rfl⟩
  obtain ⟨R, hR⟩ : ∃ x, x = (Obj.cells #[.slice none 0 0] 75 (0, 0)) := ⟨_, rfl⟩
  have HG := Lib.hid (blk_new w1 #[.int .i64 now, .int .i64 0, .int .i64 0] 104)
  have E1 := Lib.hid (show Below w1.heap.size w1 (w1.alloc (.cells #[.int .i64 now, .int .i64 0, .int .i64 0] 104)) from (Below.refl _ _).alloc (Nat.le_refl _) _)
  obtain ⟨u1, hu1⟩ : ∃ x, x = w1.alloc (.cells #[.int .i64 now, .int .i64 0, .int .i64 0] 104) := ⟨_, rfl⟩
  have z1 : u1.heap.size = w1.heap.size + 1 := by rw [hu1]; exact Array.size_push _
  have HR := Lib.hid (blk_new u1 #[.slice none 0 0] 75)
  obtain ⟨u2, hu2⟩ : ∃ x, x = u1.alloc (.cells #[.slice none 0 0] 75) := ⟨_, rfl⟩
  have z2 : u2.heap.size = w1.heap.size + 1 + 1 := by rw [hu2]; exact (Array.size_push _).trans (by rw [z1])
  have E2 := Lib.hid (show Below u1.heap.size u1 u2 from by rw [hu2]; exact (Below.refl _ _).alloc (Nat.le_refl _) _)
  obtain ⟨D, hD⟩ : ∃ x : Array Value, x = #[.pointer (some ⟨sb, 0, none⟩), .pointer (some ⟨w1.heap.size, 0, none⟩), .pointer (some ⟨(w1.heap.size + 1), 0, none⟩), .int .i64 0, .int .i64 nd, .int .i64 0] := ⟨_, rfl⟩
  have HD := Lib.hid (blk_new u2 D 72)
  obtain ⟨u3, hu3⟩ : ∃ x, x = u2.alloc (.cells D 72) := ⟨_, rfl⟩
  have E3 := Lib.hid (show Below u2.heap.size u2 u3 from by rw [hu3]; exact (Below.refl _ _).alloc (Nat.le_refl _) _)
  rw [← hu1] at HG E1
  rw [← hu2] at HR
  rw [← hu3] at HD
  have HF : RDk u3 (w1.heap.size + 1 + 1) sb w1.heap.size (w1.heap.size + 1) nd 0 0 [] now 0 0 [] := by
    refine ⟨?_, ((HS.out.ext E1.out).ext E2.out).ext E3.out, blk_ext E3.out (blk_ext E2.out HG.out), ⟨none, 0, ?_, Nat.le_refl _, by unfold maxLen; omega, .inl rfl, fun b o e => by simp at e, fun _ => ⟨rfl, rfl⟩, fun b o e => by simp at e⟩⟩
    · have h := HD.out
      rw [z2, hD] at h
      exact h
    · have h := blk_ext E3.out HR.out
      rw [z1] at h
      exact h
  have HB3 := ext_trans (ext_trans (ext_trans HB.out E1.out) E2.out) E3.out
  have hz3 := HB.out.size
  rw [hu3, hu2, hu1, hD] at HF HB3
  have HF := Lib.hid HF
  have HB3 := Lib.hid HB3
  clear HG HR HD E1 E2 E3 z1 z2 hu1 hu2 hu3 hD hG hR
  go_wp2
  go_ret
  exact ⟨w1.heap.size + 1 + 1, sb, w1.heap.size, w1.heap.size + 1, rfl, HF.out, ⟨by omega, by have := HE.out; omega, by omega, by omega⟩, HB3.out⟩

end Go.Proofs.Ytloeabdohgdmkaa

/- The document's own desk: Set. -/
namespace Go.Proofs.Ytloeabdohgdmkaa
open Go.RowKit
set_option linter.unusedVariables false
set_option linter.unusedSimpArgs false

set_option maxRecDepth 100000 in
set_option maxHeartbeats 4000000 in
theorem rdSet (rb sb gb wb : Nat) (nd t0 n0 : Int) (es : List En) (g l tt : Int) (ks : List Ky) (e : En) (w : World) (h : RDk w rb sb gb wb nd t0 n0 es g l tt ks) (hs : Asc es) (hn : es.length ≤ 900) (hin : isIn (enK e) es = true ∨ es.length < 32) (hks : ks.length ≤ 1000) :
    Calls Try.prog 46 #[.pointer (some ⟨rb, 0, none⟩), .agg #[.string e.c.a, .string e.c.i, .int .i64 e.c.s, .int .i64 e.c.o, .int .i64 e.c.l, .int .i64 e.c.t, .int .i64 e.c.k, .int .i64 e.c.n, .bool e.c.g, .int .i64 e.seen]] w fun r w' => r = .returned (.int .i64 0) ∧ RDk w' rb sb gb wb nd t0 n0 (putE es e) g l tt (ks ++ [enK e]) ∧ Rim4 rb sb gb wb w w' := by
  have hp : ∀ u : World, RShP u sb 32 es → Calls Try.prog 45 #[.pointer (some ⟨sb, 0, none⟩), .agg #[.string e.c.a, .string e.c.i, .int .i64 e.c.s, .int .i64 e.c.o, .int .i64 e.c.l, .int .i64 e.c.t, .int .i64 e.c.k, .int .i64 e.c.n, .bool e.c.g, .int .i64 e.seen]] u fun r u' => r = .returned (.int .i64 0) ∧ RShP u' sb 32 (putE es e) ∧ Rim sb u u' := by
    intro u hu
    cases hi : isIn (enK e) es
    · have hl : es.length < 32 := by rcases hin with h | h; (· rw [hi] at h; cases h); (· exact h)
      refine (rshPutNew sb 32 es e u hu hs hn hi (by omega)).mono fun r w' h => ?_
      unfold putE
      rw [if_neg (by rw [hi]; simp)]
      exact h
    · refine (rshPutIn sb 32 es e u hu hs hn hi).mono fun r w' h => ?_
      unfold putE
      rw [if_pos hi]
      exact h
  have HPU := Lib.hid hp
  have D0 := Lib.hid (show Below w.heap.size w (w.alloc (.cells #[.string e.c.a, .string e.c.i, .int .i64 e.c.s, .int .i64 e.c.o, .int .i64 e.c.l, .int .i64 e.c.t, .int .i64 e.c.k, .int .i64 e.c.n, .bool e.c.g, .int .i64 e.seen] 77)) from (Below.refl _ _).alloc (Nat.le_refl _) _)
  have HX := Lib.hid (blk_new w #[.string e.c.a, .string e.c.i, .int .i64 e.c.s, .int .i64 e.c.o, .int .i64 e.c.l, .int .i64 e.c.t, .int .i64 e.c.k, .int .i64 e.c.n, .bool e.c.g, .int .i64 e.seen] 77)
  have HP := Lib.hid (h.ext D0.out)
  have hlt := blk_lt h.d
  have hlt2 := h.s.lt
  have hlt3 := h.r.lt
  clear h hp hs
  go_enter Try.func46, Try.ntmps46
  go_upto_region 1 with (fail)
  obtain ⟨p, hp⟩ : ∃ p, w.heap.size = p := ⟨_, rfl⟩
  have hpd : p ≠ rb := by omega
  have hps : p ≠ sb := by omega
  have hpw : p ≠ wb := by omega
  rw [hp] at HX
  try rw [hp]
  clear hp hlt hlt2 hlt3
  generalize (w.alloc (.cells #[.string e.c.a, .string e.c.i, .int .i64 e.c.s, .int .i64 e.c.o, .int .i64 e.c.l, .int .i64 e.c.t, .int .i64 e.c.k, .int .i64 e.c.n, .bool e.c.g, .int .i64 e.seen] 77)) = w1 at *
  have HX0 := Lib.hid (blk_ext ((Below.refl w1.heap.size w1).drew) HX.out)
  have HP0 := Lib.hid (HP.out.ext ((Below.refl w1.heap.size w1).drew))
  have D1 := Lib.hid (ext_trans D0.out ((Below.refl w1.heap.size w1).drew))
  have hldb := blk_lt HP.out.d
  haveI hI0 : Nonempty (In (fun W : World => W.heap[p]? = some (.cells #[.string e.c.a, .string e.c.i, .int .i64 e.c.s, .int .i64 e.c.o, .int .i64 e.c.l, .int .i64 e.c.t, .int .i64 e.c.k, .int .i64 e.c.n, .bool e.c.g, .int .i64 e.seen] 77 (0, 0)) ∧ W.heap[rb]? = some (.cells #[.pointer (some ⟨sb, 0, none⟩), .pointer (some ⟨gb, 0, none⟩), .pointer (some ⟨wb, 0, none⟩), .int .i64 t0, .int .i64 nd, .int .i64 n0] 72 (0, 0)))) := ⟨⟨_, HX0.out, HP0.out.d⟩⟩
  have hL0 : ∀ g : In (fun W : World => W.heap[p]? = some (.cells #[.string e.c.a, .string e.c.i, .int .i64 e.c.s, .int .i64 e.c.o, .int .i64 e.c.l, .int .i64 e.c.t, .int .i64 e.c.k, .int .i64 e.c.n, .bool e.c.g, .int .i64 e.seen] 77 (0, 0)) ∧ W.heap[rb]? = some (.cells #[.pointer (some ⟨sb, 0, none⟩), .pointer (some ⟨gb, 0, none⟩), .pointer (some ⟨wb, 0, none⟩), .int .i64 t0, .int .i64 nd, .int .i64 n0] 72 (0, 0))), p < g.w.heap.size := fun g => blk_lt g.h.1
  have hM0 : ∀ g : In (fun W : World => W.heap[p]? = some (.cells #[.string e.c.a, .string e.c.i, .int .i64 e.c.s, .int .i64 e.c.o, .int .i64 e.c.l, .int .i64 e.c.t, .int .i64 e.c.k, .int .i64 e.c.n, .bool e.c.g, .int .i64 e.seen] 77 (0, 0)) ∧ W.heap[rb]? = some (.cells #[.pointer (some ⟨sb, 0, none⟩), .pointer (some ⟨gb, 0, none⟩), .pointer (some ⟨wb, 0, none⟩), .int .i64 t0, .int .i64 nd, .int .i64 n0] 72 (0, 0))), rb < g.w.heap.size := fun g => blk_lt g.h.2
  have hB0_0 : ∀ g : In (fun W : World => W.heap[p]? = some (.cells #[.string e.c.a, .string e.c.i, .int .i64 e.c.s, .int .i64 e.c.o, .int .i64 e.c.l, .int .i64 e.c.t, .int .i64 e.c.k, .int .i64 e.c.n, .bool e.c.g, .int .i64 e.seen] 77 (0, 0)) ∧ W.heap[rb]? = some (.cells #[.pointer (some ⟨sb, 0, none⟩), .pointer (some ⟨gb, 0, none⟩), .pointer (some ⟨wb, 0, none⟩), .int .i64 t0, .int .i64 nd, .int .i64 n0] 72 (0, 0))), g.w.cell? ⟨p, 0, none⟩ = some (.string e.c.a) := fun g => by rw [blk_cell g.h.1]; rfl
  have hB0_1 : ∀ g : In (fun W : World => W.heap[p]? = some (.cells #[.string e.c.a, .string e.c.i, .int .i64 e.c.s, .int .i64 e.c.o, .int .i64 e.c.l, .int .i64 e.c.t, .int .i64 e.c.k, .int .i64 e.c.n, .bool e.c.g, .int .i64 e.seen] 77 (0, 0)) ∧ W.heap[rb]? = some (.cells #[.pointer (some ⟨sb, 0, none⟩), .pointer (some ⟨gb, 0, none⟩), .pointer (some ⟨wb, 0, none⟩), .int .i64 t0, .int .i64 nd, .int .i64 n0] 72 (0, 0))), g.w.cell? ⟨p, 1, none⟩ = some (.string e.c.i) := fun g => by rw [blk_cell g.h.1]; rfl
  have hB0_2 : ∀ g : In (fun W : World => W.heap[p]? = some (.cells #[.string e.c.a, .string e.c.i, .int .i64 e.c.s, .int .i64 e.c.o, .int .i64 e.c.l, .int .i64 e.c.t, .int .i64 e.c.k, .int .i64 e.c.n, .bool e.c.g, .int .i64 e.seen] 77 (0, 0)) ∧ W.heap[rb]? = some (.cells #[.pointer (some ⟨sb, 0, none⟩), .pointer (some ⟨gb, 0, none⟩), .pointer (some ⟨wb, 0, none⟩), .int .i64 t0, .int .i64 nd, .int .i64 n0] 72 (0, 0))), g.w.cell? ⟨p, 2, none⟩ = some (.int .i64 e.c.s) := fun g => by rw [blk_cell g.h.1]; rfl
  have hB0_3 : ∀ g : In (fun W : World => W.heap[p]? = some (.cells #[.string e.c.a, .string e.c.i, .int .i64 e.c.s, .int .i64 e.c.o, .int .i64 e.c.l, .int .i64 e.c.t, .int .i64 e.c.k, .int .i64 e.c.n, .bool e.c.g, .int .i64 e.seen] 77 (0, 0)) ∧ W.heap[rb]? = some (.cells #[.pointer (some ⟨sb, 0, none⟩), .pointer (some ⟨gb, 0, none⟩), .pointer (some ⟨wb, 0, none⟩), .int .i64 t0, .int .i64 nd, .int .i64 n0] 72 (0, 0))), g.w.cell? ⟨p, 3, none⟩ = some (.int .i64 e.c.o) := fun g => by rw [blk_cell g.h.1]; rfl
  have hB0_4 : ∀ g : In (fun W : World => W.heap[p]? = some (.cells #[.string e.c.a, .string e.c.i, .int .i64 e.c.s, .int .i64 e.c.o, .int .i64 e.c.l, .int .i64 e.c.t, .int .i64 e.c.k, .int .i64 e.c.n, .bool e.c.g, .int .i64 e.seen] 77 (0, 0)) ∧ W.heap[rb]? = some (.cells #[.pointer (some ⟨sb, 0, none⟩), .pointer (some ⟨gb, 0, none⟩), .pointer (some ⟨wb, 0, none⟩), .int .i64 t0, .int .i64 nd, .int .i64 n0] 72 (0, 0))), g.w.cell? ⟨p, 4, none⟩ = some (.int .i64 e.c.l) := fun g => by rw [blk_cell g.h.1]; rfl
  have hB0_5 : ∀ g : In (fun W : World => W.heap[p]? = some (.cells #[.string e.c.a, .string e.c.i, .int .i64 e.c.s, .int .i64 e.c.o, .int .i64 e.c.l, .int .i64 e.c.t, .int .i64 e.c.k, .int .i64 e.c.n, .bool e.c.g, .int .i64 e.seen] 77 (0, 0)) ∧ W.heap[rb]? = some (.cells #[.pointer (some ⟨sb, 0, none⟩), .pointer (some ⟨gb, 0, none⟩), .pointer (some ⟨wb, 0, none⟩), .int .i64 t0, .int .i64 nd, .int .i64 n0] 72 (0, 0))), g.w.cell? ⟨p, 5, none⟩ = some (.int .i64 e.c.t) := fun g => by rw [blk_cell g.h.1]; rfl
  have hB0_6 : ∀ g : In (fun W : World => W.heap[p]? = some (.cells #[.string e.c.a, .string e.c.i, .int .i64 e.c.s, .int .i64 e.c.o, .int .i64 e.c.l, .int .i64 e.c.t, .int .i64 e.c.k, .int .i64 e.c.n, .bool e.c.g, .int .i64 e.seen] 77 (0, 0)) ∧ W.heap[rb]? = some (.cells #[.pointer (some ⟨sb, 0, none⟩), .pointer (some ⟨gb, 0, none⟩), .pointer (some ⟨wb, 0, none⟩), .int .i64 t0, .int .i64 nd, .int .i64 n0] 72 (0, 0))), g.w.cell? ⟨p, 6, none⟩ = some (.int .i64 e.c.k) := fun g => by rw [blk_cell g.h.1]; rfl
  have hB0_7 : ∀ g : In (fun W : World => W.heap[p]? = some (.cells #[.string e.c.a, .string e.c.i, .int .i64 e.c.s, .int .i64 e.c.o, .int .i64 e.c.l, .int .i64 e.c.t, .int .i64 e.c.k, .int .i64 e.c.n, .bool e.c.g, .int .i64 e.seen] 77 (0, 0)) ∧ W.heap[rb]? = some (.cells #[.pointer (some ⟨sb, 0, none⟩), .pointer (some ⟨gb, 0, none⟩), .pointer (some ⟨wb, 0, none⟩), .int .i64 t0, .int .i64 nd, .int .i64 n0] 72 (0, 0))), g.w.cell? ⟨p, 7, none⟩ = some (.int .i64 e.c.n) := fun g => by rw [blk_cell g.h.1]; rfl
  have hB0_8 : ∀ g : In (fun W : World => W.heap[p]? = some (.cells #[.string e.c.a, .string e.c.i, .int .i64 e.c.s, .int .i64 e.c.o, .int .i64 e.c.l, .int .i64 e.c.t, .int .i64 e.c.k, .int .i64 e.c.n, .bool e.c.g, .int .i64 e.seen] 77 (0, 0)) ∧ W.heap[rb]? = some (.cells #[.pointer (some ⟨sb, 0, none⟩), .pointer (some ⟨gb, 0, none⟩), .pointer (some ⟨wb, 0, none⟩), .int .i64 t0, .int .i64 nd, .int .i64 n0] 72 (0, 0))), g.w.cell? ⟨p, 8, none⟩ = some (.bool e.c.g) := fun g => by rw [blk_cell g.h.1]; rfl
  have hB0_9 : ∀ g : In (fun W : World => W.heap[p]? = some (.cells #[.string e.c.a, .string e.c.i, .int .i64 e.c.s, .int .i64 e.c.o, .int .i64 e.c.l, .int .i64 e.c.t, .int .i64 e.c.k, .int .i64 e.c.n, .bool e.c.g, .int .i64 e.seen] 77 (0, 0)) ∧ W.heap[rb]? = some (.cells #[.pointer (some ⟨sb, 0, none⟩), .pointer (some ⟨gb, 0, none⟩), .pointer (some ⟨wb, 0, none⟩), .int .i64 t0, .int .i64 nd, .int .i64 n0] 72 (0, 0))), g.w.cell? ⟨p, 9, none⟩ = some (.int .i64 e.seen) := fun g => by rw [blk_cell g.h.1]; rfl
  have hD0_0 : ∀ g : In (fun W : World => W.heap[p]? = some (.cells #[.string e.c.a, .string e.c.i, .int .i64 e.c.s, .int .i64 e.c.o, .int .i64 e.c.l, .int .i64 e.c.t, .int .i64 e.c.k, .int .i64 e.c.n, .bool e.c.g, .int .i64 e.seen] 77 (0, 0)) ∧ W.heap[rb]? = some (.cells #[.pointer (some ⟨sb, 0, none⟩), .pointer (some ⟨gb, 0, none⟩), .pointer (some ⟨wb, 0, none⟩), .int .i64 t0, .int .i64 nd, .int .i64 n0] 72 (0, 0))), g.w.cell? ⟨rb, 0, none⟩ = some (.pointer (some ⟨sb, 0, none⟩)) := fun g => by rw [blk_cell g.h.2]; rfl
  have hD0_2 : ∀ g : In (fun W : World => W.heap[p]? = some (.cells #[.string e.c.a, .string e.c.i, .int .i64 e.c.s, .int .i64 e.c.o, .int .i64 e.c.l, .int .i64 e.c.t, .int .i64 e.c.k, .int .i64 e.c.n, .bool e.c.g, .int .i64 e.seen] 77 (0, 0)) ∧ W.heap[rb]? = some (.cells #[.pointer (some ⟨sb, 0, none⟩), .pointer (some ⟨gb, 0, none⟩), .pointer (some ⟨wb, 0, none⟩), .int .i64 t0, .int .i64 nd, .int .i64 n0] 72 (0, 0))), g.w.cell? ⟨rb, 2, none⟩ = some (.pointer (some ⟨wb, 0, none⟩)) := fun g => by rw [blk_cell g.h.2]; rfl
  refine Hist.wp_region_hist (fun W : World => W.heap[p]? = some (.cells #[.string e.c.a, .string e.c.i, .int .i64 e.c.s, .int .i64 e.c.o, .int .i64 e.c.l, .int .i64 e.c.t, .int .i64 e.c.k, .int .i64 e.c.n, .bool e.c.g, .int .i64 e.seen] 77 (0, 0)) ∧ W.heap[rb]? = some (.cells #[.pointer (some ⟨sb, 0, none⟩), .pointer (some ⟨gb, 0, none⟩), .pointer (some ⟨wb, 0, none⟩), .int .i64 t0, .int .i64 nd, .int .i64 n0] 72 (0, 0))) (by kernel_rfl) (by kernel_rfl) (by kernel_rfl) ⟨HX0.out, HP0.out.d⟩ ?_
  clear HX HP D0
  generalize w1.drew = x0 at *
  repeat (first | (refine Hist.wpG_plain 0 _ (by decide +kernel) rfl (by rfl) (by rfl) (fun K hK => ?_); go_big_quiet_op; refine hK _ ?_; clear hK K))
  refine Hist.wpG_call (by rfl) (by rfl) (fun K hK => ?_)
  go_big_op
  refine (HPU.out _ HP0.out.s).mono ?_
  rintro r x1 ⟨rfl, hds, hr⟩
  have HX1 := Lib.hid ((hr.block p hps (blk_lt HX0.out)).trans HX0.out)
  have HP1 := Lib.hid (HP0.out.sh hds hr)
  have HR1 := Lib.hid ((Rim4.of (rb := rb) (sb := sb) (gb := gb) (wb := wb) D1.out).trans (Rim4.s hr))
  refine hK _ _ ⟨(fun W : World => W.heap[p]? = some (.cells #[.string e.c.a, .string e.c.i, .int .i64 e.c.s, .int .i64 e.c.o, .int .i64 e.c.l, .int .i64 e.c.t, .int .i64 e.c.k, .int .i64 e.c.n, .bool e.c.g, .int .i64 e.seen] 77 (0, 0)) ∧ W.heap[rb]? = some (.cells #[.pointer (some ⟨sb, 0, none⟩), .pointer (some ⟨gb, 0, none⟩), .pointer (some ⟨wb, 0, none⟩), .int .i64 t0, .int .i64 nd, .int .i64 n0] 72 (0, 0))), (by simp only [List.cons_append, List.nil_append, List.forall_mem_cons]; repeat' (first | exact ⟨HX1.out, HP1.out.d⟩ | (intro _ h; cases h; done) | constructor)), ?_⟩
  clear hK K hds hr HX0 HP0 D1 HPU
  repeat (first | (refine Hist.wpG_plain 1 _ (by decide +kernel) rfl (by rfl) (by rfl) (fun K hK => ?_); go_big_quiet_op; refine hK _ ?_; clear hK K) | (refine Hist.wpG_plain 0 _ (by decide +kernel) rfl (by rfl) (by rfl) (fun K hK => ?_); go_big_quiet_op; refine hK _ ?_; clear hK K))
  refine Hist.wpG_nil ?_
  clear hI0 hL0 hM0 hB0_0 hB0_1 hB0_2 hB0_3 hB0_4 hB0_5 hB0_6 hB0_7 hB0_8 hB0_9 hD0_0 hD0_2
  go_upto_region 3 with (fail)
  have HX2 := Lib.hid (blk_ext ((Below.refl x1.heap.size x1).drew) HX1.out)
  have HP2 := Lib.hid (HP1.out.ext ((Below.refl x1.heap.size x1).drew))
  have HR2 := Lib.hid (HR1.out.trans (Rim4.of ((Below.refl x1.heap.size x1).drew)))
  haveI hI2 : Nonempty (In (fun W : World => W.heap[p]? = some (.cells #[.string e.c.a, .string e.c.i, .int .i64 e.c.s, .int .i64 e.c.o, .int .i64 e.c.l, .int .i64 e.c.t, .int .i64 e.c.k, .int .i64 e.c.n, .bool e.c.g, .int .i64 e.seen] 77 (0, 0)) ∧ W.heap[rb]? = some (.cells #[.pointer (some ⟨sb, 0, none⟩), .pointer (some ⟨gb, 0, none⟩), .pointer (some ⟨wb, 0, none⟩), .int .i64 t0, .int .i64 nd, .int .i64 n0] 72 (0, 0)))) := ⟨⟨_, HX2.out, HP2.out.d⟩⟩
  have hL2 : ∀ g : In (fun W : World => W.heap[p]? = some (.cells #[.string e.c.a, .string e.c.i, .int .i64 e.c.s, .int .i64 e.c.o, .int .i64 e.c.l, .int .i64 e.c.t, .int .i64 e.c.k, .int .i64 e.c.n, .bool e.c.g, .int .i64 e.seen] 77 (0, 0)) ∧ W.heap[rb]? = some (.cells #[.pointer (some ⟨sb, 0, none⟩), .pointer (some ⟨gb, 0, none⟩), .pointer (some ⟨wb, 0, none⟩), .int .i64 t0, .int .i64 nd, .int .i64 n0] 72 (0, 0))), p < g.w.heap.size := fun g => blk_lt g.h.1
  have hM2 : ∀ g : In (fun W : World => W.heap[p]? = some (.cells #[.string e.c.a, .string e.c.i, .int .i64 e.c.s, .int .i64 e.c.o, .int .i64 e.c.l, .int .i64 e.c.t, .int .i64 e.c.k, .int .i64 e.c.n, .bool e.c.g, .int .i64 e.seen] 77 (0, 0)) ∧ W.heap[rb]? = some (.cells #[.pointer (some ⟨sb, 0, none⟩), .pointer (some ⟨gb, 0, none⟩), .pointer (some ⟨wb, 0, none⟩), .int .i64 t0, .int .i64 nd, .int .i64 n0] 72 (0, 0))), rb < g.w.heap.size := fun g => blk_lt g.h.2
  have hB2_0 : ∀ g : In (fun W : World => W.heap[p]? = some (.cells #[.string e.c.a, .string e.c.i, .int .i64 e.c.s, .int .i64 e.c.o, .int .i64 e.c.l, .int .i64 e.c.t, .int .i64 e.c.k, .int .i64 e.c.n, .bool e.c.g, .int .i64 e.seen] 77 (0, 0)) ∧ W.heap[rb]? = some (.cells #[.pointer (some ⟨sb, 0, none⟩), .pointer (some ⟨gb, 0, none⟩), .pointer (some ⟨wb, 0, none⟩), .int .i64 t0, .int .i64 nd, .int .i64 n0] 72 (0, 0))), g.w.cell? ⟨p, 0, none⟩ = some (.string e.c.a) := fun g => by rw [blk_cell g.h.1]; rfl
  have hB2_1 : ∀ g : In (fun W : World => W.heap[p]? = some (.cells #[.string e.c.a, .string e.c.i, .int .i64 e.c.s, .int .i64 e.c.o, .int .i64 e.c.l, .int .i64 e.c.t, .int .i64 e.c.k, .int .i64 e.c.n, .bool e.c.g, .int .i64 e.seen] 77 (0, 0)) ∧ W.heap[rb]? = some (.cells #[.pointer (some ⟨sb, 0, none⟩), .pointer (some ⟨gb, 0, none⟩), .pointer (some ⟨wb, 0, none⟩), .int .i64 t0, .int .i64 nd, .int .i64 n0] 72 (0, 0))), g.w.cell? ⟨p, 1, none⟩ = some (.string e.c.i) := fun g => by rw [blk_cell g.h.1]; rfl
  have hB2_2 : ∀ g : In (fun W : World => W.heap[p]? = some (.cells #[.string e.c.a, .string e.c.i, .int .i64 e.c.s, .int .i64 e.c.o, .int .i64 e.c.l, .int .i64 e.c.t, .int .i64 e.c.k, .int .i64 e.c.n, .bool e.c.g, .int .i64 e.seen] 77 (0, 0)) ∧ W.heap[rb]? = some (.cells #[.pointer (some ⟨sb, 0, none⟩), .pointer (some ⟨gb, 0, none⟩), .pointer (some ⟨wb, 0, none⟩), .int .i64 t0, .int .i64 nd, .int .i64 n0] 72 (0, 0))), g.w.cell? ⟨p, 2, none⟩ = some (.int .i64 e.c.s) := fun g => by rw [blk_cell g.h.1]; rfl
  have hB2_3 : ∀ g : In (fun W : World => W.heap[p]? = some (.cells #[.string e.c.a, .string e.c.i, .int .i64 e.c.s, .int .i64 e.c.o, .int .i64 e.c.l, .int .i64 e.c.t, .int .i64 e.c.k, .int .i64 e.c.n, .bool e.c.g, .int .i64 e.seen] 77 (0, 0)) ∧ W.heap[rb]? = some (.cells #[.pointer (some ⟨sb, 0, none⟩), .pointer (some ⟨gb, 0, none⟩), .pointer (some ⟨wb, 0, none⟩), .int .i64 t0, .int .i64 nd, .int .i64 n0] 72 (0, 0))), g.w.cell? ⟨p, 3, none⟩ = some (.int .i64 e.c.o) := fun g => by rw [blk_cell g.h.1]; rfl
  have hB2_4 : ∀ g : In (fun W : World => W.heap[p]? = some (.cells #[.string e.c.a, .string e.c.i, .int .i64 e.c.s, .int .i64 e.c.o, .int .i64 e.c.l, .int .i64 e.c.t, .int .i64 e.c.k, .int .i64 e.c.n, .bool e.c.g, .int .i64 e.seen] 77 (0, 0)) ∧ W.heap[rb]? = some (.cells #[.pointer (some ⟨sb, 0, none⟩), .pointer (some ⟨gb, 0, none⟩), .pointer (some ⟨wb, 0, none⟩), .int .i64 t0, .int .i64 nd, .int .i64 n0] 72 (0, 0))), g.w.cell? ⟨p, 4, none⟩ = some (.int .i64 e.c.l) := fun g => by rw [blk_cell g.h.1]; rfl
  have hB2_5 : ∀ g : In (fun W : World => W.heap[p]? = some (.cells #[.string e.c.a, .string e.c.i, .int .i64 e.c.s, .int .i64 e.c.o, .int .i64 e.c.l, .int .i64 e.c.t, .int .i64 e.c.k, .int .i64 e.c.n, .bool e.c.g, .int .i64 e.seen] 77 (0, 0)) ∧ W.heap[rb]? = some (.cells #[.pointer (some ⟨sb, 0, none⟩), .pointer (some ⟨gb, 0, none⟩), .pointer (some ⟨wb, 0, none⟩), .int .i64 t0, .int .i64 nd, .int .i64 n0] 72 (0, 0))), g.w.cell? ⟨p, 5, none⟩ = some (.int .i64 e.c.t) := fun g => by rw [blk_cell g.h.1]; rfl
  have hB2_6 : ∀ g : In (fun W : World => W.heap[p]? = some (.cells #[.string e.c.a, .string e.c.i, .int .i64 e.c.s, .int .i64 e.c.o, .int .i64 e.c.l, .int .i64 e.c.t, .int .i64 e.c.k, .int .i64 e.c.n, .bool e.c.g, .int .i64 e.seen] 77 (0, 0)) ∧ W.heap[rb]? = some (.cells #[.pointer (some ⟨sb, 0, none⟩), .pointer (some ⟨gb, 0, none⟩), .pointer (some ⟨wb, 0, none⟩), .int .i64 t0, .int .i64 nd, .int .i64 n0] 72 (0, 0))), g.w.cell? ⟨p, 6, none⟩ = some (.int .i64 e.c.k) := fun g => by rw [blk_cell g.h.1]; rfl
  have hB2_7 : ∀ g : In (fun W : World => W.heap[p]? = some (.cells #[.string e.c.a, .string e.c.i, .int .i64 e.c.s, .int .i64 e.c.o, .int .i64 e.c.l, .int .i64 e.c.t, .int .i64 e.c.k, .int .i64 e.c.n, .bool e.c.g, .int .i64 e.seen] 77 (0, 0)) ∧ W.heap[rb]? = some (.cells #[.pointer (some ⟨sb, 0, none⟩), .pointer (some ⟨gb, 0, none⟩), .pointer (some ⟨wb, 0, none⟩), .int .i64 t0, .int .i64 nd, .int .i64 n0] 72 (0, 0))), g.w.cell? ⟨p, 7, none⟩ = some (.int .i64 e.c.n) := fun g => by rw [blk_cell g.h.1]; rfl
  have hB2_8 : ∀ g : In (fun W : World => W.heap[p]? = some (.cells #[.string e.c.a, .string e.c.i, .int .i64 e.c.s, .int .i64 e.c.o, .int .i64 e.c.l, .int .i64 e.c.t, .int .i64 e.c.k, .int .i64 e.c.n, .bool e.c.g, .int .i64 e.seen] 77 (0, 0)) ∧ W.heap[rb]? = some (.cells #[.pointer (some ⟨sb, 0, none⟩), .pointer (some ⟨gb, 0, none⟩), .pointer (some ⟨wb, 0, none⟩), .int .i64 t0, .int .i64 nd, .int .i64 n0] 72 (0, 0))), g.w.cell? ⟨p, 8, none⟩ = some (.bool e.c.g) := fun g => by rw [blk_cell g.h.1]; rfl
  have hB2_9 : ∀ g : In (fun W : World => W.heap[p]? = some (.cells #[.string e.c.a, .string e.c.i, .int .i64 e.c.s, .int .i64 e.c.o, .int .i64 e.c.l, .int .i64 e.c.t, .int .i64 e.c.k, .int .i64 e.c.n, .bool e.c.g, .int .i64 e.seen] 77 (0, 0)) ∧ W.heap[rb]? = some (.cells #[.pointer (some ⟨sb, 0, none⟩), .pointer (some ⟨gb, 0, none⟩), .pointer (some ⟨wb, 0, none⟩), .int .i64 t0, .int .i64 nd, .int .i64 n0] 72 (0, 0))), g.w.cell? ⟨p, 9, none⟩ = some (.int .i64 e.seen) := fun g => by rw [blk_cell g.h.1]; rfl
  have hD2_0 : ∀ g : In (fun W : World => W.heap[p]? = some (.cells #[.string e.c.a, .string e.c.i, .int .i64 e.c.s, .int .i64 e.c.o, .int .i64 e.c.l, .int .i64 e.c.t, .int .i64 e.c.k, .int .i64 e.c.n, .bool e.c.g, .int .i64 e.seen] 77 (0, 0)) ∧ W.heap[rb]? = some (.cells #[.pointer (some ⟨sb, 0, none⟩), .pointer (some ⟨gb, 0, none⟩), .pointer (some ⟨wb, 0, none⟩), .int .i64 t0, .int .i64 nd, .int .i64 n0] 72 (0, 0))), g.w.cell? ⟨rb, 0, none⟩ = some (.pointer (some ⟨sb, 0, none⟩)) := fun g => by rw [blk_cell g.h.2]; rfl
  have hD2_2 : ∀ g : In (fun W : World => W.heap[p]? = some (.cells #[.string e.c.a, .string e.c.i, .int .i64 e.c.s, .int .i64 e.c.o, .int .i64 e.c.l, .int .i64 e.c.t, .int .i64 e.c.k, .int .i64 e.c.n, .bool e.c.g, .int .i64 e.seen] 77 (0, 0)) ∧ W.heap[rb]? = some (.cells #[.pointer (some ⟨sb, 0, none⟩), .pointer (some ⟨gb, 0, none⟩), .pointer (some ⟨wb, 0, none⟩), .int .i64 t0, .int .i64 nd, .int .i64 n0] 72 (0, 0))), g.w.cell? ⟨rb, 2, none⟩ = some (.pointer (some ⟨wb, 0, none⟩)) := fun g => by rw [blk_cell g.h.2]; rfl
  refine Hist.wp_region_hist (fun W : World => W.heap[p]? = some (.cells #[.string e.c.a, .string e.c.i, .int .i64 e.c.s, .int .i64 e.c.o, .int .i64 e.c.l, .int .i64 e.c.t, .int .i64 e.c.k, .int .i64 e.c.n, .bool e.c.g, .int .i64 e.seen] 77 (0, 0)) ∧ W.heap[rb]? = some (.cells #[.pointer (some ⟨sb, 0, none⟩), .pointer (some ⟨gb, 0, none⟩), .pointer (some ⟨wb, 0, none⟩), .int .i64 t0, .int .i64 nd, .int .i64 n0] 72 (0, 0))) (by kernel_rfl) (by kernel_rfl) (by kernel_rfl) ⟨HX2.out, HP2.out.d⟩ ?_
  clear HX1 HP1 HR1
  generalize x1.drew = x2 at *
  repeat (first | (refine Hist.wpG_plain 0 _ (by decide +kernel) rfl (by rfl) (by rfl) (fun K hK => ?_); go_big_quiet_op; refine hK _ ?_; clear hK K))
  refine Hist.wpG_call (by rfl) (by rfl) (fun K hK => ?_)
  go_big_op
  refine (refAdd wb ks (e.c.a, e.c.i) _ HP2.out.r hks).mono ?_
  rintro r x3 ⟨rfl, hdq, hr⟩
  have HX3 := Lib.hid ((hr.block p hpw (blk_lt HX2.out)).trans HX2.out)
  have HP3 := Lib.hid (HP2.out.ro hdq hr)
  have HR3 := Lib.hid (HR2.out.trans (Rim4.q (rim_bar hr)))
  refine hK _ _ ⟨(fun W : World => W.heap[p]? = some (.cells #[.string e.c.a, .string e.c.i, .int .i64 e.c.s, .int .i64 e.c.o, .int .i64 e.c.l, .int .i64 e.c.t, .int .i64 e.c.k, .int .i64 e.c.n, .bool e.c.g, .int .i64 e.seen] 77 (0, 0)) ∧ W.heap[rb]? = some (.cells #[.pointer (some ⟨sb, 0, none⟩), .pointer (some ⟨gb, 0, none⟩), .pointer (some ⟨wb, 0, none⟩), .int .i64 t0, .int .i64 nd, .int .i64 n0] 72 (0, 0))), (by simp only [List.cons_append, List.nil_append, List.forall_mem_cons]; repeat' (first | exact ⟨HX3.out, HP3.out.d⟩ | (intro _ h; cases h; done) | constructor)), ?_⟩
  clear hK K hdq hr HX2 HP2 HR2
  try simp only [Act.put, List.setIfInBounds_toArray, List.set_cons_succ, List.set_cons_zero]
  refine Hist.wpG_nil ?_
  clear hI2 hL2 hM2 hB2_0 hB2_1 hB2_2 hB2_3 hB2_4 hB2_5 hB2_6 hB2_7 hB2_8 hB2_9 hD2_0 hD2_2
  go_wp2
  go_ret
  exact ⟨rfl, HP3.out, HR3.out⟩

end Go.Proofs.Ytloeabdohgdmkaa
