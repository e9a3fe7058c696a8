/- FeedJoins: a shelf, a row of changes, a tape and a map side by side. -/
import Derived.Test.YtgnmlkomgokimaaFeedV
import Derived.Test.YtgnmlkomgokimaaFeedK
import Derived.Test.YtgnmlkomgokimaaJoinL
import Derived.Maps.RangeWalk
import Derived.IntWalk
import Derived.WalkArith
namespace Go.Proofs.Ytgnmlkomgokimaa
open Go.RowKit
set_option linter.unusedVariables false
set_option linter.unusedSimpArgs false


def JQ (w0 : World) (ra : Option Addr) (rlen rcap sb rb tb mb n : Nat) (es fs : List En) (ks : List Ky) (w : World) : Prop := ShP w sb 20 es ∧ RecAt w rb ks.length (lastK ks ks.length) ∧ TapeK ra rlen rcap w tb ∧ MpD w mb n fs ∧ Below w0.heap.size w0 w ∧ w0.heap.size ≤ sb ∧ w0.heap.size ≤ rb ∧ w0.heap.size ≤ tb ∧ w0.heap.size ≤ mb
section
variable {w0 w w' : World} {ra : Option Addr} {rlen rcap sb rb tb mb n m : Nat} {es fs gs : List En} {ks ms : List Ky}
theorem MpD.mono (h : MpD w mb n es) (hn : n ≤ m) : MpD w mb m es := by
  obtain ⟨D, ⟨ms, clock, e1, e2, e3, e4⟩, h2⟩ := h
  exact ⟨D, ⟨ms, clock, e1, e2, by omega, e4⟩, h2⟩
theorem MpD.congr (h : MpD w mb n es) (hm : ∀ y, y ∈ es ↔ y ∈ fs) : MpD w mb n fs := by
  obtain ⟨D, h1, h2⟩ := h
  exact ⟨D, h1, h2.congr hm⟩
theorem MpD.rim {b : Nat} (h : MpD w mb n es) (hr : Rim b w w') {cur : Array Value} {T : TypeId} (hc : w.heap[b]? = some (.cells cur T (0, 0))) : MpD w' mb n es := h.blk (hr.block mb (Ne.symm (h.ne hc)) h.lt)
theorem rim_grown {b : Nat} (hg : w.grownBy w' (some b)) : Rim b w w' := ⟨hg.os, hg.tape, hg.output, hg.size, fun k hk hl => hg.block k hl (by simpa using hk)⟩
theorem ownsRow_grown {base size n r : Nat} {e : TypeId} {v : Value} {vs : List Value} (h : w.ownsRow base e size v n vs) (hg : w.grownBy w' (some r)) (hr : r < base) : w'.ownsRow base e size v n vs := by
  obtain ⟨h1, h2⟩ := h
  refine ⟨h1, ?_⟩
  rcases h2 with h2 | ⟨g, cap', cur, hv, hgb, hh, rr⟩
  · exact .inl h2
  · exact .inr ⟨g, cap', cur, hv, hgb, (hg.block g (blk_lt hh) (by simp; omega)).trans hh, rr⟩
theorem ranges_ext {k : TypeId} {R : Value → Option (DataW Cd × List MemPlace)} {b r c : Nat} {D : DataW Cd} {left : Lit → Bool} (h : w.ranges Try.prog k R b r n D left c) (hb : Below w.heap.size w w') : w'.ranges Try.prog k R b r n D left c :=
  h.kept (row := none) ⟨hb.os, hb.tape, hb.output, hb.size, fun k hk _ => hb.block k hk⟩ (by simp) (by simp)
theorem JQ.ext (h : JQ w0 ra rlen rcap sb rb tb mb n es fs ks w) (hb : Below w.heap.size w w') : JQ w0 ra rlen rcap sb rb tb mb n es fs ks w' :=
  ⟨h.1.ext hb, h.2.1.ext hb, h.2.2.1.ext hb, h.2.2.2.1.ext hb, h.2.2.2.2.1.trans (hb.mono h.2.2.2.2.1.size), h.2.2.2.2.2⟩
theorem JQ.s (h : JQ w0 ra rlen rcap sb rb tb mb n es fs ks w) (hs : ShP w' sb 20 gs) (hr : Rim sb w w') : JQ w0 ra rlen rcap sb rb tb mb n gs fs ks w' := by
  obtain ⟨h1, h2, h3, h4, h5, h6, h7, h8, h9⟩ := h
  obtain ⟨a, c, k1, -⟩ := h1
  have hn : NoStr #[Value.int .i64 20, .slice a es.length c] := nostr2 (by intro s; simp) (by intro s; simp)
  exact ⟨hs, h2.rimT hr k1 (by decide) hn, h3.rimT hr k1 (by decide), h4.rim hr k1, h5.trans (hr.below h6 h5.size), h6, h7, h8, h9⟩
theorem JQ.r (h : JQ w0 ra rlen rcap sb rb tb mb n es fs ks w) (hs : RecAt w' rb ms.length (lastK ms ms.length)) (hb : Bar rb w w') : JQ w0 ra rlen rcap sb rb tb mb n es fs ms w' := by
  have hr := Rim.ofBar hb
  obtain ⟨h1, h2, h3, h4, h5, h6, h7, h8, h9⟩ := h
  obtain ⟨a, c, k1, -⟩ := h2
  exact ⟨h1.rimT hr k1 (by decide) (by decide), hs, h3.rimT hr k1 (by decide), h4.rim hr k1, h5.trans (hr.below h7 h5.size), h6, h7, h8, h9⟩
theorem JQ.t (h : JQ w0 ra rlen rcap sb rb tb mb n es fs ks w) (ht : TapeK ra rlen rcap w' tb) (hb : Bar tb w w') : JQ w0 ra rlen rcap sb rb tb mb n es fs ks w' := by
  have hr := Rim.ofBar hb
  obtain ⟨h1, h2, h3, h4, h5, h6, h7, h8, h9⟩ := h
  obtain ⟨q, k1, -⟩ := h3
  have hn : NoStr #[Value.slice ra rlen rcap, .int .i64 q] := nostr2 (by intro s; simp) (by intro s; simp)
  exact ⟨h1.rimT hr k1 (by decide) (by decide), h2.rimT hr k1 (by decide) hn, ht, h4.rim hr k1, h5.trans (hr.below h8 h5.size), h6, h7, h8, h9⟩
end
end Go.Proofs.Ytgnmlkomgokimaa
