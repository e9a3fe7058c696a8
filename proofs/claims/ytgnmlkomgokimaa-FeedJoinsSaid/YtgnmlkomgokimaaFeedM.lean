/- Layer 15's 'made': two shelves, two rows of changes, a tape. -/
import Derived.Test.YtgnmlkomgokimaaFeedC
import Derived.Test.YtgnmlkomgokimaaTapeF
import Derived.Test.YtgnmlkomgokimaaBn
import Derived.Test.YtgnmlkomgokimaaSealR
namespace Go.Proofs.Ytgnmlkomgokimaa
open Go.RowKit
set_option linter.unusedVariables false
set_option linter.unusedSimpArgs false


def NoStr (cs : Array Value) : Prop := ∀ (n : Nat) (s : ByteArray), cs[n]? ≠ some (Value.string s)
theorem nostr2 {x y : Value} (hx : ∀ s, x ≠ Value.string s) (hy : ∀ s, y ≠ Value.string s) : NoStr #[x, y] := by
  intro n s
  match n with
  | 0 => simpa using hx s
  | 1 => simpa using hy s
  | n + 2 => simp
theorem nostr1 {x : Value} (hx : ∀ s, x ≠ Value.string s) : NoStr #[x] := by
  intro n s
  match n with
  | 0 => simpa using hx s
  | n + 1 => simp
section
variable {w w' : World} {b0 : Nat} {cs0 : Array Value} {T0 : TypeId}
theorem blk_rimT (hr : Rim b0 w w') (h0 : w.heap[b0]? = some (.cells cs0 T0 (0, 0))) {b : Nat} {cs : Array Value} {T : TypeId} (hT : T ≠ T0) (h : w.heap[b]? = some (.cells cs T (0, 0))) : w'.heap[b]? = w.heap[b]? :=
  hr.block b (fun e => by subst e; rw [h0] at h; simp at h; exact hT h.2.symm) (blk_lt h)
theorem ShP.rimT {s : Nat} {M : Int} {es : List En} (h : ShP w s M es) (hr : Rim b0 w w') (h0 : w.heap[b0]? = some (.cells cs0 T0 (0, 0))) (hT : 85 ≠ T0) (hT2 : 53 ≠ T0) : ShP w' s M es := by
  obtain ⟨a, c, h1, h2, h3⟩ := h
  exact ⟨a, c, (blk_rimT hr h0 hT h1).trans h1, h2.keep fun b cur hc _ => blk_rimT hr h0 hT2 hc, h3⟩
theorem RShP.rimT {s : Nat} {M : Int} {es : List En} (h : RShP w s M es) (hr : Rim b0 w w') (h0 : w.heap[b0]? = some (.cells cs0 T0 (0, 0))) (hT : 99 ≠ T0) (hT2 : 73 ≠ T0) : RShP w' s M es := by
  obtain ⟨a, c, h1, h2, h3⟩ := h
  exact ⟨a, c, (blk_rimT hr h0 hT h1).trans h1, h2.keep fun b cur hc _ => blk_rimT hr h0 hT2 hc, h3⟩
theorem KAt.rimT {a : Option Addr} {ks : List Ky} (h : KAt w a ks) (hr : Rim b0 w w') (h0 : w.heap[b0]? = some (.cells cs0 T0 (0, 0))) (hs : NoStr cs0) : KAt w' a ks := by
  by_cases hne : ks = []
  · exact .inl hne
  · refine h.keep fun b o e p v hv => ?_
    subst e
    have hb : b ≠ b0 := KAt_ne h hne h0 hs
    exact (World.cell?_of_block (w := w) (hr.block b hb (cell_lt hv))).trans hv
theorem RecAt.rimT {s q : Nat} {ks : List Ky} (h : RecAt w s q ks) (hr : Rim b0 w w') (h0 : w.heap[b0]? = some (.cells cs0 T0 (0, 0))) (hT : 77 ≠ T0) (hs : NoStr cs0) : RecAt w' s q ks := by
  obtain ⟨a, c, h1, h2, h3, h4, h5⟩ := h
  exact ⟨a, c, (blk_rimT hr h0 hT h1).trans h1, h2, h3, h4.rimT hr h0 hs, h5⟩
theorem RefAt.rimT {s : Nat} {ks : List Ky} (h : RefAt w s ks) (hr : Rim b0 w w') (h0 : w.heap[b0]? = some (.cells cs0 T0 (0, 0))) (hT : 70 ≠ T0) (hs : NoStr cs0) : RefAt w' s ks := by
  obtain ⟨a, c, h1, h2, h3, h4, h5⟩ := h
  exact ⟨a, c, (blk_rimT hr h0 hT h1).trans h1, h2, h3, h4.rimT hr h0 hs, h5⟩
theorem TapeK.rimT {a : Option Addr} {len cap b : Nat} (h : TapeK a len cap w b) (hr : Rim b0 w w') (h0 : w.heap[b0]? = some (.cells cs0 T0 (0, 0))) (hT : 47 ≠ T0) : TapeK a len cap w' b := by
  obtain ⟨q, h1, h2⟩ := h
  exact ⟨q, (blk_rimT hr h0 hT h1).trans h1, h2⟩
theorem Rim.ofBar {b : Nat} (h : Bar b w w') : Rim b w w' := ⟨h.os, h.tape, h.output, h.size, fun k hk hl => h.block k hk hl⟩
end
/-- two shelves, two rows of changes -/
def FQ (w0 : World) (sb rb wb xb : Nat) (es fs : List En) (ks gs : List Ky) (w : World) : Prop := ShP w sb 20 es ∧ RecAt w rb ks.length (lastK ks ks.length) ∧ RShP w wb 20 fs ∧ RefAt w xb gs ∧ Below w0.heap.size w0 w ∧ w0.heap.size ≤ sb ∧ w0.heap.size ≤ rb ∧ w0.heap.size ≤ wb ∧ w0.heap.size ≤ xb
section
variable {w0 w w' : World} {sb rb wb xb : Nat} {es fs es' : List En} {ks gs ks' : List Ky}
theorem FQ.ext (h : FQ w0 sb rb wb xb es fs ks gs w) (hb : Below w.heap.size w w') : FQ w0 sb rb wb xb es fs ks gs w' :=
  ⟨h.1.ext hb, h.2.1.ext hb, h.2.2.1.ext hb, h.2.2.2.1.ext hb, h.2.2.2.2.1.trans (hb.mono h.2.2.2.2.1.size), h.2.2.2.2.2⟩
theorem FQ.s (h : FQ w0 sb rb wb xb es fs ks gs w) (hs : ShP w' sb 20 es') (hr : Rim sb w w') : FQ w0 sb rb wb xb es' fs ks gs w' := by
  obtain ⟨h1, h2, h3, h4, h5, h6, h7, h8, h9⟩ := h
  obtain ⟨a, c, k1, -⟩ := h1
  have hn : NoStr #[Value.int .i64 20, .slice a es.length c] := nostr2 (by intro s; simp) (by intro s; simp)
  exact ⟨hs, h2.rimT hr k1 (by decide) hn, h3.rimT hr k1 (by decide) (by decide), h4.rimT hr k1 (by decide) hn, h5.trans (hr.below h6 h5.size), h6, h7, h8, h9⟩
theorem FQ.wd (h : FQ w0 sb rb wb xb es fs ks gs w) (hs : RShP w' wb 20 es') (hr : Rim wb w w') : FQ w0 sb rb wb xb es es' ks gs w' := by
  obtain ⟨h1, h2, h3, h4, h5, h6, h7, h8, h9⟩ := h
  obtain ⟨a, c, k1, -⟩ := h3
  have hn : NoStr #[Value.int .i64 20, .slice a fs.length c] := nostr2 (by intro s; simp) (by intro s; simp)
  exact ⟨h1.rimT hr k1 (by decide) (by decide), h2.rimT hr k1 (by decide) hn, hs, h4.rimT hr k1 (by decide) hn, h5.trans (hr.below h8 h5.size), h6, h7, h8, h9⟩
theorem FQ.r (h : FQ w0 sb rb wb xb es fs ks gs w) (hs : RecAt w' rb ks'.length (lastK ks' ks'.length)) (hb : Bar rb w w') : FQ w0 sb rb wb xb es fs ks' gs w' := by
  have hr := Rim.ofBar hb
  obtain ⟨h1, h2, h3, h4, h5, h6, h7, h8, h9⟩ := h
  obtain ⟨a, c, k1, -⟩ := h2
  have hn : NoStr #[Value.int .i64 ks.length, .slice a (lastK ks ks.length).length c] := nostr2 (by intro s; simp) (by intro s; simp)
  exact ⟨h1.rimT hr k1 (by decide) (by decide), hs, h3.rimT hr k1 (by decide) (by decide), h4.rimT hr k1 (by decide) hn, h5.trans (hr.below h7 h5.size), h6, h7, h8, h9⟩
theorem FQ.x (h : FQ w0 sb rb wb xb es fs ks gs w) (hs : RefAt w' xb ks') (hb : Bar xb w w') : FQ w0 sb rb wb xb es fs ks ks' w' := by
  have hr := Rim.ofBar hb
  obtain ⟨h1, h2, h3, h4, h5, h6, h7, h8, h9⟩ := h
  obtain ⟨a, c, k1, -⟩ := h4
  have hn : NoStr #[Value.slice a gs.length c] := nostr1 (by intro s; simp)
  exact ⟨h1.rimT hr k1 (by decide) (by decide), h2.rimT hr k1 (by decide) hn, h3.rimT hr k1 (by decide) (by decide), hs, h5.trans (hr.below h9 h5.size), h6, h7, h8, h9⟩
theorem FQ.t {ra : Option Addr} {rlen rcap tb : Nat} (h : FQ w0 sb rb wb xb es fs ks gs w) (ht : TapeK ra rlen rcap w tb) (hle : w0.heap.size ≤ tb) (hb : Bar tb w w') : FQ w0 sb rb wb xb es fs ks gs w' := by
  have hr := Rim.ofBar hb
  obtain ⟨h1, h2, h3, h4, h5, h6, h7, h8, h9⟩ := h
  obtain ⟨q, k1, -⟩ := ht
  have hn : NoStr #[Value.slice ra rlen rcap, .int .i64 q] := nostr2 (by intro s; simp) (by intro s; simp)
  exact ⟨h1.rimT hr k1 (by decide) (by decide), h2.rimT hr k1 (by decide) hn, h3.rimT hr k1 (by decide) (by decide), h4.rimT hr k1 (by decide) hn, h5.trans (hr.below hle h5.size), h6, h7, h8, h9⟩
/-- what an operation on one of them leaves of the tape -/
theorem TapeK.ofs {ra : Option Addr} {rlen rcap tb : Nat} (ht : TapeK ra rlen rcap w tb) {s : Nat} {M : Int} (h : ShP w s M es) (hr : Rim s w w') : TapeK ra rlen rcap w' tb := by
  obtain ⟨a, c, k1, -⟩ := h
  exact ht.rimT hr k1 (by decide)
theorem TapeK.ofw {ra : Option Addr} {rlen rcap tb : Nat} (ht : TapeK ra rlen rcap w tb) {s : Nat} {M : Int} (h : RShP w s M es) (hr : Rim s w w') : TapeK ra rlen rcap w' tb := by
  obtain ⟨a, c, k1, -⟩ := h
  exact ht.rimT hr k1 (by decide)
theorem TapeK.ofr {ra : Option Addr} {rlen rcap tb : Nat} (ht : TapeK ra rlen rcap w tb) {s q : Nat} (h : RecAt w s q ks) (hr : Bar s w w') : TapeK ra rlen rcap w' tb := by
  obtain ⟨a, c, k1, -⟩ := h
  exact ht.rimT (Rim.ofBar hr) k1 (by decide)
theorem TapeK.ofx {ra : Option Addr} {rlen rcap tb : Nat} (ht : TapeK ra rlen rcap w tb) {s : Nat} (h : RefAt w s ks) (hr : Bar s w w') : TapeK ra rlen rcap w' tb := by
  obtain ⟨a, c, k1, -⟩ := h
  exact ht.rimT (Rim.ofBar hr) k1 (by decide)
theorem addK_all (ks : List Ky) (k : Ky) : addK (lastK ks ks.length) k = lastK (ks ++ [k]) (ks ++ [k]).length := by
  unfold addK lastK
  simp only [List.take_length, List.length_append, List.length_cons, List.length_nil, List.length_drop]
  rw [List.drop_drop]
  have h : ks.length - 16 + (ks.length - (ks.length - 16) + 1 - 16) = ks.length + 1 - 16 := by omega
  rw [h, List.take_of_length_le (by simp), List.drop_append_of_le_length (by omega)]
end
end Go.Proofs.Ytgnmlkomgokimaa
