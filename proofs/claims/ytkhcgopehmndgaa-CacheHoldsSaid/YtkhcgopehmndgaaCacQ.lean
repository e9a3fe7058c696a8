/- A register, a row of changes, a tape and a cache side by side. -/
import Derived.Test.YtkhcgopehmndgaaCacD
import Derived.Test.YtkhcgopehmndgaaFeedD
import Derived.Test.YtkhcgopehmndgaaBn
import Derived.Test.YtkhcgopehmndgaaBi
namespace Go.Proofs.Ytkhcgopehmndgaa
open Go.RowKit
set_option linter.unusedVariables false
set_option linter.unusedSimpArgs false

def NoStr (cs : Array Value) : Prop := ∀ (n : Nat) (s : ByteArray), cs[n]? ≠ some (Value.string s)
theorem nostr2 {x y : Value} (hx : ∀ s, x ≠ Value.string s) (hy : ∀ s, y ≠ Value.string s) : NoStr #[x, y] := by
  intro n s
  match n with
  | 0 => simpa using hx s
  | 1 => simpa using hy s
  | n + 2 => simp
theorem nostr1 {x : Value} (hx : ∀ s, x ≠ Value.string s) : NoStr #[x] := by
  intro n s
  match n with
  | 0 => simpa using hx s
  | n + 1 => simp
section
variable {w w' : World} {b0 : Nat} {cs0 : Array Value} {T0 : TypeId}
theorem ShP.rimT {s : Nat} {M : Int} {es : List En} (h : ShP w s M es) (hr : Rim b0 w w') (h0 : w.heap[b0]? = some (.cells cs0 T0 (0, 0))) (hT : 76 ≠ T0) (hT2 : 54 ≠ T0) : ShP w' s M es := by
  obtain ⟨a, c, h1, h2, h3⟩ := h
  exact ⟨a, c, (blk_rimT hr h0 hT h1).trans h1, h2.keep fun b cur hc _ => blk_rimT hr h0 hT2 hc, h3⟩
theorem KAt.rimT {a : Option Addr} {ks : List Ky} (h : KAt w a ks) (hr : Rim b0 w w') (h0 : w.heap[b0]? = some (.cells cs0 T0 (0, 0))) (hs : NoStr cs0) : KAt w' a ks := by
  by_cases hne : ks = []
  · exact .inl hne
  · refine h.keep fun b o e p v hv => ?_
    subst e
    have hb : b ≠ b0 := KAt_ne h hne h0 hs
    exact (World.cell?_of_block (w := w) (hr.block b hb (cell_lt hv))).trans hv
theorem RecAt.rimT {s q : Nat} {ks : List Ky} (h : RecAt w s q ks) (hr : Rim b0 w w') (h0 : w.heap[b0]? = some (.cells cs0 T0 (0, 0))) (hT : 78 ≠ T0) (hs : NoStr cs0) : RecAt w' s q ks := by
  obtain ⟨a, c, h1, h2, h3, h4, h5⟩ := h
  exact ⟨a, c, (blk_rimT hr h0 hT h1).trans h1, h2, h3, h4.rimT hr h0 hs, h5⟩
theorem Rim.ofBar {b : Nat} (h : Bar b w w') : Rim b w w' := ⟨h.os, h.tape, h.output, h.size, fun k hk hl => h.block k hk hl⟩
end
theorem addK_all (ks : List Ky) (k : Ky) : addK (lastK ks ks.length) k = lastK (ks ++ [k]) (ks ++ [k]).length := by
  unfold addK lastK
  simp only [List.take_length, List.length_append, List.length_cons, List.length_nil, List.length_drop]
  rw [List.drop_drop]
  have h : ks.length - 16 + (ks.length - (ks.length - 16) + 1 - 16) = ks.length + 1 - 16 := by omega
  rw [h, List.take_of_length_le (by simp), List.drop_append_of_le_length (by omega)]

theorem cur_key {es : List En} {k : Ky} (h : isIn k es = true) : ck (cur es k) = k ∧ ∃ e ∈ es, e.c = cur es k := by
  obtain ⟨x, hx, e1, e2⟩ := isIn_at h
  rw [cur_yes h hx]
  exact ⟨Prod.ext e1 e2, x, List.mem_of_getElem? hx, rfl⟩
/-- since es0 keys ks have changed, and each of them is there -/
def Ch (es0 es : List En) (ks : List Ky) : Prop := (∀ e, enK e ∉ ks → (e ∈ es ↔ e ∈ es0)) ∧ ∀ k ∈ ks, isIn k es = true
theorem Ch.nil (es : List En) : Ch es es [] := ⟨fun e _ => Iff.rfl, fun k h => by cases h⟩
theorem Ch.put {es0 es fs : List En} {ks : List Ky} (h : Ch es0 es ks) (hf : Asc fs) (e : En) (hm : ∀ x, x ∈ fs ↔ x = e ∨ (x ∈ es ∧ enK x ≠ enK e)) : Ch es0 fs (ks ++ [enK e]) := by
  refine ⟨fun x hx => ?_, fun k hk => ?_⟩
  · rw [List.mem_append] at hx
    have h1 : enK x ∉ ks := fun h' => hx (.inl h')
    have h2 : enK x ≠ enK e := fun h' => hx (.inr (by rw [h']; simp))
    rw [hm, ← h.1 x h1]
    exact ⟨fun h' => by rcases h' with rfl | h'; (· exact absurd rfl h2); (· exact h'.1), fun h' => .inr ⟨h', h2⟩⟩
  · have he : e ∈ fs := (hm e).2 (.inl rfl)
    by_cases h2 : k = enK e
    · subst h2
      exact (isIn_of hf he).1
    · rw [List.mem_append] at hk
      rcases hk with hk | hk
      · obtain ⟨x, hx, rfl, -⟩ := isIn_ex (h.2 k hk)
        exact (isIn_of hf ((hm x).2 (.inr ⟨hx, h2⟩))).1
      · exact absurd (by simpa using hk) h2
theorem kp_nd (bs : List Ky) (p : Nat) (hp : p ≤ bs.length) : (kp bs p).Nodup ∧ ∀ k ∈ kp bs p, k ∉ bs.drop p := by
  induction p with
  | zero => exact ⟨List.nodup_nil, fun k hk => by simp [kp] at hk⟩
  | succ p ih =>
    obtain ⟨h1, h2⟩ := ih (by omega)
    obtain ⟨k, hk⟩ : ∃ k, bs[p]? = some k := ⟨bs[p]'(by omega), by simp⟩
    have hd : bs.drop p = k :: bs.drop (p + 1) := by
      rw [List.drop_eq_getElem_cons (by omega)]
      congr 1
      exact (List.getElem?_eq_some_iff.1 hk).2
    have h3 : ∀ x ∈ kp bs p, x ≠ k ∧ x ∉ bs.drop (p + 1) := fun x hx => by
      have := h2 x hx
      rw [hd] at this
      exact ⟨fun e => this (by rw [e]; simp), fun e => this (List.mem_cons_of_mem _ e)⟩
    cases hb : hasB (bs.drop (p + 1)) k with
    | true => rw [kp_yes hk hb]; exact ⟨h1, fun x hx => (h3 x hx).2⟩
    | false =>
      rw [kp_no hk hb]
      have hk2 : k ∉ bs.drop (p + 1) := fun e => by rw [hasB_yes e] at hb; cases hb
      refine ⟨?_, fun x hx => ?_⟩
      · rw [List.nodup_append]
        exact ⟨h1, by simp, fun a ha b hb2 => by simp at hb2; subst hb2; exact (h3 a ha).1⟩
      · rw [List.mem_append] at hx
        rcases hx with hx | hx
        · exact (h3 x hx).2
        · simp at hx; subst hx; exact hk2
section
variable {α : Type} (lt : α → α → Bool)
theorem insV_perm (c : α) (l : List α) : (insV lt c l).Perm (c :: l) := by
  induction l with
  | nil => exact List.Perm.refl _
  | cons x xs ih =>
    unfold insV
    split
    · exact (ih.cons x).trans (List.Perm.swap c x xs)
    · exact List.Perm.refl _
theorem insR_perm (c : α) (l : List α) : (insR lt c l).Perm (c :: l) := by
  unfold insR
  exact (List.reverse_perm _).trans ((insV_perm lt c _).trans ((List.reverse_perm l).cons c))
theorem fold_perm (ls : List α) : ∀ out : List α, (ls.foldl (fun out c => insR lt c out) out).Perm (out ++ ls) := by
  induction ls with
  | nil => intro out; simp
  | cons x xs ih =>
    intro out
    simp only [List.foldl_cons]
    refine (ih _).trans (((insR_perm lt x out).append_right xs).trans ?_)
    exact (List.perm_middle (a := x) (l₁ := out) (l₂ := xs)).symm
theorem srt_perm (ls : List α) : (srt lt ls).Perm ls := by unfold srt; simpa using fold_perm lt ls []
end
theorem mem_seen {es : List En} {c : Cd} : c ∈ seenL (es.map (·.c)) ↔ ∃ e ∈ es, e.c = c ∧ c.g = false := by
  unfold seenL
  rw [srt_mem, List.mem_filter, List.mem_map]
  constructor
  · rintro ⟨⟨e, he, rfl⟩, h⟩
    exact ⟨e, he, rfl, by simpa using h⟩
  · rintro ⟨e, he, rfl, h⟩
    exact ⟨⟨e, he, rfl⟩, by simp [h]⟩

def KQ (w0 : World) (ra : Option Addr) (rlen rcap sb rb tb cb : Nat) (q : Int) (es : List En) (cs : List Cd) (ks : List Ky) (w : World) : Prop := ShP w sb 20 es ∧ RecAt w rb ks.length (lastK ks ks.length) ∧ TapeK ra rlen rcap w tb ∧ CacP w cb q cs ∧ Below w0.heap.size w0 w ∧ w0.heap.size ≤ sb ∧ w0.heap.size ≤ rb ∧ w0.heap.size ≤ tb ∧ w0.heap.size ≤ cb
section
variable {w0 w w' : World} {ra : Option Addr} {rlen rcap sb rb tb cb : Nat} {q q' : Int} {es gs : List En} {cs ds : List Cd} {ks ms : List Ky}
theorem KQ.ext (h : KQ w0 ra rlen rcap sb rb tb cb q es cs ks w) (hb : Below w.heap.size w w') : KQ w0 ra rlen rcap sb rb tb cb q es cs ks w' :=
  ⟨h.1.ext hb, h.2.1.ext hb, h.2.2.1.ext hb, h.2.2.2.1.ext hb, h.2.2.2.2.1.trans (hb.mono h.2.2.2.2.1.size), h.2.2.2.2.2⟩
theorem KQ.s (h : KQ w0 ra rlen rcap sb rb tb cb q es cs ks w) (hs : ShP w' sb 20 gs) (hr : Rim sb w w') : KQ w0 ra rlen rcap sb rb tb cb q gs cs ks w' := by
  obtain ⟨h1, h2, h3, h4, h5, h6, h7, h8, h9⟩ := h
  obtain ⟨a, c, k1, -⟩ := h1
  have hn : NoStr #[Value.int .i64 20, .slice a es.length c] := nostr2 (by intro s; simp) (by intro s; simp)
  exact ⟨hs, h2.rimT hr k1 (by decide) hn, h3.rimT hr k1 (by decide), h4.rimO hr k1 (by decide) (by decide), h5.trans (hr.below h6 h5.size), h6, h7, h8, h9⟩
theorem KQ.r (h : KQ w0 ra rlen rcap sb rb tb cb q es cs ks w) (hs : RecAt w' rb ms.length (lastK ms ms.length)) (hb : Bar rb w w') : KQ w0 ra rlen rcap sb rb tb cb q es cs ms w' := by
  have hr := Rim.ofBar hb
  obtain ⟨h1, h2, h3, h4, h5, h6, h7, h8, h9⟩ := h
  obtain ⟨a, c, k1, -⟩ := h2
  exact ⟨h1.rimT hr k1 (by decide) (by decide), hs, h3.rimT hr k1 (by decide), h4.rimO hr k1 (by decide) (by decide), h5.trans (hr.below h7 h5.size), h6, h7, h8, h9⟩
theorem KQ.t (h : KQ w0 ra rlen rcap sb rb tb cb q es cs ks w) (ht : TapeK ra rlen rcap w' tb) (hb : Bar tb w w') : KQ w0 ra rlen rcap sb rb tb cb q es cs ks w' := by
  have hr := Rim.ofBar hb
  obtain ⟨h1, h2, h3, h4, h5, h6, h7, h8, h9⟩ := h
  obtain ⟨k, k1, -⟩ := h3
  have hn : NoStr #[Value.slice ra rlen rcap, .int .i64 k] := nostr2 (by intro s; simp) (by intro s; simp)
  exact ⟨h1.rimT hr k1 (by decide) (by decide), h2.rimT hr k1 (by decide) hn, ht, h4.rimO hr k1 (by decide) (by decide), h5.trans (hr.below h8 h5.size), h6, h7, h8, h9⟩
theorem KQ.c (h : KQ w0 ra rlen rcap sb rb tb cb q es cs ks w) (hc : CacP w' cb q' ds) (hr : Rim cb w w') : KQ w0 ra rlen rcap sb rb tb cb q' es ds ks w' := by
  obtain ⟨h1, h2, h3, h4, h5, h6, h7, h8, h9⟩ := h
  obtain ⟨a, c, k1, -⟩ := h4
  have hn : NoStr #[Value.slice a cs.length c, .int .i64 q] := nostr2 (by intro s; simp) (by intro s; simp)
  exact ⟨h1.rimT hr k1 (by decide) (by decide), h2.rimT hr k1 (by decide) hn, h3.rimT hr k1 (by decide), hc, h5.trans (hr.below h9 h5.size), h6, h7, h8, h9⟩
end
/-- the cards that are seen of a register -/
theorem seen_pw {es : List En} (h : Asc es) : (seenL (es.map (·.c))).Pairwise (fun x y => kc x.a x.i y.a y.i < 0) := by
  have h1 : (es.map (·.c)).Pairwise (fun x y => klt x y = true) := List.pairwise_map.2 (h.imp (fun {x y} hxy => klt_yes hxy))
  have h2 : ((es.map (·.c)).filter (fun c => !c.g)).Pairwise (fun x y => klt x y = true) := List.Pairwise.filter _ h1
  unfold seenL
  rw [srt_ord klt _ (h2.imp (fun {x y} hxy => klt_weak.asym x y hxy))]
  exact h2.imp (fun {x y} hxy => klt_of hxy)
theorem seen_all {es : List En} (h : ∀ e ∈ es, CdF e.c) : ∀ x ∈ seenL (es.map (·.c)), CdF x := fun x hx => by
  obtain ⟨e, he, rfl, -⟩ := mem_seen.1 hx
  exact h e he
theorem seen_wf {es : List En} (hs : Asc es) (h : ∀ e ∈ es, CdF e.c) : WfC (seenL (es.map (·.c))) :=
  ⟨List.pairwise_map.2 (seen_pw hs), fun c hc => ⟨(seen_all h c hc).r, (seen_all h c hc).2.1, (seen_all h c hc).2.2, (seenL_mem hc).2⟩⟩
theorem seenL_seenL3 (ls : List Cd) : seenL (seenL ls) = seenL ls := by
  have h : (seenL ls).filter (fun c => !c.g) = seenL ls := List.filter_eq_self.2 (fun c hc => by simp [(seenL_mem hc).2])
  unfold seenL at h ⊢
  rw [h]
  exact srt_ord klt _ (srt_is klt klt_weak _)
theorem sealB_seen (ls : List Cd) : sealB (seenL ls) = sealB ls := by unfold sealB; rw [seenL_seenL3]
theorem cur_all {es : List En} {kk ms : List Ky} (hc : Ch [] es ms) (hk : ∀ k ∈ kk, k ∈ ms) (h : ∀ e ∈ es, CdF e.c) : ∀ x ∈ kk.map (cur es), CdR x ∧ KA x.a ∧ KI x.i := fun x hx => by
  obtain ⟨k, hk1, rfl⟩ := List.mem_map.1 hx
  obtain ⟨-, e, he, e1⟩ := cur_key (hc.2 k (hk k hk1))
  rw [← e1]
  exact ⟨(h e he).r, (h e he).2.1, (h e he).2.2⟩
theorem kp_sub (bs : List Ky) : ∀ p, ∀ k ∈ kp bs p, k ∈ bs := by
  intro p
  induction p with
  | zero => intro k hk; simp [kp] at hk
  | succ p ih =>
    intro k hk
    unfold kp at hk
    split at hk
    · rename_i y hy
      split at hk
      · exact ih k hk
      · rcases List.mem_append.1 hk with h | h
        · exact ih k h
        · have e : k = y := by simpa using h
          subst e; exact List.mem_of_getElem? hy
    · exact ih k hk
theorem cds_of {es : List En} (h : ∀ e ∈ es, CdF e.c) : ∀ x ∈ es, CdS x.c := fun x hx => ⟨by have := (h x hx).2.1.size; omega, by have := (h x hx).2.2.size; omega⟩
theorem few_of {es : List En} (hs : Asc es) (h : ∀ e ∈ es, CdF e.c) : es.length ≤ 20 := few hs (fun e he => ⟨(h e he).2.1, (h e he).2.2⟩)
end Go.Proofs.Ytkhcgopehmndgaa
