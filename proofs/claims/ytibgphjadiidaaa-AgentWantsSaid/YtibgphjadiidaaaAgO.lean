/- AgentWants: what is wanted is asked in order. -/
import Derived.Test.YtibgphjadiidaaaAgM
namespace Go.Proofs.Ytibgphjadiidaaa
open Go.RowKit
set_option linter.unusedVariables false
set_option linter.unusedSimpArgs false

def mkW (o : Int) : Wt := ⟨o, 9, 1⟩
def WO (OS : List Int) (s : Ag) (K : Nat) : Prop := Bd 1 K s ∧ s.now = K ∧ s.tag = K ∧ s.wt = false ∧ s.ws = (OS.drop K).map mkW
theorem wantStep {OS : List Int} {s : Ag} {K : Nat} {o : Int} (h : WO OS s K) (ho : OS[K]? = some o) (h3 : o = 1 ∨ o = 3 ∨ o = 4) : ∃ s' st N', runM KAB [0] 1 s = (s', [⟨0, ⟨o, st, N', 0, ⟨#[97]⟩, ⟨#[98]⟩⟩, (K : Int) + 1⟩]) ∧ s'.i = 0 ∧ s'.wt = true ∧ s'.op = o ∧ s'.tag = (K : Int) + 1 ∧ WO OS (ansM o 0 { s' with wt := false }) (K + 1) := by
  obtain ⟨hb, hn, ht, hw, hws⟩ := h
  have hd : OS.drop K = o :: OS.drop (K + 1) := drop_at ho
  rw [hd, List.map_cons] at hws
  obtain ⟨i, now, ws, q, tag, op, asked, wt, wi, tm, st, kn, br, bl, fr, fl⟩ := s
  dsimp only at hn ht hw hws
  subst hw hws ht hn
  have hi : i = 0 := by have := hb.1; dsimp only at this; omega
  subst hi
  unfold Bd at hb
  dsimp only at hb
  have hx := exp_no (n := [(0 : Int)].length) (s := (⟨0, (K : Int), mkW o :: (OS.drop (K + 1)).map mkW, q, (K : Int), op, asked, false, wi, tm, st, kn, br, bl, fr, fl⟩ : Ag)) rfl
  have hK : ((K + 1 : Nat) : Int) = (K : Int) + 1 := by omega
  rcases h3 with rfl | rfl | rfl
  · refine ⟨_, 1, 9, run_one (stp_yes hx rfl rfl), rfl, rfl, rfl, rfl, ?_⟩
    unfold ansM WO Bd askM
    rw [if_pos rfl]
    dsimp only
    exact ⟨by omega, by omega, by omega, rfl, rfl⟩
  · refine ⟨_, 0, 0, run_one (stp_yes hx rfl rfl), rfl, rfl, rfl, rfl, ?_⟩
    unfold ansM WO Bd askM
    rw [if_neg (by decide), if_pos rfl]
    dsimp only
    exact ⟨by omega, by omega, by omega, rfl, rfl⟩
  · refine ⟨_, 1, 0, run_one (stp_yes hx rfl rfl), rfl, rfl, rfl, rfl, ?_⟩
    unfold ansM WO Bd askM
    rw [if_neg (by decide), if_neg (by decide), if_neg (by decide)]
    dsimp only
    exact ⟨by omega, by omega, by omega, rfl, rfl⟩
theorem row_cell {w : World} {a : Option Addr} {len cap j : Nat} {zs : List Int} (hr : IsRow .i64 w a len cap zs) (hj : j < len) : ∃ b o, a = some ⟨b, o, none⟩ ∧ w.cell? ⟨b, o + j, none⟩ = some (.int .i64 (zs.getD j 0)) ∧ b < w.heap.size ∧ -9223372036854775808 ≤ zs.getD j 0 ∧ zs.getD j 0 ≤ 9223372036854775807 := by
  obtain ⟨h1, h2, hl, h4, h5⟩ := hr
  rcases h5 with h | ⟨b, o, e, h⟩
  · omega
  · have hc := h j hj
    have hw := bounds_i64 (getD_wf (j := j) h4)
    exact ⟨b, o, e, hc, cell_lt hc, by omega, by omega⟩
theorem OwnR.agpI {w w' : World} {ab base : Nat} {k : ByteArray × ByteArray} {zs L : List Int} {s : Ag} {v : Value} (ho : OwnR iec 1 3 base w v L) (h : AgP w ab k zs s) (hr : Rim ab w w') : OwnR iec 1 3 base w' v L :=
  ho.types fun b cur hc => (AgP.other h hr hc (by decide)).trans hc.symm
theorem blk_grown {w w' : World} {base b : Nat} {L : List Int} {v : Value} {cs : Array Value} {T : TypeId} (h : w.heap[b]? = some (.cells cs T (0, 0))) (ho : OwnR iec 1 3 base w v L) (hb : b < base) (hg : w.grownBy w' v.ownBlock) : w'.heap[b]? = some (.cells cs T (0, 0)) :=
  (hg.block b (blk_lt h) (fun e => by have := own_ge ho e.symm; omega)).trans h
theorem agWaitsP (ab : Nat) (k : ByteArray × ByteArray) (zs : List Int) (s : Ag) (v : Bool) (w : World) (h : AgP w ab k zs s) (hv : s.wt = v) : Calls Try.prog 12 #[.pointer (some ⟨ab, 0, none⟩)] w fun r w' => r = .returned (.bool v) ∧ w = w' := by
  subst hv
  exact agWaits ab k zs s w h
/-- as AgP, and the servers lie ahead -/
def AgP2 (w : World) (ab : Nat) (k : ByteArray × ByteArray) (zs : List Int) (s : Ag) : Prop :=
  ∃ (sb sc : Nat) (wa : Option Addr) (wc : Nat), w.heap[ab]? = some (.cells #[.string k.1, .string k.2, .slice (some ⟨sb, 0, none⟩) zs.length sc, .int .i64 (s.i : Nat), .int .i64 s.now, .slice wa s.ws.length wc, .slice none 0 0, .int .i64 s.q, .int .i64 s.tag, .int .i64 s.op, .int .i64 s.asked, .bool s.wt, .bool s.wi, .int .i64 s.tm, .int .i64 s.st, .bool s.kn, .bool s.br, .int .i64 s.bl, .bool s.fr, .int .i64 s.fl] 57 (0, 0)) ∧ (SvP w sb sc zs ∧ sb < ab) ∧ WsP w wa wc s.ws
theorem AgP2.of {w : World} {ab : Nat} {k : ByteArray × ByteArray} {zs : List Int} {s : Ag} (h : AgP2 w ab k zs s) : AgP w ab k zs s := by
  obtain ⟨sb, sc, wa, wc, h1, h2, h3⟩ := h
  exact ⟨sb, sc, wa, wc, h1, h2.1, h3⟩
theorem AgP2.keep {w w' : World} {ab : Nat} {k : ByteArray × ByteArray} {zs : List Int} {s : Ag} (h : AgP2 w ab k zs s) (hk : ∀ (b : Nat) (o : Obj), w.heap[b]? = some o → w'.heap[b]? = w.heap[b]?) : AgP2 w' ab k zs s := by
  obtain ⟨sb, sc, wa, wc, h1, h2, h3⟩ := h
  exact ⟨sb, sc, wa, wc, (hk _ _ h1).trans h1, ⟨h2.1.keep fun b cur hc => hk b _ hc, h2.2⟩, h3.keep fun b cur hc => hk b _ hc⟩
theorem AgP2.ext {w w' : World} {ab : Nat} {k : ByteArray × ByteArray} {zs : List Int} {s : Ag} (h : AgP2 w ab k zs s) (hb : Below w.heap.size w w') : AgP2 w' ab k zs s := h.keep fun b o hc => hb.block b (blk_lt hc)
set_option maxRecDepth 100000 in
set_option maxHeartbeats 1000000 in
theorem agWant2 (ab : Nat) (k : ByteArray × ByteArray) (zs : List Int) (s : Ag) (wop nn : Int) (w : World) (h : AgP2 w ab k zs s) (hop : wop = 1 ∨ wop = 3 ∨ wop = 4) (hn1 : 1 ≤ nn) (hn2 : nn ≤ 1048576) (h8 : s.ws.length < 8) :
    Calls Try.prog 8 #[.pointer (some ⟨ab, 0, none⟩), .int .i64 wop, .int .i64 nn, .int .i64 1] w fun r w' => r = .returned (.int .i64 0) ∧ AgP2 w' ab k zs { s with ws := s.ws ++ [⟨wop, nn, 1⟩] } ∧ Rim ab w w' := by
  obtain ⟨i, now, ws, q, tag, op, asked, wt, wi, tm, st, kn, br, bl, fr, fl⟩ := s
  obtain ⟨sb, sc, wa, wc, h1, hsv, hws⟩ := h
  dsimp only at *
  obtain ⟨n, hn⟩ : ∃ n, ws.length = n := ⟨_, rfl⟩
  obtain ⟨m, hm⟩ : ∃ m, zs.length = m := ⟨_, rfl⟩
  rw [hn, hm] at h1
  have H1 := Lib.hid h1
  have HSV := Lib.hid hsv
  have HWS := Lib.hid hws
  have HN := Lib.hid hn
  have HM := Lib.hid hm
  clear h1 hsv hws hn hm
  have h8' : (n : Int) < 8 := by rw [← HN.out]; omega
  have h88 : n < 8 := by omega
  have h9' : decide ((8 : Int) ≤ (n : Int)) = false := decide_eq_false (by omega)
  have h9'' : decide (8 ≤ n) = false := decide_eq_false (by omega)
  clear h8
  obtain ⟨i0, hi, hz0, hz1, hz2⟩ := info_parts' info_wt
  have hk := blk_cell H1.out
  have hl := blk_lt H1.out
  have hf := blk_free H1.out
  go_enter Try.func8, Try.ntmps8
  go_wp2_with fail
  refine (mayYes wop nn _ hop hn1 hn2).mono ?_
  rintro e w1 ⟨rfl, rfl⟩
  go_wp2_with fail
  refine (cloneW wa n wc ws _ HWS.out.2.2.1 HN.out (by omega) HWS.out.2.2.2).mono ?_
  rintro e w2 ⟨v2, rfl, ho, hb⟩
  have HO2 := Lib.hid ho
  have HB2 := Lib.hid hb
  have HA2 := Lib.hid (blk_ext hb H1.out)
  clear ho hb hk hl hf
  have E3 := Lib.hid (show Below w2.heap.size w2 (w2.alloc (.cells #[.int .i64 wop, .int .i64 nn, .int .i64 1] 61)) from (Below.refl _ _).alloc (Nat.le_refl _) _)
  go_wp2_with (at_builtin; refine wpList_append_own _ rfl _ _ 53 rfl (w.heap.size) 61 i0 (.agg #[.int .i64 0, .int .i64 0, .int .i64 0]) 3 24 Try.underlying53 hi hz0 hz1 hz2 rfl (by decide) v2 n (flat wec ws) rfl (by have := (OwnR.ext HO2.out E3.out); unfold OwnR at this; rwa [HN.out] at this) ⟨w2.heap.size, 0, none⟩ 1 1 (wec ⟨wop, nn, 1⟩) rfl rfl ?c1 ?c2 ?c3 ?c4 ?c5 ?_)
  case c1 =>
    intro j u hj
    rw [add_off, Nat.zero_add, blk_cell (blk_new w2 #[.int .i64 wop, .int .i64 nn, .int .i64 1] 61)]
    simpa [wec] using hj
  case c2 => exact wec_one _
  case c3 => unfold maxLen; omega
  case c4 => omega
  case c5 => have := HB2.out.size; simp; omega
  intro v3 w3 ho3 hg3 _
  have HO3 := Lib.hid (show OwnR wec 3 61 w.heap.size w3 v3 (ws ++ [⟨wop, nn, 1⟩]) from by unfold OwnR; rw [flat_snoc, List.length_append, HN.out]; exact ho3)
  have HB3 := Lib.hid (show Below w.heap.size w w3 from Below.grown (ext_trans HB2.out E3.out) hg3 (Nat.le_trans HB2.out.size E3.out.size) (fun q hq => own_ge (OwnR.ext HO2.out E3.out) hq))
  have HA3 := Lib.hid (blk_ext HB3.out H1.out)
  obtain ⟨a3, c3, e3, hc3, hm3, hs3, hg, hf3⟩ := HO3.out.read wec_len
  have hlen : (ws ++ [(⟨wop, nn, 1⟩ : Wt)]).length = n + 1 := by rw [List.length_append, HN.out]; rfl
  rw [hlen] at e3 hc3
  subst e3
  have HF3 := Lib.hid (And.intro hc3 (And.intro hm3 (And.intro hs3 hf3)))
  have hb3 := HB3.out.size
  have HSV3 := Lib.hid (HSV.out.1.keep fun b cur hc => HB3.out.block b (blk_lt hc))
  clear ho3 hg3 hc3 hm3 hs3 hg hf3 E3 HO3 HO2 HA2
  have hk := blk_cell HA3.out
  have hl := blk_lt HA3.out
  have hf := blk_free HA3.out
  go_wp2
  go_ret
  have hr : Rim ab w3 (w3.setCell ⟨ab, 5, none⟩ (.slice a3 (n + 1) c3)) := rim_set (Rim.of (Below.refl _ _))
  refine ⟨rfl, ⟨sb, sc, a3, c3, ?_, ?_, ?_⟩, (Rim.of HB3.out).trans hr⟩
  · dsimp only
    rw [hlen, HM.out]
    exact blk_set (n := 5) HA3.out (by first | rfl | simp)
  · exact ⟨HSV3.out.keep fun b cur hc => hr.block b (fun e => by subst e; have h9 := HA3.out.symm.trans hc; simp at h9) (blk_lt hc), HSV.out.2⟩
  · dsimp only
    refine ⟨by rw [hlen]; exact HF3.out.1, HF3.out.2.1, HF3.out.2.2.1.keep fun b cur hc _ => hr.block b (fun e => by subst e; have h9 := HA3.out.symm.trans hc; simp at h9) (blk_lt hc), ?_⟩
    rcases HF3.out.2.2.2 with ⟨e1, e2, -⟩ | ⟨g, e1⟩
    · exact .inl ⟨e1, e2⟩
    · exact .inr ⟨g, 0, e1⟩

set_option maxRecDepth 100000 in
set_option maxHeartbeats 2000000 in
theorem agNew2 (k : ByteArray × ByteArray) (zs : List Int) (a : Option Addr) (m c : Nat) (w : World) (h1 : NmOk k.1) (h2 : NmOk k.2) (ha : SAt iec 1 3 w a zs) (hl : zs.length = m) (hm : 1 ≤ m) (hm6 : m ≤ 6) :
    Calls Try.prog 6 #[.agg #[.string k.1, .string k.2], .slice a m c] w fun r w' => ∃ ab, r = .returned (.pointer (some ⟨ab, 0, none⟩)) ∧ w.heap.size ≤ ab ∧ AgP2 w' ab k zs (⟨0, 0, [], -1, 0, 0, 0, false, false, 0, 0, false, false, 0, false, 0⟩ : Ag) ∧ Below w.heap.size w w' := by
  have D0 := Lib.hid (show Below w.heap.size w (w.alloc (.cells #[.string k.1, .string k.2] 23)) from (Below.refl _ _).alloc (Nat.le_refl _) _)
  have HX := Lib.hid (blk_new w #[.string k.1, .string k.2] 23)
  have HA := Lib.hid (ha.ext D0.out)
  have HL := Lib.hid hl
  have HN1 := Lib.hid h1
  have HN2 := Lib.hid h2
  have haa : ∃ b o, a = some ⟨b, o, none⟩ := by
    rcases ha with h | ⟨b, o, e, _⟩
    · rw [h] at hl; simp at hl; omega
    · exact ⟨b, o, e⟩
  have d1 : decide (m < 1) = false := decide_eq_false (by omega)
  have d2 : decide (6 < m) = false := decide_eq_false (by omega)
  have d3 : decide ((m : Int) < 1) = false := decide_eq_false (by omega)
  have d4 : decide (6 < (m : Int)) = false := decide_eq_false (by omega)
  clear h1 h2 ha hl
  go_enter Try.func6, Try.ntmps6
  go_upto_region 1 with (fail)
  obtain ⟨p, hp⟩ : ∃ p, w.heap.size = p := ⟨_, rfl⟩
  rw [hp] at HX
  try rw [hp]
  clear hp
  generalize (w.alloc (.cells #[.string k.1, .string k.2] 23)) = w1 at *
  have hk := blk_cell HX.out
  have hl := blk_lt HX.out
  go_wp2_with fail
  refine (nameOk k.1 _ HN1.out).mono ?_
  rintro e w2 ⟨rfl, hb⟩
  have HX2 := Lib.hid (blk_ext hb HX.out)
  have D2 := Lib.hid (ext_trans D0.out hb)
  have HA2 := Lib.hid (HA.out.ext hb)
  clear hk hl hb HX D0 HA
  have hk := blk_cell HX2.out
  have hl := blk_lt HX2.out
  go_wp2_with fail
  refine (nameOk k.2 _ HN2.out).mono ?_
  rintro e w3 ⟨rfl, hb⟩
  have HX3 := Lib.hid (blk_ext hb HX2.out)
  have D3 := Lib.hid (ext_trans D2.out hb)
  have HA3 := Lib.hid (HA2.out.ext hb)
  clear hk hl hb HX2 D2 HA2
  go_upto_region 3 with (fail)
  haveI hI0 : Nonempty (In (fun W : World => W.heap[p]? = some (.cells #[.string k.1, .string k.2] 23 (0, 0)))) := ⟨⟨_, HX3.out⟩⟩
  have hL0 : ∀ g : In (fun W : World => W.heap[p]? = some (.cells #[.string k.1, .string k.2] 23 (0, 0))), p < g.w.heap.size := fun g => blk_lt g.h
  have hB0 : ∀ g : In (fun W : World => W.heap[p]? = some (.cells #[.string k.1, .string k.2] 23 (0, 0))), ∀ n, g.w.cell? ⟨p, n, none⟩ = (#[.string k.1, .string k.2] : Array Value)[n]? := fun g => blk_cell g.h
  refine Hist.wp_region_hist (fun W : World => W.heap[p]? = some (.cells #[.string k.1, .string k.2] 23 (0, 0))) (by kernel_rfl) (by kernel_rfl) (by kernel_rfl) (show (fun W : World => W.heap[p]? = some (.cells #[.string k.1, .string k.2] 23 (0, 0))) w3.drew from blk_drew HX3.out) ?_
  have HX4 := Lib.hid (blk_drew HX3.out)
  have D4 := Lib.hid (ext_trans D3.out (Below.refl w3.heap.size w3).drew)
  have HA4 := Lib.hid (HA3.out.ext (Below.refl w3.heap.size w3).drew)
  clear HX3 D3 HA3
  generalize w3.drew = x0 at *
  repeat (first | (refine Hist.wpG_plain 0 _ (by decide +kernel) rfl (by rfl) (by rfl) (fun K hK => ?_); go_big_quiet_op; refine hK _ ?_; clear hK K))
  refine Hist.wpG_call (by rfl) (by rfl) (fun K hK => ?_)
  go_big_op
  refine (cloneI a m c zs _ HA4.out HL.out (by omega) (.inr haa)).mono ?_
  rintro e x1 ⟨v1, rfl, ho, hb⟩
  have HX5 := Lib.hid (blk_ext hb HX4.out)
  have D5 := Lib.hid (ext_trans D4.out hb)
  have HO5 := Lib.hid ho
  refine hK _ _ ⟨(fun _ : World => True), (by simp only [List.cons_append, List.nil_append, List.forall_mem_cons]; repeat' (first | exact HX5.out | (intro _ h; cases h; done) | (exact trivial) | constructor)), ?_⟩
  clear hK K ho hb HX4 D4 HA4
  repeat (first | (refine Hist.wpG_plain 1 _ (by decide +kernel) rfl (by rfl) (by rfl) (fun K hK => ?_); go_big_quiet_op; refine hK _ ?_; clear hK K) | (refine Hist.wpG_plain 0 _ (by decide +kernel) rfl (by rfl) (by rfl) (fun K hK => ?_); go_big_quiet_op; refine hK _ ?_; clear hK K))
  refine Hist.wpG_call (by rfl) (by rfl) (fun K hK => ?_)
  go_big_op
  refine (cacheNew _).mono ?_
  rintro e x2 ⟨rfl, hc, hb⟩
  obtain ⟨cb, hcb⟩ : ∃ cb, x1.heap.size = cb := ⟨_, rfl⟩
  rw [hcb] at hc
  try rw [hcb]
  have HC6 := Lib.hid hc
  have HX6 := Lib.hid (blk_ext hb HX5.out)
  have D6 := Lib.hid (ext_trans D5.out hb)
  have HO6 := Lib.hid (OwnR.ext HO5.out hb)
  haveI hI2 : Nonempty (In (fun W : World => W.heap[cb]? = some (.cells #[.slice none 0 0, .int .i64 (-1)] 52 (0, 0)))) := ⟨⟨_, HC6.out⟩⟩
  have hL2 : ∀ g : In (fun W : World => W.heap[cb]? = some (.cells #[.slice none 0 0, .int .i64 (-1)] 52 (0, 0))), cb < g.w.heap.size := fun g => blk_lt g.h
  have hB2 : ∀ g : In (fun W : World => W.heap[cb]? = some (.cells #[.slice none 0 0, .int .i64 (-1)] 52 (0, 0))), ∀ n, g.w.cell? ⟨cb, n, none⟩ = (#[.slice none 0 0, .int .i64 (-1)] : Array Value)[n]? := fun g => blk_cell g.h
  refine hK _ _ ⟨(fun W : World => W.heap[cb]? = some (.cells #[.slice none 0 0, .int .i64 (-1)] 52 (0, 0))), (by simp only [List.cons_append, List.nil_append, List.forall_mem_cons]; repeat' (first | exact HX6.out | exact HC6.out | (intro _ h; cases h; done) | (exact trivial) | constructor)), ?_⟩
  clear hK K hc hb hcb HX5 D5 HO5
  obtain ⟨sa, sc, e1, hs1, hs2, hs3, hs4, hs5⟩ := HO6.out.read iec_len
  rw [HL.out] at e1 hs1
  obtain ⟨sb, rfl⟩ : ∃ sb, sa = some ⟨sb, 0, none⟩ := by
    rcases hs5 with ⟨-, -, e⟩ | ⟨g, e⟩
    · have := HL.out; rw [e] at this; simp at this; omega
    · exact ⟨g, e⟩
  subst e1
  have HSV := Lib.hid (show SvP x2 sb sc zs from by
    refine ⟨by rw [HL.out]; exact hs1, hs2, ?_⟩
    rcases hs3 with h | ⟨b', o', e, ⟨cur, hc⟩, h⟩
    · have := HL.out; rw [h] at this; simp at this; omega
    · simp only [Option.some.injEq, Addr.mk.injEq] at e
      obtain ⟨rfl, rfl, -⟩ := e
      refine ⟨cur, hc, fun j z hj => ?_⟩
      have hq := h j (.int .i64 z) (by
        have := flat_at iec_len zs j z hj 0 (by decide)
        simpa [iec] using this)
      rw [blk_cell hc] at hq
      simpa using hq)
  have HSB := Lib.hid (hs4 sb 0 rfl).2.1
  clear hs1 hs2 hs3 hs4 hs5 HO6
  repeat (first | (refine Hist.wpG_plain 2 _ (by decide +kernel) rfl (by rfl) (by rfl) (fun K hK => ?_); go_big_quiet_op; refine hK _ ?_; clear hK K) | (refine Hist.wpG_plain 1 _ (by decide +kernel) rfl (by rfl) (by rfl) (fun K hK => ?_); go_big_quiet_op; refine hK _ ?_; clear hK K) | (refine Hist.wpG_plain 0 _ (by decide +kernel) rfl (by rfl) (by rfl) (fun K hK => ?_); go_big_quiet_op; refine hK _ ?_; clear hK K))
  refine Hist.wpG_call (by rfl) (by rfl) (fun K hK => ?_)
  go_big_op
  have E7 := (Below.refl x2.heap.size x2).alloc (Nat.le_refl _) (.cells #[.string k.1, .string k.2, .slice (some ⟨sb, 0, none⟩) m sc, .int .i64 0, .int .i64 0, .slice none 0 0, .slice none 0 0, .int .i64 (-1), .int .i64 0, .int .i64 0, .int .i64 0, .bool false, .bool false, .int .i64 0, .int .i64 0, .bool false, .bool false, .int .i64 0, .bool false, .int .i64 0] 57)
  have HA7 := Lib.hid (blk_new x2 #[.string k.1, .string k.2, .slice (some ⟨sb, 0, none⟩) m sc, .int .i64 0, .int .i64 0, .slice none 0 0, .slice none 0 0, .int .i64 (-1), .int .i64 0, .int .i64 0, .int .i64 0, .bool false, .bool false, .int .i64 0, .int .i64 0, .bool false, .bool false, .int .i64 0, .bool false, .int .i64 0] 57)
  have HX7 := Lib.hid (blk_ext E7 HX6.out)
  have HC7 := Lib.hid (blk_ext E7 HC6.out)
  have D7 := Lib.hid (ext_trans D6.out E7)
  have HSV7 := Lib.hid (HSV.out.keep fun b cur hc => E7.block b (blk_lt hc))
  have hab := D6.out.size
  refine hK _ _ ⟨(fun _ : World => True), (by simp only [List.cons_append, List.nil_append, List.forall_mem_cons]; repeat' (first | exact HX7.out | exact HC7.out | (intro _ h; cases h; done) | (exact trivial) | constructor)), ?_⟩
  clear hK K E7
  try simp only [Act.put, List.setIfInBounds_toArray, List.set_cons_succ, List.set_cons_zero]
  repeat (first | (refine Hist.wpG_plain 3 _ (by decide +kernel) rfl (by rfl) (by rfl) (fun K hK => ?_); go_big_quiet_op; refine hK _ ?_; clear hK K) | (refine Hist.wpG_plain 2 _ (by decide +kernel) rfl (by rfl) (by rfl) (fun K hK => ?_); go_big_quiet_op; refine hK _ ?_; clear hK K) | (refine Hist.wpG_plain 1 _ (by decide +kernel) rfl (by rfl) (by rfl) (fun K hK => ?_); go_big_quiet_op; refine hK _ ?_; clear hK K) | (refine Hist.wpG_plain 0 _ (by decide +kernel) rfl (by rfl) (by rfl) (fun K hK => ?_); go_big_quiet_op; refine hK _ ?_; clear hK K))
  refine Hist.wpG_nil ?_
  clear hI0 hI2 hL0 hL2 hB0 hB2
  go_wp2
  go_ret
  refine ⟨x2.heap.size, rfl, hab, ⟨sb, sc, none, 0, ?_, ⟨HSV7.out, HSB.out⟩, ⟨Nat.le_refl _, Nat.zero_le _, .inl rfl, .inl ⟨rfl, rfl⟩⟩⟩, D7.out⟩
  dsimp only [List.length_nil]
  rw [HL.out]
  exact HA7.out

theorem AgP2.grownI {w w' : World} {ab base : Nat} {k : ByteArray × ByteArray} {zs L : List Int} {s : Ag} {v : Value} (h : AgP2 w ab k zs s) (ho : OwnR iec 1 3 base w v L) (hbase : ab < base) (hg : w.grownBy w' v.ownBlock) : AgP2 w' ab k zs s := by
  have key : ∀ (b : Nat) (cur : Array Value) (T : TypeId), (b ≤ ab ∨ T ≠ 3) → w.heap[b]? = some (.cells cur T (0, 0)) → w'.heap[b]? = w.heap[b]? := fun b cur T hT hc => hg.block b (blk_lt hc) (fun e => by
    rcases hT with hT | hT
    · have := own_ge ho e.symm
      omega
    · rcases ho.2 with ⟨e1, _⟩ | ⟨g, cap', cur', e1, hg', hh, _⟩
      · rw [e1] at e; simp [Value.ownBlock] at e
      · rw [e1] at e
        simp [Value.ownBlock] at e
        subst e
        rw [hh] at hc
        simp at hc
        exact hT hc.2.symm)
  obtain ⟨sb, sc, wa, wc, h1, ⟨⟨h2, h3, cur, h5, h6⟩, h4⟩, h7⟩ := h
  exact ⟨sb, sc, wa, wc, (key _ _ _ (.inl (Nat.le_refl _)) h1).trans h1, ⟨⟨h2, h3, cur, (key _ _ _ (.inl (Nat.le_of_lt h4)) h5).trans h5, h6⟩, h4⟩, h7.keep fun b cur hc => key _ _ _ (.inr (by decide)) hc⟩
set_option maxRecDepth 100000 in
set_option maxHeartbeats 2000000 in
theorem agentWants_walk (ra : Option Addr) (rlen rcap : Nat) (rz : List Int) (w : World) (hr : IsRow .i64 w ra rlen rcap rz) (hr8 : rlen * 8 ≤ 140737488351232) :
    Calls Try.prog 5 #[.slice ra rlen rcap] w fun r w' => r = .returned (.bool true) ∧ Below w.heap.size w w' := by
  have HR := Lib.hid hr
  clear hr
  obtain ⟨i0, hi, hz0, hz1, hz2⟩ := info_parts' info_i
  have D0 := Lib.hid (show Below w.heap.size w (w.alloc (.cells #[.string ⟨#[97]⟩, .string ⟨#[98]⟩] 23)) from (Below.refl _ _).alloc (Nat.le_refl _) _)
  have HK0 := Lib.hid (blk_new w #[.string ⟨#[97]⟩, .string ⟨#[98]⟩] 23)
  go_enter Try.func5, Try.ntmps5
  go_upto_region 2 with (fail)
  obtain ⟨p, hp⟩ : ∃ p, w.heap.size = p := ⟨_, rfl⟩
  rw [hp] at HK0
  try rw [hp]
  clear hp
  generalize (w.alloc (.cells #[.string ⟨#[97]⟩, .string ⟨#[98]⟩] 23)) = w1 at *
  have hk := blk_cell HK0.out
  have hl := blk_lt HK0.out
  go_wp2_with fail
  have E1 := Lib.hid (show Below w1.heap.size w1 (w1.alloc (.cells #[.int .i64 0] 3)) from (Below.refl _ _).alloc (Nat.le_refl _) _)
  refine (agNew2 (⟨#[97]⟩, ⟨#[98]⟩) [0] (some ⟨w1.heap.size, 0, none⟩) 1 1 _ nm_a nm_b (sat_new w1 [0] #[.int .i64 0] rfl) rfl (by omega) (by omega)).mono ?_
  rintro e w2 ⟨ab, rfl, hab, hq, hb⟩
  have HQ2 := Lib.hid (show AgP2 w2 ab KAB [0] (⟨0, 0, [], -1, 0, 0, 0, false, false, 0, 0, false, false, 0, false, 0⟩ : Ag) from hq)
  have HK2 := Lib.hid (blk_ext hb (blk_ext E1.out HK0.out))
  have HD2 := Lib.hid (ext_trans (ext_trans D0.out E1.out) hb)
  have HAB := Lib.hid (show w.heap.size ≤ ab from Nat.le_trans D0.out.size (Nat.le_trans E1.out.size hab))
  obtain ⟨B2, hB2⟩ : ∃ B2, w2.heap.size = B2 := ⟨_, rfl⟩
  have HAB2 := Lib.hid (show ab < B2 from by rw [← hB2]; exact HQ2.out.of.lt)
  have HPB := Lib.hid (show p < B2 from by rw [← hB2]; exact blk_lt HK2.out)
  have HWB := Lib.hid (show w.heap.size ≤ B2 from by rw [← hB2]; exact HD2.out.size)
  have HHB2 := Lib.hid (show B2 ≤ w2.heap.size from by omega)
  clear hk hl hq hb hab D0 E1 HK0 hB2
  go_wp2_with fail
  go_loopw [5, 6] (fun wn ii wr => ∃ (J : Nat) (a : Option Addr) (c : Nat) (OS : List Int), J ≤ 12 ∧ J ≤ rlen ∧ OS.length = min J 8 ∧ ii = .int .i64 (J : Int) ∧ wn = .slice a OS.length c ∧ OwnR iec 1 3 B2 wr wn OS ∧ AgP2 wr ab KAB [0] (⟨0, 0, (OS.map mkW), -1, 0, 0, 0, false, false, 0, 0, false, false, 0, false, 0⟩ : Ag) ∧ wr.heap[p]? = some (.cells #[.string ⟨#[97]⟩, .string ⟨#[98]⟩] 23 (0, 0)) ∧ Below w.heap.size w wr ∧ B2 ≤ wr.heap.size ∧ (∀ o ∈ OS, o = 1 ∨ o = 3 ∨ o = 4)) (fun wn ii _ => 12 - (intOf ii).toNat)
  case atStart => exact ⟨0, none, 0, [], by omega, by omega, rfl, rfl, rfl, OwnR.nil _ _, HQ2.out, HK2.out, HD2.out, HHB2.out, fun o ho => by cases ho⟩
  case round =>
    obtain ⟨w3, rfl⟩ : ∃ y : World, y = wr := ⟨_, rfl⟩
    obtain ⟨J, a, c, OS, hJ12, hJr, hlen, rfl, rfl, ho, hq, hk3, hd, hhb, hin⟩ := hrel
    have HO := Lib.hid ho
    have HQ := Lib.hid hq
    have HK := Lib.hid hk3
    have HD := Lib.hid hd
    have HHB := Lib.hid hhb
    have HIN := Lib.hid hin
    have HL := Lib.hid hlen
    clear ho hq hk3 hd hhb hin hlen HQ2 HK2 HD2 HHB2
    by_cases hlt : J < rlen
    · by_cases hlt2 : J < 12
      · have hlti : (J : Int) < (rlen : Int) := by omega
        have hlti2 : (J : Int) < 12 := by omega
        obtain ⟨L0, hL0⟩ : ∃ L0, OS.length = L0 := ⟨_, rfl⟩
        have hL08 : L0 ≤ 8 := by rw [← hL0, HL.out]; omega
        rw [hL0] at HO ⊢
        have HL0 := Lib.hid hL0
        have HLJ := Lib.hid (show L0 = min J 8 from by rw [← hL0, HL.out])
        clear hL0
        obtain ⟨rb, ro, rfl, hrc, hrl, hx1, hx2⟩ := row_cell (HR.out.ext HD.out) hlt
        obtain ⟨x, hx⟩ : ∃ x, rz.getD J 0 = x := ⟨_, rfl⟩
        rw [hx] at hrc hx1 hx2
        clear hx
        obtain ⟨V, hV⟩ : ∃ V, win x 0 2 = V := ⟨_, rfl⟩
        have hV0 : 0 ≤ V := by rw [← hV]; exact win_lo _ _ _ (by omega)
        have hV2 : V ≤ 2 := by rw [← hV]; exact win_hi _ _ _ (by omega)
        have HWN := Lib.hid (fun w => within_any x 0 2 w (by omega) (by omega) (by omega) (by omega) (by omega))
        rw [hV] at HWN
        clear hV hx1 hx2
        have E4 := Lib.hid (show Below w3.heap.size w3 (w3.alloc (.cells #[.int .i64 1, .int .i64 3, .int .i64 4] 3)) from (Below.refl _ _).alloc (Nat.le_refl _) _)
        go_wp2_with fail
        refine (HWN.out _).mono ?_
        rintro e wx ⟨rfl, rfl⟩
        have HQ4 := Lib.hid (HQ.out.ext E4.out)
        have HO4 := Lib.hid (OwnR.ext HO.out E4.out)
        have HK4 := Lib.hid (blk_ext E4.out HK.out)
        have HD4 := Lib.hid (ext_trans HD.out E4.out)
        have HHB4 := Lib.hid (Nat.le_trans HHB.out E4.out.size)
        have hV3 : V = 0 ∨ V = 1 ∨ V = 2 := by omega
        clear HQ HO HK HD HHB HWN hV0 hV2
        rcases hV3 with rfl | rfl | rfl
        · go_wp2_with fail
          clear hrc hrl E4
          generalize (w3.alloc (.cells #[.int .i64 1, .int .i64 3, .int .i64 4] 3)) = w4 at *
          by_cases h8 : J < 8
          · have h8i : (J : Int) < 8 := by omega
            have hmin : min J 8 = J := by omega
            refine (agWant2 ab KAB [0] _ 1 9 w4 HQ4.out (.inl rfl) (by omega) (by omega) (by dsimp only; rw [List.length_map, HL.out]; omega)).mono ?_
            rintro e w5 ⟨rfl, hq, hr⟩
            have HQ5 := Lib.hid (show AgP2 w5 ab KAB [0] (⟨0, 0, ((OS ++ [1]).map mkW), -1, 0, 0, 0, false, false, 0, 0, false, false, 0, false, 0⟩ : Ag) from by rw [List.map_append]; exact hq)
            have HO5 := Lib.hid (HO4.out.agpI HQ4.out.of hr)
            have HK5 := Lib.hid (AgP.other HQ4.out.of hr HK4.out (by decide))
            have HD5 := Lib.hid (HD4.out.trans (hr.below HAB.out HD4.out.size))
            have hsz := hr.size
            have HHB5 := Lib.hid (show B2 ≤ w5.heap.size from Nat.le_trans HHB4.out hsz)
            clear hq hr HQ4 HO4 HK4 HD4 HHB4 hsz
            have E5 := Lib.hid (show Below w5.heap.size w5 (w5.alloc (.cells #[.int .i64 1] 3)) from (Below.refl _ _).alloc (Nat.le_refl _) _)
            go_wp2_with (at_builtin; refine wpList_append_own _ rfl _ _ 43 rfl B2 3 i0 (.int .i64 0) 1 8 Try.underlying43 hi hz0 hz1 hz2 rfl (by decide) (.slice a L0 c) L0 (flat iec OS) rfl (by have := OwnR.ext HO5.out E5.out; unfold OwnR at this; rwa [HL0.out] at this) ⟨w5.heap.size, 0, none⟩ 1 1 (iec 1) rfl rfl ?c1 ?c2 ?c3 ?c4 ?c5 ?_)
            case c1 =>
              intro j u hj
              rw [add_off, Nat.zero_add, blk_cell (blk_new w5 #[.int .i64 1] 3)]
              simpa [iec] using hj
            case c2 => exact iec_one _
            case c3 => unfold maxLen; omega
            case c4 => omega
            case c5 => have := HHB5.out; simp; omega
            intro vz wz hoz hgz _
            have HLz := Lib.hid (show (OS ++ [(1 : Int)]).length = L0 + 1 from by rw [List.length_append, HL0.out]; rfl)
            have HOz := Lib.hid (show OwnR iec 1 3 B2 wz vz (OS ++ [1]) from by unfold OwnR; rw [flat_snoc, HLz.out]; exact hoz)
            have HQz := Lib.hid (AgP2.grownI (HQ5.out.ext E5.out) (OwnR.ext HO5.out E5.out) HAB2.out hgz)
            have HKz := Lib.hid (blk_grown (blk_ext E5.out HK5.out) (OwnR.ext HO5.out E5.out) HPB.out hgz)
            have HDz := Lib.hid (Below.grown (ext_trans HD5.out E5.out) hgz (Nat.le_trans HD5.out.size E5.out.size) (fun q hq => Nat.le_trans HWB.out (own_ge (OwnR.ext HO5.out E5.out) hq)))
            have HHBz := Lib.hid (show B2 ≤ wz.heap.size from Nat.le_trans HHB5.out (Nat.le_trans E5.out.size hgz.size))
            obtain ⟨az, cz, ez, -, -, -⟩ := OwnR.form HOz.out
            rw [HLz.out] at ez
            subst ez
            clear hoz hgz E5 HQ5 HO5 HK5 HD5 HHB5
            go_wp2
            go_roundw
            case rel => exact ⟨J + 1, az, cz, OS ++ [1], by omega, by omega, by have := HLJ.out; rw [HLz.out]; omega, by go_num, by rw [HLz.out], HOz.out, HQz.out, HKz.out, HDz.out, HHBz.out, fun o ho => by
              rcases List.mem_append.1 ho with h | h
              · exact HIN.out o h
              · have := List.mem_singleton.1 h
                subst this
                omega⟩
            case measure => simp [intOf]; omega
          · have h8i : ¬ (J : Int) < 8 := by omega
            have h8d : decide ((J : Int) < 8) = false := decide_eq_false h8i
            have hmin : min J 8 = 8 := by omega
            refine (agWantFull ab KAB [0] _ 1 9 w4 HQ4.out.of (.inl rfl) (by omega) (by omega) (by dsimp only; rw [List.length_map, HL.out]; omega)).mono ?_
            rintro e wx ⟨rfl, rfl⟩
            go_wp2
            go_roundw
            case rel => exact ⟨J + 1, a, c, OS, by omega, by omega, by rw [HL.out]; omega, by go_num, by rw [HL0.out], HO4.out, HQ4.out, HK4.out, HD4.out, HHB4.out, HIN.out⟩
            case measure => simp [intOf]; omega
        · go_wp2_with fail
          clear hrc hrl E4
          generalize (w3.alloc (.cells #[.int .i64 1, .int .i64 3, .int .i64 4] 3)) = w4 at *
          by_cases h8 : J < 8
          · have h8i : (J : Int) < 8 := by omega
            have hmin : min J 8 = J := by omega
            refine (agWant2 ab KAB [0] _ 3 9 w4 HQ4.out (.inr (.inl rfl)) (by omega) (by omega) (by dsimp only; rw [List.length_map, HL.out]; omega)).mono ?_
            rintro e w5 ⟨rfl, hq, hr⟩
            have HQ5 := Lib.hid (show AgP2 w5 ab KAB [0] (⟨0, 0, ((OS ++ [3]).map mkW), -1, 0, 0, 0, false, false, 0, 0, false, false, 0, false, 0⟩ : Ag) from by rw [List.map_append]; exact hq)
            have HO5 := Lib.hid (HO4.out.agpI HQ4.out.of hr)
            have HK5 := Lib.hid (AgP.other HQ4.out.of hr HK4.out (by decide))
            have HD5 := Lib.hid (HD4.out.trans (hr.below HAB.out HD4.out.size))
            have hsz := hr.size
            have HHB5 := Lib.hid (show B2 ≤ w5.heap.size from Nat.le_trans HHB4.out hsz)
            clear hq hr HQ4 HO4 HK4 HD4 HHB4 hsz
            have E5 := Lib.hid (show Below w5.heap.size w5 (w5.alloc (.cells #[.int .i64 3] 3)) from (Below.refl _ _).alloc (Nat.le_refl _) _)
            go_wp2_with (at_builtin; refine wpList_append_own _ rfl _ _ 43 rfl B2 3 i0 (.int .i64 0) 1 8 Try.underlying43 hi hz0 hz1 hz2 rfl (by decide) (.slice a L0 c) L0 (flat iec OS) rfl (by have := OwnR.ext HO5.out E5.out; unfold OwnR at this; rwa [HL0.out] at this) ⟨w5.heap.size, 0, none⟩ 1 1 (iec 3) rfl rfl ?c1 ?c2 ?c3 ?c4 ?c5 ?_)
            case c1 =>
              intro j u hj
              rw [add_off, Nat.zero_add, blk_cell (blk_new w5 #[.int .i64 3] 3)]
              simpa [iec] using hj
            case c2 => exact iec_one _
            case c3 => unfold maxLen; omega
            case c4 => omega
            case c5 => have := HHB5.out; simp; omega
            intro vz wz hoz hgz _
            have HLz := Lib.hid (show (OS ++ [(3 : Int)]).length = L0 + 1 from by rw [List.length_append, HL0.out]; rfl)
            have HOz := Lib.hid (show OwnR iec 1 3 B2 wz vz (OS ++ [3]) from by unfold OwnR; rw [flat_snoc, HLz.out]; exact hoz)
            have HQz := Lib.hid (AgP2.grownI (HQ5.out.ext E5.out) (OwnR.ext HO5.out E5.out) HAB2.out hgz)
            have HKz := Lib.hid (blk_grown (blk_ext E5.out HK5.out) (OwnR.ext HO5.out E5.out) HPB.out hgz)
            have HDz := Lib.hid (Below.grown (ext_trans HD5.out E5.out) hgz (Nat.le_trans HD5.out.size E5.out.size) (fun q hq => Nat.le_trans HWB.out (own_ge (OwnR.ext HO5.out E5.out) hq)))
            have HHBz := Lib.hid (show B2 ≤ wz.heap.size from Nat.le_trans HHB5.out (Nat.le_trans E5.out.size hgz.size))
            obtain ⟨az, cz, ez, -, -, -⟩ := OwnR.form HOz.out
            rw [HLz.out] at ez
            subst ez
            clear hoz hgz E5 HQ5 HO5 HK5 HD5 HHB5
            go_wp2
            go_roundw
            case rel => exact ⟨J + 1, az, cz, OS ++ [3], by omega, by omega, by have := HLJ.out; rw [HLz.out]; omega, by go_num, by rw [HLz.out], HOz.out, HQz.out, HKz.out, HDz.out, HHBz.out, fun o ho => by
              rcases List.mem_append.1 ho with h | h
              · exact HIN.out o h
              · have := List.mem_singleton.1 h
                subst this
                omega⟩
            case measure => simp [intOf]; omega
          · have h8i : ¬ (J : Int) < 8 := by omega
            have h8d : decide ((J : Int) < 8) = false := decide_eq_false h8i
            have hmin : min J 8 = 8 := by omega
            refine (agWantFull ab KAB [0] _ 3 9 w4 HQ4.out.of (.inr (.inl rfl)) (by omega) (by omega) (by dsimp only; rw [List.length_map, HL.out]; omega)).mono ?_
            rintro e wx ⟨rfl, rfl⟩
            go_wp2
            go_roundw
            case rel => exact ⟨J + 1, a, c, OS, by omega, by omega, by rw [HL.out]; omega, by go_num, by rw [HL0.out], HO4.out, HQ4.out, HK4.out, HD4.out, HHB4.out, HIN.out⟩
            case measure => simp [intOf]; omega
        · go_wp2_with fail
          clear hrc hrl E4
          generalize (w3.alloc (.cells #[.int .i64 1, .int .i64 3, .int .i64 4] 3)) = w4 at *
          by_cases h8 : J < 8
          · have h8i : (J : Int) < 8 := by omega
            have hmin : min J 8 = J := by omega
            refine (agWant2 ab KAB [0] _ 4 9 w4 HQ4.out (.inr (.inr rfl)) (by omega) (by omega) (by dsimp only; rw [List.length_map, HL.out]; omega)).mono ?_
            rintro e w5 ⟨rfl, hq, hr⟩
            have HQ5 := Lib.hid (show AgP2 w5 ab KAB [0] (⟨0, 0, ((OS ++ [4]).map mkW), -1, 0, 0, 0, false, false, 0, 0, false, false, 0, false, 0⟩ : Ag) from by rw [List.map_append]; exact hq)
            have HO5 := Lib.hid (HO4.out.agpI HQ4.out.of hr)
            have HK5 := Lib.hid (AgP.other HQ4.out.of hr HK4.out (by decide))
            have HD5 := Lib.hid (HD4.out.trans (hr.below HAB.out HD4.out.size))
            have hsz := hr.size
            have HHB5 := Lib.hid (show B2 ≤ w5.heap.size from Nat.le_trans HHB4.out hsz)
            clear hq hr HQ4 HO4 HK4 HD4 HHB4 hsz
            have E5 := Lib.hid (show Below w5.heap.size w5 (w5.alloc (.cells #[.int .i64 4] 3)) from (Below.refl _ _).alloc (Nat.le_refl _) _)
            go_wp2_with (at_builtin; refine wpList_append_own _ rfl _ _ 43 rfl B2 3 i0 (.int .i64 0) 1 8 Try.underlying43 hi hz0 hz1 hz2 rfl (by decide) (.slice a L0 c) L0 (flat iec OS) rfl (by have := OwnR.ext HO5.out E5.out; unfold OwnR at this; rwa [HL0.out] at this) ⟨w5.heap.size, 0, none⟩ 1 1 (iec 4) rfl rfl ?c1 ?c2 ?c3 ?c4 ?c5 ?_)
            case c1 =>
              intro j u hj
              rw [add_off, Nat.zero_add, blk_cell (blk_new w5 #[.int .i64 4] 3)]
              simpa [iec] using hj
            case c2 => exact iec_one _
            case c3 => unfold maxLen; omega
            case c4 => omega
            case c5 => have := HHB5.out; simp; omega
            intro vz wz hoz hgz _
            have HLz := Lib.hid (show (OS ++ [(4 : Int)]).length = L0 + 1 from by rw [List.length_append, HL0.out]; rfl)
            have HOz := Lib.hid (show OwnR iec 1 3 B2 wz vz (OS ++ [4]) from by unfold OwnR; rw [flat_snoc, HLz.out]; exact hoz)
            have HQz := Lib.hid (AgP2.grownI (HQ5.out.ext E5.out) (OwnR.ext HO5.out E5.out) HAB2.out hgz)
            have HKz := Lib.hid (blk_grown (blk_ext E5.out HK5.out) (OwnR.ext HO5.out E5.out) HPB.out hgz)
            have HDz := Lib.hid (Below.grown (ext_trans HD5.out E5.out) hgz (Nat.le_trans HD5.out.size E5.out.size) (fun q hq => Nat.le_trans HWB.out (own_ge (OwnR.ext HO5.out E5.out) hq)))
            have HHBz := Lib.hid (show B2 ≤ wz.heap.size from Nat.le_trans HHB5.out (Nat.le_trans E5.out.size hgz.size))
            obtain ⟨az, cz, ez, -, -, -⟩ := OwnR.form HOz.out
            rw [HLz.out] at ez
            subst ez
            clear hoz hgz E5 HQ5 HO5 HK5 HD5 HHB5
            go_wp2
            go_roundw
            case rel => exact ⟨J + 1, az, cz, OS ++ [4], by omega, by omega, by have := HLJ.out; rw [HLz.out]; omega, by go_num, by rw [HLz.out], HOz.out, HQz.out, HKz.out, HDz.out, HHBz.out, fun o ho => by
              rcases List.mem_append.1 ho with h | h
              · exact HIN.out o h
              · have := List.mem_singleton.1 h
                subst this
                omega⟩
            case measure => simp [intOf]; omega
          · have h8i : ¬ (J : Int) < 8 := by omega
            have h8d : decide ((J : Int) < 8) = false := decide_eq_false h8i
            have hmin : min J 8 = 8 := by omega
            refine (agWantFull ab KAB [0] _ 4 9 w4 HQ4.out.of (.inr (.inr rfl)) (by omega) (by omega) (by dsimp only; rw [List.length_map, HL.out]; omega)).mono ?_
            rintro e wx ⟨rfl, rfl⟩
            go_wp2
            go_roundw
            case rel => exact ⟨J + 1, a, c, OS, by omega, by omega, by rw [HL.out]; omega, by go_num, by rw [HL0.out], HO4.out, HQ4.out, HK4.out, HD4.out, HHB4.out, HIN.out⟩
            case measure => simp [intOf]; omega
      · have hlti : (J : Int) < (rlen : Int) := by omega
        have hltd : decide ((J : Int) < 12) = false := decide_eq_false (by omega)
        obtain ⟨n, hn⟩ : ∃ n, OS.length = n := ⟨_, rfl⟩
        have hn8 : n ≤ 8 := by rw [← hn, HL.out]; omega
        have HNL := Lib.hid hn
        rw [hn] at HO ⊢
        clear hn
        go_wp2_with fail
        go_loopw [59] (fun ii wr => ∃ (K : Nat) (s : Ag), K ≤ n ∧ ii = .int .i64 (K : Int) ∧ OwnR iec 1 3 B2 wr (.slice a n c) OS ∧ AgP wr ab KAB [0] s ∧ WO OS s K ∧ wr.heap[p]? = some (.cells #[.string ⟨#[97]⟩, .string ⟨#[98]⟩] 23 (0, 0)) ∧ Below w.heap.size w wr) (fun ii _ => n - (intOf ii).toNat)
        case atStart => exact ⟨0, _, by omega, rfl, HO.out, HQ.out.of, ⟨by unfold Bd; dsimp only; omega, rfl, rfl, rfl, rfl⟩, HK.out, HD.out⟩
        case round =>
          obtain ⟨w4, rfl⟩ : ∃ y : World, y = wr := ⟨_, rfl⟩
          obtain ⟨K, s, hK, rfl, ho4, hq4, hwo, hk4, hd4⟩ := hrel
          have HO4 := Lib.hid ho4
          have HQ4 := Lib.hid hq4
          have HW4 := Lib.hid hwo
          have HK4 := Lib.hid hk4
          have HD4 := Lib.hid hd4
          clear ho4 hq4 hwo hk4 hd4 HO HQ HK HD
          by_cases hlt : K < n
          · have hlti : (K : Int) < (n : Int) := by omega
            obtain ⟨o, hoo⟩ : ∃ o, OS[K]? = some o := ⟨_, List.getElem?_eq_getElem (by rw [HNL.out]; exact hlt)⟩
            have ho3 := HIN.out o (List.mem_of_getElem? hoo)
            obtain ⟨s', st, N', hrun, h0, hwt, hop, htg, hwo⟩ := wantStep HW4.out hoo ho3
            have HOO := Lib.hid hoo
            have HWO := Lib.hid hwo
            clear hoo hwo
            go_wp2_with fail
            refine (agTick ab KAB [0] s w4 HQ4.out 1 K 1 rfl (by omega) (by decide) HW4.out.1 (by omega) (by omega)).mono ?_
            rintro e w5 ⟨v5, rfl, ho, hq, hr⟩
            rw [hrun] at ho hq
            have HQ5 := Lib.hid hq
            have HO5 := Lib.hid (HO4.out.agpI HQ4.out hr)
            have HK5 := Lib.hid (AgP.other HQ4.out hr HK4.out (by decide))
            have HD5 := Lib.hid (HD4.out.trans (hr.below HAB.out HD4.out.size))
            obtain ⟨a5, c5, rfl, -, -, -⟩ := OwnR.form ho
            obtain ⟨g, rfl, hg5⟩ := R1.of ho
            have hgl := hg5.1
            have r2 := hg5.2.2 2 _ rfl
            have r5 := hg5.2.2 5 _ rfl
            obtain ⟨ga, rfl, -, hgal, -⟩ := OwnR.addr HO5.out HNL.out (by omega)
            have rw0 := OwnR.at iec_len HO5.out HOO.out 0 _ rfl
            simp only [Nat.mul_one, Nat.add_zero] at rw0
            have hee : ∀ z : Int, (z != z) = false := fun z => by simp
            clear hq hr ho hrun hg5 HQ4 HO4 HK4 HD4 HW4
            go_upto_region 19 with (fail)
            haveI hIq : Nonempty (Of w5) := of_some _
            have hF0 := of_cell r2
            have hF1 := of_cell r5
            have hF2 := of_cell rw0
            first | (refine wp_region_stay w5 (by kernel_rfl) (by kernel_rfl) (by go_grown) ?_) | (refine wp_region_stay_seq w5 (by go_grown) ?_)
            repeat (go_big_quiet_step ((go_at_call 12; with_reducible refine stay_same (agWaitsP ab KAB [0] s' true _ (HQ5.out.ext (In.h _)) hwt))))
            refine wpQuiet_nil ?_
            intro w6 hb6
            clear hIq hF0 hF1 hF2
            have HQ6 := Lib.hid (HQ5.out.ext hb6)
            have HO6 := Lib.hid (OwnR.ext HO5.out hb6)
            have HK6 := Lib.hid (blk_ext hb6 HK5.out)
            have HD6 := Lib.hid (ext_trans HD5.out hb6)
            clear hb6 hgl r2 r5 rw0 hgal HQ5 HO5 HK5 HD5
            have rw0 := OwnR.at iec_len HO6.out HOO.out 0 _ rfl
            simp only [Nat.mul_one, Nat.add_zero] at rw0
            have hgal := cell_lt rw0
            have RW0 := Lib.hid rw0
            have HGL := Lib.hid hgal
            go_upto_region 21 with (fail)
            clear rw0 hgal
            haveI hIc : Nonempty (In (fun W : World => W.cell? ⟨ga, K, none⟩ = some (.int .i64 o) ∧ ga < W.heap.size ∧ W.heap[p]? = some (.cells #[.string ⟨#[97]⟩, .string ⟨#[98]⟩] 23 (0, 0)))) := ⟨⟨_, RW0.out, HGL.out, HK6.out⟩⟩
            have hF0 : ∀ g' : In (fun W : World => W.cell? ⟨ga, K, none⟩ = some (.int .i64 o) ∧ ga < W.heap.size ∧ W.heap[p]? = some (.cells #[.string ⟨#[97]⟩, .string ⟨#[98]⟩] 23 (0, 0))), g'.w.cell? ⟨ga, K, none⟩ = some (.int .i64 o) := fun g' => g'.h.1
            have hF1 : ∀ g' : In (fun W : World => W.cell? ⟨ga, K, none⟩ = some (.int .i64 o) ∧ ga < W.heap.size ∧ W.heap[p]? = some (.cells #[.string ⟨#[97]⟩, .string ⟨#[98]⟩] 23 (0, 0))), ga < g'.w.heap.size := fun g' => g'.h.2.1
            have hF2 : ∀ g' : In (fun W : World => W.cell? ⟨ga, K, none⟩ = some (.int .i64 o) ∧ ga < W.heap.size ∧ W.heap[p]? = some (.cells #[.string ⟨#[97]⟩, .string ⟨#[98]⟩] 23 (0, 0))), ∀ n, g'.w.cell? ⟨p, n, none⟩ = (#[.string ⟨#[97]⟩, .string ⟨#[98]⟩] : Array Value)[n]? := fun g' => blk_cell g'.h.2.2
            have hF3 : ∀ g' : In (fun W : World => W.cell? ⟨ga, K, none⟩ = some (.int .i64 o) ∧ ga < W.heap.size ∧ W.heap[p]? = some (.cells #[.string ⟨#[97]⟩, .string ⟨#[98]⟩] 23 (0, 0))), p < g'.w.heap.size := fun g' => blk_lt g'.h.2.2
            refine wp_region_chain (fun w' => ∃ g' : In (fun W : World => W.cell? ⟨ga, K, none⟩ = some (.int .i64 o) ∧ ga < W.heap.size ∧ W.heap[p]? = some (.cells #[.string ⟨#[97]⟩, .string ⟨#[98]⟩] 23 (0, 0))), w' = g'.w) (by kernel_rfl) (by kernel_rfl) (by kernel_rfl) ?_
            have HQ7 := Lib.hid (HQ6.out.ext (Below.refl w6.heap.size w6).drew)
            have HO7 := Lib.hid (OwnR.ext HO6.out (Below.refl w6.heap.size w6).drew)
            have HK7 := Lib.hid (blk_drew HK6.out)
            have HD7 := Lib.hid (ext_trans HD6.out (Below.refl w6.heap.size w6).drew)
            have RW7 := Lib.hid (ext_cell (Below.refl w6.heap.size w6).drew RW0.out)
            have HGL7 := Lib.hid (Nat.lt_of_lt_of_le HGL.out (Below.refl w6.heap.size w6).drew.size)
            clear HQ6 HO6 HK6 HD6 RW0 HGL
            generalize w6.drew = w7 at *
            repeat (refine wpG_plain (by rfl) (by rfl) (fun K hK => ?_); go_big_quiet_op; refine hK _ ?_; clear hK K)
            refine wpG_call (by rfl) (by rfl) ⟨⟨_, RW7.out, HGL7.out, HK7.out⟩, rfl⟩ (fun K' hK' => ?_)
            go_big_op
            refine (agReceive ab KAB [0] s' o ((K : Int) + 1) 0 ⟨#[97]⟩ ⟨#[98]⟩ false 0 0 w7 HQ7.out (by rw [h0]; rfl) (OkA.reg (by omega)) hop.symm htg.symm hwt).mono ?_
            rintro e w8 ⟨rfl, hq, hr⟩
            have HQ8 := Lib.hid hq
            have HO8 := Lib.hid (HO7.out.agpI HQ7.out hr)
            have HK8 := Lib.hid (AgP.other HQ7.out hr HK7.out (by decide))
            have HD8 := Lib.hid (HD7.out.trans (hr.below HAB.out HD7.out.size))
            have rw8 := OwnR.at iec_len HO8.out HOO.out 0 _ rfl
            simp only [Nat.mul_one, Nat.add_zero] at rw8
            refine hK' _ _ ?_
            clear hK' K' hq hr HQ7 HO7 HK7 HD7
            repeat (refine wpG_plain (by rfl) (by rfl) (fun K hK => ?_); go_big_quiet_op; refine hK _ ?_; clear hK K)
            refine wpG_nil ⟨⟨_, rw8, cell_lt rw8, HK8.out⟩, rfl⟩ ?_
            clear hIc hF0 hF1 hF2 hF3 rw8
            go_wp2
            go_roundw
            case rel => exact ⟨K + 1, _, by omega, by go_num, HO8.out, HQ8.out, HWO.out, HK8.out, HD8.out⟩
            case measure => simp [intOf]; omega
          · obtain rfl : K = n := by omega
            have hltd : decide ((K : Int) < (K : Int)) = false := by simp
            go_wp2_with fail
            refine (law22known w4).mono ?_
            rintro e w9 ⟨rfl, hb⟩
            have HD9 := Lib.hid (ext_trans HD4.out hb)
            clear hb
            go_wp2
            go_ret
            exact ⟨rfl, HD9.out⟩
    · have hltd : decide ((J : Int) < (rlen : Int)) = false := decide_eq_false (by omega)
      obtain ⟨n, hn⟩ : ∃ n, OS.length = n := ⟨_, rfl⟩
      have hn8 : n ≤ 8 := by rw [← hn, HL.out]; omega
      have HNL := Lib.hid hn
      rw [hn] at HO ⊢
      clear hn
      go_wp2_with fail
      go_loopw [59] (fun ii wr => ∃ (K : Nat) (s : Ag), K ≤ n ∧ ii = .int .i64 (K : Int) ∧ OwnR iec 1 3 B2 wr (.slice a n c) OS ∧ AgP wr ab KAB [0] s ∧ WO OS s K ∧ wr.heap[p]? = some (.cells #[.string ⟨#[97]⟩, .string ⟨#[98]⟩] 23 (0, 0)) ∧ Below w.heap.size w wr) (fun ii _ => n - (intOf ii).toNat)
      case atStart => exact ⟨0, _, by omega, rfl, HO.out, HQ.out.of, ⟨by unfold Bd; dsimp only; omega, rfl, rfl, rfl, rfl⟩, HK.out, HD.out⟩
      case round =>
        obtain ⟨w4, rfl⟩ : ∃ y : World, y = wr := ⟨_, rfl⟩
        obtain ⟨K, s, hK, rfl, ho4, hq4, hwo, hk4, hd4⟩ := hrel
        have HO4 := Lib.hid ho4
        have HQ4 := Lib.hid hq4
        have HW4 := Lib.hid hwo
        have HK4 := Lib.hid hk4
        have HD4 := Lib.hid hd4
        clear ho4 hq4 hwo hk4 hd4 HO HQ HK HD
        by_cases hlt : K < n
        · have hlti : (K : Int) < (n : Int) := by omega
          obtain ⟨o, hoo⟩ : ∃ o, OS[K]? = some o := ⟨_, List.getElem?_eq_getElem (by rw [HNL.out]; exact hlt)⟩
          have ho3 := HIN.out o (List.mem_of_getElem? hoo)
          obtain ⟨s', st, N', hrun, h0, hwt, hop, htg, hwo⟩ := wantStep HW4.out hoo ho3
          have HOO := Lib.hid hoo
          have HWO := Lib.hid hwo
          clear hoo hwo
          go_wp2_with fail
          refine (agTick ab KAB [0] s w4 HQ4.out 1 K 1 rfl (by omega) (by decide) HW4.out.1 (by omega) (by omega)).mono ?_
          rintro e w5 ⟨v5, rfl, ho, hq, hr⟩
          rw [hrun] at ho hq
          have HQ5 := Lib.hid hq
          have HO5 := Lib.hid (HO4.out.agpI HQ4.out hr)
          have HK5 := Lib.hid (AgP.other HQ4.out hr HK4.out (by decide))
          have HD5 := Lib.hid (HD4.out.trans (hr.below HAB.out HD4.out.size))
          obtain ⟨a5, c5, rfl, -, -, -⟩ := OwnR.form ho
          obtain ⟨g, rfl, hg5⟩ := R1.of ho
          have hgl := hg5.1
          have r2 := hg5.2.2 2 _ rfl
          have r5 := hg5.2.2 5 _ rfl
          obtain ⟨ga, rfl, -, hgal, -⟩ := OwnR.addr HO5.out HNL.out (by omega)
          have rw0 := OwnR.at iec_len HO5.out HOO.out 0 _ rfl
          simp only [Nat.mul_one, Nat.add_zero] at rw0
          have hee : ∀ z : Int, (z != z) = false := fun z => by simp
          clear hq hr ho hrun hg5 HQ4 HO4 HK4 HD4 HW4
          go_upto_region 19 with (fail)
          haveI hIq : Nonempty (Of w5) := of_some _
          have hF0 := of_cell r2
          have hF1 := of_cell r5
          have hF2 := of_cell rw0
          first | (refine wp_region_stay w5 (by kernel_rfl) (by kernel_rfl) (by go_grown) ?_) | (refine wp_region_stay_seq w5 (by go_grown) ?_)
          repeat (go_big_quiet_step ((go_at_call 12; with_reducible refine stay_same (agWaitsP ab KAB [0] s' true _ (HQ5.out.ext (In.h _)) hwt))))
          refine wpQuiet_nil ?_
          intro w6 hb6
          clear hIq hF0 hF1 hF2
          have HQ6 := Lib.hid (HQ5.out.ext hb6)
          have HO6 := Lib.hid (OwnR.ext HO5.out hb6)
          have HK6 := Lib.hid (blk_ext hb6 HK5.out)
          have HD6 := Lib.hid (ext_trans HD5.out hb6)
          clear hb6 hgl r2 r5 rw0 hgal HQ5 HO5 HK5 HD5
          have rw0 := OwnR.at iec_len HO6.out HOO.out 0 _ rfl
          simp only [Nat.mul_one, Nat.add_zero] at rw0
          have hgal := cell_lt rw0
          have RW0 := Lib.hid rw0
          have HGL := Lib.hid hgal
          go_upto_region 21 with (fail)
          clear rw0 hgal
          haveI hIc : Nonempty (In (fun W : World => W.cell? ⟨ga, K, none⟩ = some (.int .i64 o) ∧ ga < W.heap.size ∧ W.heap[p]? = some (.cells #[.string ⟨#[97]⟩, .string ⟨#[98]⟩] 23 (0, 0)))) := ⟨⟨_, RW0.out, HGL.out, HK6.out⟩⟩
          have hF0 : ∀ g' : In (fun W : World => W.cell? ⟨ga, K, none⟩ = some (.int .i64 o) ∧ ga < W.heap.size ∧ W.heap[p]? = some (.cells #[.string ⟨#[97]⟩, .string ⟨#[98]⟩] 23 (0, 0))), g'.w.cell? ⟨ga, K, none⟩ = some (.int .i64 o) := fun g' => g'.h.1
          have hF1 : ∀ g' : In (fun W : World => W.cell? ⟨ga, K, none⟩ = some (.int .i64 o) ∧ ga < W.heap.size ∧ W.heap[p]? = some (.cells #[.string ⟨#[97]⟩, .string ⟨#[98]⟩] 23 (0, 0))), ga < g'.w.heap.size := fun g' => g'.h.2.1
          have hF2 : ∀ g' : In (fun W : World => W.cell? ⟨ga, K, none⟩ = some (.int .i64 o) ∧ ga < W.heap.size ∧ W.heap[p]? = some (.cells #[.string ⟨#[97]⟩, .string ⟨#[98]⟩] 23 (0, 0))), ∀ n, g'.w.cell? ⟨p, n, none⟩ = (#[.string ⟨#[97]⟩, .string ⟨#[98]⟩] : Array Value)[n]? := fun g' => blk_cell g'.h.2.2
          have hF3 : ∀ g' : In (fun W : World => W.cell? ⟨ga, K, none⟩ = some (.int .i64 o) ∧ ga < W.heap.size ∧ W.heap[p]? = some (.cells #[.string ⟨#[97]⟩, .string ⟨#[98]⟩] 23 (0, 0))), p < g'.w.heap.size := fun g' => blk_lt g'.h.2.2
          refine wp_region_chain (fun w' => ∃ g' : In (fun W : World => W.cell? ⟨ga, K, none⟩ = some (.int .i64 o) ∧ ga < W.heap.size ∧ W.heap[p]? = some (.cells #[.string ⟨#[97]⟩, .string ⟨#[98]⟩] 23 (0, 0))), w' = g'.w) (by kernel_rfl) (by kernel_rfl) (by kernel_rfl) ?_
          have HQ7 := Lib.hid (HQ6.out.ext (Below.refl w6.heap.size w6).drew)
          have HO7 := Lib.hid (OwnR.ext HO6.out (Below.refl w6.heap.size w6).drew)
          have HK7 := Lib.hid (blk_drew HK6.out)
          have HD7 := Lib.hid (ext_trans HD6.out (Below.refl w6.heap.size w6).drew)
          have RW7 := Lib.hid (ext_cell (Below.refl w6.heap.size w6).drew RW0.out)
          have HGL7 := Lib.hid (Nat.lt_of_lt_of_le HGL.out (Below.refl w6.heap.size w6).drew.size)
          clear HQ6 HO6 HK6 HD6 RW0 HGL
          generalize w6.drew = w7 at *
          repeat (refine wpG_plain (by rfl) (by rfl) (fun K hK => ?_); go_big_quiet_op; refine hK _ ?_; clear hK K)
          refine wpG_call (by rfl) (by rfl) ⟨⟨_, RW7.out, HGL7.out, HK7.out⟩, rfl⟩ (fun K' hK' => ?_)
          go_big_op
          refine (agReceive ab KAB [0] s' o ((K : Int) + 1) 0 ⟨#[97]⟩ ⟨#[98]⟩ false 0 0 w7 HQ7.out (by rw [h0]; rfl) (OkA.reg (by omega)) hop.symm htg.symm hwt).mono ?_
          rintro e w8 ⟨rfl, hq, hr⟩
          have HQ8 := Lib.hid hq
          have HO8 := Lib.hid (HO7.out.agpI HQ7.out hr)
          have HK8 := Lib.hid (AgP.other HQ7.out hr HK7.out (by decide))
          have HD8 := Lib.hid (HD7.out.trans (hr.below HAB.out HD7.out.size))
          have rw8 := OwnR.at iec_len HO8.out HOO.out 0 _ rfl
          simp only [Nat.mul_one, Nat.add_zero] at rw8
          refine hK' _ _ ?_
          clear hK' K' hq hr HQ7 HO7 HK7 HD7
          repeat (refine wpG_plain (by rfl) (by rfl) (fun K hK => ?_); go_big_quiet_op; refine hK _ ?_; clear hK K)
          refine wpG_nil ⟨⟨_, rw8, cell_lt rw8, HK8.out⟩, rfl⟩ ?_
          clear hIc hF0 hF1 hF2 hF3 rw8
          go_wp2
          go_roundw
          case rel => exact ⟨K + 1, _, by omega, by go_num, HO8.out, HQ8.out, HWO.out, HK8.out, HD8.out⟩
          case measure => simp [intOf]; omega
        · obtain rfl : K = n := by omega
          have hltd : decide ((K : Int) < (K : Int)) = false := by simp
          go_wp2_with fail
          refine (law22known w4).mono ?_
          rintro e w9 ⟨rfl, hb⟩
          have HD9 := Lib.hid (ext_trans HD4.out hb)
          clear hb
          go_wp2
          go_ret
          exact ⟨rfl, HD9.out⟩

end Go.Proofs.Ytibgphjadiidaaa
