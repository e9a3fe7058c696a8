/- AgentOne: a client never waits for two answers. -/
import Derived.Test.YtibgphjadiidaaaAgL
namespace Go.Proofs.Ytibgphjadiidaaa
open Go.RowKit
set_option linter.unusedVariables false
set_option linter.unusedSimpArgs false

def AO (s : Ag) (J asked : Int) (opn : Bool) : Prop := Bd 2 J s ∧ s.now = J ∧ (s.wt = true → opn = true ∧ s.asked = asked) ∧ (opn = true → s.wt = false → 8 ≤ J - asked) ∧ (∀ x ∈ s.ws, x = ⟨1, 30, 1⟩) ∧ -100 ≤ asked ∧ asked ≤ J
theorem next_shape {s : Ag} (hw : ∀ x ∈ s.ws, x = (⟨1, 30, 1⟩ : Wt)) : ((nextM KAB s).2.2 = false ∧ (nextM KAB s).1 = s) ∨ ((nextM KAB s).2.2 = true ∧ (nextM KAB s).1.now = s.now ∧ (nextM KAB s).1.wt = s.wt ∧ (∀ x ∈ (nextM KAB s).1.ws, x = (⟨1, 30, 1⟩ : Wt)) ∧ ((∃ op st N', (op = 1 ∨ op = 2) ∧ (nextM KAB s).2.1 = ⟨op, st, N', 0, ⟨#[97]⟩, ⟨#[98]⟩⟩) ∨ ∃ q', (nextM KAB s).2.1 = ⟨5, 0, 0, q', ⟨#[]⟩, ⟨#[]⟩⟩)) := by
  obtain ⟨i, now, ws, q, tag, op, asked, wt, wi, tm, st, kn, br, bl, fr, fl⟩ := s
  dsimp only at hw
  unfold nextM
  dsimp only
  rcases ws with _ | ⟨x, rr⟩
  · dsimp only
    split
    · split
      · exact .inr ⟨rfl, rfl, rfl, hw, .inl ⟨2, 0, 0, .inr rfl, rfl⟩⟩
      · exact .inr ⟨rfl, rfl, rfl, hw, .inl ⟨1, st, tm, .inl rfl, rfl⟩⟩
    · split
      · exact .inr ⟨rfl, rfl, rfl, hw, .inr ⟨q, rfl⟩⟩
      · exact .inl ⟨rfl, rfl⟩
  · obtain rfl := hw x (by simp)
    exact .inr ⟨rfl, rfl, rfl, fun y hy => hw y (by simp [show y ∈ rr from hy]), .inl ⟨1, 1, 30, .inl rfl, rfl⟩⟩
theorem AO.ans {s : Ag} {J : Int} {op : Int} (hb : Bd 2 J s) (hn : s.now = J) (hw : ∀ x ∈ s.ws, x = (⟨1, 30, 1⟩ : Wt)) (h0 : 0 ≤ J) : AO (ansM op 0 { s with wt := false }) J J false := by
  unfold ansM
  split
  · exact ⟨hb, hn, (fun h => by cases h), (fun h => by cases h), hw, by omega, by omega⟩
  · split
    · exact ⟨hb, hn, (fun h => by cases h), (fun h => by cases h), hw, by omega, by omega⟩
    · split
      · exact ⟨hb, hn, (fun h => by cases h), (fun h => by cases h), hw, by omega, by omega⟩
      · exact ⟨hb, hn, (fun h => by cases h), (fun h => by cases h), hw, by omega, by omega⟩
theorem ans_wt {s : Ag} {op q : Int} : (ansM op q { s with wt := false }).wt = false := by
  unfold ansM
  split
  · rfl
  · split
    · rfl
    · split <;> rfl
theorem ans_tag {s : Ag} {op q : Int} : (ansM op q { s with wt := false }).tag = s.tag := by
  unfold ansM
  split
  · rfl
  · split
    · rfl
    · split <;> rfl
theorem oneStep {s : Ag} {J asked : Int} {opn : Bool} (h : AO s J asked opn) (h0 : 0 ≤ J) :
    (∃ s', runM KAB [0, 1] 1 s = (s', []) ∧ AO s' (J + 1) asked opn ∧ s'.tag = s.tag) ∨
    (∃ s' m z, runM KAB [0, 1] 1 s = (s', [⟨z, m, s.tag + 1⟩]) ∧ [(0 : Int), 1][s'.i]? = some z ∧ s'.wt = true ∧ s'.op = m.op ∧ s'.tag = s.tag + 1 ∧ AO s' (J + 1) (J + 1) true ∧ AO (ansM m.op 0 { s' with wt := false }) (J + 1) (J + 1) false ∧ (opn = true → 8 ≤ J + 1 - asked) ∧ ((∃ op st N', (op = 1 ∨ op = 2) ∧ m = ⟨op, st, N', 0, ⟨#[97]⟩, ⟨#[98]⟩⟩) ∨ ∃ q', m = ⟨5, 0, 0, q', ⟨#[]⟩, ⟨#[]⟩⟩)) := by
  obtain ⟨hb, hn, hw1, hw2, hws, ha1, ha2⟩ := h
  obtain ⟨u2, hu⟩ : ∃ u2, expM [(0 : Int), 1].length { s with now := s.now + 1 } = u2 := ⟨_, rfl⟩
  have hb2 : Bd 2 (J + 1) u2 := by rw [← hu]; exact (Bd.up hb).exp
  have ht2 : u2.tag = s.tag := by rw [← hu, exp_tag]
  have hs2 : u2.now = J + 1 ∧ u2.ws = s.ws := by rw [← hu]; unfold expM turnM; split <;> exact ⟨by dsimp only; omega, rfl⟩
  have hx2 : u2.wt = true → s.wt = true ∧ u2.asked = s.asked := by
    rw [← hu]; unfold expM turnM
    split
    · intro h; cases h
    · intro h; exact ⟨h, rfl⟩
  have hy2 : u2.wt = false → opn = true → 8 ≤ J + 1 - asked := by
    rw [← hu]; unfold expM turnM
    split
    · rename_i hc
      intro _ _
      have := (hw1 hc.1).2
      have := hc.2
      dsimp only at this
      omega
    · intro h1 h2
      have := hw2 h2 h1
      omega
  rcases hwt : u2.wt with _ | _
  · rcases hx : nextM KAB u2 with ⟨u3, m, d⟩
    have hsh := next_shape (s := u2) (by rw [hs2.2]; exact hws)
    have hb3 : Bd 2 (J + 1) u3 := by have := Bd.next (k := KAB) hb2; rw [hx] at this; exact this
    have ht3 : u3.tag = s.tag := by have := next_tag (k := KAB) (s := u2); rw [hx] at this; exact this.trans ht2
    rw [hx] at hsh
    dsimp only at hsh
    rcases hsh with ⟨rfl, e⟩ | ⟨rfl, e1, e2, e3, e4⟩
    · left
      refine ⟨u3, run_one (stp_no hu hwt hx), ⟨hb3, by rw [e]; exact hs2.1, (fun h => by rw [e, hwt] at h; cases h), (fun h _ => hy2 hwt h), by rw [e, hs2.2]; exact hws, by omega, by omega⟩, ht3⟩
    · right
      have htJ : u3.tag ≤ J := by rw [ht3]; exact hb.2.2.2.2.2.2.2.2.1
      have hb4 : Bd 2 (J + 1) (askM u3 m) := Bt.ask ⟨hb3, htJ⟩
      have hnow : (askM u3 m).now = J + 1 := e1.trans hs2.1
      obtain ⟨z, hz⟩ : ∃ z, [(0 : Int), 1][(askM u3 m).i]? = some z := ⟨_, List.getElem?_eq_getElem (show (askM u3 m).i < 2 from hb4.1)⟩
      refine ⟨askM u3 m, m, z, run_one ?_, hz, rfl, rfl, by show u3.tag + 1 = s.tag + 1; rw [ht3], ?_, ?_, hy2 hwt, e4⟩
      · rw [stp_yes hu hwt hx, ht3]
        have : [(0 : Int), 1].getD u3.i 0 = z := by rw [List.getD_eq_getElem?_getD]; rw [show u3.i = (askM u3 m).i from rfl, hz]; rfl
        rw [this]
      · exact ⟨hb4, hnow, fun _ => ⟨rfl, hnow⟩, (fun _ h => by cases h), e3, by omega, by omega⟩
      · exact AO.ans hb4 hnow e3 (by omega)
  · left
    have := hx2 hwt
    have hh := hw1 this.1
    refine ⟨u2, run_one (stp_eq hu hwt), ⟨hb2, hs2.1, fun _ => ⟨hh.1, this.2.trans hh.2⟩, (fun _ h => by rw [hwt] at h; cases h), by rw [hs2.2]; exact hws, by omega, by omega⟩, ht2⟩
theorem rim_bar {b : Nat} {w w' : World} (hb : Bar b w w') : Rim b w w' := ⟨hb.os, hb.tape, hb.output, hb.size, fun k hk hl => hb.block k hk hl⟩
theorem AgP.bar {w w' : World} {ab tb len cap : Nat} {k : ByteArray × ByteArray} {zs : List Int} {s : Ag} {a : Option Addr} (h : AgP w ab k zs s) (ht : TapeK a len cap w tb) (hb : Bar tb w w') : AgP w' ab k zs s := by
  obtain ⟨q, h1, -⟩ := ht
  exact h.rimO (rim_bar hb) h1 (by decide) (by decide) (by decide)
theorem TapeK.agp {w w' : World} {ab tb len cap : Nat} {k : ByteArray × ByteArray} {zs : List Int} {s : Ag} {a : Option Addr} (ht : TapeK a len cap w tb) (h : AgP w ab k zs s) (hr : Rim ab w w') : TapeK a len cap w' tb := by
  obtain ⟨q, h1, h2⟩ := ht
  exact ⟨q, AgP.other h hr h1 (by decide), h2⟩
theorem OwnR.bar {w w' : World} {tb len cap base : Nat} {a : Option Addr} {v : Value} {L : List Sn} (ho : OwnR sec 14 39 base w v L) (ht : TapeK a len cap w tb) (hb : Bar tb w w') : OwnR sec 14 39 base w' v L := by
  obtain ⟨q, h1, -⟩ := ht
  exact ho.types fun b cur hc => ((rim_bar hb).rimT h1 hc (by decide)).trans hc.symm
/-- a row of one message, whatever else is written -/
def R1 (w : World) (g : Nat) (x : Sn) : Prop := g < w.heap.size ∧ (∃ cur, w.heap[g]? = some (.cells cur 39 (0, 0))) ∧ ∀ q u, (sec x)[q]? = some u → w.cell? ⟨g, q, none⟩ = some u
theorem R1.keep {w w' : World} {g : Nat} {x : Sn} (h : R1 w g x) (hz : w.heap.size ≤ w'.heap.size) (hk : ∀ (b : Nat) (cur : Array Value), w.heap[b]? = some (.cells cur 39 (0, 0)) → w'.heap[b]? = w.heap[b]?) : R1 w' g x := by
  obtain ⟨h1, ⟨cur, h2⟩, h3⟩ := h
  have e := hk g cur h2
  exact ⟨by omega, ⟨cur, e.trans h2⟩, fun q u hq => (World.cell?_of_block (w := w) e).trans (h3 q u hq)⟩
theorem R1.ext {w w' : World} {g : Nat} {x : Sn} (h : R1 w g x) (hb : Below w.heap.size w w') : R1 w' g x := h.keep hb.size fun b cur hc => hb.block b (blk_lt hc)
theorem R1.rim {w w' : World} {g b0 : Nat} {x : Sn} {cs : Array Value} {T : TypeId} (h : R1 w g x) (hr : Rim b0 w w') (h0 : w.heap[b0]? = some (.cells cs T (0, 0))) (hT : 39 ≠ T) : R1 w' g x := h.keep hr.size fun b cur hc => (hr.rimT h0 hc hT).trans hc.symm
theorem R1.agp {w w' : World} {ab g : Nat} {k : ByteArray × ByteArray} {zs : List Int} {s : Ag} {x : Sn} (h : R1 w g x) (ha : AgP w ab k zs s) (hr : Rim ab w w') : R1 w' g x := by
  obtain ⟨sb, sc, wa, wc, h1, -⟩ := ha
  exact h.rim hr h1 (by decide)
theorem R1.of {base : Nat} {w : World} {a : Option Addr} {c : Nat} {x : Sn} (h : OwnR sec 14 39 base w (.slice a 1 c) [x]) : ∃ g, a = some ⟨g, 0, none⟩ ∧ R1 w g x := by
  obtain ⟨g, rfl, h1, h2, h3⟩ := row_one h
  refine ⟨g, rfl, h2, ?_, h3⟩
  rcases h.2 with ⟨e, _⟩ | ⟨g', cap', cur, e, hg, hh, _⟩
  · cases e
  · simp only [Value.slice.injEq, Option.some.injEq, Addr.mk.injEq] at e
    obtain ⟨⟨rfl, -⟩, -⟩ := e
    exact ⟨cur, hh⟩
set_option maxRecDepth 100000 in
set_option maxHeartbeats 2000000 in
theorem agentOne_walk (ra : Option Addr) (rlen rcap : Nat) (rz : List Int) (w : World) (hr : IsRow .i64 w ra rlen rcap rz) (hr8 : rlen * 8 ≤ 140737488351232) :
    Calls Try.prog 4 #[.slice ra rlen rcap] w fun r w' => r = .returned (.bool true) ∧ Below w.heap.size w w' := by
  have HR := Lib.hid hr
  clear hr
  go_enter Try.func4, Try.ntmps4
  have E1 := Lib.hid (show Below w.heap.size w (w.alloc (.cells #[.int .i64 0, .int .i64 1] 3)) from (Below.refl _ _).alloc (Nat.le_refl _) _)
  go_wp2_with fail
  refine (agNew (⟨#[97]⟩, ⟨#[98]⟩) [0, 1] (some ⟨w.heap.size, 0, none⟩) 2 2 _ nm_a nm_b (sat_new w [0, 1] #[.int .i64 0, .int .i64 1] rfl) rfl (by omega) (by omega)).mono ?_
  rintro e w1 ⟨ab, rfl, hab, hq, hb⟩
  have HQ1 := Lib.hid (show AgP w1 ab KAB [0, 1] (⟨0, 0, [], -1, 0, 0, 0, false, false, 0, 0, false, false, 0, false, 0⟩ : Ag) from hq)
  have HD1 := Lib.hid (ext_trans E1.out hb)
  have HAB := Lib.hid (show w.heap.size ≤ ab from Nat.le_trans E1.out.size hab)
  clear hq hb hab E1
  have HT2 := Lib.hid (tapeK_new (a := ra) (len := rlen) (cap := rcap) w1)
  have HNE := Lib.hid (rowOk_new (HR.out.ext HD1.out) (.cells #[.slice ra rlen rcap, .int .i64 0] 46)).2
  have E2 := Lib.hid (show Below w1.heap.size w1 (w1.alloc (.cells #[.slice ra rlen rcap, .int .i64 0] 46)) from (Below.refl _ _).alloc (Nat.le_refl _) _)
  go_upto_region 5 with (fail)
  obtain ⟨tb, htb⟩ : ∃ tb, w1.heap.size = tb := ⟨_, rfl⟩
  have HTB := Lib.hid (show w.heap.size ≤ tb from by rw [← htb]; exact HD1.out.size)
  rw [htb] at HT2 HNE
  try rw [htb]
  have HQ2 := Lib.hid (HQ1.out.ext E2.out)
  have HD2 := Lib.hid (ext_trans HD1.out E2.out)
  clear htb HQ1 HD1 E2
  generalize (w1.alloc (.cells #[.slice ra rlen rcap, .int .i64 0] 46)) = w2 at *
  go_wp2_with fail
  refine (agWant ab KAB [0, 1] _ 1 30 w2 HQ2.out (.inl rfl) (by omega) (by omega) (by decide)).mono ?_
  rintro e w3 ⟨rfl, hq, hr⟩
  have HQ3 := Lib.hid (show AgP w3 ab KAB [0, 1] (⟨0, 0, [⟨1, 30, 1⟩], -1, 0, 0, 0, false, false, 0, 0, false, false, 0, false, 0⟩ : Ag) from hq)
  have HT3 := Lib.hid (HT2.out.agp HQ2.out hr)
  have HD3 := Lib.hid (HD2.out.trans (hr.below HAB.out HD2.out.size))
  clear hq hr HQ2 HT2 HD2
  go_wp2_with fail
  go_loopw [5, 6, 7, 8, 9] (fun no aq tg on ii wr => ∃ (J : Int) (asked : Int) (s : Ag) (opn : Bool), (0 ≤ J ∧ J ≤ 150) ∧ ii = .int .i64 J ∧ no = .int .i64 J ∧ aq = .int .i64 asked ∧ on = .bool opn ∧ tg = .int .i64 s.tag ∧ TapeK ra rlen rcap wr tb ∧ AgP wr ab KAB [0, 1] s ∧ AO s J asked opn ∧ Below w.heap.size w wr) (fun no aq tg on ii _ => (150 - intOf ii).toNat)
  case atStart => exact ⟨0, -100, _, false, by omega, rfl, rfl, rfl, rfl, rfl, HT3.out, HQ3.out, ⟨by unfold Bd; decide, rfl, (fun h => by cases h), (fun h => by cases h), (fun x hx => by simpa using hx), by omega, by omega⟩, HD3.out⟩
  case round =>
    obtain ⟨wr, rfl⟩ : ∃ y : World, y = wr := ⟨_, rfl⟩
    obtain ⟨J, asked, s, opn, hJ, rfl, rfl, rfl, rfl, rfl, ht, hq, hao, hd⟩ := hrel
    have HT := Lib.hid ht
    have HQ := Lib.hid hq
    have HAO := Lib.hid hao
    have HD := Lib.hid hd
    have hak : -100 ≤ asked ∧ asked ≤ J := ⟨hao.2.2.2.2.2.1, hao.2.2.2.2.2.2⟩
    have hta : 0 ≤ s.tag ∧ s.tag ≤ 1000 := by have := hao.1; unfold Bd at this; omega
    obtain ⟨tag, htg0⟩ : ∃ tag, s.tag = tag := ⟨_, rfl⟩
    rw [htg0] at hta ⊢
    have HT0 := Lib.hid htg0
    clear ht hq hao hd htg0 HQ3 HD3 HT3
    by_cases hlt : J < 150
    · have hltd : decide (J < 150) = true := decide_eq_true hlt
      go_wp2_with fail
      refine (agTick ab KAB [0, 1] s wr HQ.out 1 J 1 rfl (by omega) (by decide) HAO.out.1 (by omega) (by omega)).mono ?_
      rintro e w5 ⟨v5, rfl, ho, hq, hr⟩
      have HD5 := Lib.hid (HD.out.trans (hr.below HAB.out HD.out.size))
      have HT5 := Lib.hid (HT.out.agp HQ.out hr)
      have hone := oneStep HAO.out hJ.1
      rw [HT0.out] at hone
      clear hr HQ HD HAO HT
      rcases hone with ⟨s', hrun, hao, htg⟩ | ⟨s', m, z, hrun, hz, hwt, hop, htg, hao1, hao2, hex, hm⟩
      · rw [hrun] at ho hq
        obtain ⟨a5, c5, rfl, -, -, -⟩ := OwnR.form ho
        have HQ5 := Lib.hid hq
        have HO5 := Lib.hid hao
        have HTG := Lib.hid htg
        clear hq ho hrun hao htg
        go_wp2
        go_roundw
        case rel => exact ⟨J + 1, asked, s', opn, by omega, by go_num, by go_num, rfl, rfl, by rw [HTG.out], HT5.out, HQ5.out, HO5.out, HD5.out⟩
        case measure => simp [intOf]; omega
      · rw [hrun] at ho hq
        obtain ⟨a5, c5, rfl, -, -, -⟩ := OwnR.form ho
        obtain ⟨g, rfl, hg5⟩ := R1.of ho
        have HG5 := Lib.hid hg5
        have HQ5 := Lib.hid hq
        have HO1 := Lib.hid hao1
        have HO2 := Lib.hid hao2
        have HEX := Lib.hid hex
        clear hq ho hrun hao1 hao2 hg5 hex
        have hgl := HG5.out.1
        have r5 := HG5.out.2.2 5 _ rfl
        rcases opn with _ | _
        · go_upto_region 17 with (fail)
          clear hgl r5
          rcases hm with ⟨op, st, N', hops, rfl⟩ | ⟨q', rfl⟩
          · dsimp only at hop HO2
            -- the tape is asked
            go_wp2_with fail
            refine (tapeNextK ra rlen rcap rz tb 3 w5 HT5.out (show RowOk ra rlen rcap rz _ tb from ⟨HR.out.ext HD5.out, HNE.out⟩) (by omega) (by omega)).mono ?_
            rintro e w6 ⟨v6, rfl, hv0, hv1, ht, hb⟩
            have HQ6 := Lib.hid (HQ5.out.bar HT5.out hb)
            have HG6 := Lib.hid (R1.keep HG5.out hb.size fun b cur hc => by obtain ⟨q, h1, -⟩ := HT5.out; exact ((rim_bar hb).rimT h1 hc (by decide)).trans hc.symm)
            have HD6 := Lib.hid (HD5.out.trans (hb.below HTB.out HD5.out.size))
            have HT6 := Lib.hid ht
            clear ht hb HQ5 HG5 HD5 HT5
            by_cases hv : 0 < v6
            · have hvd : decide (0 < v6) = true := decide_eq_true hv
              go_upto_region 18 with (fail)
              haveI hIc : Nonempty (In (fun W : World => R1 W g (⟨z, ⟨op, st, N', 0, ⟨#[97]⟩, ⟨#[98]⟩⟩, tag + 1⟩ : Sn))) := ⟨⟨_, HG6.out⟩⟩
              have hFl : ∀ g' : In (fun W : World => R1 W g (⟨z, ⟨op, st, N', 0, ⟨#[97]⟩, ⟨#[98]⟩⟩, tag + 1⟩ : Sn)), g < g'.w.heap.size := fun g' => g'.h.1
              have hF2 : ∀ g' : In (fun W : World => R1 W g (⟨z, ⟨op, st, N', 0, ⟨#[97]⟩, ⟨#[98]⟩⟩, tag + 1⟩ : Sn)), g'.w.cell? ⟨g, 2, none⟩ = some (.int .i64 op) := fun g' => g'.h.2.2 2 _ rfl
              have hF8 : ∀ g' : In (fun W : World => R1 W g (⟨z, ⟨op, st, N', 0, ⟨#[97]⟩, ⟨#[98]⟩⟩, tag + 1⟩ : Sn)), g'.w.cell? ⟨g, 8, none⟩ = some (.string ⟨#[97]⟩) := fun g' => g'.h.2.2 8 _ rfl
              have hF9 : ∀ g' : In (fun W : World => R1 W g (⟨z, ⟨op, st, N', 0, ⟨#[97]⟩, ⟨#[98]⟩⟩, tag + 1⟩ : Sn)), g'.w.cell? ⟨g, 9, none⟩ = some (.string ⟨#[98]⟩) := fun g' => g'.h.2.2 9 _ rfl
              refine wp_region_chain (fun w' => ∃ g' : In (fun W : World => R1 W g (⟨z, ⟨op, st, N', 0, ⟨#[97]⟩, ⟨#[98]⟩⟩, tag + 1⟩ : Sn)), w' = g'.w) (by kernel_rfl) (by kernel_rfl) (by kernel_rfl) ?_
              have HG7 := Lib.hid (HG6.out.ext (Below.refl w6.heap.size w6).drew)
              have HQ7 := Lib.hid (HQ6.out.ext (Below.refl w6.heap.size w6).drew)
              have HT7 := Lib.hid (HT6.out.ext (Below.refl w6.heap.size w6).drew)
              have HD7 := Lib.hid (ext_trans HD6.out (Below.refl w6.heap.size w6).drew)
              clear HG6 HQ6 HT6 HD6
              generalize w6.drew = y0 at *
              repeat (refine wpG_plain (by rfl) (by rfl) (fun K hK => ?_); go_big_quiet_op; refine hK _ ?_; clear hK K)
              have E8 := Lib.hid (show Below y0.heap.size y0 (y0.alloc (.cells #[.int .i64 0, .int .i64 0, .int .i64 0, .int .i64 0, .int .i64 0, .int .i64 0, .int .i64 0, .string ⟨#[]⟩, .string ⟨#[]⟩, .bool false, .int .u32 0, .slice none 0 0, .slice none 0 0] 37)) from (Below.refl _ _).alloc (Nat.le_refl _) _)
              have HK8 := Lib.hid (blk_new y0 #[.int .i64 0, .int .i64 0, .int .i64 0, .int .i64 0, .int .i64 0, .int .i64 0, .int .i64 0, .string ⟨#[]⟩, .string ⟨#[]⟩, .bool false, .int .u32 0, .slice none 0 0, .slice none 0 0] 37)
              have HG8 := Lib.hid (HG7.out.ext E8.out)
              have HQ8 := Lib.hid (HQ7.out.ext E8.out)
              have HT8 := Lib.hid (HT7.out.ext E8.out)
              have HD8 := Lib.hid (ext_trans HD7.out E8.out)
              refine wpG_call (by rfl) (by rfl) ⟨⟨_, HG7.out⟩, rfl⟩ (fun K hK => ?_)
              go_big_op
              refine hK _ _ ?_
              clear hK K
              obtain ⟨p8, hp8⟩ : ∃ p, y0.heap.size = p := ⟨_, rfl⟩
              have HP8 := Lib.hid (show w.heap.size ≤ p8 from by rw [← hp8]; exact HD7.out.size)
              rw [hp8] at HK8
              try rw [hp8]
              clear hp8 HG7 HQ7 HT7 HD7 E8
              generalize (y0.alloc (.cells #[.int .i64 0, .int .i64 0, .int .i64 0, .int .i64 0, .int .i64 0, .int .i64 0, .int .i64 0, .string ⟨#[]⟩, .string ⟨#[]⟩, .bool false, .int .u32 0, .slice none 0 0, .slice none 0 0] 37)) = y1 at *
              repeat (refine wpG_plain (by rfl) (by rfl) (fun K hK => ?_); go_big_quiet_op; refine hK _ ?_; clear hK K)
              have hk := blk_cell HK8.out
              have hf := blk_free HK8.out
              have hl := blk_lt HK8.out
              have HR9 := Lib.hid (Rim13 (b := p8) (v0 := .int .i64 2) (v1 := .int .i64 op) (v2 := .int .i64 0) (v3 := .int .i64 0) (v4 := .int .i64 (tag + 1)) (v5 := .int .i64 0) (v6 := .int .i64 0) (v7 := .string ⟨#[97]⟩) (v8 := .string ⟨#[98]⟩) (v9 := .bool false) (v10 := .int .u32 0) (v11 := .slice none 0 0) (v12 := .slice none 0 0) (Rim.of (Below.refl y1.heap.size y1)))
              have HK9 := Lib.hid (blk_fill13 (v0 := .int .i64 2) (v1 := .int .i64 op) (v2 := .int .i64 0) (v3 := .int .i64 0) (v4 := .int .i64 (tag + 1)) (v5 := .int .i64 0) (v6 := .int .i64 0) (v7 := .string ⟨#[97]⟩) (v8 := .string ⟨#[98]⟩) (v9 := .bool false) (v10 := .int .u32 0) (v11 := .slice none 0 0) (v12 := .slice none 0 0) HK8.out rfl)
              refine wpG_call (by rfl) (by rfl) ⟨⟨_, HG8.out⟩, rfl⟩ (fun K hK => ?_)
              go_big_op
              refine hK _ _ ?_
              clear hK K hk hf hl
              have HG9 := Lib.hid (HG8.out.rim HR9.out HK8.out (by decide))
              have HQ9 := Lib.hid (HQ8.out.rimO HR9.out HK8.out (by decide) (by decide) (by decide))
              have HT9 := Lib.hid (show TapeK ra rlen rcap (((((((((((((y1.setCell ⟨p8, 0, none⟩ (.int .i64 2)).setCell ⟨p8, 1, none⟩ (.int .i64 op)).setCell ⟨p8, 2, none⟩ (.int .i64 0)).setCell ⟨p8, 3, none⟩ (.int .i64 0)).setCell ⟨p8, 4, none⟩ (.int .i64 (tag + 1))).setCell ⟨p8, 5, none⟩ (.int .i64 0)).setCell ⟨p8, 6, none⟩ (.int .i64 0)).setCell ⟨p8, 7, none⟩ (.string ⟨#[97]⟩)).setCell ⟨p8, 8, none⟩ (.string ⟨#[98]⟩)).setCell ⟨p8, 9, none⟩ (.bool false)).setCell ⟨p8, 10, none⟩ (.int .u32 0)).setCell ⟨p8, 11, none⟩ (.slice none 0 0)).setCell ⟨p8, 12, none⟩ (.slice none 0 0)) tb from by obtain ⟨q, h1, h2⟩ := HT8.out; exact ⟨q, HR9.out.rimT HK8.out h1 (by decide), h2⟩)
              have HD9 := Lib.hid (HD8.out.trans (HR9.out.below HP8.out HD8.out.size))
              clear HG8 HQ8 HT8 HD8 HR9 HK8
              generalize (((((((((((((y1.setCell ⟨p8, 0, none⟩ (.int .i64 2)).setCell ⟨p8, 1, none⟩ (.int .i64 op)).setCell ⟨p8, 2, none⟩ (.int .i64 0)).setCell ⟨p8, 3, none⟩ (.int .i64 0)).setCell ⟨p8, 4, none⟩ (.int .i64 (tag + 1))).setCell ⟨p8, 5, none⟩ (.int .i64 0)).setCell ⟨p8, 6, none⟩ (.int .i64 0)).setCell ⟨p8, 7, none⟩ (.string ⟨#[97]⟩)).setCell ⟨p8, 8, none⟩ (.string ⟨#[98]⟩)).setCell ⟨p8, 9, none⟩ (.bool false)).setCell ⟨p8, 10, none⟩ (.int .u32 0)).setCell ⟨p8, 11, none⟩ (.slice none 0 0)).setCell ⟨p8, 12, none⟩ (.slice none 0 0)) = w9 at *
              repeat (refine wpG_plain (by rfl) (by rfl) (fun K hK => ?_); go_big_quiet_op; refine hK _ ?_; clear hK K)
              refine wpG_nil ⟨⟨_, HG9.out⟩, rfl⟩ ?_
              clear hIc hFl hF2 hF8 hF9
              have hk := blk_cell HK9.out
              have hf := blk_free HK9.out
              have hl := blk_lt HK9.out
              have hop5 : (op == 5) = false := by simpa using (show ¬ op = 5 by omega)
              go_upto_region 21 with (fail)
              obtain ⟨w10, hw10⟩ : ∃ y : World, y = w9 := ⟨_, rfl⟩
              rw [← hw10] at HK9 HQ9 HG9 HT9 HD9 ⊢
              have HKA := HK9
              have HQA := HQ9
              have HGA := HG9
              have HTA := HT9
              have HDA := HD9
              clear hw10 hk hl hf HK9 HQ9 HG9 HT9 HD9 hop5
              haveI hIc : Nonempty (In (fun W : World => R1 W g (⟨z, ⟨op, st, N', 0, ⟨#[97]⟩, ⟨#[98]⟩⟩, tag + 1⟩ : Sn) ∧ W.heap[p8]? = some (.cells #[.int .i64 2, .int .i64 op, .int .i64 0, .int .i64 0, .int .i64 (tag + 1), .int .i64 0, .int .i64 0, .string ⟨#[97]⟩, .string ⟨#[98]⟩, .bool false, .int .u32 0, .slice none 0 0, .slice none 0 0] 37 (0, 0)))) := ⟨⟨_, HGA.out, HKA.out⟩⟩
              have hFl : ∀ g' : In (fun W : World => R1 W g (⟨z, ⟨op, st, N', 0, ⟨#[97]⟩, ⟨#[98]⟩⟩, tag + 1⟩ : Sn) ∧ W.heap[p8]? = some (.cells #[.int .i64 2, .int .i64 op, .int .i64 0, .int .i64 0, .int .i64 (tag + 1), .int .i64 0, .int .i64 0, .string ⟨#[97]⟩, .string ⟨#[98]⟩, .bool false, .int .u32 0, .slice none 0 0, .slice none 0 0] 37 (0, 0))), g < g'.w.heap.size := fun g' => g'.h.1.1
              have hF0 : ∀ g' : In (fun W : World => R1 W g (⟨z, ⟨op, st, N', 0, ⟨#[97]⟩, ⟨#[98]⟩⟩, tag + 1⟩ : Sn) ∧ W.heap[p8]? = some (.cells #[.int .i64 2, .int .i64 op, .int .i64 0, .int .i64 0, .int .i64 (tag + 1), .int .i64 0, .int .i64 0, .string ⟨#[97]⟩, .string ⟨#[98]⟩, .bool false, .int .u32 0, .slice none 0 0, .slice none 0 0] 37 (0, 0))), g'.w.cell? ⟨g, 0, none⟩ = some (.int .i64 z) := fun g' => g'.h.1.2.2 0 _ rfl
              have hFp : ∀ g' : In (fun W : World => R1 W g (⟨z, ⟨op, st, N', 0, ⟨#[97]⟩, ⟨#[98]⟩⟩, tag + 1⟩ : Sn) ∧ W.heap[p8]? = some (.cells #[.int .i64 2, .int .i64 op, .int .i64 0, .int .i64 0, .int .i64 (tag + 1), .int .i64 0, .int .i64 0, .string ⟨#[97]⟩, .string ⟨#[98]⟩, .bool false, .int .u32 0, .slice none 0 0, .slice none 0 0] 37 (0, 0))), p8 < g'.w.heap.size := fun g' => blk_lt g'.h.2
              have hFq : ∀ g' : In (fun W : World => R1 W g (⟨z, ⟨op, st, N', 0, ⟨#[97]⟩, ⟨#[98]⟩⟩, tag + 1⟩ : Sn) ∧ W.heap[p8]? = some (.cells #[.int .i64 2, .int .i64 op, .int .i64 0, .int .i64 0, .int .i64 (tag + 1), .int .i64 0, .int .i64 0, .string ⟨#[97]⟩, .string ⟨#[98]⟩, .bool false, .int .u32 0, .slice none 0 0, .slice none 0 0] 37 (0, 0))), ∀ n, g'.w.cell? ⟨p8, n, none⟩ = (#[.int .i64 2, .int .i64 op, .int .i64 0, .int .i64 0, .int .i64 (tag + 1), .int .i64 0, .int .i64 0, .string ⟨#[97]⟩, .string ⟨#[98]⟩, .bool false, .int .u32 0, .slice none 0 0, .slice none 0 0] : Array Value)[n]? := fun g' => blk_cell g'.h.2
              refine wp_region_chain (fun w' => ∃ g' : In (fun W : World => R1 W g (⟨z, ⟨op, st, N', 0, ⟨#[97]⟩, ⟨#[98]⟩⟩, tag + 1⟩ : Sn) ∧ W.heap[p8]? = some (.cells #[.int .i64 2, .int .i64 op, .int .i64 0, .int .i64 0, .int .i64 (tag + 1), .int .i64 0, .int .i64 0, .string ⟨#[97]⟩, .string ⟨#[98]⟩, .bool false, .int .u32 0, .slice none 0 0, .slice none 0 0] 37 (0, 0))), w' = g'.w) (by kernel_rfl) (by kernel_rfl) (by kernel_rfl) ?_
              have HGB := Lib.hid (HGA.out.ext (Below.refl w10.heap.size w10).drew)
              have HQB := Lib.hid (HQA.out.ext (Below.refl w10.heap.size w10).drew)
              have HTB2 := Lib.hid (HTA.out.ext (Below.refl w10.heap.size w10).drew)
              have HDB := Lib.hid (ext_trans HDA.out (Below.refl w10.heap.size w10).drew)
              have HKB := Lib.hid (blk_drew HKA.out)
              clear HGA HQA HTA HDA HKA
              generalize w10.drew = w11 at *
              repeat (refine wpG_plain (by rfl) (by rfl) (fun K hK => ?_); go_big_quiet_op; refine hK _ ?_; clear hK K)
              refine wpG_call (by rfl) (by rfl) ⟨⟨_, HGB.out, HKB.out⟩, rfl⟩ (fun K hK => ?_)
              go_big_op
              refine (agReceive ab KAB [0, 1] s' op (tag + 1) 0 ⟨#[97]⟩ ⟨#[98]⟩ false 0 z w11 HQB.out hz (OkA.reg (by omega)) hop.symm htg.symm hwt).mono ?_
              rintro e w12 ⟨rfl, hq, hr⟩
              have HQC := Lib.hid hq
              have HGC := Lib.hid (HGB.out.agp HQB.out hr)
              have HTC := Lib.hid (HTB2.out.agp HQB.out hr)
              have HDC := Lib.hid (HDB.out.trans (hr.below HAB.out HDB.out.size))
              have HKC := Lib.hid (AgP.other HQB.out hr HKB.out (by decide))
              refine hK _ _ ?_
              clear hK K hq hr HGB HQB HTB2 HDB HKB
              repeat (refine wpG_plain (by rfl) (by rfl) (fun K hK => ?_); go_big_quiet_op; refine hK _ ?_; clear hK K)
              refine wpG_call (by rfl) (by rfl) ⟨⟨_, HGC.out, HKC.out⟩, rfl⟩ (fun K hK => ?_)
              go_big_op
              refine (agWaits ab KAB [0, 1] _ w12 HQC.out).mono ?_
              rw [ans_wt]
              rintro e wx ⟨rfl, rfl⟩
              refine hK _ _ ?_
              clear hK K
              repeat (refine wpG_plain (by rfl) (by rfl) (fun K hK => ?_); go_big_quiet_op; refine hK _ ?_; clear hK K)
              refine wpG_nil ⟨⟨_, HGC.out, HKC.out⟩, rfl⟩ ?_
              clear hIc hFl hF0 hFp hFq
              go_wp2
              go_roundw
              case rel => exact ⟨J + 1, J + 1, _, false, by omega, by go_num, by go_num, by go_num, rfl, by first | rfl | (rw [ans_tag, htg]), HTC.out, HQC.out, by have := HO2.out; first | exact this | simpa using this, HDC.out⟩
              case measure => simp [intOf]; omega
            · have hvd : decide (0 < v6) = false := decide_eq_false hv
              go_wp2
              go_roundw
              case rel => exact ⟨J + 1, J + 1, _, true, by omega, by go_num, by go_num, by go_num, rfl, by first | rfl | (rw [htg]), HT6.out, HQ6.out, by have := HO1.out; first | exact this | simpa using this, HD6.out⟩
              case measure => simp [intOf]; omega
          · dsimp only at hop HO2
            -- the tape is asked
            go_wp2_with fail
            refine (tapeNextK ra rlen rcap rz tb 3 w5 HT5.out (show RowOk ra rlen rcap rz _ tb from ⟨HR.out.ext HD5.out, HNE.out⟩) (by omega) (by omega)).mono ?_
            rintro e w6 ⟨v6, rfl, hv0, hv1, ht, hb⟩
            have HQ6 := Lib.hid (HQ5.out.bar HT5.out hb)
            have HG6 := Lib.hid (R1.keep HG5.out hb.size fun b cur hc => by obtain ⟨q, h1, -⟩ := HT5.out; exact ((rim_bar hb).rimT h1 hc (by decide)).trans hc.symm)
            have HD6 := Lib.hid (HD5.out.trans (hb.below HTB.out HD5.out.size))
            have HT6 := Lib.hid ht
            clear ht hb HQ5 HG5 HD5 HT5
            by_cases hv : 0 < v6
            · have hvd : decide (0 < v6) = true := decide_eq_true hv
              go_upto_region 18 with (fail)
              haveI hIc : Nonempty (In (fun W : World => R1 W g (⟨z, ⟨5, 0, 0, q', ⟨#[]⟩, ⟨#[]⟩⟩, tag + 1⟩ : Sn))) := ⟨⟨_, HG6.out⟩⟩
              have hFl : ∀ g' : In (fun W : World => R1 W g (⟨z, ⟨5, 0, 0, q', ⟨#[]⟩, ⟨#[]⟩⟩, tag + 1⟩ : Sn)), g < g'.w.heap.size := fun g' => g'.h.1
              have hF2 : ∀ g' : In (fun W : World => R1 W g (⟨z, ⟨5, 0, 0, q', ⟨#[]⟩, ⟨#[]⟩⟩, tag + 1⟩ : Sn)), g'.w.cell? ⟨g, 2, none⟩ = some (.int .i64 5) := fun g' => g'.h.2.2 2 _ rfl
              have hF8 : ∀ g' : In (fun W : World => R1 W g (⟨z, ⟨5, 0, 0, q', ⟨#[]⟩, ⟨#[]⟩⟩, tag + 1⟩ : Sn)), g'.w.cell? ⟨g, 8, none⟩ = some (.string ⟨#[]⟩) := fun g' => g'.h.2.2 8 _ rfl
              have hF9 : ∀ g' : In (fun W : World => R1 W g (⟨z, ⟨5, 0, 0, q', ⟨#[]⟩, ⟨#[]⟩⟩, tag + 1⟩ : Sn)), g'.w.cell? ⟨g, 9, none⟩ = some (.string ⟨#[]⟩) := fun g' => g'.h.2.2 9 _ rfl
              refine wp_region_chain (fun w' => ∃ g' : In (fun W : World => R1 W g (⟨z, ⟨5, 0, 0, q', ⟨#[]⟩, ⟨#[]⟩⟩, tag + 1⟩ : Sn)), w' = g'.w) (by kernel_rfl) (by kernel_rfl) (by kernel_rfl) ?_
              have HG7 := Lib.hid (HG6.out.ext (Below.refl w6.heap.size w6).drew)
              have HQ7 := Lib.hid (HQ6.out.ext (Below.refl w6.heap.size w6).drew)
              have HT7 := Lib.hid (HT6.out.ext (Below.refl w6.heap.size w6).drew)
              have HD7 := Lib.hid (ext_trans HD6.out (Below.refl w6.heap.size w6).drew)
              clear HG6 HQ6 HT6 HD6
              generalize w6.drew = y0 at *
              repeat (refine wpG_plain (by rfl) (by rfl) (fun K hK => ?_); go_big_quiet_op; refine hK _ ?_; clear hK K)
              have E8 := Lib.hid (show Below y0.heap.size y0 (y0.alloc (.cells #[.int .i64 0, .int .i64 0, .int .i64 0, .int .i64 0, .int .i64 0, .int .i64 0, .int .i64 0, .string ⟨#[]⟩, .string ⟨#[]⟩, .bool false, .int .u32 0, .slice none 0 0, .slice none 0 0] 37)) from (Below.refl _ _).alloc (Nat.le_refl _) _)
              have HK8 := Lib.hid (blk_new y0 #[.int .i64 0, .int .i64 0, .int .i64 0, .int .i64 0, .int .i64 0, .int .i64 0, .int .i64 0, .string ⟨#[]⟩, .string ⟨#[]⟩, .bool false, .int .u32 0, .slice none 0 0, .slice none 0 0] 37)
              have HG8 := Lib.hid (HG7.out.ext E8.out)
              have HQ8 := Lib.hid (HQ7.out.ext E8.out)
              have HT8 := Lib.hid (HT7.out.ext E8.out)
              have HD8 := Lib.hid (ext_trans HD7.out E8.out)
              refine wpG_call (by rfl) (by rfl) ⟨⟨_, HG7.out⟩, rfl⟩ (fun K hK => ?_)
              go_big_op
              refine hK _ _ ?_
              clear hK K
              obtain ⟨p8, hp8⟩ : ∃ p, y0.heap.size = p := ⟨_, rfl⟩
              have HP8 := Lib.hid (show w.heap.size ≤ p8 from by rw [← hp8]; exact HD7.out.size)
              rw [hp8] at HK8
              try rw [hp8]
              clear hp8 HG7 HQ7 HT7 HD7 E8
              generalize (y0.alloc (.cells #[.int .i64 0, .int .i64 0, .int .i64 0, .int .i64 0, .int .i64 0, .int .i64 0, .int .i64 0, .string ⟨#[]⟩, .string ⟨#[]⟩, .bool false, .int .u32 0, .slice none 0 0, .slice none 0 0] 37)) = y1 at *
              repeat (refine wpG_plain (by rfl) (by rfl) (fun K hK => ?_); go_big_quiet_op; refine hK _ ?_; clear hK K)
              have hk := blk_cell HK8.out
              have hf := blk_free HK8.out
              have hl := blk_lt HK8.out
              have HR9 := Lib.hid (Rim13 (b := p8) (v0 := .int .i64 2) (v1 := .int .i64 5) (v2 := .int .i64 0) (v3 := .int .i64 0) (v4 := .int .i64 (tag + 1)) (v5 := .int .i64 0) (v6 := .int .i64 0) (v7 := .string ⟨#[]⟩) (v8 := .string ⟨#[]⟩) (v9 := .bool false) (v10 := .int .u32 0) (v11 := .slice none 0 0) (v12 := .slice none 0 0) (Rim.of (Below.refl y1.heap.size y1)))
              have HK9 := Lib.hid (blk_fill13 (v0 := .int .i64 2) (v1 := .int .i64 5) (v2 := .int .i64 0) (v3 := .int .i64 0) (v4 := .int .i64 (tag + 1)) (v5 := .int .i64 0) (v6 := .int .i64 0) (v7 := .string ⟨#[]⟩) (v8 := .string ⟨#[]⟩) (v9 := .bool false) (v10 := .int .u32 0) (v11 := .slice none 0 0) (v12 := .slice none 0 0) HK8.out rfl)
              refine wpG_call (by rfl) (by rfl) ⟨⟨_, HG8.out⟩, rfl⟩ (fun K hK => ?_)
              go_big_op
              refine hK _ _ ?_
              clear hK K hk hf hl
              have HG9 := Lib.hid (HG8.out.rim HR9.out HK8.out (by decide))
              have HQ9 := Lib.hid (HQ8.out.rimO HR9.out HK8.out (by decide) (by decide) (by decide))
              have HT9 := Lib.hid (show TapeK ra rlen rcap (((((((((((((y1.setCell ⟨p8, 0, none⟩ (.int .i64 2)).setCell ⟨p8, 1, none⟩ (.int .i64 5)).setCell ⟨p8, 2, none⟩ (.int .i64 0)).setCell ⟨p8, 3, none⟩ (.int .i64 0)).setCell ⟨p8, 4, none⟩ (.int .i64 (tag + 1))).setCell ⟨p8, 5, none⟩ (.int .i64 0)).setCell ⟨p8, 6, none⟩ (.int .i64 0)).setCell ⟨p8, 7, none⟩ (.string ⟨#[]⟩)).setCell ⟨p8, 8, none⟩ (.string ⟨#[]⟩)).setCell ⟨p8, 9, none⟩ (.bool false)).setCell ⟨p8, 10, none⟩ (.int .u32 0)).setCell ⟨p8, 11, none⟩ (.slice none 0 0)).setCell ⟨p8, 12, none⟩ (.slice none 0 0)) tb from by obtain ⟨q, h1, h2⟩ := HT8.out; exact ⟨q, HR9.out.rimT HK8.out h1 (by decide), h2⟩)
              have HD9 := Lib.hid (HD8.out.trans (HR9.out.below HP8.out HD8.out.size))
              clear HG8 HQ8 HT8 HD8 HR9 HK8
              generalize (((((((((((((y1.setCell ⟨p8, 0, none⟩ (.int .i64 2)).setCell ⟨p8, 1, none⟩ (.int .i64 5)).setCell ⟨p8, 2, none⟩ (.int .i64 0)).setCell ⟨p8, 3, none⟩ (.int .i64 0)).setCell ⟨p8, 4, none⟩ (.int .i64 (tag + 1))).setCell ⟨p8, 5, none⟩ (.int .i64 0)).setCell ⟨p8, 6, none⟩ (.int .i64 0)).setCell ⟨p8, 7, none⟩ (.string ⟨#[]⟩)).setCell ⟨p8, 8, none⟩ (.string ⟨#[]⟩)).setCell ⟨p8, 9, none⟩ (.bool false)).setCell ⟨p8, 10, none⟩ (.int .u32 0)).setCell ⟨p8, 11, none⟩ (.slice none 0 0)).setCell ⟨p8, 12, none⟩ (.slice none 0 0)) = w9 at *
              repeat (refine wpG_plain (by rfl) (by rfl) (fun K hK => ?_); go_big_quiet_op; refine hK _ ?_; clear hK K)
              refine wpG_nil ⟨⟨_, HG9.out⟩, rfl⟩ ?_
              clear hIc hFl hF2 hF8 hF9
              have hk := blk_cell HK9.out
              have hf := blk_free HK9.out
              have hl := blk_lt HK9.out
              go_upto_region 21 with (fail)
              have HKA := Lib.hid (show ((w9.setCell ⟨p8, 9, none⟩ (.bool true)).setCell ⟨p8, 10, none⟩ (.int .u32 17)).heap[p8]? = some (.cells #[.int .i64 2, .int .i64 5, .int .i64 0, .int .i64 0, .int .i64 (tag + 1), .int .i64 0, .int .i64 0, .string ⟨#[]⟩, .string ⟨#[]⟩, .bool true, .int .u32 17, .slice none 0 0, .slice none 0 0] 37 (0, 0)) from blk_set (n := 10) (blk_set (n := 9) (vs' := #[.int .i64 2, .int .i64 5, .int .i64 0, .int .i64 0, .int .i64 (tag + 1), .int .i64 0, .int .i64 0, .string ⟨#[]⟩, .string ⟨#[]⟩, .bool true, .int .u32 0, .slice none 0 0, .slice none 0 0]) HK9.out (by first | rfl | simp)) (by first | rfl | simp))
              have hr : Rim p8 w9 ((w9.setCell ⟨p8, 9, none⟩ (.bool true)).setCell ⟨p8, 10, none⟩ (.int .u32 17)) := rim_set (rim_set (Rim.of (Below.refl _ _)))
              have HQA := Lib.hid (HQ9.out.rimO hr HK9.out (by decide) (by decide) (by decide))
              have HGA := Lib.hid (HG9.out.rim hr HK9.out (by decide))
              have HTA := Lib.hid (show TapeK ra rlen rcap ((w9.setCell ⟨p8, 9, none⟩ (.bool true)).setCell ⟨p8, 10, none⟩ (.int .u32 17)) tb from by obtain ⟨q, h1, h2⟩ := HT9.out; exact ⟨q, hr.rimT HK9.out h1 (by decide), h2⟩)
              have HDA := Lib.hid (HD9.out.trans (hr.below HP8.out HD9.out.size))
              clear hr hk hl hf HK9 HQ9 HG9 HT9 HD9
              generalize ((w9.setCell ⟨p8, 9, none⟩ (.bool true)).setCell ⟨p8, 10, none⟩ (.int .u32 17)) = w10 at *
              haveI hIc : Nonempty (In (fun W : World => R1 W g (⟨z, ⟨5, 0, 0, q', ⟨#[]⟩, ⟨#[]⟩⟩, tag + 1⟩ : Sn) ∧ W.heap[p8]? = some (.cells #[.int .i64 2, .int .i64 5, .int .i64 0, .int .i64 0, .int .i64 (tag + 1), .int .i64 0, .int .i64 0, .string ⟨#[]⟩, .string ⟨#[]⟩, .bool true, .int .u32 17, .slice none 0 0, .slice none 0 0] 37 (0, 0)))) := ⟨⟨_, HGA.out, HKA.out⟩⟩
              have hFl : ∀ g' : In (fun W : World => R1 W g (⟨z, ⟨5, 0, 0, q', ⟨#[]⟩, ⟨#[]⟩⟩, tag + 1⟩ : Sn) ∧ W.heap[p8]? = some (.cells #[.int .i64 2, .int .i64 5, .int .i64 0, .int .i64 0, .int .i64 (tag + 1), .int .i64 0, .int .i64 0, .string ⟨#[]⟩, .string ⟨#[]⟩, .bool true, .int .u32 17, .slice none 0 0, .slice none 0 0] 37 (0, 0))), g < g'.w.heap.size := fun g' => g'.h.1.1
              have hF0 : ∀ g' : In (fun W : World => R1 W g (⟨z, ⟨5, 0, 0, q', ⟨#[]⟩, ⟨#[]⟩⟩, tag + 1⟩ : Sn) ∧ W.heap[p8]? = some (.cells #[.int .i64 2, .int .i64 5, .int .i64 0, .int .i64 0, .int .i64 (tag + 1), .int .i64 0, .int .i64 0, .string ⟨#[]⟩, .string ⟨#[]⟩, .bool true, .int .u32 17, .slice none 0 0, .slice none 0 0] 37 (0, 0))), g'.w.cell? ⟨g, 0, none⟩ = some (.int .i64 z) := fun g' => g'.h.1.2.2 0 _ rfl
              have hFp : ∀ g' : In (fun W : World => R1 W g (⟨z, ⟨5, 0, 0, q', ⟨#[]⟩, ⟨#[]⟩⟩, tag + 1⟩ : Sn) ∧ W.heap[p8]? = some (.cells #[.int .i64 2, .int .i64 5, .int .i64 0, .int .i64 0, .int .i64 (tag + 1), .int .i64 0, .int .i64 0, .string ⟨#[]⟩, .string ⟨#[]⟩, .bool true, .int .u32 17, .slice none 0 0, .slice none 0 0] 37 (0, 0))), p8 < g'.w.heap.size := fun g' => blk_lt g'.h.2
              have hFq : ∀ g' : In (fun W : World => R1 W g (⟨z, ⟨5, 0, 0, q', ⟨#[]⟩, ⟨#[]⟩⟩, tag + 1⟩ : Sn) ∧ W.heap[p8]? = some (.cells #[.int .i64 2, .int .i64 5, .int .i64 0, .int .i64 0, .int .i64 (tag + 1), .int .i64 0, .int .i64 0, .string ⟨#[]⟩, .string ⟨#[]⟩, .bool true, .int .u32 17, .slice none 0 0, .slice none 0 0] 37 (0, 0))), ∀ n, g'.w.cell? ⟨p8, n, none⟩ = (#[.int .i64 2, .int .i64 5, .int .i64 0, .int .i64 0, .int .i64 (tag + 1), .int .i64 0, .int .i64 0, .string ⟨#[]⟩, .string ⟨#[]⟩, .bool true, .int .u32 17, .slice none 0 0, .slice none 0 0] : Array Value)[n]? := fun g' => blk_cell g'.h.2
              refine wp_region_chain (fun w' => ∃ g' : In (fun W : World => R1 W g (⟨z, ⟨5, 0, 0, q', ⟨#[]⟩, ⟨#[]⟩⟩, tag + 1⟩ : Sn) ∧ W.heap[p8]? = some (.cells #[.int .i64 2, .int .i64 5, .int .i64 0, .int .i64 0, .int .i64 (tag + 1), .int .i64 0, .int .i64 0, .string ⟨#[]⟩, .string ⟨#[]⟩, .bool true, .int .u32 17, .slice none 0 0, .slice none 0 0] 37 (0, 0))), w' = g'.w) (by kernel_rfl) (by kernel_rfl) (by kernel_rfl) ?_
              have HGB := Lib.hid (HGA.out.ext (Below.refl w10.heap.size w10).drew)
              have HQB := Lib.hid (HQA.out.ext (Below.refl w10.heap.size w10).drew)
              have HTB2 := Lib.hid (HTA.out.ext (Below.refl w10.heap.size w10).drew)
              have HDB := Lib.hid (ext_trans HDA.out (Below.refl w10.heap.size w10).drew)
              have HKB := Lib.hid (blk_drew HKA.out)
              clear HGA HQA HTA HDA HKA
              generalize w10.drew = w11 at *
              repeat (refine wpG_plain (by rfl) (by rfl) (fun K hK => ?_); go_big_quiet_op; refine hK _ ?_; clear hK K)
              refine wpG_call (by rfl) (by rfl) ⟨⟨_, HGB.out, HKB.out⟩, rfl⟩ (fun K hK => ?_)
              go_big_op
              refine (agReceive ab KAB [0, 1] s' 5 (tag + 1) 0 ⟨#[]⟩ ⟨#[]⟩ true 17 z w11 HQB.out hz OkA.fed hop.symm htg.symm hwt).mono ?_
              rintro e w12 ⟨rfl, hq, hr⟩
              have HQC := Lib.hid hq
              have HGC := Lib.hid (HGB.out.agp HQB.out hr)
              have HTC := Lib.hid (HTB2.out.agp HQB.out hr)
              have HDC := Lib.hid (HDB.out.trans (hr.below HAB.out HDB.out.size))
              have HKC := Lib.hid (AgP.other HQB.out hr HKB.out (by decide))
              refine hK _ _ ?_
              clear hK K hq hr HGB HQB HTB2 HDB HKB
              repeat (refine wpG_plain (by rfl) (by rfl) (fun K hK => ?_); go_big_quiet_op; refine hK _ ?_; clear hK K)
              refine wpG_call (by rfl) (by rfl) ⟨⟨_, HGC.out, HKC.out⟩, rfl⟩ (fun K hK => ?_)
              go_big_op
              refine (agWaits ab KAB [0, 1] _ w12 HQC.out).mono ?_
              rw [ans_wt]
              rintro e wx ⟨rfl, rfl⟩
              refine hK _ _ ?_
              clear hK K
              repeat (refine wpG_plain (by rfl) (by rfl) (fun K hK => ?_); go_big_quiet_op; refine hK _ ?_; clear hK K)
              refine wpG_nil ⟨⟨_, HGC.out, HKC.out⟩, rfl⟩ ?_
              clear hIc hFl hF0 hFp hFq
              go_wp2
              go_roundw
              case rel => exact ⟨J + 1, J + 1, _, false, by omega, by go_num, by go_num, by go_num, rfl, by first | rfl | (rw [ans_tag, htg]), HTC.out, HQC.out, by have := HO2.out; first | exact this | simpa using this, HDC.out⟩
              case measure => simp [intOf]; omega
            · have hvd : decide (0 < v6) = false := decide_eq_false hv
              go_wp2
              go_roundw
              case rel => exact ⟨J + 1, J + 1, _, true, by omega, by go_num, by go_num, by go_num, rfl, by first | rfl | (rw [htg]), HT6.out, HQ6.out, by have := HO1.out; first | exact this | simpa using this, HD6.out⟩
              case measure => simp [intOf]; omega
        · have hx8 : decide (J + 1 - asked < 8) = false := decide_eq_false (by have := HEX.out rfl; omega)
          go_upto_region 17 with (fail)
          clear hgl r5
          rcases hm with ⟨op, st, N', hops, rfl⟩ | ⟨q', rfl⟩
          · dsimp only at hop HO2
            -- the tape is asked
            go_wp2_with fail
            refine (tapeNextK ra rlen rcap rz tb 3 w5 HT5.out (show RowOk ra rlen rcap rz _ tb from ⟨HR.out.ext HD5.out, HNE.out⟩) (by omega) (by omega)).mono ?_
            rintro e w6 ⟨v6, rfl, hv0, hv1, ht, hb⟩
            have HQ6 := Lib.hid (HQ5.out.bar HT5.out hb)
            have HG6 := Lib.hid (R1.keep HG5.out hb.size fun b cur hc => by obtain ⟨q, h1, -⟩ := HT5.out; exact ((rim_bar hb).rimT h1 hc (by decide)).trans hc.symm)
            have HD6 := Lib.hid (HD5.out.trans (hb.below HTB.out HD5.out.size))
            have HT6 := Lib.hid ht
            clear ht hb HQ5 HG5 HD5 HT5
            by_cases hv : 0 < v6
            · have hvd : decide (0 < v6) = true := decide_eq_true hv
              go_upto_region 18 with (fail)
              haveI hIc : Nonempty (In (fun W : World => R1 W g (⟨z, ⟨op, st, N', 0, ⟨#[97]⟩, ⟨#[98]⟩⟩, tag + 1⟩ : Sn))) := ⟨⟨_, HG6.out⟩⟩
              have hFl : ∀ g' : In (fun W : World => R1 W g (⟨z, ⟨op, st, N', 0, ⟨#[97]⟩, ⟨#[98]⟩⟩, tag + 1⟩ : Sn)), g < g'.w.heap.size := fun g' => g'.h.1
              have hF2 : ∀ g' : In (fun W : World => R1 W g (⟨z, ⟨op, st, N', 0, ⟨#[97]⟩, ⟨#[98]⟩⟩, tag + 1⟩ : Sn)), g'.w.cell? ⟨g, 2, none⟩ = some (.int .i64 op) := fun g' => g'.h.2.2 2 _ rfl
              have hF8 : ∀ g' : In (fun W : World => R1 W g (⟨z, ⟨op, st, N', 0, ⟨#[97]⟩, ⟨#[98]⟩⟩, tag + 1⟩ : Sn)), g'.w.cell? ⟨g, 8, none⟩ = some (.string ⟨#[97]⟩) := fun g' => g'.h.2.2 8 _ rfl
              have hF9 : ∀ g' : In (fun W : World => R1 W g (⟨z, ⟨op, st, N', 0, ⟨#[97]⟩, ⟨#[98]⟩⟩, tag + 1⟩ : Sn)), g'.w.cell? ⟨g, 9, none⟩ = some (.string ⟨#[98]⟩) := fun g' => g'.h.2.2 9 _ rfl
              refine wp_region_chain (fun w' => ∃ g' : In (fun W : World => R1 W g (⟨z, ⟨op, st, N', 0, ⟨#[97]⟩, ⟨#[98]⟩⟩, tag + 1⟩ : Sn)), w' = g'.w) (by kernel_rfl) (by kernel_rfl) (by kernel_rfl) ?_
              have HG7 := Lib.hid (HG6.out.ext (Below.refl w6.heap.size w6).drew)
              have HQ7 := Lib.hid (HQ6.out.ext (Below.refl w6.heap.size w6).drew)
              have HT7 := Lib.hid (HT6.out.ext (Below.refl w6.heap.size w6).drew)
              have HD7 := Lib.hid (ext_trans HD6.out (Below.refl w6.heap.size w6).drew)
              clear HG6 HQ6 HT6 HD6
              generalize w6.drew = y0 at *
              repeat (refine wpG_plain (by rfl) (by rfl) (fun K hK => ?_); go_big_quiet_op; refine hK _ ?_; clear hK K)
              have E8 := Lib.hid (show Below y0.heap.size y0 (y0.alloc (.cells #[.int .i64 0, .int .i64 0, .int .i64 0, .int .i64 0, .int .i64 0, .int .i64 0, .int .i64 0, .string ⟨#[]⟩, .string ⟨#[]⟩, .bool false, .int .u32 0, .slice none 0 0, .slice none 0 0] 37)) from (Below.refl _ _).alloc (Nat.le_refl _) _)
              have HK8 := Lib.hid (blk_new y0 #[.int .i64 0, .int .i64 0, .int .i64 0, .int .i64 0, .int .i64 0, .int .i64 0, .int .i64 0, .string ⟨#[]⟩, .string ⟨#[]⟩, .bool false, .int .u32 0, .slice none 0 0, .slice none 0 0] 37)
              have HG8 := Lib.hid (HG7.out.ext E8.out)
              have HQ8 := Lib.hid (HQ7.out.ext E8.out)
              have HT8 := Lib.hid (HT7.out.ext E8.out)
              have HD8 := Lib.hid (ext_trans HD7.out E8.out)
              refine wpG_call (by rfl) (by rfl) ⟨⟨_, HG7.out⟩, rfl⟩ (fun K hK => ?_)
              go_big_op
              refine hK _ _ ?_
              clear hK K
              obtain ⟨p8, hp8⟩ : ∃ p, y0.heap.size = p := ⟨_, rfl⟩
              have HP8 := Lib.hid (show w.heap.size ≤ p8 from by rw [← hp8]; exact HD7.out.size)
              rw [hp8] at HK8
              try rw [hp8]
              clear hp8 HG7 HQ7 HT7 HD7 E8
              generalize (y0.alloc (.cells #[.int .i64 0, .int .i64 0, .int .i64 0, .int .i64 0, .int .i64 0, .int .i64 0, .int .i64 0, .string ⟨#[]⟩, .string ⟨#[]⟩, .bool false, .int .u32 0, .slice none 0 0, .slice none 0 0] 37)) = y1 at *
              repeat (refine wpG_plain (by rfl) (by rfl) (fun K hK => ?_); go_big_quiet_op; refine hK _ ?_; clear hK K)
              have hk := blk_cell HK8.out
              have hf := blk_free HK8.out
              have hl := blk_lt HK8.out
              have HR9 := Lib.hid (Rim13 (b := p8) (v0 := .int .i64 2) (v1 := .int .i64 op) (v2 := .int .i64 0) (v3 := .int .i64 0) (v4 := .int .i64 (tag + 1)) (v5 := .int .i64 0) (v6 := .int .i64 0) (v7 := .string ⟨#[97]⟩) (v8 := .string ⟨#[98]⟩) (v9 := .bool false) (v10 := .int .u32 0) (v11 := .slice none 0 0) (v12 := .slice none 0 0) (Rim.of (Below.refl y1.heap.size y1)))
              have HK9 := Lib.hid (blk_fill13 (v0 := .int .i64 2) (v1 := .int .i64 op) (v2 := .int .i64 0) (v3 := .int .i64 0) (v4 := .int .i64 (tag + 1)) (v5 := .int .i64 0) (v6 := .int .i64 0) (v7 := .string ⟨#[97]⟩) (v8 := .string ⟨#[98]⟩) (v9 := .bool false) (v10 := .int .u32 0) (v11 := .slice none 0 0) (v12 := .slice none 0 0) HK8.out rfl)
              refine wpG_call (by rfl) (by rfl) ⟨⟨_, HG8.out⟩, rfl⟩ (fun K hK => ?_)
              go_big_op
              refine hK _ _ ?_
              clear hK K hk hf hl
              have HG9 := Lib.hid (HG8.out.rim HR9.out HK8.out (by decide))
              have HQ9 := Lib.hid (HQ8.out.rimO HR9.out HK8.out (by decide) (by decide) (by decide))
              have HT9 := Lib.hid (show TapeK ra rlen rcap (((((((((((((y1.setCell ⟨p8, 0, none⟩ (.int .i64 2)).setCell ⟨p8, 1, none⟩ (.int .i64 op)).setCell ⟨p8, 2, none⟩ (.int .i64 0)).setCell ⟨p8, 3, none⟩ (.int .i64 0)).setCell ⟨p8, 4, none⟩ (.int .i64 (tag + 1))).setCell ⟨p8, 5, none⟩ (.int .i64 0)).setCell ⟨p8, 6, none⟩ (.int .i64 0)).setCell ⟨p8, 7, none⟩ (.string ⟨#[97]⟩)).setCell ⟨p8, 8, none⟩ (.string ⟨#[98]⟩)).setCell ⟨p8, 9, none⟩ (.bool false)).setCell ⟨p8, 10, none⟩ (.int .u32 0)).setCell ⟨p8, 11, none⟩ (.slice none 0 0)).setCell ⟨p8, 12, none⟩ (.slice none 0 0)) tb from by obtain ⟨q, h1, h2⟩ := HT8.out; exact ⟨q, HR9.out.rimT HK8.out h1 (by decide), h2⟩)
              have HD9 := Lib.hid (HD8.out.trans (HR9.out.below HP8.out HD8.out.size))
              clear HG8 HQ8 HT8 HD8 HR9 HK8
              generalize (((((((((((((y1.setCell ⟨p8, 0, none⟩ (.int .i64 2)).setCell ⟨p8, 1, none⟩ (.int .i64 op)).setCell ⟨p8, 2, none⟩ (.int .i64 0)).setCell ⟨p8, 3, none⟩ (.int .i64 0)).setCell ⟨p8, 4, none⟩ (.int .i64 (tag + 1))).setCell ⟨p8, 5, none⟩ (.int .i64 0)).setCell ⟨p8, 6, none⟩ (.int .i64 0)).setCell ⟨p8, 7, none⟩ (.string ⟨#[97]⟩)).setCell ⟨p8, 8, none⟩ (.string ⟨#[98]⟩)).setCell ⟨p8, 9, none⟩ (.bool false)).setCell ⟨p8, 10, none⟩ (.int .u32 0)).setCell ⟨p8, 11, none⟩ (.slice none 0 0)).setCell ⟨p8, 12, none⟩ (.slice none 0 0)) = w9 at *
              repeat (refine wpG_plain (by rfl) (by rfl) (fun K hK => ?_); go_big_quiet_op; refine hK _ ?_; clear hK K)
              refine wpG_nil ⟨⟨_, HG9.out⟩, rfl⟩ ?_
              clear hIc hFl hF2 hF8 hF9
              have hk := blk_cell HK9.out
              have hf := blk_free HK9.out
              have hl := blk_lt HK9.out
              have hop5 : (op == 5) = false := by simpa using (show ¬ op = 5 by omega)
              go_upto_region 21 with (fail)
              obtain ⟨w10, hw10⟩ : ∃ y : World, y = w9 := ⟨_, rfl⟩
              rw [← hw10] at HK9 HQ9 HG9 HT9 HD9 ⊢
              have HKA := HK9
              have HQA := HQ9
              have HGA := HG9
              have HTA := HT9
              have HDA := HD9
              clear hw10 hk hl hf HK9 HQ9 HG9 HT9 HD9 hop5
              haveI hIc : Nonempty (In (fun W : World => R1 W g (⟨z, ⟨op, st, N', 0, ⟨#[97]⟩, ⟨#[98]⟩⟩, tag + 1⟩ : Sn) ∧ W.heap[p8]? = some (.cells #[.int .i64 2, .int .i64 op, .int .i64 0, .int .i64 0, .int .i64 (tag + 1), .int .i64 0, .int .i64 0, .string ⟨#[97]⟩, .string ⟨#[98]⟩, .bool false, .int .u32 0, .slice none 0 0, .slice none 0 0] 37 (0, 0)))) := ⟨⟨_, HGA.out, HKA.out⟩⟩
              have hFl : ∀ g' : In (fun W : World => R1 W g (⟨z, ⟨op, st, N', 0, ⟨#[97]⟩, ⟨#[98]⟩⟩, tag + 1⟩ : Sn) ∧ W.heap[p8]? = some (.cells #[.int .i64 2, .int .i64 op, .int .i64 0, .int .i64 0, .int .i64 (tag + 1), .int .i64 0, .int .i64 0, .string ⟨#[97]⟩, .string ⟨#[98]⟩, .bool false, .int .u32 0, .slice none 0 0, .slice none 0 0] 37 (0, 0))), g < g'.w.heap.size := fun g' => g'.h.1.1
              have hF0 : ∀ g' : In (fun W : World => R1 W g (⟨z, ⟨op, st, N', 0, ⟨#[97]⟩, ⟨#[98]⟩⟩, tag + 1⟩ : Sn) ∧ W.heap[p8]? = some (.cells #[.int .i64 2, .int .i64 op, .int .i64 0, .int .i64 0, .int .i64 (tag + 1), .int .i64 0, .int .i64 0, .string ⟨#[97]⟩, .string ⟨#[98]⟩, .bool false, .int .u32 0, .slice none 0 0, .slice none 0 0] 37 (0, 0))), g'.w.cell? ⟨g, 0, none⟩ = some (.int .i64 z) := fun g' => g'.h.1.2.2 0 _ rfl
              have hFp : ∀ g' : In (fun W : World => R1 W g (⟨z, ⟨op, st, N', 0, ⟨#[97]⟩, ⟨#[98]⟩⟩, tag + 1⟩ : Sn) ∧ W.heap[p8]? = some (.cells #[.int .i64 2, .int .i64 op, .int .i64 0, .int .i64 0, .int .i64 (tag + 1), .int .i64 0, .int .i64 0, .string ⟨#[97]⟩, .string ⟨#[98]⟩, .bool false, .int .u32 0, .slice none 0 0, .slice none 0 0] 37 (0, 0))), p8 < g'.w.heap.size := fun g' => blk_lt g'.h.2
              have hFq : ∀ g' : In (fun W : World => R1 W g (⟨z, ⟨op, st, N', 0, ⟨#[97]⟩, ⟨#[98]⟩⟩, tag + 1⟩ : Sn) ∧ W.heap[p8]? = some (.cells #[.int .i64 2, .int .i64 op, .int .i64 0, .int .i64 0, .int .i64 (tag + 1), .int .i64 0, .int .i64 0, .string ⟨#[97]⟩, .string ⟨#[98]⟩, .bool false, .int .u32 0, .slice none 0 0, .slice none 0 0] 37 (0, 0))), ∀ n, g'.w.cell? ⟨p8, n, none⟩ = (#[.int .i64 2, .int .i64 op, .int .i64 0, .int .i64 0, .int .i64 (tag + 1), .int .i64 0, .int .i64 0, .string ⟨#[97]⟩, .string ⟨#[98]⟩, .bool false, .int .u32 0, .slice none 0 0, .slice none 0 0] : Array Value)[n]? := fun g' => blk_cell g'.h.2
              refine wp_region_chain (fun w' => ∃ g' : In (fun W : World => R1 W g (⟨z, ⟨op, st, N', 0, ⟨#[97]⟩, ⟨#[98]⟩⟩, tag + 1⟩ : Sn) ∧ W.heap[p8]? = some (.cells #[.int .i64 2, .int .i64 op, .int .i64 0, .int .i64 0, .int .i64 (tag + 1), .int .i64 0, .int .i64 0, .string ⟨#[97]⟩, .string ⟨#[98]⟩, .bool false, .int .u32 0, .slice none 0 0, .slice none 0 0] 37 (0, 0))), w' = g'.w) (by kernel_rfl) (by kernel_rfl) (by kernel_rfl) ?_
              have HGB := Lib.hid (HGA.out.ext (Below.refl w10.heap.size w10).drew)
              have HQB := Lib.hid (HQA.out.ext (Below.refl w10.heap.size w10).drew)
              have HTB2 := Lib.hid (HTA.out.ext (Below.refl w10.heap.size w10).drew)
              have HDB := Lib.hid (ext_trans HDA.out (Below.refl w10.heap.size w10).drew)
              have HKB := Lib.hid (blk_drew HKA.out)
              clear HGA HQA HTA HDA HKA
              generalize w10.drew = w11 at *
              repeat (refine wpG_plain (by rfl) (by rfl) (fun K hK => ?_); go_big_quiet_op; refine hK _ ?_; clear hK K)
              refine wpG_call (by rfl) (by rfl) ⟨⟨_, HGB.out, HKB.out⟩, rfl⟩ (fun K hK => ?_)
              go_big_op
              refine (agReceive ab KAB [0, 1] s' op (tag + 1) 0 ⟨#[97]⟩ ⟨#[98]⟩ false 0 z w11 HQB.out hz (OkA.reg (by omega)) hop.symm htg.symm hwt).mono ?_
              rintro e w12 ⟨rfl, hq, hr⟩
              have HQC := Lib.hid hq
              have HGC := Lib.hid (HGB.out.agp HQB.out hr)
              have HTC := Lib.hid (HTB2.out.agp HQB.out hr)
              have HDC := Lib.hid (HDB.out.trans (hr.below HAB.out HDB.out.size))
              have HKC := Lib.hid (AgP.other HQB.out hr HKB.out (by decide))
              refine hK _ _ ?_
              clear hK K hq hr HGB HQB HTB2 HDB HKB
              repeat (refine wpG_plain (by rfl) (by rfl) (fun K hK => ?_); go_big_quiet_op; refine hK _ ?_; clear hK K)
              refine wpG_call (by rfl) (by rfl) ⟨⟨_, HGC.out, HKC.out⟩, rfl⟩ (fun K hK => ?_)
              go_big_op
              refine (agWaits ab KAB [0, 1] _ w12 HQC.out).mono ?_
              rw [ans_wt]
              rintro e wx ⟨rfl, rfl⟩
              refine hK _ _ ?_
              clear hK K
              repeat (refine wpG_plain (by rfl) (by rfl) (fun K hK => ?_); go_big_quiet_op; refine hK _ ?_; clear hK K)
              refine wpG_nil ⟨⟨_, HGC.out, HKC.out⟩, rfl⟩ ?_
              clear hIc hFl hF0 hFp hFq
              go_wp2
              go_roundw
              case rel => exact ⟨J + 1, J + 1, _, false, by omega, by go_num, by go_num, by go_num, rfl, by first | rfl | (rw [ans_tag, htg]), HTC.out, HQC.out, by have := HO2.out; first | exact this | simpa using this, HDC.out⟩
              case measure => simp [intOf]; omega
            · have hvd : decide (0 < v6) = false := decide_eq_false hv
              go_wp2
              go_roundw
              case rel => exact ⟨J + 1, J + 1, _, true, by omega, by go_num, by go_num, by go_num, rfl, by first | rfl | (rw [htg]), HT6.out, HQ6.out, by have := HO1.out; first | exact this | simpa using this, HD6.out⟩
              case measure => simp [intOf]; omega
          · dsimp only at hop HO2
            -- the tape is asked
            go_wp2_with fail
            refine (tapeNextK ra rlen rcap rz tb 3 w5 HT5.out (show RowOk ra rlen rcap rz _ tb from ⟨HR.out.ext HD5.out, HNE.out⟩) (by omega) (by omega)).mono ?_
            rintro e w6 ⟨v6, rfl, hv0, hv1, ht, hb⟩
            have HQ6 := Lib.hid (HQ5.out.bar HT5.out hb)
            have HG6 := Lib.hid (R1.keep HG5.out hb.size fun b cur hc => by obtain ⟨q, h1, -⟩ := HT5.out; exact ((rim_bar hb).rimT h1 hc (by decide)).trans hc.symm)
            have HD6 := Lib.hid (HD5.out.trans (hb.below HTB.out HD5.out.size))
            have HT6 := Lib.hid ht
            clear ht hb HQ5 HG5 HD5 HT5
            by_cases hv : 0 < v6
            · have hvd : decide (0 < v6) = true := decide_eq_true hv
              go_upto_region 18 with (fail)
              haveI hIc : Nonempty (In (fun W : World => R1 W g (⟨z, ⟨5, 0, 0, q', ⟨#[]⟩, ⟨#[]⟩⟩, tag + 1⟩ : Sn))) := ⟨⟨_, HG6.out⟩⟩
              have hFl : ∀ g' : In (fun W : World => R1 W g (⟨z, ⟨5, 0, 0, q', ⟨#[]⟩, ⟨#[]⟩⟩, tag + 1⟩ : Sn)), g < g'.w.heap.size := fun g' => g'.h.1
              have hF2 : ∀ g' : In (fun W : World => R1 W g (⟨z, ⟨5, 0, 0, q', ⟨#[]⟩, ⟨#[]⟩⟩, tag + 1⟩ : Sn)), g'.w.cell? ⟨g, 2, none⟩ = some (.int .i64 5) := fun g' => g'.h.2.2 2 _ rfl
              have hF8 : ∀ g' : In (fun W : World => R1 W g (⟨z, ⟨5, 0, 0, q', ⟨#[]⟩, ⟨#[]⟩⟩, tag + 1⟩ : Sn)), g'.w.cell? ⟨g, 8, none⟩ = some (.string ⟨#[]⟩) := fun g' => g'.h.2.2 8 _ rfl
              have hF9 : ∀ g' : In (fun W : World => R1 W g (⟨z, ⟨5, 0, 0, q', ⟨#[]⟩, ⟨#[]⟩⟩, tag + 1⟩ : Sn)), g'.w.cell? ⟨g, 9, none⟩ = some (.string ⟨#[]⟩) := fun g' => g'.h.2.2 9 _ rfl
              refine wp_region_chain (fun w' => ∃ g' : In (fun W : World => R1 W g (⟨z, ⟨5, 0, 0, q', ⟨#[]⟩, ⟨#[]⟩⟩, tag + 1⟩ : Sn)), w' = g'.w) (by kernel_rfl) (by kernel_rfl) (by kernel_rfl) ?_
              have HG7 := Lib.hid (HG6.out.ext (Below.refl w6.heap.size w6).drew)
              have HQ7 := Lib.hid (HQ6.out.ext (Below.refl w6.heap.size w6).drew)
              have HT7 := Lib.hid (HT6.out.ext (Below.refl w6.heap.size w6).drew)
              have HD7 := Lib.hid (ext_trans HD6.out (Below.refl w6.heap.size w6).drew)
              clear HG6 HQ6 HT6 HD6
              generalize w6.drew = y0 at *
              repeat (refine wpG_plain (by rfl) (by rfl) (fun K hK => ?_); go_big_quiet_op; refine hK _ ?_; clear hK K)
              have E8 := Lib.hid (show Below y0.heap.size y0 (y0.alloc (.cells #[.int .i64 0, .int .i64 0, .int .i64 0, .int .i64 0, .int .i64 0, .int .i64 0, .int .i64 0, .string ⟨#[]⟩, .string ⟨#[]⟩, .bool false, .int .u32 0, .slice none 0 0, .slice none 0 0] 37)) from (Below.refl _ _).alloc (Nat.le_refl _) _)
              have HK8 := Lib.hid (blk_new y0 #[.int .i64 0, .int .i64 0, .int .i64 0, .int .i64 0, .int .i64 0, .int .i64 0, .int .i64 0, .string ⟨#[]⟩, .string ⟨#[]⟩, .bool false, .int .u32 0, .slice none 0 0, .slice none 0 0] 37)
              have HG8 := Lib.hid (HG7.out.ext E8.out)
              have HQ8 := Lib.hid (HQ7.out.ext E8.out)
              have HT8 := Lib.hid (HT7.out.ext E8.out)
              have HD8 := Lib.hid (ext_trans HD7.out E8.out)
              refine wpG_call (by rfl) (by rfl) ⟨⟨_, HG7.out⟩, rfl⟩ (fun K hK => ?_)
              go_big_op
              refine hK _ _ ?_
              clear hK K
              obtain ⟨p8, hp8⟩ : ∃ p, y0.heap.size = p := ⟨_, rfl⟩
              have HP8 := Lib.hid (show w.heap.size ≤ p8 from by rw [← hp8]; exact HD7.out.size)
              rw [hp8] at HK8
              try rw [hp8]
              clear hp8 HG7 HQ7 HT7 HD7 E8
              generalize (y0.alloc (.cells #[.int .i64 0, .int .i64 0, .int .i64 0, .int .i64 0, .int .i64 0, .int .i64 0, .int .i64 0, .string ⟨#[]⟩, .string ⟨#[]⟩, .bool false, .int .u32 0, .slice none 0 0, .slice none 0 0] 37)) = y1 at *
              repeat (refine wpG_plain (by rfl) (by rfl) (fun K hK => ?_); go_big_quiet_op; refine hK _ ?_; clear hK K)
              have hk := blk_cell HK8.out
              have hf := blk_free HK8.out
              have hl := blk_lt HK8.out
              have HR9 := Lib.hid (Rim13 (b := p8) (v0 := .int .i64 2) (v1 := .int .i64 5) (v2 := .int .i64 0) (v3 := .int .i64 0) (v4 := .int .i64 (tag + 1)) (v5 := .int .i64 0) (v6 := .int .i64 0) (v7 := .string ⟨#[]⟩) (v8 := .string ⟨#[]⟩) (v9 := .bool false) (v10 := .int .u32 0) (v11 := .slice none 0 0) (v12 := .slice none 0 0) (Rim.of (Below.refl y1.heap.size y1)))
              have HK9 := Lib.hid (blk_fill13 (v0 := .int .i64 2) (v1 := .int .i64 5) (v2 := .int .i64 0) (v3 := .int .i64 0) (v4 := .int .i64 (tag + 1)) (v5 := .int .i64 0) (v6 := .int .i64 0) (v7 := .string ⟨#[]⟩) (v8 := .string ⟨#[]⟩) (v9 := .bool false) (v10 := .int .u32 0) (v11 := .slice none 0 0) (v12 := .slice none 0 0) HK8.out rfl)
              refine wpG_call (by rfl) (by rfl) ⟨⟨_, HG8.out⟩, rfl⟩ (fun K hK => ?_)
              go_big_op
              refine hK _ _ ?_
              clear hK K hk hf hl
              have HG9 := Lib.hid (HG8.out.rim HR9.out HK8.out (by decide))
              have HQ9 := Lib.hid (HQ8.out.rimO HR9.out HK8.out (by decide) (by decide) (by decide))
              have HT9 := Lib.hid (show TapeK ra rlen rcap (((((((((((((y1.setCell ⟨p8, 0, none⟩ (.int .i64 2)).setCell ⟨p8, 1, none⟩ (.int .i64 5)).setCell ⟨p8, 2, none⟩ (.int .i64 0)).setCell ⟨p8, 3, none⟩ (.int .i64 0)).setCell ⟨p8, 4, none⟩ (.int .i64 (tag + 1))).setCell ⟨p8, 5, none⟩ (.int .i64 0)).setCell ⟨p8, 6, none⟩ (.int .i64 0)).setCell ⟨p8, 7, none⟩ (.string ⟨#[]⟩)).setCell ⟨p8, 8, none⟩ (.string ⟨#[]⟩)).setCell ⟨p8, 9, none⟩ (.bool false)).setCell ⟨p8, 10, none⟩ (.int .u32 0)).setCell ⟨p8, 11, none⟩ (.slice none 0 0)).setCell ⟨p8, 12, none⟩ (.slice none 0 0)) tb from by obtain ⟨q, h1, h2⟩ := HT8.out; exact ⟨q, HR9.out.rimT HK8.out h1 (by decide), h2⟩)
              have HD9 := Lib.hid (HD8.out.trans (HR9.out.below HP8.out HD8.out.size))
              clear HG8 HQ8 HT8 HD8 HR9 HK8
              generalize (((((((((((((y1.setCell ⟨p8, 0, none⟩ (.int .i64 2)).setCell ⟨p8, 1, none⟩ (.int .i64 5)).setCell ⟨p8, 2, none⟩ (.int .i64 0)).setCell ⟨p8, 3, none⟩ (.int .i64 0)).setCell ⟨p8, 4, none⟩ (.int .i64 (tag + 1))).setCell ⟨p8, 5, none⟩ (.int .i64 0)).setCell ⟨p8, 6, none⟩ (.int .i64 0)).setCell ⟨p8, 7, none⟩ (.string ⟨#[]⟩)).setCell ⟨p8, 8, none⟩ (.string ⟨#[]⟩)).setCell ⟨p8, 9, none⟩ (.bool false)).setCell ⟨p8, 10, none⟩ (.int .u32 0)).setCell ⟨p8, 11, none⟩ (.slice none 0 0)).setCell ⟨p8, 12, none⟩ (.slice none 0 0)) = w9 at *
              repeat (refine wpG_plain (by rfl) (by rfl) (fun K hK => ?_); go_big_quiet_op; refine hK _ ?_; clear hK K)
              refine wpG_nil ⟨⟨_, HG9.out⟩, rfl⟩ ?_
              clear hIc hFl hF2 hF8 hF9
              have hk := blk_cell HK9.out
              have hf := blk_free HK9.out
              have hl := blk_lt HK9.out
              go_upto_region 21 with (fail)
              have HKA := Lib.hid (show ((w9.setCell ⟨p8, 9, none⟩ (.bool true)).setCell ⟨p8, 10, none⟩ (.int .u32 17)).heap[p8]? = some (.cells #[.int .i64 2, .int .i64 5, .int .i64 0, .int .i64 0, .int .i64 (tag + 1), .int .i64 0, .int .i64 0, .string ⟨#[]⟩, .string ⟨#[]⟩, .bool true, .int .u32 17, .slice none 0 0, .slice none 0 0] 37 (0, 0)) from blk_set (n := 10) (blk_set (n := 9) (vs' := #[.int .i64 2, .int .i64 5, .int .i64 0, .int .i64 0, .int .i64 (tag + 1), .int .i64 0, .int .i64 0, .string ⟨#[]⟩, .string ⟨#[]⟩, .bool true, .int .u32 0, .slice none 0 0, .slice none 0 0]) HK9.out (by first | rfl | simp)) (by first | rfl | simp))
              have hr : Rim p8 w9 ((w9.setCell ⟨p8, 9, none⟩ (.bool true)).setCell ⟨p8, 10, none⟩ (.int .u32 17)) := rim_set (rim_set (Rim.of (Below.refl _ _)))
              have HQA := Lib.hid (HQ9.out.rimO hr HK9.out (by decide) (by decide) (by decide))
              have HGA := Lib.hid (HG9.out.rim hr HK9.out (by decide))
              have HTA := Lib.hid (show TapeK ra rlen rcap ((w9.setCell ⟨p8, 9, none⟩ (.bool true)).setCell ⟨p8, 10, none⟩ (.int .u32 17)) tb from by obtain ⟨q, h1, h2⟩ := HT9.out; exact ⟨q, hr.rimT HK9.out h1 (by decide), h2⟩)
              have HDA := Lib.hid (HD9.out.trans (hr.below HP8.out HD9.out.size))
              clear hr hk hl hf HK9 HQ9 HG9 HT9 HD9
              generalize ((w9.setCell ⟨p8, 9, none⟩ (.bool true)).setCell ⟨p8, 10, none⟩ (.int .u32 17)) = w10 at *
              haveI hIc : Nonempty (In (fun W : World => R1 W g (⟨z, ⟨5, 0, 0, q', ⟨#[]⟩, ⟨#[]⟩⟩, tag + 1⟩ : Sn) ∧ W.heap[p8]? = some (.cells #[.int .i64 2, .int .i64 5, .int .i64 0, .int .i64 0, .int .i64 (tag + 1), .int .i64 0, .int .i64 0, .string ⟨#[]⟩, .string ⟨#[]⟩, .bool true, .int .u32 17, .slice none 0 0, .slice none 0 0] 37 (0, 0)))) := ⟨⟨_, HGA.out, HKA.out⟩⟩
              have hFl : ∀ g' : In (fun W : World => R1 W g (⟨z, ⟨5, 0, 0, q', ⟨#[]⟩, ⟨#[]⟩⟩, tag + 1⟩ : Sn) ∧ W.heap[p8]? = some (.cells #[.int .i64 2, .int .i64 5, .int .i64 0, .int .i64 0, .int .i64 (tag + 1), .int .i64 0, .int .i64 0, .string ⟨#[]⟩, .string ⟨#[]⟩, .bool true, .int .u32 17, .slice none 0 0, .slice none 0 0] 37 (0, 0))), g < g'.w.heap.size := fun g' => g'.h.1.1
              have hF0 : ∀ g' : In (fun W : World => R1 W g (⟨z, ⟨5, 0, 0, q', ⟨#[]⟩, ⟨#[]⟩⟩, tag + 1⟩ : Sn) ∧ W.heap[p8]? = some (.cells #[.int .i64 2, .int .i64 5, .int .i64 0, .int .i64 0, .int .i64 (tag + 1), .int .i64 0, .int .i64 0, .string ⟨#[]⟩, .string ⟨#[]⟩, .bool true, .int .u32 17, .slice none 0 0, .slice none 0 0] 37 (0, 0))), g'.w.cell? ⟨g, 0, none⟩ = some (.int .i64 z) := fun g' => g'.h.1.2.2 0 _ rfl
              have hFp : ∀ g' : In (fun W : World => R1 W g (⟨z, ⟨5, 0, 0, q', ⟨#[]⟩, ⟨#[]⟩⟩, tag + 1⟩ : Sn) ∧ W.heap[p8]? = some (.cells #[.int .i64 2, .int .i64 5, .int .i64 0, .int .i64 0, .int .i64 (tag + 1), .int .i64 0, .int .i64 0, .string ⟨#[]⟩, .string ⟨#[]⟩, .bool true, .int .u32 17, .slice none 0 0, .slice none 0 0] 37 (0, 0))), p8 < g'.w.heap.size := fun g' => blk_lt g'.h.2
              have hFq : ∀ g' : In (fun W : World => R1 W g (⟨z, ⟨5, 0, 0, q', ⟨#[]⟩, ⟨#[]⟩⟩, tag + 1⟩ : Sn) ∧ W.heap[p8]? = some (.cells #[.int .i64 2, .int .i64 5, .int .i64 0, .int .i64 0, .int .i64 (tag + 1), .int .i64 0, .int .i64 0, .string ⟨#[]⟩, .string ⟨#[]⟩, .bool true, .int .u32 17, .slice none 0 0, .slice none 0 0] 37 (0, 0))), ∀ n, g'.w.cell? ⟨p8, n, none⟩ = (#[.int .i64 2, .int .i64 5, .int .i64 0, .int .i64 0, .int .i64 (tag + 1), .int .i64 0, .int .i64 0, .string ⟨#[]⟩, .string ⟨#[]⟩, .bool true, .int .u32 17, .slice none 0 0, .slice none 0 0] : Array Value)[n]? := fun g' => blk_cell g'.h.2
              refine wp_region_chain (fun w' => ∃ g' : In (fun W : World => R1 W g (⟨z, ⟨5, 0, 0, q', ⟨#[]⟩, ⟨#[]⟩⟩, tag + 1⟩ : Sn) ∧ W.heap[p8]? = some (.cells #[.int .i64 2, .int .i64 5, .int .i64 0, .int .i64 0, .int .i64 (tag + 1), .int .i64 0, .int .i64 0, .string ⟨#[]⟩, .string ⟨#[]⟩, .bool true, .int .u32 17, .slice none 0 0, .slice none 0 0] 37 (0, 0))), w' = g'.w) (by kernel_rfl) (by kernel_rfl) (by kernel_rfl) ?_
              have HGB := Lib.hid (HGA.out.ext (Below.refl w10.heap.size w10).drew)
              have HQB := Lib.hid (HQA.out.ext (Below.refl w10.heap.size w10).drew)
              have HTB2 := Lib.hid (HTA.out.ext (Below.refl w10.heap.size w10).drew)
              have HDB := Lib.hid (ext_trans HDA.out (Below.refl w10.heap.size w10).drew)
              have HKB := Lib.hid (blk_drew HKA.out)
              clear HGA HQA HTA HDA HKA
              generalize w10.drew = w11 at *
              repeat (refine wpG_plain (by rfl) (by rfl) (fun K hK => ?_); go_big_quiet_op; refine hK _ ?_; clear hK K)
              refine wpG_call (by rfl) (by rfl) ⟨⟨_, HGB.out, HKB.out⟩, rfl⟩ (fun K hK => ?_)
              go_big_op
              refine (agReceive ab KAB [0, 1] s' 5 (tag + 1) 0 ⟨#[]⟩ ⟨#[]⟩ true 17 z w11 HQB.out hz OkA.fed hop.symm htg.symm hwt).mono ?_
              rintro e w12 ⟨rfl, hq, hr⟩
              have HQC := Lib.hid hq
              have HGC := Lib.hid (HGB.out.agp HQB.out hr)
              have HTC := Lib.hid (HTB2.out.agp HQB.out hr)
              have HDC := Lib.hid (HDB.out.trans (hr.below HAB.out HDB.out.size))
              have HKC := Lib.hid (AgP.other HQB.out hr HKB.out (by decide))
              refine hK _ _ ?_
              clear hK K hq hr HGB HQB HTB2 HDB HKB
              repeat (refine wpG_plain (by rfl) (by rfl) (fun K hK => ?_); go_big_quiet_op; refine hK _ ?_; clear hK K)
              refine wpG_call (by rfl) (by rfl) ⟨⟨_, HGC.out, HKC.out⟩, rfl⟩ (fun K hK => ?_)
              go_big_op
              refine (agWaits ab KAB [0, 1] _ w12 HQC.out).mono ?_
              rw [ans_wt]
              rintro e wx ⟨rfl, rfl⟩
              refine hK _ _ ?_
              clear hK K
              repeat (refine wpG_plain (by rfl) (by rfl) (fun K hK => ?_); go_big_quiet_op; refine hK _ ?_; clear hK K)
              refine wpG_nil ⟨⟨_, HGC.out, HKC.out⟩, rfl⟩ ?_
              clear hIc hFl hF0 hFp hFq
              go_wp2
              go_roundw
              case rel => exact ⟨J + 1, J + 1, _, false, by omega, by go_num, by go_num, by go_num, rfl, by first | rfl | (rw [ans_tag, htg]), HTC.out, HQC.out, by have := HO2.out; first | exact this | simpa using this, HDC.out⟩
              case measure => simp [intOf]; omega
            · have hvd : decide (0 < v6) = false := decide_eq_false hv
              go_wp2
              go_roundw
              case rel => exact ⟨J + 1, J + 1, _, true, by omega, by go_num, by go_num, by go_num, rfl, by first | rfl | (rw [htg]), HT6.out, HQ6.out, by have := HO1.out; first | exact this | simpa using this, HD6.out⟩
              case measure => simp [intOf]; omega
    · obtain rfl : J = 150 := by omega
      go_wp2_with fail
      refine (law22known wr).mono ?_
      rintro e w4 ⟨rfl, hb⟩
      have HD4 := Lib.hid (ext_trans HD.out hb)
      clear hb
      go_wp2
      go_ret
      exact ⟨rfl, HD4.out⟩

end Go.Proofs.Ytibgphjadiidaaa
