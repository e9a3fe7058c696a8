/- Package agent: Tick. -/
import Derived.Test.YtibgphjadiidaaaAgF
namespace Go.Proofs.Ytibgphjadiidaaa
open Go.RowKit
set_option linter.unusedVariables false
set_option linter.unusedSimpArgs false

def Bd (n : Nat) (B : Int) (s : Ag) : Prop := s.i < n ∧ 0 ≤ s.now ∧ s.now ≤ B ∧ 0 ≤ s.bl ∧ s.bl ≤ B ∧ 0 ≤ s.fl ∧ s.fl ≤ B ∧ 0 ≤ s.tag ∧ s.tag ≤ B ∧ 0 ≤ s.asked ∧ s.asked ≤ B
section
variable {n : Nat} {B : Int} {s : Ag} {k : ByteArray × ByteArray} {zs : List Int}
theorem Bd.reg (h : Bd n B s) : Bd n B (regM k s).1 := by
  obtain ⟨h1, h2, h3, h4, h5, h6, h7, h8, h9, h10, h11⟩ := h
  exact ⟨h1, h2, h3, h2, h3, h6, h7, h8, h9, h10, h11⟩
theorem Bd.next (h : Bd n B s) : Bd n B (nextM k s).1 := by
  unfold nextM
  split
  · rename_i x r hx
    unfold wantedM
    split
    · exact Bd.reg (s := { ({ s with ws := r } : Ag) with wi := true, tm := x.n, st := x.s }) h
    · split <;> exact h
  · obtain ⟨h1, h2, h3, h4, h5, h6, h7, h8, h9, h10, h11⟩ := h
    split
    · split
      · exact ⟨h1, h2, h3, h2, h3, h6, h7, h8, h9, h10, h11⟩
      · exact ⟨h1, h2, h3, h2, h3, h6, h7, h8, h9, h10, h11⟩
    · split
      · exact ⟨h1, h2, h3, h4, h5, h2, h3, h8, h9, h10, h11⟩
      · exact ⟨h1, h2, h3, h4, h5, h6, h7, h8, h9, h10, h11⟩
theorem Bd.exp (h : Bd n B s) : Bd n B (expM n s) := by
  unfold expM turnM
  split
  · obtain ⟨h1, h2, h3, h4, h5, h6, h7, h8, h9, h10, h11⟩ := h
    exact ⟨Nat.mod_lt _ (by omega), h2, h3, h4, h5, h6, h7, h8, h9, h10, h11⟩
  · exact h
theorem Bd.up (h : Bd n B s) : Bd n (B + 1) { s with now := s.now + 1 } := by
  obtain ⟨h1, h2, h3, h4, h5, h6, h7, h8, h9, h10, h11⟩ := h
  exact ⟨h1, by dsimp only; omega, by dsimp only; omega, h4, by dsimp only; omega, h6, by dsimp only; omega, h8, by dsimp only; omega, h10, by dsimp only; omega⟩
/-- behind the tick alone -/
def Bt (n : Nat) (B : Int) (s : Ag) : Prop := Bd n (B + 1) s ∧ s.tag ≤ B
theorem Bt.ask {m : Ms} (h : Bt n B s) : Bd n (B + 1) (askM s m) := by
  obtain ⟨⟨h1, h2, h3, h4, h5, h6, h7, h8, h9, h10, h11⟩, h12⟩ := h
  exact ⟨h1, h2, h3, h4, h5, h6, h7, by unfold askM; dsimp only; omega, by unfold askM; dsimp only; omega, h2, h3⟩
theorem next_tag : (nextM k s).1.tag = s.tag := by
  unfold nextM
  split
  · unfold wantedM
    split
    · rfl
    · split <;> rfl
  · split
    · split <;> rfl
    · split <;> rfl
theorem exp_tag : (expM n s).tag = s.tag := by unfold expM turnM; split <;> rfl
theorem stp_eq {u2 : Ag} (h : expM zs.length { s with now := s.now + 1 } = u2) (hw : u2.wt = true) : stpM k zs s = (u2, []) := by
  unfold stpM; simp only [h]; rw [if_pos hw]
theorem stp_no {u2 u3 : Ag} {m : Ms} (h : expM zs.length { s with now := s.now + 1 } = u2) (hw : u2.wt = false) (hx : nextM k u2 = (u3, m, false)) : stpM k zs s = (u3, []) := by
  unfold stpM; simp only [h, hx]; rw [if_neg (by rw [hw]; decide)]
theorem stp_yes {u2 u3 : Ag} {m : Ms} (h : expM zs.length { s with now := s.now + 1 } = u2) (hw : u2.wt = false) (hx : nextM k u2 = (u3, m, true)) : stpM k zs s = (askM u3 m, [⟨zs.getD u3.i 0, m, u3.tag + 1⟩]) := by
  unfold stpM; simp only [h, hx]; rw [if_neg (by rw [hw]; decide)]
theorem Bd.stp (h : Bd zs.length B s) : Bd zs.length (B + 1) (stpM k zs s).1 := by
  obtain ⟨u2, hu⟩ : ∃ u2, expM zs.length { s with now := s.now + 1 } = u2 := ⟨_, rfl⟩
  have h2 : Bd zs.length (B + 1) u2 := by rw [← hu]; exact h.up.exp
  have h3 : u2.tag ≤ B := by rw [← hu, exp_tag]; exact h.2.2.2.2.2.2.2.2.1
  rcases hw : u2.wt with _ | _
  · rcases hx : nextM k u2 with ⟨u3, m, d⟩
    have h4 : Bd zs.length (B + 1) u3 := by have := Bd.next (k := k) h2; rw [hx] at this; exact this
    have h5 : u3.tag ≤ B := by have := next_tag (k := k) (s := u2); rw [hx] at this; exact this ▸ h3
    rcases d with _ | _
    · rw [stp_no hu hw hx]; exact h4
    · rw [stp_yes hu hw hx]; exact Bt.ask ⟨h4, h5⟩
  · rw [stp_eq hu hw]; exact h2
theorem run_succ (j : Nat) : runM k zs (j + 1) s = ((stpM k zs (runM k zs j s).1).1, (runM k zs j s).2 ++ (stpM k zs (runM k zs j s).1).2) := rfl
theorem Bd.run (h : Bd zs.length B s) : ∀ j : Nat, Bd zs.length (B + j) (runM k zs j s).1
  | 0 => by have : B + ((0 : Nat) : Int) = B := by omega
            rw [this]; exact h
  | j + 1 => by
    have h2 := (Bd.run h j).stp (k := k)
    rw [run_succ]
    have : B + ((j + 1 : Nat) : Int) = B + (j : Int) + 1 := by omega
    rw [this]; exact h2
end
theorem info_sn : (Try.prog.info? 39).map (fun i => (i.zero, i.size, i.bytes)) = some (some (.agg #[.int .i64 0, .int .i64 0, .int .i64 0, .int .i64 0, .int .i64 0, .int .i64 0, .int .i64 0, .int .i64 0, .string ⟨#[]⟩, .string ⟨#[]⟩, .bool false, .int .u32 0, .slice none 0 0, .slice none 0 0]), 14, 152) := by kernel_rfl
theorem OwnR.types {α : Type} {enc : α → List Value} {k : Nat} {T : TypeId} {base : Nat} {w w' : World} {v : Value} {ls : List α} (h : OwnR enc k T base w v ls) (hk : ∀ (b : Nat) (cur : Array Value), w.heap[b]? = some (.cells cur T (0, 0)) → w'.heap[b]? = w.heap[b]?) : OwnR enc k T base w' v ls := own_blocks h hk
theorem AgP.grown {w w' : World} {ab base : Nat} {k : ByteArray × ByteArray} {zs : List Int} {s : Ag} {v : Value} {L : List Sn} (h : AgP w ab k zs s) (ho : OwnR sec 14 39 base w v L) (hg : w.grownBy w' v.ownBlock) : AgP w' ab k zs s := by
  have key : ∀ (b : Nat) (cur : Array Value) (T : TypeId), T ≠ 39 → w.heap[b]? = some (.cells cur T (0, 0)) → w'.heap[b]? = w.heap[b]? := fun b cur T hT hc => hg.block b (blk_lt hc) (fun e => by
    rcases ho.2 with ⟨e1, _⟩ | ⟨g, cap', cur', e1, hg', hh, _⟩
    · rw [e1] at e; simp [Value.ownBlock] at e
    · rw [e1] at e
      simp [Value.ownBlock] at e
      subst e
      rw [hh] at hc
      simp at hc
      exact hT hc.2.symm)
  have h0 := h
  obtain ⟨sb, sc, wa, wc, h1, -⟩ := h0
  exact h.keep (key _ _ _ (by decide) h1) fun b cur T _ hT hc => key b cur T (by rcases hT with rfl | rfl <;> decide) hc
theorem OwnR.agp {w w' : World} {ab base : Nat} {k : ByteArray × ByteArray} {zs : List Int} {s : Ag} {v : Value} {L : List Sn} (ho : OwnR sec 14 39 base w v L) (h : AgP w ab k zs s) (hr : Rim ab w w') : OwnR sec 14 39 base w' v L := by
  obtain ⟨sb, sc, wa, wc, h1, -⟩ := h
  exact ho.types fun b cur hc => (hr.rimT h1 hc (by decide)).trans hc.symm
theorem run_len {k : ByteArray × ByteArray} {zs : List Int} {s : Ag} : ∀ j : Nat, (runM k zs j s).2.length ≤ j
  | 0 => Nat.le_refl _
  | j + 1 => by
    have h := run_len (k := k) (zs := zs) (s := s) j
    rw [run_succ]
    have h2 : (stpM k zs (runM k zs j s).1).2.length ≤ 1 := by
      unfold stpM
      dsimp only
      split
      · simp
      · split <;> simp
    simp only [List.length_append]
    omega
set_option maxRecDepth 100000 in
set_option maxHeartbeats 2000000 in
theorem agTick (ab : Nat) (k : ByteArray × ByteArray) (zs : List Int) (s : Ag) (w : World) (h : AgP w ab k zs s) (n B : Int) (N : Nat) (hn : n = (N : Int)) (hN : N ≤ 1000) (hz6 : zs.length ≤ 100) (hbd : Bd zs.length B s) (hB0 : 0 ≤ B) (hB : B ≤ 900000) :
    Calls Try.prog 10 #[.pointer (some ⟨ab, 0, none⟩), .int .i64 n] w fun r w' => ∃ v, r = .returned v ∧ OwnR sec 14 39 w.heap.size w' v (runM k zs N s).2 ∧ AgP w' ab k zs (runM k zs N s).1 ∧ Rim ab w w' := by
  obtain ⟨i0, hi, hz0, hz1, hz2⟩ := info_parts' info_sn
  have HH := Lib.hid h
  have HBD := Lib.hid hbd
  clear h hbd
  have m1 : max n 0 = n := by omega
  have m2 : min n 1024 = n := by omega
  go_enter Try.func10, Try.ntmps10
  go_wp2_with fail
  subst hn
  try rw [m2]
  go_loopw [5, 11] (fun v j wr => ∃ (J : Nat) (a : Option Addr) (c : Nat), J ≤ N ∧ j = .int .i64 (J : Int) ∧ v = .slice a (runM k zs J s).2.length c ∧ OwnR sec 14 39 w.heap.size wr v (runM k zs J s).2 ∧ AgP wr ab k zs (runM k zs J s).1 ∧ Rim ab w wr) (fun v j _ => N - (intOf j).toNat)
  case atStart => exact ⟨0, none, 0, by omega, rfl, rfl, OwnR.nil _ _, HH.out, Rim.of (Below.refl _ _)⟩
  case round =>
    obtain ⟨wr, rfl⟩ : ∃ y : World, y = wr := ⟨_, rfl⟩
    obtain ⟨J, a, c, hJ, rfl, rfl, ho, hu, hm⟩ := hrel
    have HBU := Lib.hid (Bd.run (k := k) HBD.out J)
    have HRS := Lib.hid (run_succ (s := s) (k := k) (zs := zs) J)
    have HLN := Lib.hid (show (runM k zs J s).2.length ≤ J from run_len J)
    obtain ⟨u, hus⟩ : ∃ u, (runM k zs J s).1 = u := ⟨_, rfl⟩
    obtain ⟨L, hls⟩ : ∃ L, (runM k zs J s).2 = L := ⟨_, rfl⟩
    have HEND := Lib.hid (show ∃ X, X = runM k zs J s ∧ X.1 = u ∧ X.2 = L from ⟨_, rfl, hus, hls⟩)
    rw [hus] at HBU HRS hu
    rw [hls] at HRS HLN ho ⊢
    clear hus hls
    have HO := Lib.hid ho
    have HU := Lib.hid hu
    have HM := Lib.hid hm
    clear ho hu hm
    by_cases hlt : J < N
    · have hlt2 : (J : Int) < (N : Int) := by omega
      clear HEND
      obtain ⟨i, now, ws, q, tag, op, asked, wt, wi, tm, st, kn, br, bl, fr, fl⟩ := u
      obtain ⟨sb, sc, wa, wc, h1, hsv, hws⟩ := HU.out
      dsimp only at h1 hws
      obtain ⟨n, hn⟩ : ∃ n, ws.length = n := ⟨_, rfl⟩
      obtain ⟨m, hm⟩ : ∃ m, zs.length = m := ⟨_, rfl⟩
      rw [hn, hm] at h1
      have H1 := Lib.hid h1
      have HSV := Lib.hid hsv
      have HWS := Lib.hid hws
      have HN := Lib.hid hn
      have HMZ := Lib.hid hm
      have hnow : 0 ≤ now ∧ now ≤ 1000000 := by have := HBU.out; unfold Bd at this; dsimp only at this; omega
      have hask : 0 ≤ asked ∧ asked ≤ 1000000 := by have := HBU.out; unfold Bd at this; dsimp only at this; omega
      clear h1 hsv hws hn hm
      rcases wt with _ | _
      · have hk := blk_cell H1.out
        have hl := blk_lt H1.out
        have hf := blk_free H1.out
        go_upto_region 5 with (fail)
        have HA2 := Lib.hid (show (wr.setCell ⟨ab, 4, none⟩ (.int .i64 (now + 1))).heap[ab]? = some (.cells #[.string k.1, .string k.2, .slice (some ⟨sb, 0, none⟩) m sc, .int .i64 (i : Nat), .int .i64 (now + 1), .slice wa n wc, .slice none 0 0, .int .i64 q, .int .i64 tag, .int .i64 op, .int .i64 asked, .bool false, .bool wi, .int .i64 tm, .int .i64 st, .bool kn, .bool br, .int .i64 bl, .bool fr, .int .i64 fl] 57 (0, 0)) from blk_set (n := 4) H1.out (by first | rfl | simp))
        have hr : Rim ab wr (wr.setCell ⟨ab, 4, none⟩ (.int .i64 (now + 1))) := rim_set (Rim.of (Below.refl _ _))
        have h9 := AgP.own H1.out HSV.out HWS.out hr
        have HQ2 := Lib.hid (show AgP (wr.setCell ⟨ab, 4, none⟩ (.int .i64 (now + 1))) ab k zs (⟨i, (now + 1), ws, q, tag, op, asked, false, wi, tm, st, kn, br, bl, fr, fl⟩ : Ag) from ⟨sb, sc, wa, wc, by dsimp only; rw [HN.out, HMZ.out]; exact HA2.out, h9.1, h9.2⟩)
        have HO2 := Lib.hid (HO.out.agp HU.out hr)
        have HM2 := Lib.hid (HM.out.trans hr)
        clear h9 hr hk hl hf H1 HSV HWS HO HM
        generalize (wr.setCell ⟨ab, 4, none⟩ (.int .i64 (now + 1))) = w2 at *
        have hk := blk_cell HA2.out
        have hl := blk_lt HA2.out
        haveI hIq : Nonempty (Of w2) := of_some _
        have hG0 := blk_of HA2.out
        first | (refine wp_region_stay w2 (by kernel_rfl) (by kernel_rfl) (by go_grown) ?_) | (refine wp_region_stay_seq w2 (by go_grown) ?_)
        repeat (go_big_quiet_step (fail))
        refine wpQuiet_nil ?_
        intro w3 hb3
        clear hIq hG0
        have HA3 := Lib.hid (blk_ext hb3 HA2.out)
        have HQ3 := Lib.hid (HQ2.out.ext hb3)
        have HO3 := Lib.hid (OwnR.ext HO2.out hb3)
        have HM3 := Lib.hid (HM2.out.trans (Rim.of hb3))
        clear hb3 hk hl HA2 HQ2 HO2 HM2
        have hk := blk_cell HA3.out
        have hl := blk_lt HA3.out
        obtain ⟨u2, hu2⟩ : ∃ u2, (⟨i, (now + 1), ws, q, tag, op, asked, false, wi, tm, st, kn, br, bl, fr, fl⟩ : Ag) = u2 := ⟨_, rfl⟩
        have HE := Lib.hid (show expM zs.length { (⟨i, now, ws, q, tag, op, asked, false, wi, tm, st, kn, br, bl, fr, fl⟩ : Ag) with now := now + 1 } = u2 from by unfold expM; rw [if_neg (by rintro ⟨h, _⟩; cases h)]; exact hu2)
        have HW := Lib.hid (show u2.wt = false from by rw [← hu2])
        have HB2 := Lib.hid (show Bd zs.length (B + J + 1) u2 from by rw [← HE.out]; exact (Bd.up HBU.out).exp)
        have HT2 := Lib.hid (show u2.tag ≤ B + J from by rw [← HE.out, exp_tag]; exact HBU.out.2.2.2.2.2.2.2.2.1)
        go_upto_region 8 with (fail)
        rw [hu2] at HQ3
        clear hu2 hk hl HA3
        go_wp2_with fail
        obtain ⟨t3, ht3⟩ : ∃ t, nextM k u2 = t := ⟨_, rfl⟩
        refine (agNext ab k zs u2 w3 HQ3.out (by have := HB2.out; unfold Bd at this; omega) t3 ht3).mono ?_
        obtain ⟨u3, m3, d3⟩ := t3
        rintro e w4 ⟨rfl, hq, hr⟩
        dsimp only at hq ⊢
        have HO4 := Lib.hid (HO3.out.agp HQ3.out hr)
        have HM4 := Lib.hid (HM3.out.trans hr)
        have HQ4 := Lib.hid hq
        have HB3 := Lib.hid (show Bd zs.length (B + J + 1) u3 from by have := Bd.next (k := k) HB2.out; rw [ht3] at this; exact this)
        have HT3 := Lib.hid (show u3.tag ≤ B + J from by have := next_tag (k := k) (s := u2); rw [ht3] at this; exact this ▸ HT2.out)
        have HX3 := Lib.hid ht3
        clear hq hr ht3 HQ3 HM3 HO3
        rcases d3 with _ | _
        · have HST := Lib.hid (stp_no (s := (⟨i, now, ws, q, tag, op, asked, false, wi, tm, st, kn, br, bl, fr, fl⟩ : Ag)) HE.out HW.out HX3.out)
          have E9 := Lib.hid (show Below w4.heap.size w4 (w4.alloc (.cells #[.int .i64 0, .int .i64 m3.op, .int .i64 m3.st, .int .i64 0, .int .i64 0, .int .i64 m3.N, .int .i64 m3.sq, .string m3.a, .string m3.i, .bool false, .int .u32 0, .slice none 0 0, .slice none 0 0] 37)) from (Below.refl _ _).alloc (Nat.le_refl _) _)
          have HO8 := Lib.hid (OwnR.ext HO4.out E9.out)
          have HQ8 := Lib.hid (HQ4.out.ext E9.out)
          have HM8 := Lib.hid (HM4.out.trans (Rim.of E9.out))
          go_wp2
          go_roundw
          case rel =>
            refine ⟨J + 1, a, c, by omega, by go_num, ?_, ?_, ?_, HM8.out⟩
            · rw [HRS.out, HST.out]; simp only [List.append_nil]
            · rw [HRS.out, HST.out]; simp only [List.append_nil]; exact HO8.out
            · rw [HRS.out, HST.out]; exact HQ8.out
          case measure => simp [intOf]; omega
        · have HST := Lib.hid (stp_yes (s := (⟨i, now, ws, q, tag, op, asked, false, wi, tm, st, kn, br, bl, fr, fl⟩ : Ag)) HE.out HW.out HX3.out)
          obtain ⟨z, hz⟩ : ∃ z, zs.getD u3.i 0 = z := ⟨_, rfl⟩
          have HZ := Lib.hid hz
          have hz2 : zs[u3.i]? = some z := by
            have h9 : u3.i < zs.length := HB3.out.1
            rw [← hz, List.getD_eq_getElem?_getD, List.getElem?_eq_getElem h9]; rfl
          have HZ2 := Lib.hid hz2
          clear hz hz2
          go_upto_region 10 with (fail)
          have E9 := Lib.hid (show Below w4.heap.size w4 (w4.alloc (.cells #[.int .i64 0, .int .i64 m3.op, .int .i64 m3.st, .int .i64 0, .int .i64 0, .int .i64 m3.N, .int .i64 m3.sq, .string m3.a, .string m3.i, .bool false, .int .u32 0, .slice none 0 0, .slice none 0 0] 37)) from (Below.refl _ _).alloc (Nat.le_refl _) _)
          have HK2 := Lib.hid (blk_new w4 #[.int .i64 0, .int .i64 m3.op, .int .i64 m3.st, .int .i64 0, .int .i64 0, .int .i64 m3.N, .int .i64 m3.sq, .string m3.a, .string m3.i, .bool false, .int .u32 0, .slice none 0 0, .slice none 0 0] 37)
          have HO5 := Lib.hid (OwnR.ext HO4.out E9.out)
          have HQ5 := Lib.hid (HQ4.out.ext E9.out)
          have HM5 := Lib.hid (HM4.out.trans (Rim.of E9.out))
          obtain ⟨p, hp⟩ : ∃ p, w4.heap.size = p := ⟨_, rfl⟩
          rw [hp] at HK2
          try rw [hp]
          clear hp E9 HO4 HQ4 HM4
          generalize (w4.alloc (.cells #[.int .i64 0, .int .i64 m3.op, .int .i64 m3.st, .int .i64 0, .int .i64 0, .int .i64 m3.N, .int .i64 m3.sq, .string m3.a, .string m3.i, .bool false, .int .u32 0, .slice none 0 0, .slice none 0 0] 37)) = w5 at *
          have hk := blk_cell HK2.out
          have hl := blk_lt HK2.out
          go_wp2_with fail
          refine (agAsk ab k zs u3 w5 HQ5.out m3 z HZ2.out (by have := HB3.out; unfold Bd at this; omega) (by have := HT3.out; omega)).mono ?_
          rintro e w6 ⟨rfl, hq, hr⟩
          have HO6 := Lib.hid (HO5.out.agp HQ5.out hr)
          have HM6 := Lib.hid (HM5.out.trans hr)
          have HQ6 := Lib.hid hq
          clear hq hr hk hl HK2 HQ5 HM5 HO5
          go_wp2_with (at_builtin; refine wpList_append_own _ rfl _ _ 31 rfl (w.heap.size) 39 i0 (.agg #[.int .i64 0, .int .i64 0, .int .i64 0, .int .i64 0, .int .i64 0, .int .i64 0, .int .i64 0, .int .i64 0, .string ⟨#[]⟩, .string ⟨#[]⟩, .bool false, .int .u32 0, .slice none 0 0, .slice none 0 0]) 14 152 Try.underlying31 hi hz0 hz1 hz2 rfl (by decide) (.slice a L.length c) L.length (flat sec L) rfl (HO6.out.alloc (.cells #[.int .i64 z, .int .i64 1, .int .i64 m3.op, .int .i64 m3.st, .int .i64 0, .int .i64 (u3.tag + 1), .int .i64 m3.N, .int .i64 m3.sq, .string m3.a, .string m3.i, .bool false, .int .u32 0, .slice none 0 0, .slice none 0 0] 39)) ⟨w6.heap.size, 0, none⟩ 1 1 (sec ⟨z, m3, u3.tag + 1⟩) rfl rfl ?c1 ?c2 ?c3 ?c4 ?c5 ?_)
          case c1 =>
            intro j u hj
            rw [add_off, Nat.zero_add, blk_cell (blk_new w6 #[.int .i64 z, .int .i64 1, .int .i64 m3.op, .int .i64 m3.st, .int .i64 0, .int .i64 (u3.tag + 1), .int .i64 m3.N, .int .i64 m3.sq, .string m3.a, .string m3.i, .bool false, .int .u32 0, .slice none 0 0, .slice none 0 0] 39)]
            simpa [sec] using hj
          case c2 => exact sec_one _
          case c3 => unfold maxLen; have := HLN.out; omega
          case c4 => have := HLN.out; omega
          case c5 => have := HM6.out.size; simp; omega
          intro vz wz hoz hgz _
          have HOZ := Lib.hid (show OwnR sec 14 39 w.heap.size wz vz (L ++ [⟨z, m3, u3.tag + 1⟩]) from by unfold OwnR; rw [flat_snoc, List.length_append]; exact hoz)
          have EZ := Lib.hid (show Below w6.heap.size w6 (w6.alloc (.cells #[.int .i64 z, .int .i64 1, .int .i64 m3.op, .int .i64 m3.st, .int .i64 0, .int .i64 (u3.tag + 1), .int .i64 m3.N, .int .i64 m3.sq, .string m3.a, .string m3.i, .bool false, .int .u32 0, .slice none 0 0, .slice none 0 0] 39)) from (Below.refl _ _).alloc (Nat.le_refl _) _)
          have HQZ := Lib.hid (AgP.grown (HQ6.out.ext EZ.out) (OwnR.ext HO6.out EZ.out) hgz)
          have HMY := Lib.hid (Rim.grown' (HM6.out.trans (Rim.of EZ.out)) hgz (fun q hq => own_ge (OwnR.ext HO6.out EZ.out) hq))
          obtain ⟨az, cz, rfl, -, -, -⟩ := OwnR.form HOZ.out
          have hlz : (L ++ [(⟨z, m3, u3.tag + 1⟩ : Sn)]).length = L.length + 1 := by simp
          clear hoz hgz EZ HQ6 HM6 HO6
          go_wp2
          go_roundw
          case rel =>
            refine ⟨J + 1, az, cz, by omega, by go_num, ?_, ?_, ?_, HMY.out⟩
            · rw [HRS.out, HST.out, HZ.out]
            · rw [HRS.out, HST.out, HZ.out]; exact HOZ.out
            · rw [HRS.out, HST.out]; exact HQZ.out
          case measure => simp [intOf]; omega

      · by_cases hx8 : 8 ≤ now + 1 - asked
        · have HX8 := Lib.hid hx8
          clear hx8
          have hk := blk_cell H1.out
          have hl := blk_lt H1.out
          have hf := blk_free H1.out
          go_upto_region 5 with (fail)
          have HA2 := Lib.hid (show (wr.setCell ⟨ab, 4, none⟩ (.int .i64 (now + 1))).heap[ab]? = some (.cells #[.string k.1, .string k.2, .slice (some ⟨sb, 0, none⟩) m sc, .int .i64 (i : Nat), .int .i64 (now + 1), .slice wa n wc, .slice none 0 0, .int .i64 q, .int .i64 tag, .int .i64 op, .int .i64 asked, .bool true, .bool wi, .int .i64 tm, .int .i64 st, .bool kn, .bool br, .int .i64 bl, .bool fr, .int .i64 fl] 57 (0, 0)) from blk_set (n := 4) H1.out (by first | rfl | simp))
          have hr : Rim ab wr (wr.setCell ⟨ab, 4, none⟩ (.int .i64 (now + 1))) := rim_set (Rim.of (Below.refl _ _))
          have h9 := AgP.own H1.out HSV.out HWS.out hr
          have HQ2 := Lib.hid (show AgP (wr.setCell ⟨ab, 4, none⟩ (.int .i64 (now + 1))) ab k zs (⟨i, (now + 1), ws, q, tag, op, asked, true, wi, tm, st, kn, br, bl, fr, fl⟩ : Ag) from ⟨sb, sc, wa, wc, by dsimp only; rw [HN.out, HMZ.out]; exact HA2.out, h9.1, h9.2⟩)
          have HO2 := Lib.hid (HO.out.agp HU.out hr)
          have HM2 := Lib.hid (HM.out.trans hr)
          clear h9 hr hk hl hf H1 HSV HWS HO HM
          generalize (wr.setCell ⟨ab, 4, none⟩ (.int .i64 (now + 1))) = w2 at *
          have hk := blk_cell HA2.out
          have hl := blk_lt HA2.out
          have hx1 : decide (8 ≤ now + 1 - asked) = true := decide_eq_true HX8.out
          have hx2 : 8 ≤ now + 1 - asked := HX8.out
          haveI hIq : Nonempty (Of w2) := of_some _
          have hG0 := blk_of HA2.out
          first | (refine wp_region_stay w2 (by kernel_rfl) (by kernel_rfl) (by go_grown) ?_) | (refine wp_region_stay_seq w2 (by go_grown) ?_)
          repeat (go_big_quiet_step (fail))
          refine wpQuiet_nil ?_
          intro w3 hb3
          clear hIq hG0
          have HA3 := Lib.hid (blk_ext hb3 HA2.out)
          have HQ3 := Lib.hid (HQ2.out.ext hb3)
          have HO3 := Lib.hid (OwnR.ext HO2.out hb3)
          have HM3 := Lib.hid (HM2.out.trans (Rim.of hb3))
          clear hb3 hk hl HA2 HQ2 HO2 HM2
          go_wp2_with fail
          obtain ⟨u2, hu2⟩ : ∃ u2, turnM zs.length (⟨i, (now + 1), ws, q, tag, op, asked, true, wi, tm, st, kn, br, bl, fr, fl⟩ : Ag) = u2 := ⟨_, rfl⟩
          have HE := Lib.hid (show expM zs.length { (⟨i, now, ws, q, tag, op, asked, true, wi, tm, st, kn, br, bl, fr, fl⟩ : Ag) with now := now + 1 } = u2 from by unfold expM; rw [if_pos ⟨rfl, HX8.out⟩]; exact hu2)
          have HW := Lib.hid (show u2.wt = false from by rw [← hu2]; rfl)
          have HB2 := Lib.hid (show Bd zs.length (B + J + 1) u2 from by rw [← HE.out]; exact (Bd.up HBU.out).exp)
          have HT2 := Lib.hid (show u2.tag ≤ B + J from by rw [← HE.out, exp_tag]; exact HBU.out.2.2.2.2.2.2.2.2.1)
          refine (agTurn ab k zs _ w3 HQ3.out HBU.out.1 hz6).mono ?_
          rw [hu2]
          rintro e w4 ⟨rfl, hq, hr⟩
          have HO4 := Lib.hid (HO3.out.agp HQ3.out hr)
          have HM4 := Lib.hid (HM3.out.trans hr)
          have HQ4 := Lib.hid hq
          clear hq hr hu2 HQ3 HM3 HO3 HA3 hx1 hx2
          have HA4 := Lib.hid HQ4.out
          obtain ⟨i2, now2, ws2, q2, tag2, op2, asked2, wt2, wi2, tm2, st2, kn2, br2, bl2, fr2, fl2⟩ := u2
          obtain rfl : wt2 = false := HW.out
          obtain ⟨sb2, sc2, wa2, wc2, h1, hsv2, hws2⟩ := HA4.out
          dsimp only at h1
          have HA5 := Lib.hid h1
          clear h1 hsv2 hws2 HA4
          have hk := blk_cell HA5.out
          have hl := blk_lt HA5.out
          obtain ⟨u2, hu2⟩ : ∃ u2, (⟨i2, now2, ws2, q2, tag2, op2, asked2, false, wi2, tm2, st2, kn2, br2, bl2, fr2, fl2⟩ : Ag) = u2 := ⟨_, rfl⟩
          rw [hu2] at HE HW HB2 HT2 HQ4
          clear hu2
          go_upto_region 8 with (fail)
          clear hk hl HA5
          go_wp2_with fail
          obtain ⟨t3, ht3⟩ : ∃ t, nextM k u2 = t := ⟨_, rfl⟩
          refine (agNext ab k zs u2 w4 HQ4.out (by have := HB2.out; unfold Bd at this; omega) t3 ht3).mono ?_
          obtain ⟨u3, m3, d3⟩ := t3
          rintro e w5 ⟨rfl, hq, hr⟩
          dsimp only at hq ⊢
          have HO5 := Lib.hid (HO4.out.agp HQ4.out hr)
          have HM5 := Lib.hid (HM4.out.trans hr)
          have HQ5 := Lib.hid hq
          have HB3 := Lib.hid (show Bd zs.length (B + J + 1) u3 from by have := Bd.next (k := k) HB2.out; rw [ht3] at this; exact this)
          have HT3 := Lib.hid (show u3.tag ≤ B + J from by have := next_tag (k := k) (s := u2); rw [ht3] at this; exact this ▸ HT2.out)
          have HX3 := Lib.hid ht3
          clear hq hr ht3 HQ4 HM4 HO4
          rcases d3 with _ | _
          · have HST := Lib.hid (stp_no (s := (⟨i, now, ws, q, tag, op, asked, true, wi, tm, st, kn, br, bl, fr, fl⟩ : Ag)) HE.out HW.out HX3.out)
            have E9 := Lib.hid (show Below w5.heap.size w5 (w5.alloc (.cells #[.int .i64 0, .int .i64 m3.op, .int .i64 m3.st, .int .i64 0, .int .i64 0, .int .i64 m3.N, .int .i64 m3.sq, .string m3.a, .string m3.i, .bool false, .int .u32 0, .slice none 0 0, .slice none 0 0] 37)) from (Below.refl _ _).alloc (Nat.le_refl _) _)
            have HO8 := Lib.hid (OwnR.ext HO5.out E9.out)
            have HQ8 := Lib.hid (HQ5.out.ext E9.out)
            have HM8 := Lib.hid (HM5.out.trans (Rim.of E9.out))
            go_wp2
            go_roundw
            case rel =>
              refine ⟨J + 1, a, c, by omega, by go_num, ?_, ?_, ?_, HM8.out⟩
              · rw [HRS.out, HST.out]; simp only [List.append_nil]
              · rw [HRS.out, HST.out]; simp only [List.append_nil]; exact HO8.out
              · rw [HRS.out, HST.out]; exact HQ8.out
            case measure => simp [intOf]; omega
          · have HST := Lib.hid (stp_yes (s := (⟨i, now, ws, q, tag, op, asked, true, wi, tm, st, kn, br, bl, fr, fl⟩ : Ag)) HE.out HW.out HX3.out)
            obtain ⟨z, hz⟩ : ∃ z, zs.getD u3.i 0 = z := ⟨_, rfl⟩
            have HZ := Lib.hid hz
            have hz2 : zs[u3.i]? = some z := by
              have h9 : u3.i < zs.length := HB3.out.1
              rw [← hz, List.getD_eq_getElem?_getD, List.getElem?_eq_getElem h9]; rfl
            have HZ2 := Lib.hid hz2
            clear hz hz2
            go_upto_region 10 with (fail)
            have E9 := Lib.hid (show Below w5.heap.size w5 (w5.alloc (.cells #[.int .i64 0, .int .i64 m3.op, .int .i64 m3.st, .int .i64 0, .int .i64 0, .int .i64 m3.N, .int .i64 m3.sq, .string m3.a, .string m3.i, .bool false, .int .u32 0, .slice none 0 0, .slice none 0 0] 37)) from (Below.refl _ _).alloc (Nat.le_refl _) _)
            have HK2 := Lib.hid (blk_new w5 #[.int .i64 0, .int .i64 m3.op, .int .i64 m3.st, .int .i64 0, .int .i64 0, .int .i64 m3.N, .int .i64 m3.sq, .string m3.a, .string m3.i, .bool false, .int .u32 0, .slice none 0 0, .slice none 0 0] 37)
            have HO6 := Lib.hid (OwnR.ext HO5.out E9.out)
            have HQ6 := Lib.hid (HQ5.out.ext E9.out)
            have HM6 := Lib.hid (HM5.out.trans (Rim.of E9.out))
            obtain ⟨p, hp⟩ : ∃ p, w5.heap.size = p := ⟨_, rfl⟩
            rw [hp] at HK2
            try rw [hp]
            clear hp E9 HO5 HQ5 HM5
            generalize (w5.alloc (.cells #[.int .i64 0, .int .i64 m3.op, .int .i64 m3.st, .int .i64 0, .int .i64 0, .int .i64 m3.N, .int .i64 m3.sq, .string m3.a, .string m3.i, .bool false, .int .u32 0, .slice none 0 0, .slice none 0 0] 37)) = w6 at *
            have hk := blk_cell HK2.out
            have hl := blk_lt HK2.out
            go_wp2_with fail
            refine (agAsk ab k zs u3 w6 HQ6.out m3 z HZ2.out (by have := HB3.out; unfold Bd at this; omega) (by have := HT3.out; omega)).mono ?_
            rintro e w7 ⟨rfl, hq, hr⟩
            have HO7 := Lib.hid (HO6.out.agp HQ6.out hr)
            have HM7 := Lib.hid (HM6.out.trans hr)
            have HQ7 := Lib.hid hq
            clear hq hr hk hl HK2 HQ6 HM6 HO6
            go_wp2_with (at_builtin; refine wpList_append_own _ rfl _ _ 31 rfl (w.heap.size) 39 i0 (.agg #[.int .i64 0, .int .i64 0, .int .i64 0, .int .i64 0, .int .i64 0, .int .i64 0, .int .i64 0, .int .i64 0, .string ⟨#[]⟩, .string ⟨#[]⟩, .bool false, .int .u32 0, .slice none 0 0, .slice none 0 0]) 14 152 Try.underlying31 hi hz0 hz1 hz2 rfl (by decide) (.slice a L.length c) L.length (flat sec L) rfl (HO7.out.alloc (.cells #[.int .i64 z, .int .i64 1, .int .i64 m3.op, .int .i64 m3.st, .int .i64 0, .int .i64 (u3.tag + 1), .int .i64 m3.N, .int .i64 m3.sq, .string m3.a, .string m3.i, .bool false, .int .u32 0, .slice none 0 0, .slice none 0 0] 39)) ⟨w7.heap.size, 0, none⟩ 1 1 (sec ⟨z, m3, u3.tag + 1⟩) rfl rfl ?c1 ?c2 ?c3 ?c4 ?c5 ?_)
            case c1 =>
              intro j u hj
              rw [add_off, Nat.zero_add, blk_cell (blk_new w7 #[.int .i64 z, .int .i64 1, .int .i64 m3.op, .int .i64 m3.st, .int .i64 0, .int .i64 (u3.tag + 1), .int .i64 m3.N, .int .i64 m3.sq, .string m3.a, .string m3.i, .bool false, .int .u32 0, .slice none 0 0, .slice none 0 0] 39)]
              simpa [sec] using hj
            case c2 => exact sec_one _
            case c3 => unfold maxLen; have := HLN.out; omega
            case c4 => have := HLN.out; omega
            case c5 => have := HM7.out.size; simp; omega
            intro vz wz hoz hgz _
            have HOZ := Lib.hid (show OwnR sec 14 39 w.heap.size wz vz (L ++ [⟨z, m3, u3.tag + 1⟩]) from by unfold OwnR; rw [flat_snoc, List.length_append]; exact hoz)
            have EZ := Lib.hid (show Below w7.heap.size w7 (w7.alloc (.cells #[.int .i64 z, .int .i64 1, .int .i64 m3.op, .int .i64 m3.st, .int .i64 0, .int .i64 (u3.tag + 1), .int .i64 m3.N, .int .i64 m3.sq, .string m3.a, .string m3.i, .bool false, .int .u32 0, .slice none 0 0, .slice none 0 0] 39)) from (Below.refl _ _).alloc (Nat.le_refl _) _)
            have HQZ := Lib.hid (AgP.grown (HQ7.out.ext EZ.out) (OwnR.ext HO7.out EZ.out) hgz)
            have HMY := Lib.hid (Rim.grown' (HM7.out.trans (Rim.of EZ.out)) hgz (fun q hq => own_ge (OwnR.ext HO7.out EZ.out) hq))
            obtain ⟨az, cz, rfl, -, -, -⟩ := OwnR.form HOZ.out
            have hlz : (L ++ [(⟨z, m3, u3.tag + 1⟩ : Sn)]).length = L.length + 1 := by simp
            clear hoz hgz EZ HQ7 HM7 HO7
            go_wp2
            go_roundw
            case rel =>
              refine ⟨J + 1, az, cz, by omega, by go_num, ?_, ?_, ?_, HMY.out⟩
              · rw [HRS.out, HST.out, HZ.out]
              · rw [HRS.out, HST.out, HZ.out]; exact HOZ.out
              · rw [HRS.out, HST.out]; exact HQZ.out
            case measure => simp [intOf]; omega

        · have HX8 := Lib.hid hx8
          clear hx8
          have hk := blk_cell H1.out
          have hl := blk_lt H1.out
          have hf := blk_free H1.out
          go_upto_region 5 with (fail)
          have HA2 := Lib.hid (show (wr.setCell ⟨ab, 4, none⟩ (.int .i64 (now + 1))).heap[ab]? = some (.cells #[.string k.1, .string k.2, .slice (some ⟨sb, 0, none⟩) m sc, .int .i64 (i : Nat), .int .i64 (now + 1), .slice wa n wc, .slice none 0 0, .int .i64 q, .int .i64 tag, .int .i64 op, .int .i64 asked, .bool true, .bool wi, .int .i64 tm, .int .i64 st, .bool kn, .bool br, .int .i64 bl, .bool fr, .int .i64 fl] 57 (0, 0)) from blk_set (n := 4) H1.out (by first | rfl | simp))
          have hr : Rim ab wr (wr.setCell ⟨ab, 4, none⟩ (.int .i64 (now + 1))) := rim_set (Rim.of (Below.refl _ _))
          have h9 := AgP.own H1.out HSV.out HWS.out hr
          have HQ2 := Lib.hid (show AgP (wr.setCell ⟨ab, 4, none⟩ (.int .i64 (now + 1))) ab k zs (⟨i, (now + 1), ws, q, tag, op, asked, true, wi, tm, st, kn, br, bl, fr, fl⟩ : Ag) from ⟨sb, sc, wa, wc, by dsimp only; rw [HN.out, HMZ.out]; exact HA2.out, h9.1, h9.2⟩)
          have HO2 := Lib.hid (HO.out.agp HU.out hr)
          have HM2 := Lib.hid (HM.out.trans hr)
          clear h9 hr hk hl hf H1 HSV HWS HO HM
          generalize (wr.setCell ⟨ab, 4, none⟩ (.int .i64 (now + 1))) = w2 at *
          have hk := blk_cell HA2.out
          have hl := blk_lt HA2.out
          have hx1 : decide (8 ≤ now + 1 - asked) = false := decide_eq_false HX8.out
          have hx2 : ¬ 8 ≤ now + 1 - asked := HX8.out
          haveI hIq : Nonempty (Of w2) := of_some _
          have hG0 := blk_of HA2.out
          first | (refine wp_region_stay w2 (by kernel_rfl) (by kernel_rfl) (by go_grown) ?_) | (refine wp_region_stay_seq w2 (by go_grown) ?_)
          repeat (go_big_quiet_step (fail))
          refine wpQuiet_nil ?_
          intro w3 hb3
          clear hIq hG0
          have HA3 := Lib.hid (blk_ext hb3 HA2.out)
          have HQ3 := Lib.hid (HQ2.out.ext hb3)
          have HO3 := Lib.hid (OwnR.ext HO2.out hb3)
          have HM3 := Lib.hid (HM2.out.trans (Rim.of hb3))
          clear hb3 hk hl HA2 HQ2 HO2 HM2
          have hk := blk_cell HA3.out
          have hl := blk_lt HA3.out
          have HST := Lib.hid (show stpM k zs (⟨i, now, ws, q, tag, op, asked, true, wi, tm, st, kn, br, bl, fr, fl⟩ : Ag) = ((⟨i, (now + 1), ws, q, tag, op, asked, true, wi, tm, st, kn, br, bl, fr, fl⟩ : Ag), []) from stp_eq (by unfold expM; rw [if_neg (by rintro ⟨_, h⟩; exact HX8.out h)]) rfl)
          go_wp2
          go_roundw
          case rel =>
            refine ⟨J + 1, a, c, by omega, by go_num, ?_, ?_, ?_, HM3.out⟩
            · rw [HRS.out, HST.out]; simp only [List.append_nil]
            · rw [HRS.out, HST.out]; simp only [List.append_nil]; exact HO3.out
            · rw [HRS.out, HST.out]; exact HQ3.out
          case measure => simp [intOf]; omega

    · obtain rfl : J = N := by omega
      have hlt2 : decide ((J : Int) < (J : Int)) = false := by simp
      obtain ⟨X, hX, hX1, hX2⟩ := HEND.out
      go_wp2
      go_ret
      rw [← hX, hX1, hX2]
      exact ⟨_, rfl, HO.out, HU.out, HM.out⟩

end Go.Proofs.Ytibgphjadiidaaa
