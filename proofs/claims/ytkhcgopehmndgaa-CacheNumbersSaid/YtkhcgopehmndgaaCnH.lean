/- Feeds of a tape. -/
import Derived.Test.YtkhcgopehmndgaaCnG
import Derived.Test.YtkhcgopehmndgaaCnVa
namespace Go.Proofs.Ytkhcgopehmndgaa
open Go.RowKit
set_option linter.unusedVariables false
set_option linter.unusedSimpArgs false


/-- what is carried along: the tape, the document's cache, the row of messages -/
structure FS (w : World) (ra : Option Addr) (rlen rcap tb wb B : Nat) (q : Int) (cs : List Cd) (lv : Value) (vs : List Mv) (W : World) : Prop where
  T : TapeK ra rlen rcap W tb
  R : RcP W wb q cs
  O : OwnM B W lv vs
  M : ∀ v ∈ vs, MvM W v
  D : Below w.heap.size w W
  Z : B ≤ W.heap.size
section
variable {w : World} {ra : Option Addr} {rlen rcap tb wb B : Nat} {q q1 : Int} {cs cs1 : List Cd} {lv : Value} {vs : List Mv} {W W' : World}
theorem FS.ext (h : FS w ra rlen rcap tb wb B q cs lv vs W) (hb : Below W.heap.size W W') : FS w ra rlen rcap tb wb B q cs lv vs W' :=
  ⟨h.T.ext hb, h.R.ext hb, OwnR.ext h.O hb, fun v hv => (h.M v hv).ext hb, h.D.trans (hb.mono h.D.size), Nat.le_trans h.Z hb.size⟩
theorem FS.bar (h : FS w ra rlen rcap tb wb B q cs lv vs W) (hT : TapeK ra rlen rcap W' tb) (hb : Bar tb W W') (htb : w.heap.size ≤ tb) : FS w ra rlen rcap tb wb B q cs lv vs W' := by
  obtain ⟨k, e, -⟩ := id h.T
  have hr : Rim tb W W' := ⟨hb.os, hb.tape, hb.output, hb.size, fun k hk hl => hb.block k hk hl⟩
  exact ⟨hT, h.R.rimO hr e (by decide) (by decide), h.T.own hb (by decide) h.O, fun v hv => ⟨(h.M v hv).1.bar h.T hb, (h.M v hv).2⟩, h.D.trans (hb.below htb h.D.size), Nat.le_trans h.Z hb.size⟩
theorem FS.rc (h : FS w ra rlen rcap tb wb B q cs lv vs W) (hr : RcP W' wb q1 cs1) (hR : Rim wb W W') (hwb : w.heap.size ≤ wb) : FS w ra rlen rcap tb wb B q1 cs1 lv vs W' := by
  obtain ⟨k, e, e2⟩ := id h.T
  have hn : ∀ (b : Nat) (cur : Array Value) (T : TypeId), 72 ≠ T → W.heap[b]? = some (.cells cur T (0, 0)) → W'.heap[b]? = W.heap[b]? := fun b cur T hT hc => (h.R.blk hR hc hT).trans hc.symm
  exact ⟨⟨k, (hn _ _ _ (by decide) e).trans e, e2⟩, hr, own_blocks h.O (fun b cur hc => hn b cur _ (by decide) hc), fun v hv => ⟨h.R.cat hR (h.M v hv).1, (h.M v hv).2⟩, Below.rim h.D hR hwb h.D.size, Nat.le_trans h.Z hR.size⟩
theorem FS.set {mb k : Nat} {u : Value} {c0 : Array Value} (h : FS w ra rlen rcap tb wb B q cs lv vs W) (hm : W.heap[mb]? = some (.cells c0 36 (0, 0))) (hne : some mb ≠ lv.ownBlock) (hmb : w.heap.size ≤ mb) : FS w ra rlen rcap tb wb B q cs lv vs (W.setCell ⟨mb, k, none⟩ u) := by
  have hk : Kept mb W (W.setCell ⟨mb, k, none⟩ u) := (Kept.refl mb W).setCell _ _
  obtain ⟨k1, e, e2⟩ := id h.T
  exact ⟨h.T.setn (fun e9 => by subst e9; have h9 := hm.symm.trans e; simp at h9), h.R.rimO (Rim.kept hk) hm (by decide) (by decide), ownsRow_keep h.O hk hne, fun v hv => ⟨(h.M v hv).1.keptT hm (by decide) hk, (h.M v hv).2⟩, h.D.setCell hmb _, by have := h.Z; simpa [World.setCell] using this⟩
theorem FS.app {lv' : Value} {x : Mv} (h : FS w ra rlen rcap tb wb B q cs lv vs W) (ho : OwnM B W' lv' (vs ++ [x])) (hg : W.grownBy W' lv.ownBlock) (hx : MvM W x) (hB : w.heap.size ≤ B) : FS w ra rlen rcap tb wb B q cs lv' (vs ++ [x]) W' := by
  obtain ⟨k1, e, e2⟩ := id h.T
  have hn : ∀ (b : Nat) (cur : Array Value) (T : TypeId), T ≠ 36 → W.heap[b]? = some (.cells cur T (0, 0)) → W'.heap[b]? = W.heap[b]? := fun b cur T hT hc => hg.block b (blk_lt hc) (own_ne h.O hc hT)
  refine ⟨⟨k1, (hn _ _ _ (by decide) e).trans e, e2⟩, ?_, ho, fun v hv => ?_, h.D.grown hg h.D.size (fun k hk => Nat.le_trans hB (own_ge h.O hk)), Nat.le_trans h.Z hg.size⟩
  · obtain ⟨a, c, r1, r2, r3, r4⟩ := h.R
    exact ⟨a, c, (hn _ _ _ (by decide) r1).trans r1, r2, r3, r4.keep fun b cur hc _ => hn b cur _ (by decide) hc⟩
  · have hv2 : MvM W v := by
      rcases List.mem_append.1 hv with hv | hv
      · exact h.M v hv
      · have : v = x := by simpa using hv
        rw [this]; exact hx
    exact ⟨hv2.1.keep fun b cur hc _ => hn b cur _ (by decide) hc, hv2.2⟩
end
theorem MvM.bar {ra : Option Addr} {rlen rcap : Nat} {w w' : World} {tb : Nat} {v : Mv} (h : MvM w v) (hT : TapeK ra rlen rcap w tb) (hb : Bar tb w w') : MvM w' v := ⟨h.1.bar hT hb, h.2⟩
set_option maxRecDepth 100000 in
set_option maxHeartbeats 8000000 in
theorem law21feeds (ra : Option Addr) (rlen rcap : Nat) (rz : List Int) (w : World) (hr : IsRow .i64 w ra rlen rcap rz) :
    Calls Try.prog 6 #[.slice ra rlen rcap] w fun r w' => ∃ v vs, r = .returned v ∧ OwnM w.heap.size w' v vs ∧ vs.length ≤ 13 ∧ (∀ x ∈ vs, MvM w' x) ∧ Below w.heap.size w w' := by
  obtain ⟨i0, hi, hz0, hz1, hz2⟩ := info_parts' info_mv
  have HRW := Lib.hid hr
  have HNE := Lib.hid (rowOk_new hr (.cells #[.slice ra rlen rcap, .int .i64 0] 29)).2
  have HT1 := Lib.hid (tapeK_new (a := ra) (len := rlen) (cap := rcap) w)
  have D1 := Lib.hid (show Below w.heap.size w (w.alloc (.cells #[.slice ra rlen rcap, .int .i64 0] 29)) from (Below.refl _ _).alloc (Nat.le_refl _) _)
  clear hr
  go_enter Try.func6, Try.ntmps6
  go_upto_region 2 with (fail)
  obtain ⟨tb, htb⟩ : ∃ t, w.heap.size = t := ⟨_, rfl⟩
  have HTB := Lib.hid (show w.heap.size ≤ tb by omega)
  rw [htb] at HT1 HNE
  try rw [htb]
  clear htb
  generalize (w.alloc (.cells #[.slice ra rlen rcap, .int .i64 0] 29)) = w1 at *
  go_wp2_with fail
  refine (rcNew _).mono ?_
  rintro e w2 ⟨rfl, hp, hb⟩
  have HT2 := Lib.hid (HT1.out.ext hb)
  have D2 := Lib.hid (ext_trans D1.out hb)
  obtain ⟨wb, hwb⟩ : ∃ t, w1.heap.size = t := ⟨_, rfl⟩
  have HWB := Lib.hid (show w.heap.size ≤ wb by have := D1.out.size; omega)
  rw [hwb] at hp
  try rw [hwb]
  have HP2 := Lib.hid hp
  clear hp hb hwb HT1 D1
  obtain ⟨B, hB⟩ : ∃ B, w2.heap.size = B := ⟨_, rfl⟩
  have HBB := Lib.hid (show w.heap.size ≤ B by have := D2.out.size; omega)
  have HB2 := Lib.hid (show B ≤ w2.heap.size by omega)
  clear hB
  have HS2 := Lib.hid (show FS w ra rlen rcap tb wb B (-1) [] (.slice none 0 0) [] w2 from ⟨HT2.out, HP2.out, OwnR.nil _ _, (fun v hv => by cases hv), D2.out, HB2.out⟩)
  clear HT2 HP2 D2
  go_wp2_with fail
  refine (tapeNextK ra rlen rcap rz tb 14 _ HS2.out.T (show RowOk ra rlen rcap rz _ tb from ⟨HRW.out.ext HS2.out.D, HNE.out⟩) (by omega) (by omega)).mono ?_
  rintro e w3 ⟨q0, rfl, q0a, q0b, hT, hx⟩
  have HS3 := Lib.hid (HS2.out.bar hT hx HTB.out)
  clear hT hx HS2

  obtain ⟨N0, rfl⟩ : ∃ N0 : Nat, q0 = (N0 : Int) := ⟨q0.toNat, by omega⟩
  have hN0 : N0 ≤ 13 := by omega
  clear q0a q0b
  go_wp2_with fail
  go_loopw [5, 6] (fun lv n wr => ∃ (N : Nat) (q : Int) (cs : List Cd) (vs : List Mv), n = .int .i64 (N : Int) ∧ WfC cs ∧ FS w ra rlen rcap tb wb B q cs lv vs wr ∧ vs.length + N ≤ 13) (fun lv n _ => (intOf n).toNat)
  case atStart => exact ⟨N0, -1, [], [], rfl, WfC.nil, HS3.out, by simpa using hN0⟩
  case round =>
    obtain ⟨w3, rfl⟩ : ∃ y : World, y = wr := ⟨_, rfl⟩
    obtain ⟨N, q, cs, vs, rfl, hwf, hs, hlN⟩ := hrel
    obtain ⟨la, lc, rfl, hlc, hlcm, -, -, -⟩ := OwnR.read mv_len hs.O
    obtain ⟨nv, hnv⟩ : ∃ n, vs.length = n := ⟨_, rfl⟩
    have HNV := Lib.hid hnv
    rw [hnv] at hs hlN hlc ⊢
    unfold maxLen at hlcm
    have HS3 := Lib.hid hs
    have HWF := Lib.hid hwf
    clear hs hwf hnv
    by_cases hN : N = 0
    · subst hN
      have hdN : decide (0 < ((0 : Nat) : Int)) = false := by simp
      go_wp2
      go_ret
      exact ⟨_, vs, rfl, OwnR.base HS3.out.O HBB.out, by have := HNV.out; omega, HS3.out.M, HS3.out.D⟩
    · have hdN : decide (0 < (N : Int)) = true := by simp; omega
      obtain ⟨M, rfl⟩ : ∃ M, N = M + 1 := ⟨N - 1, by omega⟩
      go_wp2_with fail
      refine (tapeNextK ra rlen rcap rz tb 4 _ HS3.out.T (show RowOk ra rlen rcap rz _ tb from ⟨HRW.out.ext HS3.out.D, HNE.out⟩) (by omega) (by omega)).mono ?_
      rintro e w4 ⟨q1, rfl, q1a, q1b, hT, hx⟩
      have HS4 := Lib.hid (HS3.out.bar hT hx HTB.out)
      clear hT hx HS3
      obtain ⟨fu, hfu⟩ : ∃ b, (q1 == 0) = b := ⟨_, rfl⟩
      clear q1a q1b
      go_wp2_with fail
      refine (tapeNextK ra rlen rcap rz tb 20 _ HS4.out.T (show RowOk ra rlen rcap rz _ tb from ⟨HRW.out.ext HS4.out.D, HNE.out⟩) (by omega) (by omega)).mono ?_
      rintro e w5 ⟨q2, rfl, q2a, q2b, hT, hx⟩
      have HS5 := Lib.hid (HS4.out.bar hT hx HTB.out)
      clear hT hx HS4
      go_wp2_with fail
      refine (tapeNextK ra rlen rcap rz tb 3 _ HS5.out.T (show RowOk ra rlen rcap rz _ tb from ⟨HRW.out.ext HS5.out.D, HNE.out⟩) (by omega) (by omega)).mono ?_
      rintro e w6 ⟨q3, rfl, q3a, q3b, hT, hx⟩
      have HS6 := Lib.hid (HS5.out.bar hT hx HTB.out)
      clear hT hx HS5
      go_wp2_with fail
      refine (tapeCardsF ra rlen rcap rz tb 5 _ HS6.out.T (show RowOk ra rlen rcap rz _ tb from ⟨HRW.out.ext HS6.out.D, HNE.out⟩) (by omega)).mono ?_
      rintro e w7 ⟨v, ls, rfl, ho, hl5, hcf, hT, hx⟩
      obtain ⟨ca, cc, rfl, hcc, hcm, hat, -, -⟩ := ho.read
      obtain ⟨cn, hcn⟩ : ∃ n, ls.length = n := ⟨_, rfl⟩
      rw [hcn] at hcc hl5 ⊢
      have HS7 := Lib.hid (HS6.out.bar hT hx HTB.out)
      have HAT := Lib.hid hat
      have HCN := Lib.hid hcn
      have HCF := Lib.hid hcf
      have HQ2 := Lib.hid (And.intro q2a q2b)
      have HFD := Lib.hid (show ∀ s : Int, FdOk (⟨2, 5, 0, 0, q3, 0, q2, (⟨#[]⟩, ⟨#[]⟩), fu, s, ls, []⟩ : Mg) from fun s _ => ⟨rfl, rfl, rfl, by have := HQ2.out; show -1 ≤ q2; omega, by show ls.length ≤ 64; rw [HCN.out]; omega, HCF.out⟩)
      clear ho hcf hT hx hat HS6 q2a q2b q3a q3b hcn
      have E8 := Lib.hid (show Below w7.heap.size w7 (w7.alloc (.cells #[.int .i64 2, .int .i64 5, .int .i64 0, .int .i64 0, .int .i64 q3, .int .i64 0, .int .i64 q2, .string ⟨#[]⟩, .string ⟨#[]⟩, .bool fu, .int .u32 0, .slice ca cn cc, .slice none 0 0] 36)) from (Below.refl _ _).alloc (Nat.le_refl _) _)
      have HMB8 := Lib.hid (blk_new w7 #[.int .i64 2, .int .i64 5, .int .i64 0, .int .i64 0, .int .i64 q3, .int .i64 0, .int .i64 q2, .string ⟨#[]⟩, .string ⟨#[]⟩, .bool fu, .int .u32 0, .slice ca cn cc, .slice none 0 0] 36)
      have HS8 := Lib.hid (HS7.out.ext E8.out)
      have HNO := Lib.hid (show some w7.heap.size ≠ (Value.slice la nv lc).ownBlock from fun e => by
        obtain ⟨a1, c1, e1, -, -, -, h5, h6⟩ := OwnR.read mv_len HS7.out.O
        rw [Value.slice.injEq] at e1
        obtain ⟨rfl, -, -⟩ := e1
        rcases h6 with ⟨rfl, -, -⟩ | ⟨g, rfl⟩
        · simp [Value.ownBlock] at e
        · simp [Value.ownBlock] at e
          have := (h5 g 0 rfl).2.1
          omega)
      have HMV8 := Lib.hid (show MvM (w7.alloc (.cells #[.int .i64 2, .int .i64 5, .int .i64 0, .int .i64 0, .int .i64 q3, .int .i64 0, .int .i64 q2, .string ⟨#[]⟩, .string ⟨#[]⟩, .bool fu, .int .u32 0, .slice ca cn cc, .slice none 0 0] 36)) (⟨⟨2, 5, 0, 0, q3, 0, q2, (⟨#[]⟩, ⟨#[]⟩), fu, 0, ls, []⟩, ca, cn, cc, none, 0, 0⟩ : Mv) from ⟨HAT.out.ext E8.out, HCN.out, fun _ => ⟨rfl, rfl, rfl⟩, HFD.out 0⟩)
      have HMN := Lib.hid (show w.heap.size ≤ w7.heap.size from HS7.out.D.size)
      go_upto_region 8 with (fail)
      obtain ⟨mb, hmb⟩ : ∃ m, w7.heap.size = m := ⟨_, rfl⟩
      rw [hmb] at HMB8 HNO HMN
      try rw [hmb]
      clear hmb HS7 HAT E8
      generalize (w7.alloc (.cells #[.int .i64 2, .int .i64 5, .int .i64 0, .int .i64 0, .int .i64 q3, .int .i64 0, .int .i64 q2, .string ⟨#[]⟩, .string ⟨#[]⟩, .bool fu, .int .u32 0, .slice ca cn cc, .slice none 0 0] 36)) = w8 at *
      have HU := Lib.hid (Below.refl w8.heap.size w8)
      go_wp2_with fail
      refine (rcNew _).mono ?_
      rintro e w9 ⟨rfl, hp9, hb⟩
      obtain ⟨xb, hxb⟩ : ∃ m, w8.heap.size = m := ⟨_, rfl⟩
      have HXB := Lib.hid (show w8.heap.size ≤ xb from by omega)
      rw [hxb] at hp9 hb
      try rw [hxb]
      have HU9 := Lib.hid (show Below w8.heap.size w8 w9 from by rw [hxb]; exact hb)
      clear hb HU hxb
      obtain ⟨a2, c2, h2, -, -, -⟩ := hp9
      have H2 := Lib.hid h2
      have HR9 := Lib.hid (HS8.out.R.ext HU9.out)
      obtain ⟨a3, c3, h3, h32, h33, h34⟩ := id HR9.out
      obtain ⟨n3, hn3⟩ : ∃ n, cs.length = n := ⟨_, rfl⟩
      rw [hn3] at h3 h32
      have hk1 := blk_cell h2
      have hl1 := blk_lt h2
      have hf1 := blk_free h2
      have hk2 := blk_cell h3
      have hl2 := blk_lt h3
      go_upto_region 10 with (fail)
      have HRX := Lib.hid (show RcP ((w9.setCell ⟨xb, 0, none⟩ (.slice a3 n3 c3)).setCell ⟨xb, 1, none⟩ (.int .i64 1)) xb 1 cs from by
        refine ⟨a3, c3, ?_, by rw [hn3]; exact h32, h33, h34.keep fun b cur hc _ => ((((Kept.refl xb w9).setCell 0 _).setCell 1 _).block b (fun e => by subst e; have h9 := h2.symm.trans hc; simp at h9))⟩
        rw [hn3]
        exact blk_set (blk_set H2.out (by first | rfl | simp)) (by first | rfl | simp))
      have HU10 := Lib.hid ((HU9.out.setCell (p := ⟨xb, 0, none⟩) HXB.out (.slice a3 n3 c3)).setCell (p := ⟨xb, 1, none⟩) HXB.out (.int .i64 1))
      clear h2 h3 h32 h33 h34 hn3 hk1 hl1 hf1 hk2 hl2 H2 HR9 HU9
      generalize ((w9.setCell ⟨xb, 0, none⟩ (.slice a3 n3 c3)).setCell ⟨xb, 1, none⟩ (.int .i64 1)) = w10 at *
      have HMB10 := Lib.hid (blk_ext HU10.out HMB8.out)
      have hk := blk_cell HMB10.out
      have hl := blk_lt HMB10.out
      go_wp2_with fail
      refine (rcApply xb 1 cs (⟨⟨2, 5, 0, 0, q3, 0, q2, (⟨#[]⟩, ⟨#[]⟩), fu, 0, ls, []⟩, ca, cn, cc, none, 0, 0⟩ : Mv) _ HRX.out HWF.out (HMV8.out.ext HU10.out)).mono ?_
      rintro e w11 ⟨rfl, hp, hr⟩
      have HWC := Lib.hid (apM_wf (q := 1) HWF.out HMV8.out.2.2.2)
      have HP11 := Lib.hid hp
      have HU11 := Lib.hid (Below.rim HU10.out hr HXB.out HU10.out.size)
      generalize (apM 1 cs ((⟨⟨2, 5, 0, 0, q3, 0, q2, (⟨#[]⟩, ⟨#[]⟩), fu, 0, ls, []⟩, ca, cn, cc, none, 0, 0⟩ : Mv)).m).2.1 = q8 at *
      generalize (apM 1 cs ((⟨⟨2, 5, 0, 0, q3, 0, q2, (⟨#[]⟩, ⟨#[]⟩), fu, 0, ls, []⟩, ca, cn, cc, none, 0, 0⟩ : Mv)).m).2.2 = cs8 at *
      clear hp hr hk hl HMB10 HRX HU10
      have HMB11 := Lib.hid (blk_ext HU11.out HMB8.out)
      have hlen := HWC.out.len
      obtain ⟨a4, c4, h4, h42, h43, h44⟩ := HP11.out
      obtain ⟨n4, hn4⟩ : ∃ n, cs8.length = n := ⟨_, rfl⟩
      rw [hn4] at h4 h42 hlen
      have HN4 := Lib.hid hn4
      have H4 := Lib.hid h4
      have H44 := Lib.hid h44
      have HCS := Lib.hid (show ∀ x ∈ cs8, CdS x from fun x hx => ⟨by have := (HWC.out.2 x hx).1.1.2.1; omega, by have := (HWC.out.2 x hx).1.2.1.2.1; omega⟩)
      obtain ⟨S, hS⟩ : ∃ S, sm (sealB cs8) = S := ⟨_, rfl⟩
      have hk1 := blk_cell h4
      have hl1 := blk_lt h4
      clear h43 h44 hn4 h4
      go_wp2_with fail
      refine (refSeal9 a4 n4 c4 cs8 _ H44.out HN4.out hlen h42 HCS.out).mono ?_
      rintro e w12 ⟨rfl, hb⟩
      rw [hS]
      have HU12 := Lib.hid (HU11.out.trans (hb.mono HU11.out.size))
      clear hb hk1 hl1 HU11 H44 H4 HP11 HMB11
      have HMB12 := Lib.hid (blk_ext HU12.out HMB8.out)
      have hk := blk_cell HMB12.out
      have hl := blk_lt HMB12.out
      have hf := blk_free HMB12.out
      have HS12 := Lib.hid (HS8.out.ext HU12.out)
      have HMV12 := Lib.hid (HMV8.out.ext HU12.out)
      clear HU12 HS8 HMB8 HMV8
      go_upto_region 12 with (fail)
      have HS13 := Lib.hid (show FS w ra rlen rcap tb wb B q cs (.slice la nv lc) vs (w12.setCell ⟨mb, 10, none⟩ (.int .u32 S)) from HS12.out.set HMB12.out HNO.out HMN.out)
      have HMB13 := Lib.hid (show (w12.setCell ⟨mb, 10, none⟩ (.int .u32 S)).heap[mb]? = some (.cells #[.int .i64 2, .int .i64 5, .int .i64 0, .int .i64 0, .int .i64 q3, .int .i64 0, .int .i64 q2, .string ⟨#[]⟩, .string ⟨#[]⟩, .bool fu, .int .u32 S, .slice ca cn cc, .slice none 0 0] 36 (0, 0)) from blk_set HMB12.out (by first | rfl | simp))
      have HMV13 := Lib.hid (show MvM (w12.setCell ⟨mb, 10, none⟩ (.int .u32 S)) (⟨⟨2, 5, 0, 0, q3, 0, q2, (⟨#[]⟩, ⟨#[]⟩), fu, S, ls, []⟩, ca, cn, cc, none, 0, 0⟩ : Mv) from ⟨HMV12.out.1.keptT HMB12.out (by decide) ((Kept.refl mb w12).setCell _ _), HMV12.out.2.1, HMV12.out.2.2.1, HFD.out S⟩)
      clear hk hl hf HS12 HMB12 HMV12
      generalize (w12.setCell ⟨mb, 10, none⟩ (.int .u32 S)) = w13 at *
      go_wp2_with fail
      refine (tapeNextK ra rlen rcap rz tb 6 _ HS13.out.T (show RowOk ra rlen rcap rz _ tb from ⟨HRW.out.ext HS13.out.D, HNE.out⟩) (by omega) (by omega)).mono ?_
      rintro e w14 ⟨q5, rfl, q5a, q5b, hT, hx⟩
      have HS14 := Lib.hid (HS13.out.bar hT hx HTB.out)
      have HMB14 := Lib.hid (hx.blk (HS13.out.T.ne (by decide) HMB13.out) HMB13.out)
      have HMV14 := Lib.hid (HMV13.out.bar HS13.out.T hx)
      clear hT hx HS13 HMB13 HMV13 q5a q5b
      by_cases h5 : q5 = 0
      · subst h5
        have hk := blk_cell HMB14.out
        have hl := blk_lt HMB14.out
        have hf := blk_free HMB14.out
        go_upto_region 14 with (fail)
        obtain ⟨S2, hS2⟩ : ∃ s, (S + 1) % 4294967296 = s := ⟨_, rfl⟩
        try rw [hS2]
        have HS15 := Lib.hid (show FS w ra rlen rcap tb wb B q cs (.slice la nv lc) vs (w14.setCell ⟨mb, 10, none⟩ (.int .u32 S2)) from HS14.out.set HMB14.out HNO.out HMN.out)
        have HMB15 := Lib.hid (show (w14.setCell ⟨mb, 10, none⟩ (.int .u32 S2)).heap[mb]? = some (.cells #[.int .i64 2, .int .i64 5, .int .i64 0, .int .i64 0, .int .i64 q3, .int .i64 0, .int .i64 q2, .string ⟨#[]⟩, .string ⟨#[]⟩, .bool fu, .int .u32 S2, .slice ca cn cc, .slice none 0 0] 36 (0, 0)) from blk_set HMB14.out (by first | rfl | simp))
        have HMV15 := Lib.hid (show MvM (w14.setCell ⟨mb, 10, none⟩ (.int .u32 S2)) (⟨⟨2, 5, 0, 0, q3, 0, q2, (⟨#[]⟩, ⟨#[]⟩), fu, S2, ls, []⟩, ca, cn, cc, none, 0, 0⟩ : Mv) from ⟨HMV14.out.1.keptT HMB14.out (by decide) ((Kept.refl mb w14).setCell _ _), HMV14.out.2.1, HMV14.out.2.2.1, HFD.out S2⟩)
        clear hk hl hf HS14 HMB14 HMV14 hS2
        generalize (w14.setCell ⟨mb, 10, none⟩ (.int .u32 S2)) = w15 at *
        have hk := blk_cell HMB15.out
        have hl := blk_lt HMB15.out
        go_wp2_with fail
        refine (rcApply wb q cs (⟨⟨2, 5, 0, 0, q3, 0, q2, (⟨#[]⟩, ⟨#[]⟩), fu, S2, ls, []⟩, ca, cn, cc, none, 0, 0⟩ : Mv) _ HS15.out.R HWF.out HMV15.out).mono ?_
        rintro e w16 ⟨rfl, hp, hr⟩
        have HWF9 := Lib.hid (apM_wf (q := q) HWF.out HMV15.out.2.2.2)
        have HS16 := Lib.hid (HS15.out.rc hp hr HWB.out)
        have HMB16 := Lib.hid (HS15.out.R.blk hr HMB15.out (by decide))
        have HMV16 := Lib.hid (show MvM w16 (⟨⟨2, 5, 0, 0, q3, 0, q2, (⟨#[]⟩, ⟨#[]⟩), fu, S2, ls, []⟩, ca, cn, cc, none, 0, 0⟩ : Mv) from ⟨HS15.out.R.cat hr HMV15.out.1, HMV15.out.2⟩)
        generalize (apM q cs ((⟨⟨2, 5, 0, 0, q3, 0, q2, (⟨#[]⟩, ⟨#[]⟩), fu, S2, ls, []⟩, ca, cn, cc, none, 0, 0⟩ : Mv)).m).2.1 = q9 at *
        generalize (apM q cs ((⟨⟨2, 5, 0, 0, q3, 0, q2, (⟨#[]⟩, ⟨#[]⟩), fu, S2, ls, []⟩, ca, cn, cc, none, 0, 0⟩ : Mv)).m).2.2 = cs9 at *
        clear hp hr hk hl HS15 HMB15 HMV15
        have hk := blk_cell HMB16.out
        have hl := blk_lt HMB16.out
        have HZ := Lib.hid HS16.out.Z
        have HO' := Lib.hid (show w16.ownsRow B 36 13 (.slice la nv lc) nv (flat mvc vs) from by have := HS16.out.O; unfold OwnM OwnR at this; rw [HNV.out] at this; exact this)
        go_wp2_with (at_builtin; refine wpList_append_own _ rfl _ _ 23 rfl B 36 i0 Mv.zero 13 144 Try.underlying23 hi hz0 hz1 hz2 rfl (by decide) _ nv (flat mvc vs) rfl (HO'.out.alloc (.cells #[.int .i64 2, .int .i64 5, .int .i64 0, .int .i64 0, .int .i64 q3, .int .i64 0, .int .i64 q2, .string ⟨#[]⟩, .string ⟨#[]⟩, .bool fu, .int .u32 S2, .slice ca cn cc, .slice none 0 0] 36)) ⟨w16.heap.size, 0, none⟩ 1 1 (mvc (⟨⟨2, 5, 0, 0, q3, 0, q2, (⟨#[]⟩, ⟨#[]⟩), fu, S2, ls, []⟩, ca, cn, cc, none, 0, 0⟩ : Mv)) rfl rfl ?c1 ?c2 ?c3 ?c4 ?c5 ?_)
        case c1 =>
          intro j u hj
          rw [add_off, Nat.zero_add, blk_cell (blk_new w16 #[.int .i64 2, .int .i64 5, .int .i64 0, .int .i64 0, .int .i64 q3, .int .i64 0, .int .i64 q2, .string ⟨#[]⟩, .string ⟨#[]⟩, .bool fu, .int .u32 S2, .slice ca cn cc, .slice none 0 0] 36)]
          simpa [mvc] using hj
        case c2 => exact mv_one _
        case c3 => unfold maxLen; omega
        case c4 => omega
        case c5 => simp; have := HZ.out; omega
        intro v9 wz ho9 hg9 _
        have E9 := Lib.hid (show Below w16.heap.size w16 (w16.alloc (.cells #[.int .i64 2, .int .i64 5, .int .i64 0, .int .i64 0, .int .i64 q3, .int .i64 0, .int .i64 q2, .string ⟨#[]⟩, .string ⟨#[]⟩, .bool fu, .int .u32 S2, .slice ca cn cc, .slice none 0 0] 36)) from (Below.refl _ _).alloc (Nat.le_refl _) _)
        have HO9 := Lib.hid (show OwnM B wz v9 (vs ++ [(⟨⟨2, 5, 0, 0, q3, 0, q2, (⟨#[]⟩, ⟨#[]⟩), fu, S2, ls, []⟩, ca, cn, cc, none, 0, 0⟩ : Mv)]) by unfold OwnM OwnR; rw [flat_snoc, List.length_append, HNV.out]; exact ho9)
        have HSZ := Lib.hid ((HS16.out.ext E9.out).app HO9.out hg9 (HMV16.out.ext E9.out) HBB.out)
        clear ho9 hg9 E9 HO9 HO' hk hl HS16 HMB16 HMV16
        go_wp2
        go_roundw
        case rel => exact ⟨M, q9, cs9, vs ++ [(⟨⟨2, 5, 0, 0, q3, 0, q2, (⟨#[]⟩, ⟨#[]⟩), fu, S2, ls, []⟩, ca, cn, cc, none, 0, 0⟩ : Mv)], by go_num, HWF9.out, HSZ.out, by rw [List.length_append, HNV.out]; simp only [List.length_cons, List.length_nil]; omega⟩
        case measure => simp [intOf]
      · have h5d : (q5 == 0) = false := by simpa using h5
        clear h5
        have hk := blk_cell HMB14.out
        have hl := blk_lt HMB14.out
        go_wp2_with fail
        refine (rcApply wb q cs (⟨⟨2, 5, 0, 0, q3, 0, q2, (⟨#[]⟩, ⟨#[]⟩), fu, S, ls, []⟩, ca, cn, cc, none, 0, 0⟩ : Mv) _ HS14.out.R HWF.out HMV14.out).mono ?_
        rintro e w15 ⟨rfl, hp, hr⟩
        have HWF9 := Lib.hid (apM_wf (q := q) HWF.out HMV14.out.2.2.2)
        have HS15 := Lib.hid (HS14.out.rc hp hr HWB.out)
        have HMB15 := Lib.hid (HS14.out.R.blk hr HMB14.out (by decide))
        have HMV15 := Lib.hid (show MvM w15 (⟨⟨2, 5, 0, 0, q3, 0, q2, (⟨#[]⟩, ⟨#[]⟩), fu, S, ls, []⟩, ca, cn, cc, none, 0, 0⟩ : Mv) from ⟨HS14.out.R.cat hr HMV14.out.1, HMV14.out.2⟩)
        generalize (apM q cs ((⟨⟨2, 5, 0, 0, q3, 0, q2, (⟨#[]⟩, ⟨#[]⟩), fu, S, ls, []⟩, ca, cn, cc, none, 0, 0⟩ : Mv)).m).2.1 = q9 at *
        generalize (apM q cs ((⟨⟨2, 5, 0, 0, q3, 0, q2, (⟨#[]⟩, ⟨#[]⟩), fu, S, ls, []⟩, ca, cn, cc, none, 0, 0⟩ : Mv)).m).2.2 = cs9 at *
        clear hp hr hk hl HS14 HMB14 HMV14
        have hk := blk_cell HMB15.out
        have hl := blk_lt HMB15.out
        have HZ := Lib.hid HS15.out.Z
        have HO' := Lib.hid (show w15.ownsRow B 36 13 (.slice la nv lc) nv (flat mvc vs) from by have := HS15.out.O; unfold OwnM OwnR at this; rw [HNV.out] at this; exact this)
        go_wp2_with (at_builtin; refine wpList_append_own _ rfl _ _ 23 rfl B 36 i0 Mv.zero 13 144 Try.underlying23 hi hz0 hz1 hz2 rfl (by decide) _ nv (flat mvc vs) rfl (HO'.out.alloc (.cells #[.int .i64 2, .int .i64 5, .int .i64 0, .int .i64 0, .int .i64 q3, .int .i64 0, .int .i64 q2, .string ⟨#[]⟩, .string ⟨#[]⟩, .bool fu, .int .u32 S, .slice ca cn cc, .slice none 0 0] 36)) ⟨w15.heap.size, 0, none⟩ 1 1 (mvc (⟨⟨2, 5, 0, 0, q3, 0, q2, (⟨#[]⟩, ⟨#[]⟩), fu, S, ls, []⟩, ca, cn, cc, none, 0, 0⟩ : Mv)) rfl rfl ?c1 ?c2 ?c3 ?c4 ?c5 ?_)
        case c1 =>
          intro j u hj
          rw [add_off, Nat.zero_add, blk_cell (blk_new w15 #[.int .i64 2, .int .i64 5, .int .i64 0, .int .i64 0, .int .i64 q3, .int .i64 0, .int .i64 q2, .string ⟨#[]⟩, .string ⟨#[]⟩, .bool fu, .int .u32 S, .slice ca cn cc, .slice none 0 0] 36)]
          simpa [mvc] using hj
        case c2 => exact mv_one _
        case c3 => unfold maxLen; omega
        case c4 => omega
        case c5 => simp; have := HZ.out; omega
        intro v9 wz ho9 hg9 _
        have E9 := Lib.hid (show Below w15.heap.size w15 (w15.alloc (.cells #[.int .i64 2, .int .i64 5, .int .i64 0, .int .i64 0, .int .i64 q3, .int .i64 0, .int .i64 q2, .string ⟨#[]⟩, .string ⟨#[]⟩, .bool fu, .int .u32 S, .slice ca cn cc, .slice none 0 0] 36)) from (Below.refl _ _).alloc (Nat.le_refl _) _)
        have HO9 := Lib.hid (show OwnM B wz v9 (vs ++ [(⟨⟨2, 5, 0, 0, q3, 0, q2, (⟨#[]⟩, ⟨#[]⟩), fu, S, ls, []⟩, ca, cn, cc, none, 0, 0⟩ : Mv)]) by unfold OwnM OwnR; rw [flat_snoc, List.length_append, HNV.out]; exact ho9)
        have HSZ := Lib.hid ((HS15.out.ext E9.out).app HO9.out hg9 (HMV15.out.ext E9.out) HBB.out)
        clear ho9 hg9 E9 HO9 HO' hk hl HS15 HMB15 HMV15
        go_wp2
        go_roundw
        case rel => exact ⟨M, q9, cs9, vs ++ [(⟨⟨2, 5, 0, 0, q3, 0, q2, (⟨#[]⟩, ⟨#[]⟩), fu, S, ls, []⟩, ca, cn, cc, none, 0, 0⟩ : Mv)], by go_num, HWF9.out, HSZ.out, by rw [List.length_append, HNV.out]; simp only [List.length_cons, List.length_nil]; omega⟩
        case measure => simp [intOf]


end Go.Proofs.Ytkhcgopehmndgaa
