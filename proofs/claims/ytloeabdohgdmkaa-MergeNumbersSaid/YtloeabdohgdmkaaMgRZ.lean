/- Rows of cards of a tape. -/
import Derived.Test.YtloeabdohgdmkaaMgLZ
import Derived.Maps.AppendAt
import Derived.Deep.DeepAppendRoom
namespace Go.Proofs.Ytloeabdohgdmkaa
open Go.RowKit
set_option linter.unusedVariables false
set_option linter.unusedSimpArgs false


theorem rwE_one (r : Rw) : ∀ u ∈ rwE r, u.oneCell' = true := by
  intro u hu
  simp [rwE] at hu
  subst hu
  rfl
def enI (i : Int) : List Value := [.int .i64 i]
theorem info_cs : (Try.prog.info? 28).map (fun i => (i.zero, i.size, i.bytes)) = some (some (.slice none 0 0), 1, 24) := by kernel_rfl
theorem info_i64 : (Try.prog.info? 2).map (fun i => (i.zero, i.size, i.bytes)) = some (some (.int .i64 0), 1, 8) := by kernel_rfl
abbrev OwnW (base : Nat) (w : World) (v : Value) (rs : List Rw) : Prop := OwnR rwE 1 28 base w v rs
/-- rows that are one's own, each for itself -/
def RoOk (base : Nat) (w : World) (rs : List Rw) : Prop := (∀ r ∈ rs, OwnC base w (.slice r.a r.n r.c) r.ls ∧ r.ls.length = r.n) ∧ rs.Pairwise (fun x y => (Value.slice x.a x.n x.c).ownBlock = none ∨ (Value.slice x.a x.n x.c).ownBlock ≠ (Value.slice y.a y.n y.c).ownBlock)
section
variable {base : Nat} {w w' : World} {rs : List Rw}
theorem RoOk.blocks (h : RoOk base w rs) (hk : ∀ (b : Nat) (cur : Array Value), w.heap[b]? = some (.cells cur 34 (0, 0)) → w'.heap[b]? = w.heap[b]?) : RoOk base w' rs := ⟨fun r hr => ⟨own_blocks (h.1 r hr).1 hk, (h.1 r hr).2⟩, h.2⟩
theorem RoOk.ext (h : RoOk base w rs) (hb : Below w.heap.size w w') : RoOk base w' rs := h.blocks fun b cur hc => hb.block b (blk_lt hc)
theorem RoOk.snoc {u : World} {r : Rw} (h0 : RoOk base u rs) (h : RoOk base w rs) (ho : OwnC u.heap.size w (.slice r.a r.n r.c) r.ls) (hl : r.ls.length = r.n) (hb : base ≤ u.heap.size) : RoOk base w (rs ++ [r]) := by
  refine ⟨fun x hx => ?_, List.pairwise_append.2 ⟨h.2, List.pairwise_singleton _ _, fun x hx y hy => ?_⟩⟩
  · rcases List.mem_append.1 hx with hx | hx
    · exact h.1 x hx
    · simp at hx; subst hx; exact ⟨ho.base hb, hl⟩
  · simp at hy
    subst hy
    cases e : (Value.slice x.a x.n x.c).ownBlock with
    | none => exact .inl rfl
    | some k =>
      refine .inr fun q => ?_
      have h1 := (World.ownsRow.lt (h0.1 x hx).1 k e).2
      have h2 := own_ge ho q.symm
      omega
theorem RoOk.at (h : RoOk base w rs) {r : Rw} (hr : r ∈ rs) : RwOk w r := by
  obtain ⟨h1, h2⟩ := h.1 r hr
  obtain ⟨a, c, e, h3, h4, h5, -, h6⟩ := OwnC.read h1
  simp only [Value.slice.injEq] at e
  obtain ⟨e1, e2, e3⟩ := e
  rw [← e3] at h3 h4 h6
  rw [← e1] at h5 h6
  refine ⟨h2, by rw [← h2]; exact h3, h4, ?_, h5⟩
  rcases h6 with ⟨k1, k2, -⟩ | ⟨g, k1⟩
  · exact .inl ⟨k1, k2⟩
  · exact .inr ⟨g, 0, k1⟩
theorem RoOk.rows (h : RoOk base w rs) {b' : Nat} {v : Value} (hv : OwnW b' w v rs) : ∃ a c, v = .slice a rs.length c ∧ RwsAt w a rs := by
  obtain ⟨a, c, rfl, -, -, h1, -⟩ := OwnR.read rwE_len hv
  exact ⟨a, c, rfl, h1, fun r hr => h.at hr⟩
end
section
variable {P : Program} (w : World)
end
theorem TapeK.grown9 {a0 : Option Addr} {len cap tb : Nat} {w w' : World} {base n size : Nat} {T : TypeId} {v : Value} {xs : List Value} (h : TapeK a0 len cap w tb) (hg : w.grownBy w' v.ownBlock) (ho : w.ownsRow base T size v n xs) (hT : 50 ≠ T) : TapeK a0 len cap w' tb := by
  obtain ⟨q, e1, e2⟩ := h
  exact ⟨q, (hg.block tb (blk_lt e1) (own_ne ho e1 hT)).trans e1, e2⟩
set_option maxRecDepth 100000 in
set_option maxHeartbeats 4000000 in
theorem law19rows (a0 : Option Addr) (len cap : Nat) (zs : List Int) (w : World) (hr : IsRow .i64 w a0 len cap zs) (hr8 : len * 8 ≤ 140737488351232) :
    Calls Try.prog 7 #[.slice a0 len cap] w fun r w' => ∃ v q rs ns, r = .returned (.tuple #[v, q]) ∧ OwnR enI 1 2 w.heap.size w' q ns ∧ ns.length ≤ rs.length ∧ OwnW w.heap.size w' v rs ∧ RoOk w.heap.size w' rs ∧ 1 ≤ rs.length ∧ rs.length ≤ 9 ∧ (∀ r ∈ rs, r.n ≤ 9 ∧ ∀ c ∈ r.ls, CdF c) ∧ Below w.heap.size w w' := by
  obtain ⟨i0, hi, hz0, hz1, hz2⟩ := info_parts' info_cs
  obtain ⟨j0, hj, hy0, hy1, hy2⟩ := info_parts' info_i64
  have D0 : Below w.heap.size w (w.alloc (.cells #[.slice a0 len cap, .int .i64 0] 50)) := (Below.refl _ _).alloc (Nat.le_refl _) _
  have HT0 := Lib.hid (tapeK_new (a := a0) (len := len) (cap := cap) w)
  have HRS := Lib.hid (rowOk_new hr (.cells #[.slice a0 len cap, .int .i64 0] 50)).2
  have HD0 := Lib.hid D0
  have HI := Lib.hid hr
  clear D0 hr
  go_enter Try.func7, Try.ntmps7
  go_upto_region 2 with (fail)
  obtain ⟨tb, htb⟩ : ∃ q, w.heap.size = q := ⟨_, rfl⟩
  have HRW := Lib.hid (show ∀ wr, Below w.heap.size w wr → RowOk a0 len cap zs wr tb from fun wr h => ⟨HI.out.ext h, by have := HRS.out; rw [htb] at this; exact this⟩)
  rw [htb] at HT0
  try rw [htb]
  have HWT := Lib.hid (show w.heap.size ≤ tb by omega)
  clear htb HRS
  generalize (w.alloc (.cells #[.slice a0 len cap, .int .i64 0] 50)) = w1 at *
  go_wp2_with fail
  refine (tapeNextK a0 len cap zs tb 9 w1 HT0.out (HRW.out _ HD0.out) (by omega) (by omega)).mono ?_
  rintro r w2 ⟨q, rfl, hq0, hq1, ht, hb⟩
  obtain ⟨N0, rfl⟩ : ∃ N0 : Nat, q = (N0 : Int) := ⟨q.toNat, by omega⟩
  have HT2 := Lib.hid ht
  have HB2 := Lib.hid (HD0.out.trans (hb.below HWT.out HD0.out.size))
  have hN0 : N0 < 9 := by omega
  have hw0 : wrap64 (1 + (N0 : Int)) = ((1 + N0 : Nat) : Int) := wr_small 1 N0 (by omega)
  clear ht hb HT0 HD0 hq0 hq1
  go_wp2_with fail
  go_loopw [5, 6, 7] (fun v q k wr => ∃ (N : Nat) (rs : List Rw) (ns : List Int), k = .int .i64 (N : Int) ∧ rs.length + N = 1 + N0 ∧ ns.length ≤ rs.length ∧ OwnW w.heap.size wr v rs ∧ RoOk w.heap.size wr rs ∧ OwnR enI 1 2 w.heap.size wr q ns ∧ (∀ r ∈ rs, r.n ≤ 9 ∧ ∀ c ∈ r.ls, CdF c) ∧ TapeK a0 len cap wr tb ∧ Below w.heap.size w wr) (fun v q k _ => (intOf k).toNat)
  case atStart => exact ⟨1 + N0, [], [], by first | rfl | rw [hw0], by simp, by simp, OwnR.nil _ _, ⟨fun r hr => (by cases hr), List.Pairwise.nil⟩, OwnR.nil _ _, fun r hr => (by cases hr), HT2.out, HB2.out⟩
  case round =>
    obtain ⟨w3, rfl⟩ : ∃ y : World, y = wr := ⟨_, rfl⟩
    obtain ⟨N, rs, ns, rfl, hl, hnl, hv, hro, hq, hp, ht, hb⟩ := hrel
    clear HT2 HB2 hw0
    have HV3 := Lib.hid hv
    have HR3 := Lib.hid hro
    have HQ3 := Lib.hid hq
    have HPR := Lib.hid hp
    have HT3 := Lib.hid ht
    have HB3 := Lib.hid hb
    obtain ⟨oa, oc, rfl, -, hom, -⟩ := OwnR.form hv
    obtain ⟨na, nc, rfl, -, hnm, -⟩ := OwnR.form hq
    obtain ⟨m, hm⟩ : ∃ m, rs.length = m := ⟨_, rfl⟩
    obtain ⟨k, hk⟩ : ∃ k, ns.length = k := ⟨_, rfl⟩
    rw [hm] at HV3 hl hnl ⊢
    rw [hk] at HQ3 hnl ⊢
    have HM := Lib.hid hm
    have HK := Lib.hid hk
    clear hv hro hq hp ht hb hm hk
    by_cases hN : N = 0
    · subst hN
      go_wp2
      go_ret2
      refine ⟨_, _, rs, ns, rfl, HQ3.out, by rw [HK.out, HM.out]; omega, by rw [HM.out] at *; exact HV3.out, HR3.out, by rw [HM.out]; omega, by rw [HM.out]; omega, HPR.out, HB3.out⟩
    · have hd : decide ((0 : Int) < (N : Int)) = true := decide_eq_true (by omega)
      go_wp2_with fail
      refine (tapeCardsF a0 len cap zs tb 9 w3 HT3.out (HRW.out _ HB3.out) (by omega)).mono ?_
      rintro r w4 ⟨v9, cs, rfl, hoc, hcl, hcf, ht, hb⟩
      obtain ⟨ca, c9, rfl, hcc, hcm, -⟩ := OwnR.form hoc
      obtain ⟨p, hp⟩ : ∃ p, cs.length = p := ⟨_, rfl⟩
      rw [hp] at hcc hcl hoc ⊢
      have hkb : ∀ (b : Nat) (cur : Array Value) (T : TypeId), w3.heap[b]? = some (.cells cur T (0, 0)) → T ≠ 50 → w4.heap[b]? = w3.heap[b]? := fun b cur T hc hT => hb.block b (HT3.out.ne hT hc) (blk_lt hc)
      have HV4 := Lib.hid (show OwnW w.heap.size w4 (.slice oa m oc) rs from own_blocks HV3.out fun b cur hc => hkb b cur _ hc (by decide))
      have HR4 := Lib.hid (RoOk.snoc (r := ⟨ca, p, c9, cs⟩) HR3.out (HR3.out.blocks fun b cur hc => hkb b cur _ hc (by decide)) hoc hp HB3.out.size)
      have HQ4 := Lib.hid (show OwnR enI 1 2 w.heap.size w4 (.slice na k nc) ns from own_blocks HQ3.out fun b cur hc => hkb b cur _ hc (by decide))
      have HT4 := Lib.hid ht
      have HB4 := Lib.hid (HB3.out.trans (hb.below HWT.out HB3.out.size))
      have HP4 := Lib.hid (show (∀ r ∈ rs ++ [(⟨ca, p, c9, cs⟩ : Rw)], r.n ≤ 9 ∧ ∀ c ∈ r.ls, CdF c) from fun r hr => by
        rcases List.mem_append.1 hr with hr | hr
        · exact HPR.out r hr
        · simp at hr; subst hr; exact ⟨hcl, hcf⟩)
      clear hoc hcf ht hb hkb hp HV3 HR3 HQ3 HT3 HB3 HPR
      have D5 := (Below.refl w4.heap.size w4).alloc (Nat.le_refl _) (.cells #[.slice ca p c9] 28)
      have HX5 := Lib.hid (blk_new w4 #[.slice ca p c9] 28)
      have HV5 := Lib.hid (show (w4.alloc (.cells #[.slice ca p c9] 28)).ownsRow w.heap.size 28 1 (.slice oa m oc) m (flat rwE rs) from by have h9 := OwnR.ext HV4.out D5; unfold OwnR at h9; rw [HM.out] at h9; exact h9)
      have HR5 := Lib.hid (HR4.out.ext D5)
      have HQ5 := Lib.hid (show OwnR enI 1 2 w.heap.size _ (.slice na k nc) ns from OwnR.ext HQ4.out D5)
      have HT5 := Lib.hid (HT4.out.ext D5)
      have HB5 := Lib.hid (ext_trans HB4.out D5)
      clear D5 HV4 HR4 HQ4 HT4 HB4
      have hbz := HB5.out.size
      go_wp2_with (at_builtin; refine wpList_append_own _ rfl _ _ 24 rfl (w.heap.size) 28 i0 (.slice none 0 0) 1 24 Try.underlying24 hi hz0 hz1 hz2 rfl (by decide) (.slice oa m oc) m (flat rwE rs) rfl HV5.out ⟨w4.heap.size, 0, none⟩ 1 1 (rwE ⟨ca, p, c9, cs⟩) rfl rfl ?c1 ?c2 ?c3 ?c4 ?c5 ?_)
      case c1 => intro j u hj; rw [add_off, Nat.zero_add, blk_cell HX5.out]; simpa [rwE] using hj
      case c2 => exact rwE_one ⟨ca, p, c9, cs⟩
      case c3 => unfold maxLen; omega
      case c4 => omega
      case c5 => exact hbz
      intro v6 w6 ho6 hg6 _
      have HV6 := Lib.hid (show OwnW w.heap.size w6 v6 (rs ++ [(⟨ca, p, c9, cs⟩ : Rw)]) from by unfold OwnW OwnR; rw [flat_snoc, List.length_append, HM.out]; exact ho6)
      have hkb : ∀ (b : Nat) (cur : Array Value) (T : TypeId), (w4.alloc (.cells #[.slice ca p c9] 28)).heap[b]? = some (.cells cur T (0, 0)) → T ≠ 28 → w6.heap[b]? = (w4.alloc (.cells #[.slice ca p c9] 28)).heap[b]? := fun b cur T hc hT => hg6.block b (blk_lt hc) (own_ne HV5.out hc hT)
      have HR6 := Lib.hid (HR5.out.blocks fun b cur hc => hkb b cur _ hc (by decide))
      have HQ6 := Lib.hid (show OwnR enI 1 2 w.heap.size w6 (.slice na k nc) ns from own_blocks HQ5.out fun b cur hc => hkb b cur _ hc (by decide))
      have HT6 := Lib.hid (HT5.out.grown9 hg6 HV5.out (by decide))
      have HB6 := Lib.hid (HB5.out.grown hg6 HB5.out.size (fun q hq => own_ge HV5.out hq))
      clear ho6 hg6 hkb HX5 HV5 HR5 HQ5 HT5 HB5 hbz
      obtain ⟨oa6, oc6, rfl, -, -, -⟩ := OwnR.form HV6.out
      have hm6 : (rs ++ [(⟨ca, p, c9, cs⟩ : Rw)]).length = m + 1 := by rw [List.length_append, HM.out]; rfl
      rw [hm6] at HV6 ⊢
      have HM6 := Lib.hid hm6
      clear hm6
      go_wp2_with fail
      refine (tapeNextK a0 len cap zs tb 90 w6 HT6.out (HRW.out _ HB6.out) (by omega) (by omega)).mono ?_
      rintro r w7 ⟨q7, rfl, -, -, ht, hb⟩
      have hkb : ∀ (b : Nat) (cur : Array Value) (T : TypeId), w6.heap[b]? = some (.cells cur T (0, 0)) → T ≠ 50 → w7.heap[b]? = w6.heap[b]? := fun b cur T hc hT => hb.block b (HT6.out.ne hT hc) (blk_lt hc)
      have HV7 := Lib.hid (show OwnW w.heap.size w7 (.slice oa6 (m + 1) oc6) (rs ++ [(⟨ca, p, c9, cs⟩ : Rw)]) from own_blocks HV6.out fun b cur hc => hkb b cur _ hc (by decide))
      have HR7 := Lib.hid (HR6.out.blocks fun b cur hc => hkb b cur _ hc (by decide))
      have HQ7 := Lib.hid (show OwnR enI 1 2 w.heap.size w7 (.slice na k nc) ns from own_blocks HQ6.out fun b cur hc => hkb b cur _ hc (by decide))
      have HT7 := Lib.hid ht
      have HB7 := Lib.hid (HB6.out.trans (hb.below HWT.out HB6.out.size))
      clear ht hb hkb HV6 HR6 HQ6 HT6 HB6
      have D8 := (Below.refl w7.heap.size w7).alloc (Nat.le_refl _) (.cells #[.int .i64 q7] 2)
      have HX8 := Lib.hid (blk_new w7 #[.int .i64 q7] 2)
      have HV8 := Lib.hid (show OwnW w.heap.size _ (.slice oa6 (m + 1) oc6) (rs ++ [(⟨ca, p, c9, cs⟩ : Rw)]) from OwnR.ext HV7.out D8)
      have HR8 := Lib.hid (HR7.out.ext D8)
      have HQ8 := Lib.hid (show (w7.alloc (.cells #[.int .i64 q7] 2)).ownsRow w.heap.size 2 1 (.slice na k nc) k (flat enI ns) from by have h9 := OwnR.ext HQ7.out D8; unfold OwnR at h9; rw [HK.out] at h9; exact h9)
      have HT8 := Lib.hid (HT7.out.ext D8)
      have HB8 := Lib.hid (ext_trans HB7.out D8)
      clear D8 HV7 HR7 HQ7 HT7 HB7
      have hbz := HB8.out.size
      go_wp2_with (at_builtin; refine wpList_append_own _ rfl _ _ 25 rfl (w.heap.size) 2 j0 (.int .i64 0) 1 8 Try.underlying25 hj hy0 hy1 hy2 rfl (by decide) (.slice na k nc) k (flat enI ns) rfl HQ8.out ⟨w7.heap.size, 0, none⟩ 1 1 (enI q7) rfl rfl ?c1 ?c2 ?c3 ?c4 ?c5 ?_)
      case c1 => intro j u hj; rw [add_off, Nat.zero_add, blk_cell HX8.out]; simpa [enI] using hj
      case c2 => intro u hu; simp [enI] at hu; subst hu; rfl
      case c3 => unfold maxLen; omega
      case c4 => omega
      case c5 => exact hbz
      intro v9 w9 ho9 hg9 _
      have HQ9 := Lib.hid (show OwnR enI 1 2 w.heap.size w9 v9 (ns ++ [q7]) from by unfold OwnR; rw [flat_snoc, List.length_append, HK.out]; exact ho9)
      have hkb : ∀ (b : Nat) (cur : Array Value) (T : TypeId), (w7.alloc (.cells #[.int .i64 q7] 2)).heap[b]? = some (.cells cur T (0, 0)) → T ≠ 2 → w9.heap[b]? = (w7.alloc (.cells #[.int .i64 q7] 2)).heap[b]? := fun b cur T hc hT => hg9.block b (blk_lt hc) (own_ne HQ8.out hc hT)
      have HV9 := Lib.hid (show OwnW w.heap.size w9 (.slice oa6 (m + 1) oc6) (rs ++ [(⟨ca, p, c9, cs⟩ : Rw)]) from own_blocks HV8.out fun b cur hc => hkb b cur _ hc (by decide))
      have HR9 := Lib.hid (HR8.out.blocks fun b cur hc => hkb b cur _ hc (by decide))
      have HT9 := Lib.hid (HT8.out.grown9 hg9 HQ8.out (by decide))
      have HB9 := Lib.hid (HB8.out.grown hg9 HB8.out.size (fun q hq => own_ge HQ8.out hq))
      clear ho9 hg9 hkb HX8 HV8 HR8 HQ8 HT8 HB8 hbz
      obtain ⟨M, rfl⟩ : ∃ M, N = M + 1 := ⟨N - 1, by omega⟩
      go_wp2
      go_roundw
      case rel => exact ⟨M, _, ns ++ [q7], by go_num, by rw [HM6.out]; omega, by rw [HM6.out, List.length_append, HK.out]; simp only [List.length_cons, List.length_nil]; omega, HV9.out, HR9.out, HQ9.out, HP4.out, HT9.out, HB9.out⟩
      case measure => first | (simp [intOf]; done) | (simp [intOf]; omega)

end Go.Proofs.Ytloeabdohgdmkaa
