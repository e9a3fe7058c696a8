/- Package cache. -/
import Derived.Test.YtkhcgopehmndgaaCacP
import Derived.Test.YtkhcgopehmndgaaSealR
namespace Go.Proofs.Ytkhcgopehmndgaa
open Go.RowKit
set_option linter.unusedVariables false
set_option linter.unusedSimpArgs false

/-- what a cache remembers -/
def CacP (w : World) (cb : Nat) (q : Int) (cs : List Cd) : Prop := ∃ (a : Option Addr) (c : Nat), w.heap[cb]? = some (.cells #[.slice a cs.length c, .int .i64 q] 80 (0, 0)) ∧ cs.length ≤ c ∧ c ≤ maxLen ∧ CAt w a cs ∧ ((a = none ∧ c = 0) ∨ ∃ b o, a = some ⟨b, o, none⟩)
section
variable {w w' : World} {cb : Nat} {q q' : Int} {cs : List Cd}
theorem CacP.lt (h : CacP w cb q cs) : cb < w.heap.size := by obtain ⟨a, c, h1, -⟩ := h; exact blk_lt h1
theorem CacP.ext (h : CacP w cb q cs) (hb : Below w.heap.size w w') : CacP w' cb q cs := by
  obtain ⟨a, c, h1, h2, h3, h4, h5⟩ := h
  exact ⟨a, c, blk_ext hb h1, h2, h3, h4.ext hb, h5⟩
/-- another block of another type is written -/
theorem CacP.rimO {b0 : Nat} {cs0 : Array Value} {T0 : TypeId} (h : CacP w cb q cs) (hr : Rim b0 w w') (h0 : w.heap[b0]? = some (.cells cs0 T0 (0, 0))) (hT : 80 ≠ T0) (hT2 : 49 ≠ T0) : CacP w' cb q cs := by
  obtain ⟨a, c, h1, h2, h3, h4, h5⟩ := h
  have hk : ∀ (b : Nat) (cur : Array Value) (T : TypeId), T ≠ T0 → w.heap[b]? = some (.cells cur T (0, 0)) → w'.heap[b]? = w.heap[b]? := fun b cur T hne hc => hr.block b (fun e => by subst e; rw [h0] at hc; simp at hc; exact hne hc.2.symm) (blk_lt hc)
  exact ⟨a, c, (hk cb _ _ hT h1).trans h1, h2, h3, h4.keep fun b cur hc _ => hk b cur _ hT2 hc, h5⟩
end
set_option maxRecDepth 100000 in
set_option maxHeartbeats 1000000 in
theorem cacheNew (w : World) :
    Calls Try.prog 12 #[] w fun r w' => r = .returned (.pointer (some ⟨w.heap.size, 0, none⟩)) ∧ CacP w' w.heap.size (-1) [] ∧ Below w.heap.size w w' := by
  go_enter Try.func12, Try.ntmps12
  go_wp2
  go_ret
  exact ⟨rfl, ⟨none, 0, blk_new _ _ _, Nat.le_refl _, by simp [maxLen], .inl rfl, .inl ⟨rfl, rfl⟩⟩, (Below.refl _ _).alloc (Nat.le_refl _) _⟩

set_option maxRecDepth 100000 in
set_option maxHeartbeats 1000000 in
theorem cacheSince (cb : Nat) (q : Int) (cs : List Cd) (w : World) (h : CacP w cb q cs) :
    Calls Try.prog 22 #[.pointer (some ⟨cb, 0, none⟩)] w fun r w' => r = .returned (.int .i64 q) ∧ Below w.heap.size w w' := by
  obtain ⟨a, c, h1, h2, h3, h4, h5⟩ := h
  obtain ⟨n, hn⟩ : ∃ n, cs.length = n := ⟨_, rfl⟩
  rw [hn] at h1 h2
  have H1 := Lib.hid h1
  have hk := blk_cell h1
  have hl := blk_lt h1
  clear h1 h2 h4 h5 hn
  go_enter Try.func22, Try.ntmps22
  go_wp2
  go_ret
  exact ⟨rfl, Below.refl _ _⟩

set_option maxRecDepth 100000 in
set_option maxHeartbeats 1000000 in
theorem cacheForget (cb : Nat) (q : Int) (cs : List Cd) (w : World) (h : CacP w cb q cs) :
    Calls Try.prog 30 #[.pointer (some ⟨cb, 0, none⟩)] w fun r w' => r = .returned (.tuple #[]) ∧ CacP w' cb (-1) cs ∧ Rim cb w w' := by
  obtain ⟨a, c, h1, h2, h3, h4, h5⟩ := h
  obtain ⟨n, hn⟩ : ∃ n, cs.length = n := ⟨_, rfl⟩
  rw [hn] at h1 h2
  have H1 := Lib.hid h1
  have hk := blk_cell h1
  have hl := blk_lt h1
  have hf := blk_free h1
  have HAT := Lib.hid h4
  have H5 := Lib.hid h5
  have HN := Lib.hid hn
  clear h1 h4 h5 hn
  go_enter Try.func30, Try.ntmps30
  go_wp2
  go_end0
  have hkp : Kept cb w (w.setCell ⟨cb, 1, none⟩ (.int .i64 (-1))) := (Kept.refl cb w).setCell _ _
  refine ⟨rfl, ⟨a, c, ?_, by rw [HN.out]; exact h2, h3, HAT.out.keep fun b cur hc _ => hkp.block b (fun e => by subst e; have h9 := H1.out.symm.trans hc; simp at h9), H5.out⟩, Rim.kept hkp⟩
  rw [HN.out]
  exact blk_set H1.out (by first | rfl | simp)

set_option maxRecDepth 100000 in
set_option maxHeartbeats 1000000 in
theorem cacheCards (cb : Nat) (q : Int) (cs : List Cd) (w : World) (h : CacP w cb q cs) (hn0 : cs.length ≤ 1000) :
    Calls Try.prog 20 #[.pointer (some ⟨cb, 0, none⟩)] w fun r w' => ∃ v, r = .returned v ∧ OwnC w.heap.size w' v cs ∧ Below w.heap.size w w' := by
  obtain ⟨a, c, h1, h2, h3, h4, h5⟩ := h
  obtain ⟨n, hn⟩ : ∃ n, cs.length = n := ⟨_, rfl⟩
  rw [hn] at h1 h2
  have H1 := Lib.hid h1
  have hk := blk_cell h1
  have hl := blk_lt h1
  have HAT := Lib.hid h4
  have H5 := Lib.hid h5
  have HN := Lib.hid hn
  have hn1 : n ≤ 1000 := by omega
  clear h1 h4 h5 hn hn0
  go_enter Try.func20, Try.ntmps20
  go_wp2_with fail
  refine (cloneC a n c cs _ HAT.out HN.out hn1 H5.out).mono ?_
  rintro e w1 ⟨v, rfl, ho, hb⟩
  have HO := Lib.hid ho
  have HB := Lib.hid hb
  clear ho hb hk hl
  go_wp2
  go_ret
  exact ⟨v, rfl, HO.out, HB.out⟩

set_option maxRecDepth 100000 in
set_option maxHeartbeats 4000000 in
theorem applyFull (cb n mc : Nat) (ma : Option Addr) (q0 q s : Int) (cs0 ls : List Cd) (w : World) (h : CacP w cb q0 cs0) (hm : CAt w ma ls) (hl0 : ls.length = n) (hn : n ≤ 20) (hr : ∀ x ∈ ls, CdR x) (hg : ∀ x ∈ ls, x.g = false) (hp : ls.Pairwise (fun x y => kc x.a x.i y.a y.i < 0)) (hq : -1 ≤ q) (hs : sm (sealB ls) = s) :
    Calls Try.prog 18 #[.pointer (some ⟨cb, 0, none⟩), .agg #[.int .i64 2, .int .i64 5, .int .i64 0, .int .i64 0, .int .i64 0, .int .i64 0, .int .i64 q, .string ⟨#[]⟩, .string ⟨#[]⟩, .bool true, .int .u32 s, .slice ma n mc, .slice none 0 0]] w fun r w' => r = .returned (.int .i64 0) ∧ CacP w' cb q ls ∧ Rim cb w w' := by
  have D0 := Lib.hid (show Below w.heap.size w (w.alloc (.cells #[.int .i64 2, .int .i64 5, .int .i64 0, .int .i64 0, .int .i64 0, .int .i64 0, .int .i64 q, .string ⟨#[]⟩, .string ⟨#[]⟩, .bool true, .int .u32 s, .slice ma n mc, .slice none 0 0] 36)) from (Below.refl _ _).alloc (Nat.le_refl _) _)
  have HX := Lib.hid (blk_new w #[.int .i64 2, .int .i64 5, .int .i64 0, .int .i64 0, .int .i64 0, .int .i64 0, .int .i64 q, .string ⟨#[]⟩, .string ⟨#[]⟩, .bool true, .int .u32 s, .slice ma n mc, .slice none 0 0] 36)
  have HP := Lib.hid (h.ext D0.out)
  have hcb := h.lt
  have HA := Lib.hid (hm.ext D0.out)
  have HL := Lib.hid hl0
  have HR := Lib.hid hr
  have HG := Lib.hid hg
  have HPW := Lib.hid hp
  have HS := Lib.hid hs
  have HC := Lib.hid (show ∀ x ∈ ls, CdS x from fun x hx => ⟨by have := (hr x hx).1.2.1; omega, by have := (hr x hx).2.1.2.1; omega⟩)
  clear h hm hl0 hr hg hp hs
  go_enter Try.func18, Try.ntmps18
  go_upto_region 1 with (fail)
  obtain ⟨p, hp⟩ : ∃ p, w.heap.size = p := ⟨_, rfl⟩
  have HPw := Lib.hid hp
  have hpc : p ≠ cb := by omega
  rw [hp] at HX
  try rw [hp]
  clear hp hcb
  generalize (w.alloc (.cells #[.int .i64 2, .int .i64 5, .int .i64 0, .int .i64 0, .int .i64 0, .int .i64 0, .int .i64 q, .string ⟨#[]⟩, .string ⟨#[]⟩, .bool true, .int .u32 s, .slice ma n mc, .slice none 0 0] 36)) = w1 at *
  have hk := blk_cell HX.out
  have hl := blk_lt HX.out
  go_wp2_with fail
  refine (mailRightOk true q s ma n mc ls _ HA.out HL.out (by omega) HR.out hq).mono ?_
  rintro e w2 ⟨rfl, hb⟩
  have HX2 := Lib.hid (blk_ext hb HX.out)
  have HA2 := Lib.hid (HA.out.ext hb)
  have HP2 := Lib.hid (HP.out.ext hb)
  have D2 := Lib.hid (ext_trans D0.out hb)
  clear hk hl hb HX HA HP D0
  have hk := blk_cell HX2.out
  have hl := blk_lt HX2.out
  go_wp2_with fail
  go_loopw [5, 42] (fun v j wr => ∃ (J : Nat) (a : Option Addr) (c : Nat), J ≤ n ∧ j = .int .i64 (J : Int) ∧ v = .slice a J c ∧ OwnC w2.heap.size wr (.slice a J c) (ls.take J) ∧ Below w2.heap.size w2 wr) (fun v j _ => n - (intOf j).toNat)
  case atStart => exact ⟨0, none, 0, by omega, rfl, rfl, OwnR.nil _ _, Below.refl _ _⟩
  case round =>
    obtain ⟨wr, rfl⟩ : ∃ y : World, y = wr := ⟨_, rfl⟩
    obtain ⟨J, a, c, hJ, rfl, rfl, ho, hbr⟩ := hrel
    have HO := Lib.hid ho
    have HB := Lib.hid hbr
    clear ho hbr hk hl
    by_cases hlt : J < n
    · obtain ⟨x, hx⟩ : ∃ x, ls[J]? = some x := ⟨_, List.getElem?_eq_getElem (by rw [HL.out]; exact hlt)⟩
      have HXG := Lib.hid (HG.out x (List.mem_of_getElem? hx))
      have HAH := Lib.hid (show ∀ y ∈ ls.take J, kc y.a y.i x.a x.i < 0 from fun y hy => by
        obtain ⟨i, hi⟩ := List.mem_iff_getElem?.1 hy
        rw [List.getElem?_take] at hi
        split at hi
        · rename_i hlt3
          obtain ⟨l1, g1⟩ := List.getElem?_eq_some_iff.1 hi
          obtain ⟨l2, g2⟩ := List.getElem?_eq_some_iff.1 hx
          have h8 := List.pairwise_iff_getElem.1 HPW.out i J l1 l2 hlt3
          rw [g1, g2] at h8
          exact h8
        · cases hi)
      have HTK := Lib.hid (show ls.take (J + 1) = ls.take J ++ [x] from by rw [List.take_add_one, hx]; rfl)
      have HTL := Lib.hid (show (ls.take J).length = J from by rw [List.length_take, HL.out]; omega)
      obtain ⟨vb, vo, rfl⟩ : ∃ b o, ma = some ⟨b, o, none⟩ := by
        rcases HA2.out with h | ⟨b, o, e, _⟩
        · rw [h] at hx; simp at hx
        · exact ⟨b, o, e⟩
      obtain ⟨y0, y1, y2, y3, y4, y5, y6, y7, y8⟩ := (HA2.out.ext HB.out).at hx
      rw [HXG.out] at y8
      have hJn : (J : Int) < (n : Int) := by omega
      have E3 := Lib.hid (show Below wr.heap.size wr (wr.alloc (.cells #[.string x.a, .string x.i, .int .i64 x.s, .int .i64 x.o, .int .i64 x.l, .int .i64 x.t, .int .i64 x.k, .int .i64 x.n, .bool false] 49)) from (Below.refl _ _).alloc (Nat.le_refl _) _)
      have HK3 := Lib.hid (blk_new wr #[.string x.a, .string x.i, .int .i64 x.s, .int .i64 x.o, .int .i64 x.l, .int .i64 x.t, .int .i64 x.k, .int .i64 x.n, .bool false] 49)
      have HO3 := Lib.hid (OwnR.ext HO.out E3.out)
      have HB3 := Lib.hid (ext_trans HB.out E3.out)
      clear hx
      go_upto_region 11 with (fail)
      clear y0 y1 y2 y3 y4 y5 y6 y7 y8 HO HB E3
      generalize (wr.alloc (.cells #[.string x.a, .string x.i, .int .i64 x.s, .int .i64 x.o, .int .i64 x.l, .int .i64 x.t, .int .i64 x.k, .int .i64 x.n, .bool false] 49)) = w4 at *
      have hk4 := blk_cell HK3.out
      have hl4 := blk_lt HK3.out
      go_wp2_with fail
      refine (cachePutEnd w2.heap.size J c a (ls.take J) x _ HO3.out HTL.out (by omega) HXG.out HAH.out HB3.out.size).mono ?_
      rintro e w5 ⟨v', rfl, ho, hb⟩
      have HB5 := Lib.hid (HB3.out.trans hb)
      obtain ⟨a5, c5, rfl, -, -, -⟩ := OwnR.form ho
      have e5 : (ls.take J ++ [x]).length = J + 1 := by rw [List.length_append, HTL.out]; rfl
      rw [e5] at ho ⊢
      have HO5 := Lib.hid ho
      clear ho hb hk4 hl4 HK3 HO3 HB3 e5
      go_wp2
      go_roundw
      case rel => exact ⟨J + 1, a5, c5, by omega, by go_num, rfl, by rw [HTK.out]; exact HO5.out, HB5.out⟩
      case measure => simp [intOf]; omega
    · obtain rfl : J = n := by omega
      have hlt2 : decide ((J : Int) < (J : Int)) = false := by simp
      have HO7 := Lib.hid (show OwnC w2.heap.size wr (.slice a J c) ls from by have := HO.out; rwa [List.take_of_length_le (by rw [HL.out]; exact Nat.le_refl _)] at this)
      have HX7 := Lib.hid (blk_ext HB.out HX2.out)
      have HP7 := Lib.hid (HP2.out.ext HB.out)
      have HD7 := Lib.hid (ext_trans D2.out HB.out)
      clear HO HB HX2 HP2 D2 HA2
      obtain ⟨a0, c0, h1, -⟩ := HP7.out
      obtain ⟨n0, hn0⟩ : ∃ n0, cs0.length = n0 := ⟨_, rfl⟩
      rw [hn0] at h1
      have H1 := Lib.hid h1
      have hkc := blk_cell h1
      have hlc := blk_lt h1
      have hfc := blk_free h1
      clear h1 hn0
      obtain ⟨w7, hw7⟩ : ∃ y : World, y = wr := ⟨_, rfl⟩
      rw [← hw7] at HO7 HX7 HP7 HD7 H1 hkc hlc hfc ⊢
      clear hw7
      go_upto_region 14 with (fail)
      have hkp : Kept cb w7 (w7.setCell ⟨cb, 0, none⟩ (.slice a J c)) := (Kept.refl cb w7).setCell _ _
      have H8 := Lib.hid (show (w7.setCell ⟨cb, 0, none⟩ (.slice a J c)).heap[cb]? = some (.cells #[.slice a J c, .int .i64 q0] 80 (0, 0)) from blk_set H1.out (by first | rfl | simp))
      have HX8 := Lib.hid ((hkp.block p hpc).trans HX7.out)
      have HV8 := Lib.hid (show CAt (w7.setCell ⟨cb, 0, none⟩ (.slice a J c)) a ls ∧ J ≤ c ∧ c ≤ maxLen ∧ ((a = none ∧ c = 0) ∨ ∃ b o, a = some ⟨b, o, none⟩) from by
        obtain ⟨a', c', e1, h1, h2, h3, -, h4⟩ := (show OwnC w2.heap.size w7 (.slice a J c) ls from HO7.out).read
        simp only [Value.slice.injEq] at e1
        obtain ⟨rfl, -, rfl⟩ := e1
        rw [HL.out] at h1
        refine ⟨h3.keep fun b cur hc _ => hkp.block b (fun e => by subst e; have h9 := H1.out.symm.trans hc; simp at h9), h1, h2, ?_⟩
        rcases h4 with ⟨e1, e2, -⟩ | ⟨g, e1⟩
        · exact .inl ⟨e1, e2⟩
        · exact .inr ⟨g, 0, e1⟩)
      have HD8 := Lib.hid (show Rim cb w (w7.setCell ⟨cb, 0, none⟩ (.slice a J c)) from (Rim.of HD7.out).trans (Rim.kept hkp))
      clear hkp hkc hlc hfc HO7 HX7 HP7 HD7 H1
      generalize (w7.setCell ⟨cb, 0, none⟩ (.slice a J c)) = w8 at *
      haveI hIq : Nonempty (Of w8) := of_some _
      have hG0 := blk_of HX8.out
      first | (refine wp_region_stay w8 (by kernel_rfl) (by kernel_rfl) (by go_grown) ?_) | (refine wp_region_stay_seq w8 (by go_grown) ?_)
      repeat (go_big_quiet_step ((go_at_call 46; with_reducible refine stay_as (sealOf a J c ls _ (HV8.out.1.ext (In.h _)) HL.out hn HV8.out.2.1 HC.out) (congrArg (Value.int .u32) HS.out))))
      refine wpQuiet_nil ?_
      intro w9 hb9
      clear hIq hG0
      have H9 := Lib.hid (blk_ext hb9 H8.out)
      have HX9 := Lib.hid (blk_ext hb9 HX8.out)
      have HV9 := Lib.hid (HV8.out.1.ext hb9)
      have HF9 := Lib.hid HV8.out.2
      have HD9 := Lib.hid (HD8.out.trans (Rim.of hb9))
      clear hb9 H8 HX8 HV8 HD8
      have hk9 := blk_cell HX9.out
      have hl9 := blk_lt HX9.out
      have hkc := blk_cell H9.out
      have hlc := blk_lt H9.out
      have hfc := blk_free H9.out
      go_wp2
      go_ret
      have hkp : Kept cb w9 (w9.setCell ⟨cb, 1, none⟩ (.int .i64 q)) := (Kept.refl cb w9).setCell _ _
      refine ⟨rfl, ⟨a, c, ?_, by rw [HL.out]; exact HF9.out.1, HF9.out.2.1, HV9.out.keep fun b cur hc _ => hkp.block b (fun e => by subst e; have h9 := H9.out.symm.trans hc; simp at h9), HF9.out.2.2⟩, HD9.out.trans (Rim.kept hkp)⟩
      rw [HL.out]
      exact blk_set H9.out (by first | rfl | simp)

set_option maxRecDepth 100000 in
set_option maxHeartbeats 2000000 in
theorem applyNever (cb n mc : Nat) (ma : Option Addr) (q s : Int) (cs0 ls : List Cd) (w : World) (h : CacP w cb (-1) cs0) (hm : CAt w ma ls) (hl0 : ls.length = n) (hn : n ≤ 20) (hr : ∀ x ∈ ls, CdR x) (hq : -1 ≤ q) :
    Calls Try.prog 18 #[.pointer (some ⟨cb, 0, none⟩), .agg #[.int .i64 2, .int .i64 5, .int .i64 0, .int .i64 0, .int .i64 0, .int .i64 0, .int .i64 q, .string ⟨#[]⟩, .string ⟨#[]⟩, .bool false, .int .u32 s, .slice ma n mc, .slice none 0 0]] w fun r w' => r = .returned (.int .i64 25) ∧ Below w.heap.size w w' := by
  have D0 := Lib.hid (show Below w.heap.size w (w.alloc (.cells #[.int .i64 2, .int .i64 5, .int .i64 0, .int .i64 0, .int .i64 0, .int .i64 0, .int .i64 q, .string ⟨#[]⟩, .string ⟨#[]⟩, .bool false, .int .u32 s, .slice ma n mc, .slice none 0 0] 36)) from (Below.refl _ _).alloc (Nat.le_refl _) _)
  have HX := Lib.hid (blk_new w #[.int .i64 2, .int .i64 5, .int .i64 0, .int .i64 0, .int .i64 0, .int .i64 0, .int .i64 q, .string ⟨#[]⟩, .string ⟨#[]⟩, .bool false, .int .u32 s, .slice ma n mc, .slice none 0 0] 36)
  have HP := Lib.hid (h.ext D0.out)
  have hcb := h.lt
  have HA := Lib.hid (hm.ext D0.out)
  have HL := Lib.hid hl0
  have HR := Lib.hid hr
  clear h hm hl0 hr
  go_enter Try.func18, Try.ntmps18
  go_upto_region 1 with (fail)
  obtain ⟨p, hp⟩ : ∃ p, w.heap.size = p := ⟨_, rfl⟩
  have HPw := Lib.hid hp
  have hpc : p ≠ cb := by omega
  rw [hp] at HX
  try rw [hp]
  clear hp hcb
  generalize (w.alloc (.cells #[.int .i64 2, .int .i64 5, .int .i64 0, .int .i64 0, .int .i64 0, .int .i64 0, .int .i64 q, .string ⟨#[]⟩, .string ⟨#[]⟩, .bool false, .int .u32 s, .slice ma n mc, .slice none 0 0] 36)) = w1 at *
  have hk := blk_cell HX.out
  have hl := blk_lt HX.out
  go_wp2_with fail
  refine (mailRightOk false q s ma n mc ls _ HA.out HL.out (by omega) HR.out hq).mono ?_
  rintro e w2 ⟨rfl, hb⟩
  have HX2 := Lib.hid (blk_ext hb HX.out)
  have HP2 := Lib.hid (HP.out.ext hb)
  have D2 := Lib.hid (ext_trans D0.out hb)
  clear hk hl hb HX HA HP D0
  have hk := blk_cell HX2.out
  have hl := blk_lt HX2.out
  obtain ⟨a0, c0, h1, -⟩ := HP2.out
  obtain ⟨n0, hn0⟩ : ∃ n0, cs0.length = n0 := ⟨_, rfl⟩
  rw [hn0] at h1
  have hkc := blk_cell h1
  have hlc := blk_lt h1
  clear h1 hn0
  go_wp2
  go_ret
  exact ⟨rfl, D2.out⟩

set_option maxRecDepth 100000 in
set_option maxHeartbeats 4000000 in
theorem applyDiff (cb : Nat) (q0 q s : Int) (w : World) (h : CacP w cb q0 []) (h0 : q0 ≠ -1) (hq : -1 ≤ q) (hs : sm (sealB []) ≠ s) :
    Calls Try.prog 18 #[.pointer (some ⟨cb, 0, none⟩), .agg #[.int .i64 2, .int .i64 5, .int .i64 0, .int .i64 0, .int .i64 0, .int .i64 0, .int .i64 q, .string ⟨#[]⟩, .string ⟨#[]⟩, .bool false, .int .u32 s, .slice none 0 0, .slice none 0 0]] w fun r w' => r = .returned (.int .i64 25) ∧ CacP w' cb (-1) [] ∧ Rim cb w w' := by
  have D0 := Lib.hid (show Below w.heap.size w (w.alloc (.cells #[.int .i64 2, .int .i64 5, .int .i64 0, .int .i64 0, .int .i64 0, .int .i64 0, .int .i64 q, .string ⟨#[]⟩, .string ⟨#[]⟩, .bool false, .int .u32 s, .slice none 0 0, .slice none 0 0] 36)) from (Below.refl _ _).alloc (Nat.le_refl _) _)
  have HX := Lib.hid (blk_new w #[.int .i64 2, .int .i64 5, .int .i64 0, .int .i64 0, .int .i64 0, .int .i64 0, .int .i64 q, .string ⟨#[]⟩, .string ⟨#[]⟩, .bool false, .int .u32 s, .slice none 0 0, .slice none 0 0] 36)
  have HP := Lib.hid (h.ext D0.out)
  have hcb := h.lt
  obtain ⟨S, hS⟩ : ∃ S, sm (sealB []) = S := ⟨_, rfl⟩
  have HSM := Lib.hid hS
  rw [hS] at hs
  have hsb : (S == s) = false := by simpa using hs
  have hq0 : (q0 == -1) = false := by simpa using h0
  clear h hS
  go_enter Try.func18, Try.ntmps18
  go_upto_region 1 with (fail)
  obtain ⟨p, hp⟩ : ∃ p, w.heap.size = p := ⟨_, rfl⟩
  have HPw := Lib.hid hp
  have hpc : p ≠ cb := by omega
  rw [hp] at HX
  try rw [hp]
  clear hp hcb
  generalize (w.alloc (.cells #[.int .i64 2, .int .i64 5, .int .i64 0, .int .i64 0, .int .i64 0, .int .i64 0, .int .i64 q, .string ⟨#[]⟩, .string ⟨#[]⟩, .bool false, .int .u32 s, .slice none 0 0, .slice none 0 0] 36)) = w1 at *
  have hk := blk_cell HX.out
  have hl := blk_lt HX.out
  go_wp2_with fail
  refine (mailRightOk false q s none 0 0 [] _ (.inl rfl) rfl (by omega) (fun x hx => by cases hx) hq).mono ?_
  rintro e w2 ⟨rfl, hb⟩
  have HX2 := Lib.hid (blk_ext hb HX.out)
  have HP2 := Lib.hid (HP.out.ext hb)
  have D2 := Lib.hid (ext_trans D0.out hb)
  clear hk hl hb HX HP D0
  have hk := blk_cell HX2.out
  have hl := blk_lt HX2.out
  obtain ⟨a0, c0, h1, h2, h3, h4, h5⟩ := HP2.out
  have H1 := Lib.hid (show w2.heap[cb]? = some (.cells #[.slice a0 0 c0, .int .i64 q0] 80 (0, 0)) from h1)
  have H5 := Lib.hid h5
  clear h1 h4 h5
  have hkc := blk_cell H1.out
  have hlc := blk_lt H1.out
  go_wp2_with fail
  refine (cloneC a0 0 c0 [] _ (.inl rfl) rfl (by omega) H5.out).mono ?_
  rintro e w3 ⟨v, rfl, ho, hb⟩
  obtain ⟨a, c, rfl, h1, h2, h3, -, h4⟩ := ho.read
  have HF := Lib.hid (show (a = none ∧ c = 0) ∨ ∃ b o, a = some ⟨b, o, none⟩ from by
    rcases h4 with ⟨e1, e2, -⟩ | ⟨g, e1⟩
    · exact .inl ⟨e1, e2⟩
    · exact .inr ⟨g, 0, e1⟩)
  have hcm := h2
  have H3 := Lib.hid (blk_ext hb H1.out)
  have HX3 := Lib.hid (blk_ext hb HX2.out)
  have D3 := Lib.hid (ext_trans D2.out hb)
  clear ho hb h1 h2 h3 h4 hk hl hkc hlc HX2 HP2 D2 H1 H5
  have hk := blk_cell HX3.out
  have hl := blk_lt HX3.out
  go_wp2_with fail
  go_loopw [5, 42] (fun v j wr => v = .slice a 0 c ∧ j = .int .i64 0 ∧ wr = w3) (fun v j _ => 0)
  case atStart => exact ⟨rfl, rfl, rfl⟩
  case round =>
    obtain ⟨rfl, rfl, rfl⟩ := hrel
    have hkc := blk_cell H3.out
    have hlc := blk_lt H3.out
    have hfc := blk_free H3.out
    go_upto_region 14 with (fail)
    have hkp : Kept cb wr (wr.setCell ⟨cb, 0, none⟩ (.slice a 0 c)) := (Kept.refl cb wr).setCell _ _
    have H8 := Lib.hid (show (wr.setCell ⟨cb, 0, none⟩ (.slice a 0 c)).heap[cb]? = some (.cells #[.slice a 0 c, .int .i64 q0] 80 (0, 0)) from blk_set H3.out (by first | rfl | simp))
    have HX8 := Lib.hid ((hkp.block p hpc).trans HX3.out)
    have HD8 := Lib.hid (show Rim cb w (wr.setCell ⟨cb, 0, none⟩ (.slice a 0 c)) from (Rim.of D3.out).trans (Rim.kept hkp))
    have HV8 := Lib.hid (show ∀ W : World, CAt W a [] from fun W => .inl rfl)
    have HL8 := Lib.hid (show ([] : List Cd).length = 0 from rfl)
    have HN8 := Lib.hid (show ∀ x ∈ ([] : List Cd), CdS x from fun x hx => by cases hx)
    clear hkp hkc hlc hfc hk hl HX3 D3 H3
    generalize (wr.setCell ⟨cb, 0, none⟩ (.slice a 0 c)) = w8 at *
    haveI hIq : Nonempty (Of w8) := of_some _
    have hG0 := blk_of HX8.out
    first | (refine wp_region_stay w8 (by kernel_rfl) (by kernel_rfl) (by go_grown) ?_) | (refine wp_region_stay_seq w8 (by go_grown) ?_)
    repeat (go_big_quiet_step ((go_at_call 46; with_reducible refine stay_as (sealOf a 0 c [] _ (HV8.out _) HL8.out (Nat.zero_le _) (Nat.zero_le _) HN8.out) (congrArg (Value.int .u32) HSM.out))))
    refine wpQuiet_nil ?_
    intro w9 hb9
    clear hIq hG0
    have H9 := Lib.hid (blk_ext hb9 H8.out)
    have HD9 := Lib.hid (HD8.out.trans (Rim.of hb9))
    clear hb9 H8 HX8 HD8
    have hkc := blk_cell H9.out
    have hlc := blk_lt H9.out
    have hfc := blk_free H9.out
    go_wp2
    go_ret
    have hkp : Kept cb w9 (w9.setCell ⟨cb, 1, none⟩ (.int .i64 (-1))) := (Kept.refl cb w9).setCell _ _
    refine ⟨rfl, ⟨a, c, ?_, Nat.zero_le _, hcm, .inl rfl, HF.out⟩, HD9.out.trans (Rim.kept hkp)⟩
    exact blk_set H9.out (by first | rfl | simp)

set_option maxRecDepth 100000 in
set_option maxHeartbeats 2000000 in
theorem applyArg (cb : Nat) (w : World) :
    Calls Try.prog 18 #[.pointer (some ⟨cb, 0, none⟩), .agg #[.int .i64 3, .int .i64 0, .int .i64 0, .int .i64 0, .int .i64 0, .int .i64 0, .int .i64 0, .string ⟨#[]⟩, .string ⟨#[]⟩, .bool false, .int .u32 0, .slice none 0 0, .slice none 0 0]] w fun r w' => r = .returned (.int .i64 1) ∧ Below w.heap.size w w' := by
  have D0 := Lib.hid (show Below w.heap.size w (w.alloc (.cells #[.int .i64 3, .int .i64 0, .int .i64 0, .int .i64 0, .int .i64 0, .int .i64 0, .int .i64 0, .string ⟨#[]⟩, .string ⟨#[]⟩, .bool false, .int .u32 0, .slice none 0 0, .slice none 0 0] 36)) from (Below.refl _ _).alloc (Nat.le_refl _) _)
  have HX := Lib.hid (blk_new w #[.int .i64 3, .int .i64 0, .int .i64 0, .int .i64 0, .int .i64 0, .int .i64 0, .int .i64 0, .string ⟨#[]⟩, .string ⟨#[]⟩, .bool false, .int .u32 0, .slice none 0 0, .slice none 0 0] 36)
  go_enter Try.func18, Try.ntmps18
  go_upto_region 1 with (fail)
  obtain ⟨p, hp⟩ : ∃ p, w.heap.size = p := ⟨_, rfl⟩
  rw [hp] at HX
  try rw [hp]
  clear hp
  generalize (w.alloc (.cells #[.int .i64 3, .int .i64 0, .int .i64 0, .int .i64 0, .int .i64 0, .int .i64 0, .int .i64 0, .string ⟨#[]⟩, .string ⟨#[]⟩, .bool false, .int .u32 0, .slice none 0 0, .slice none 0 0] 36)) = w1 at *
  have hk := blk_cell HX.out
  have hl := blk_lt HX.out
  go_wp2
  go_ret
  exact ⟨rfl, D0.out⟩

end Go.Proofs.Ytkhcgopehmndgaa
