/- Messages handed to both caches, one after another. -/
import Derived.Test.YtkhcgopehmndgaaCnF
import Derived.Test.YtkhcgopehmndgaaHist
namespace Go.Proofs.Ytkhcgopehmndgaa
open Go.RowKit
set_option linter.unusedVariables false
set_option linter.unusedSimpArgs false


theorem Below.rim {m b : Nat} {u w w' : World} (h : Below m u w) (hr : Rim b w w') (hb : m ≤ b) (hm : m ≤ w.heap.size) : Below m u w' :=
  ⟨hr.os.trans h.os, hr.tape.trans h.tape, hr.output.trans h.output, Nat.le_trans h.size hr.size, fun k hk => (hr.block k (by omega) (by omega)).trans (h.block k hk)⟩
theorem CacP.other {w w' : World} {cb wb : Nat} {q q2 : Int} {cs cs2 : List Cd} (h : CacP w cb q cs) (hr : RcP w wb q2 cs2) (hR : Rim wb w w') : CacP w' cb q cs := by
  obtain ⟨a1, c1, h1, -⟩ := hr
  exact h.rimO hR h1 (by decide) (by decide)
theorem RcP.other {w w' : World} {cb wb : Nat} {q q2 : Int} {cs cs2 : List Cd} (h : RcP w wb q cs) (hr : CacP w cb q2 cs2) (hR : Rim cb w w') : RcP w' wb q cs := by
  obtain ⟨a1, c1, h1, -⟩ := hr
  exact h.rimO hR h1 (by decide) (by decide)
/-- a row of flags -/
def FlAt (w : World) (a : Option Addr) (n : Nat) : Prop := ∀ j, j < n → ∃ b o v, a = some ⟨b, o, none⟩ ∧ w.cell? ⟨b, o + j, none⟩ = some (.bool v)
theorem FlAt.ext {w w' : World} {a : Option Addr} {n : Nat} (h : FlAt w a n) (hb : Below w.heap.size w w') : FlAt w' a n := fun j hj => by
  obtain ⟨b, o, v, e, h1⟩ := h j hj
  exact ⟨b, o, v, e, ext_cell hb h1⟩
set_option maxRecDepth 100000 in
set_option maxHeartbeats 8000000 in
theorem law21play (a fa : Option Addr) (n c fn fc : Nat) (vs : List Mv) (w : World) (hA : MsAt w a vs) (hl : vs.length = n) (hnc : n ≤ c) (hn : n ≤ 1000) (hM : ∀ v ∈ vs, MvM w v) (hF : FlAt w fa fn) (hfn : fn ≤ 1000) :
    Calls Try.prog 7 #[.slice a n c, .slice fa fn fc] w fun r w' => r = .returned (.bool true) ∧ Below w.heap.size w w' := by
  have HA := Lib.hid hA
  have HL := Lib.hid hl
  have HM := Lib.hid hM
  have HF := Lib.hid hF
  clear hA hl hM hF
  go_enter Try.func7, Try.ntmps7
  go_wp2_with fail
  refine (cacheNew _).mono ?_
  rintro e w1 ⟨rfl, hc1, hb1⟩
  have HC1 := Lib.hid hc1
  have HB1 := Lib.hid hb1
  have HCN := Lib.hid (Nat.le_refl w.heap.size)
  clear hc1 hb1
  go_wp2_with fail
  refine (rcNew _).mono ?_
  rintro e w2 ⟨rfl, hr2, hb2⟩
  have HC2 := Lib.hid (HC1.out.ext hb2)
  have HR2 := Lib.hid hr2
  have HB2 := Lib.hid (ext_trans HB1.out hb2)
  have HWN := Lib.hid (show w.heap.size ≤ w1.heap.size from HB1.out.size)
  obtain ⟨cb, hcb⟩ : ∃ cb, w.heap.size = cb := ⟨_, rfl⟩
  obtain ⟨wb, hwb⟩ : ∃ cb, w1.heap.size = cb := ⟨_, rfl⟩
  have HCN := Lib.hid (show w.heap.size ≤ cb from by omega)
  rw [hwb] at HWN HR2 ⊢
  have HC2 := Lib.hid (show CacP w2 cb (-1) [] from by rw [← hcb]; exact HC2.out)
  rw [show (Value.pointer (some ⟨w.heap.size, 0, none⟩)) = .pointer (some ⟨cb, 0, none⟩) from by rw [hcb]]
  clear hr2 hb2 HC1 HB1 hcb hwb
  go_wp2_with fail
  go_loopw [7] (fun i wr => ∃ (I : Nat) (q : Int) (cs : List Cd), I ≤ n ∧ i = .int .i64 (I : Int) ∧ CacP wr cb q cs ∧ RcP wr wb q cs ∧ WfC cs ∧ Below w.heap.size w wr) (fun i _ => n - (intOf i).toNat)
  case atStart => exact ⟨0, -1, [], by omega, rfl, HC2.out, HR2.out, WfC.nil, HB2.out⟩
  case round =>
    obtain ⟨w3, rfl⟩ : ∃ y : World, y = wr := ⟨_, rfl⟩
    obtain ⟨I, q, cs, hI, rfl, hC3, hR3, hwf, hB3⟩ := hrel
    have HC3 := Lib.hid hC3
    have HR3 := Lib.hid hR3
    have HWF := Lib.hid hwf
    have HB3 := Lib.hid hB3
    clear hC3 hR3 hwf hB3
    by_cases hlt : I < n
    · have hlt2 : (I : Int) < (n : Int) := by omega
      by_cases h40 : I < 40
      · have h402 : (I : Int) < 40 := by omega
        obtain ⟨x, hx⟩ : ∃ x, vs[I]? = some x := ⟨_, List.getElem?_eq_getElem (by have := HL.out; omega)⟩
        by_cases hf : I < fn
        · have hf2 : (I : Int) < (fn : Int) := by omega
          obtain ⟨fb, fo, fv, rfl, hfc⟩ := (HF.out.ext HB3.out) I hf
          cases fv
          · skip
            obtain ⟨w5, rfl⟩ : ∃ y : World, y = w3 := ⟨_, rfl⟩
            have hC := HC3.out
            have hR := HR3.out
            have hB := HB3.out
            clear HC3 HR3 HB3
            have HC := Lib.hid hC
            have HR := Lib.hid hR
            have HB := Lib.hid hB
            have hcn := HC.out.lt
            have hrn := HR.out.lt
            have HMX := Lib.hid ((HM.out x (List.mem_of_getElem? hx)))
            obtain ⟨rb, ro, rfl⟩ : ∃ b o, a = some ⟨b, o, none⟩ := by
              rcases HA.out with h | ⟨b, o, e, _⟩
              · rw [h] at hx; simp at hx
              · exact ⟨b, o, e⟩
            obtain ⟨x0, x1, x2, x3, x4, x5, x6, x7, x8, x9, x10, x11, x12⟩ := HA.out.at hx
            haveI hI0 : Nonempty (In (Below w.heap.size w)) := ⟨⟨w, Below.refl _ _⟩⟩
            haveI hIt : Nonempty (In (fun _ : World => True)) := ⟨⟨w, trivial⟩⟩
            have hB0 := fun g : In (Below w.heap.size w) => ext_cell g.h x0
            have hB1 := fun g : In (Below w.heap.size w) => ext_cell g.h x1
            have hB2 := fun g : In (Below w.heap.size w) => ext_cell g.h x2
            have hB3 := fun g : In (Below w.heap.size w) => ext_cell g.h x3
            have hB4 := fun g : In (Below w.heap.size w) => ext_cell g.h x4
            have hB5 := fun g : In (Below w.heap.size w) => ext_cell g.h x5
            have hB6 := fun g : In (Below w.heap.size w) => ext_cell g.h x6
            have hB7 := fun g : In (Below w.heap.size w) => ext_cell g.h x7
            have hB8 := fun g : In (Below w.heap.size w) => ext_cell g.h x8
            have hB9 := fun g : In (Below w.heap.size w) => ext_cell g.h x9
            have hB10 := fun g : In (Below w.heap.size w) => ext_cell g.h x10
            have hB11 := fun g : In (Below w.heap.size w) => ext_cell g.h x11
            have hB12 := fun g : In (Below w.heap.size w) => ext_cell g.h x12
            obtain ⟨E, hE⟩ : ∃ E, (apM q cs x.m).1 = E := ⟨_, rfl⟩
            obtain ⟨q1, hq1⟩ : ∃ E, (apM q cs x.m).2.1 = E := ⟨_, rfl⟩
            obtain ⟨cs1, hcs1⟩ : ∃ E, (apM q cs x.m).2.2 = E := ⟨_, rfl⟩
            have HWF1 := Lib.hid (show WfC cs1 from by rw [← hcs1]; exact apM_wf HWF.out HMX.out.2.2.2)
            have HE := Lib.hid hE
            have HQ1 := Lib.hid hq1
            have HS1 := Lib.hid hcs1
            have hEE : (E != E) = false := by simp
            have hqq : (q1 != q1) = false := by simp
            clear x0 x1 x2 x3 x4 x5 x6 x7 x8 x9 x10 x11 x12 hx hE hq1 hcs1 hC hR hB
            have hw5 := Lib.hid HB.out.size
            go_upto_region 10 with (fail)
            refine Hist.wp_region_hist (Below w.heap.size w) (by kernel_rfl) (by kernel_rfl) (by kernel_rfl) (HB.out.trans ((Below.refl _ _).drew)) ?_
            have HC6 := Lib.hid (HC.out.ext ((Below.refl w5.heap.size w5).drew))
            have HR6 := Lib.hid (HR.out.ext ((Below.refl w5.heap.size w5).drew))
            have HB6 := Lib.hid (show Below w.heap.size w w5.drew from HB.out.trans ((Below.refl _ _).drew))
            clear HC HR HB
            generalize w5.drew = w6 at *
            repeat (first | (refine Hist.wpG_plain 0 _ (by decide +kernel) rfl (by rfl) (by rfl) (fun K hK => ?_); go_big_quiet_op; refine hK _ ?_; clear hK K))
            refine Hist.wpG_call (by rfl) (by rfl) (fun K hK => ?_)
            go_big_op
            refine (caApply cb q cs x _ HC6.out HWF.out (HMX.out.ext HB6.out)).mono ?_
            rintro e w7 ⟨rfl, hp, hr⟩
            rw [HE.out]
            rw [HQ1.out, HS1.out] at hp
            have HB7 := Lib.hid (Below.rim HB6.out hr HCN.out HB6.out.size)
            have HR7 := Lib.hid (HR6.out.other HC6.out hr)
            have HC7 := Lib.hid hp
            refine hK _ _ ⟨fun _ => True, (by simp only [List.cons_append, List.nil_append, List.forall_mem_cons]; repeat' (first | exact HB7.out | (intro _ h; cases h; done) | (exact trivial) | constructor)), ?_⟩
            clear hK K hp hr HC6 HR6 HB6
            repeat (first | (refine Hist.wpG_plain 1 _ (by decide +kernel) rfl (by rfl) (by rfl) (fun K hK => ?_); go_big_quiet_op; refine hK _ ?_; clear hK K) | (refine Hist.wpG_plain 0 _ (by decide +kernel) rfl (by rfl) (by rfl) (fun K hK => ?_); go_big_quiet_op; refine hK _ ?_; clear hK K))
            refine Hist.wpG_call (by rfl) (by rfl) (fun K hK => ?_)
            go_big_op
            refine (rcApply wb q cs x _ HR7.out HWF.out (HMX.out.ext HB7.out)).mono ?_
            rintro e w8 ⟨rfl, hp, hr⟩
            rw [HE.out]
            rw [HQ1.out, HS1.out] at hp
            have HB8 := Lib.hid (Below.rim HB7.out hr HWN.out HB7.out.size)
            have HC8 := Lib.hid (HC7.out.other HR7.out hr)
            have HR8 := Lib.hid hp
            obtain ⟨a9, c9, h9, hnc9, hcm9, hat9⟩ := hp
            obtain ⟨n9, hn9⟩ : ∃ n, cs1.length = n := ⟨_, rfl⟩
            rw [hn9] at h9 hnc9
            have HN9 := Lib.hid hn9
            have H9 := Lib.hid h9
            have HA9 := Lib.hid hat9
            have HM9 := Lib.hid hcm9
            have hn20 : n9 ≤ 20 := by rw [← hn9]; exact HWF1.out.len
            refine hK _ _ ⟨(fun W : World => W.heap[wb]? = some (.cells #[.slice a9 n9 c9, .int .i64 q1] 72 (0, 0))), (by simp only [List.cons_append, List.nil_append, List.forall_mem_cons]; repeat' (first | exact HB8.out | exact H9.out | (intro _ h; cases h; done) | (exact trivial) | constructor)), ?_⟩
            clear hK K hr HC7 HR7 HB7 h9 hat9 hcm9 hn9
            haveI hI2 : Nonempty (In (fun W : World => W.heap[wb]? = some (.cells #[.slice a9 n9 c9, .int .i64 q1] 72 (0, 0)))) := ⟨⟨_, H9.out⟩⟩
            have hC2 := fun g : In (fun W : World => W.heap[wb]? = some (.cells #[.slice a9 n9 c9, .int .i64 q1] 72 (0, 0))) => blk_cell g.h
            have hL2 : ∀ g : In (fun W : World => W.heap[wb]? = some (.cells #[.slice a9 n9 c9, .int .i64 q1] 72 (0, 0))), wb < g.w.heap.size := fun g => blk_lt g.h
            repeat (first | (refine Hist.wpG_plain 2 _ (by decide +kernel) rfl (by rfl) (by rfl) (fun K hK => ?_); go_big_quiet_op; refine hK _ ?_; clear hK K) | (refine Hist.wpG_plain 1 _ (by decide +kernel) rfl (by rfl) (by rfl) (fun K hK => ?_); go_big_quiet_op; refine hK _ ?_; clear hK K) | (refine Hist.wpG_plain 0 _ (by decide +kernel) rfl (by rfl) (by rfl) (fun K hK => ?_); go_big_quiet_op; refine hK _ ?_; clear hK K))
            refine Hist.wpG_call (by rfl) (by rfl) (fun K hK => ?_)
            go_big_op
            refine (cacheSince cb q1 cs1 _ HC8.out).mono ?_
            rintro e w9 ⟨rfl, hb⟩
            have HB9 := Lib.hid (HB8.out.trans (hb.mono HB8.out.size))
            have HC9 := Lib.hid (HC8.out.ext hb)
            have HR9 := Lib.hid (HR8.out.ext hb)
            have HA9' := Lib.hid (HA9.out.ext hb)
            have H9' := Lib.hid (blk_ext hb H9.out)
            refine hK _ _ ⟨(fun W : World => W.heap[wb]? = some (.cells #[.slice a9 n9 c9, .int .i64 q1] 72 (0, 0))), (by simp only [List.cons_append, List.nil_append, List.forall_mem_cons]; repeat' (first | exact HB9.out | exact H9'.out | (intro _ h; cases h; done) | (exact trivial) | constructor)), ?_⟩
            clear hK K hb HC8 HR8 HB8 H9 HA9
            repeat (first | (refine Hist.wpG_plain 3 _ (by decide +kernel) rfl (by rfl) (by rfl) (fun K hK => ?_); go_big_quiet_op; refine hK _ ?_; clear hK K) | (refine Hist.wpG_plain 2 _ (by decide +kernel) rfl (by rfl) (by rfl) (fun K hK => ?_); go_big_quiet_op; refine hK _ ?_; clear hK K) | (refine Hist.wpG_plain 1 _ (by decide +kernel) rfl (by rfl) (by rfl) (fun K hK => ?_); go_big_quiet_op; refine hK _ ?_; clear hK K) | (refine Hist.wpG_plain 0 _ (by decide +kernel) rfl (by rfl) (by rfl) (fun K hK => ?_); go_big_quiet_op; refine hK _ ?_; clear hK K))
            refine Hist.wpG_call (by rfl) (by rfl) (fun K hK => ?_)
            go_big_op
            refine (cacheCards cb q1 cs1 _ HC9.out (by have := HN9.out; omega)).mono ?_
            rintro e w10 ⟨v, rfl, ho, hb⟩
            obtain ⟨ga, gc, rfl, hgc, hgm, hgat, -, -⟩ := ho.read
            rw [HN9.out] at hgc ⊢
            have HB10 := Lib.hid (HB9.out.trans (hb.mono HB9.out.size))
            have HC10 := Lib.hid (HC9.out.ext hb)
            have HR10 := Lib.hid (HR9.out.ext hb)
            have HA10 := Lib.hid (HA9'.out.ext hb)
            have H10 := Lib.hid (blk_ext hb H9'.out)
            have HG10 := Lib.hid hgat
            have HGM := Lib.hid hgm
            refine hK _ _ ⟨fun _ => True, (by simp only [List.cons_append, List.nil_append, List.forall_mem_cons]; repeat' (first | exact HB10.out | exact H10.out | (intro _ h; cases h; done) | (exact trivial) | constructor)), ?_⟩
            clear hK K hb ho hgat hgm HC9 HR9 HB9 H9' HA9'
            repeat (first | (refine Hist.wpG_plain 4 _ (by decide +kernel) rfl (by rfl) (by rfl) (fun K hK => ?_); go_big_quiet_op; refine hK _ ?_; clear hK K) | (refine Hist.wpG_plain 3 _ (by decide +kernel) rfl (by rfl) (by rfl) (fun K hK => ?_); go_big_quiet_op; refine hK _ ?_; clear hK K) | (refine Hist.wpG_plain 2 _ (by decide +kernel) rfl (by rfl) (by rfl) (fun K hK => ?_); go_big_quiet_op; refine hK _ ?_; clear hK K) | (refine Hist.wpG_plain 1 _ (by decide +kernel) rfl (by rfl) (by rfl) (fun K hK => ?_); go_big_quiet_op; refine hK _ ?_; clear hK K) | (refine Hist.wpG_plain 0 _ (by decide +kernel) rfl (by rfl) (by rfl) (fun K hK => ?_); go_big_quiet_op; refine hK _ ?_; clear hK K))
            refine Hist.wpG_call (by rfl) (by rfl) (fun K hK => ?_)
            go_big_op
            refine (same5 ga a9 n9 gc c9 cs1 _ HG10.out HA10.out HN9.out hgc hnc9 HGM.out HM9.out).mono ?_
            rintro e w11 ⟨rfl, hb⟩
            have HB11 := Lib.hid (HB10.out.trans (hb.mono HB10.out.size))
            have HC11 := Lib.hid (HC10.out.ext hb)
            have HR11 := Lib.hid (HR10.out.ext hb)
            have H11 := Lib.hid (blk_ext hb H10.out)
            refine hK _ _ ⟨fun _ => True, (by simp only [List.cons_append, List.nil_append, List.forall_mem_cons]; repeat' (first | exact HB11.out | exact H11.out | (intro _ h; cases h; done) | (exact trivial) | constructor)), ?_⟩
            clear hK K hb HC10 HR10 HB10 H10 HA10 HG10
            repeat (first | (refine Hist.wpG_plain 5 _ (by decide +kernel) rfl (by rfl) (by rfl) (fun K hK => ?_); go_big_quiet_op; refine hK _ ?_; clear hK K) | (refine Hist.wpG_plain 4 _ (by decide +kernel) rfl (by rfl) (by rfl) (fun K hK => ?_); go_big_quiet_op; refine hK _ ?_; clear hK K) | (refine Hist.wpG_plain 3 _ (by decide +kernel) rfl (by rfl) (by rfl) (fun K hK => ?_); go_big_quiet_op; refine hK _ ?_; clear hK K) | (refine Hist.wpG_plain 2 _ (by decide +kernel) rfl (by rfl) (by rfl) (fun K hK => ?_); go_big_quiet_op; refine hK _ ?_; clear hK K) | (refine Hist.wpG_plain 1 _ (by decide +kernel) rfl (by rfl) (by rfl) (fun K hK => ?_); go_big_quiet_op; refine hK _ ?_; clear hK K) | (refine Hist.wpG_plain 0 _ (by decide +kernel) rfl (by rfl) (by rfl) (fun K hK => ?_); go_big_quiet_op; refine hK _ ?_; clear hK K))
            refine Hist.wpG_nil ?_
            clear hI0 hIt hI2 hC2 hL2
            clear hB0 hB1 hB2 hB3 hB4 hB5 hB6 hB7 hB8 hB9 hB10 hB11 hB12
            go_wp2
            go_roundw
            case rel => exact ⟨I + 1, q1, cs1, by omega, by go_num, HC11.out, HR11.out, HWF1.out, HB11.out⟩
            case measure => simp [intOf]; omega
          · skip
            go_wp2_with fail
            refine (cacheForget cb q cs _ HC3.out).mono ?_
            rintro e w4 ⟨rfl, hp, hr⟩
            have HC4 := Lib.hid hp
            have HR4 := Lib.hid (HR3.out.other HC3.out hr)
            have HB4 := Lib.hid (Below.rim HB3.out hr HCN.out HB3.out.size)
            obtain ⟨a8, c8, h8, -, -, -⟩ := id HR4.out
            have hk8 := blk_cell h8
            have hl8 := blk_lt h8
            have hf8 := blk_free h8
            clear hp hr HC3 HR3 HB3
            go_upto_region 10 with (fail)
            have hkp : Kept wb w4 (w4.setCell ⟨wb, 1, none⟩ (.int .i64 (-1))) := (Kept.refl wb w4).setCell _ _
            have hR := RcP.num (q' := -1) HR4.out
            have hC := HC4.out.other HR4.out (Rim.kept hkp)
            have hB := Below.rim HB4.out (Rim.kept hkp) HWN.out HB4.out.size
            clear hkp hk8 hl8 hf8 h8 HC4 HR4 HB4
            generalize (w4.setCell ⟨wb, 1, none⟩ (.int .i64 (-1))) = w5 at *
            obtain ⟨q, hq⟩ : ∃ q', q' = (-1 : Int) := ⟨_, rfl⟩
            rw [← hq] at hC hR
            clear hq
            have HC := Lib.hid hC
            have HR := Lib.hid hR
            have HB := Lib.hid hB
            have hcn := HC.out.lt
            have hrn := HR.out.lt
            have HMX := Lib.hid ((HM.out x (List.mem_of_getElem? hx)))
            obtain ⟨rb, ro, rfl⟩ : ∃ b o, a = some ⟨b, o, none⟩ := by
              rcases HA.out with h | ⟨b, o, e, _⟩
              · rw [h] at hx; simp at hx
              · exact ⟨b, o, e⟩
            obtain ⟨x0, x1, x2, x3, x4, x5, x6, x7, x8, x9, x10, x11, x12⟩ := HA.out.at hx
            haveI hI0 : Nonempty (In (Below w.heap.size w)) := ⟨⟨w, Below.refl _ _⟩⟩
            haveI hIt : Nonempty (In (fun _ : World => True)) := ⟨⟨w, trivial⟩⟩
            have hB0 := fun g : In (Below w.heap.size w) => ext_cell g.h x0
            have hB1 := fun g : In (Below w.heap.size w) => ext_cell g.h x1
            have hB2 := fun g : In (Below w.heap.size w) => ext_cell g.h x2
            have hB3 := fun g : In (Below w.heap.size w) => ext_cell g.h x3
            have hB4 := fun g : In (Below w.heap.size w) => ext_cell g.h x4
            have hB5 := fun g : In (Below w.heap.size w) => ext_cell g.h x5
            have hB6 := fun g : In (Below w.heap.size w) => ext_cell g.h x6
            have hB7 := fun g : In (Below w.heap.size w) => ext_cell g.h x7
            have hB8 := fun g : In (Below w.heap.size w) => ext_cell g.h x8
            have hB9 := fun g : In (Below w.heap.size w) => ext_cell g.h x9
            have hB10 := fun g : In (Below w.heap.size w) => ext_cell g.h x10
            have hB11 := fun g : In (Below w.heap.size w) => ext_cell g.h x11
            have hB12 := fun g : In (Below w.heap.size w) => ext_cell g.h x12
            obtain ⟨E, hE⟩ : ∃ E, (apM q cs x.m).1 = E := ⟨_, rfl⟩
            obtain ⟨q1, hq1⟩ : ∃ E, (apM q cs x.m).2.1 = E := ⟨_, rfl⟩
            obtain ⟨cs1, hcs1⟩ : ∃ E, (apM q cs x.m).2.2 = E := ⟨_, rfl⟩
            have HWF1 := Lib.hid (show WfC cs1 from by rw [← hcs1]; exact apM_wf HWF.out HMX.out.2.2.2)
            have HE := Lib.hid hE
            have HQ1 := Lib.hid hq1
            have HS1 := Lib.hid hcs1
            have hEE : (E != E) = false := by simp
            have hqq : (q1 != q1) = false := by simp
            clear x0 x1 x2 x3 x4 x5 x6 x7 x8 x9 x10 x11 x12 hx hE hq1 hcs1 hC hR hB
            have hw5 := Lib.hid HB.out.size
            go_upto_region 10 with (fail)
            refine Hist.wp_region_hist (Below w.heap.size w) (by kernel_rfl) (by kernel_rfl) (by kernel_rfl) (HB.out.trans ((Below.refl _ _).drew)) ?_
            have HC6 := Lib.hid (HC.out.ext ((Below.refl w5.heap.size w5).drew))
            have HR6 := Lib.hid (HR.out.ext ((Below.refl w5.heap.size w5).drew))
            have HB6 := Lib.hid (show Below w.heap.size w w5.drew from HB.out.trans ((Below.refl _ _).drew))
            clear HC HR HB
            generalize w5.drew = w6 at *
            repeat (first | (refine Hist.wpG_plain 0 _ (by decide +kernel) rfl (by rfl) (by rfl) (fun K hK => ?_); go_big_quiet_op; refine hK _ ?_; clear hK K))
            refine Hist.wpG_call (by rfl) (by rfl) (fun K hK => ?_)
            go_big_op
            refine (caApply cb q cs x _ HC6.out HWF.out (HMX.out.ext HB6.out)).mono ?_
            rintro e w7 ⟨rfl, hp, hr⟩
            rw [HE.out]
            rw [HQ1.out, HS1.out] at hp
            have HB7 := Lib.hid (Below.rim HB6.out hr HCN.out HB6.out.size)
            have HR7 := Lib.hid (HR6.out.other HC6.out hr)
            have HC7 := Lib.hid hp
            refine hK _ _ ⟨fun _ => True, (by simp only [List.cons_append, List.nil_append, List.forall_mem_cons]; repeat' (first | exact HB7.out | (intro _ h; cases h; done) | (exact trivial) | constructor)), ?_⟩
            clear hK K hp hr HC6 HR6 HB6
            repeat (first | (refine Hist.wpG_plain 1 _ (by decide +kernel) rfl (by rfl) (by rfl) (fun K hK => ?_); go_big_quiet_op; refine hK _ ?_; clear hK K) | (refine Hist.wpG_plain 0 _ (by decide +kernel) rfl (by rfl) (by rfl) (fun K hK => ?_); go_big_quiet_op; refine hK _ ?_; clear hK K))
            refine Hist.wpG_call (by rfl) (by rfl) (fun K hK => ?_)
            go_big_op
            refine (rcApply wb q cs x _ HR7.out HWF.out (HMX.out.ext HB7.out)).mono ?_
            rintro e w8 ⟨rfl, hp, hr⟩
            rw [HE.out]
            rw [HQ1.out, HS1.out] at hp
            have HB8 := Lib.hid (Below.rim HB7.out hr HWN.out HB7.out.size)
            have HC8 := Lib.hid (HC7.out.other HR7.out hr)
            have HR8 := Lib.hid hp
            obtain ⟨a9, c9, h9, hnc9, hcm9, hat9⟩ := hp
            obtain ⟨n9, hn9⟩ : ∃ n, cs1.length = n := ⟨_, rfl⟩
            rw [hn9] at h9 hnc9
            have HN9 := Lib.hid hn9
            have H9 := Lib.hid h9
            have HA9 := Lib.hid hat9
            have HM9 := Lib.hid hcm9
            have hn20 : n9 ≤ 20 := by rw [← hn9]; exact HWF1.out.len
            refine hK _ _ ⟨(fun W : World => W.heap[wb]? = some (.cells #[.slice a9 n9 c9, .int .i64 q1] 72 (0, 0))), (by simp only [List.cons_append, List.nil_append, List.forall_mem_cons]; repeat' (first | exact HB8.out | exact H9.out | (intro _ h; cases h; done) | (exact trivial) | constructor)), ?_⟩
            clear hK K hr HC7 HR7 HB7 h9 hat9 hcm9 hn9
            haveI hI2 : Nonempty (In (fun W : World => W.heap[wb]? = some (.cells #[.slice a9 n9 c9, .int .i64 q1] 72 (0, 0)))) := ⟨⟨_, H9.out⟩⟩
            have hC2 := fun g : In (fun W : World => W.heap[wb]? = some (.cells #[.slice a9 n9 c9, .int .i64 q1] 72 (0, 0))) => blk_cell g.h
            have hL2 : ∀ g : In (fun W : World => W.heap[wb]? = some (.cells #[.slice a9 n9 c9, .int .i64 q1] 72 (0, 0))), wb < g.w.heap.size := fun g => blk_lt g.h
            repeat (first | (refine Hist.wpG_plain 2 _ (by decide +kernel) rfl (by rfl) (by rfl) (fun K hK => ?_); go_big_quiet_op; refine hK _ ?_; clear hK K) | (refine Hist.wpG_plain 1 _ (by decide +kernel) rfl (by rfl) (by rfl) (fun K hK => ?_); go_big_quiet_op; refine hK _ ?_; clear hK K) | (refine Hist.wpG_plain 0 _ (by decide +kernel) rfl (by rfl) (by rfl) (fun K hK => ?_); go_big_quiet_op; refine hK _ ?_; clear hK K))
            refine Hist.wpG_call (by rfl) (by rfl) (fun K hK => ?_)
            go_big_op
            refine (cacheSince cb q1 cs1 _ HC8.out).mono ?_
            rintro e w9 ⟨rfl, hb⟩
            have HB9 := Lib.hid (HB8.out.trans (hb.mono HB8.out.size))
            have HC9 := Lib.hid (HC8.out.ext hb)
            have HR9 := Lib.hid (HR8.out.ext hb)
            have HA9' := Lib.hid (HA9.out.ext hb)
            have H9' := Lib.hid (blk_ext hb H9.out)
            refine hK _ _ ⟨(fun W : World => W.heap[wb]? = some (.cells #[.slice a9 n9 c9, .int .i64 q1] 72 (0, 0))), (by simp only [List.cons_append, List.nil_append, List.forall_mem_cons]; repeat' (first | exact HB9.out | exact H9'.out | (intro _ h; cases h; done) | (exact trivial) | constructor)), ?_⟩
            clear hK K hb HC8 HR8 HB8 H9 HA9
            repeat (first | (refine Hist.wpG_plain 3 _ (by decide +kernel) rfl (by rfl) (by rfl) (fun K hK => ?_); go_big_quiet_op; refine hK _ ?_; clear hK K) | (refine Hist.wpG_plain 2 _ (by decide +kernel) rfl (by rfl) (by rfl) (fun K hK => ?_); go_big_quiet_op; refine hK _ ?_; clear hK K) | (refine Hist.wpG_plain 1 _ (by decide +kernel) rfl (by rfl) (by rfl) (fun K hK => ?_); go_big_quiet_op; refine hK _ ?_; clear hK K) | (refine Hist.wpG_plain 0 _ (by decide +kernel) rfl (by rfl) (by rfl) (fun K hK => ?_); go_big_quiet_op; refine hK _ ?_; clear hK K))
            refine Hist.wpG_call (by rfl) (by rfl) (fun K hK => ?_)
            go_big_op
            refine (cacheCards cb q1 cs1 _ HC9.out (by have := HN9.out; omega)).mono ?_
            rintro e w10 ⟨v, rfl, ho, hb⟩
            obtain ⟨ga, gc, rfl, hgc, hgm, hgat, -, -⟩ := ho.read
            rw [HN9.out] at hgc ⊢
            have HB10 := Lib.hid (HB9.out.trans (hb.mono HB9.out.size))
            have HC10 := Lib.hid (HC9.out.ext hb)
            have HR10 := Lib.hid (HR9.out.ext hb)
            have HA10 := Lib.hid (HA9'.out.ext hb)
            have H10 := Lib.hid (blk_ext hb H9'.out)
            have HG10 := Lib.hid hgat
            have HGM := Lib.hid hgm
            refine hK _ _ ⟨fun _ => True, (by simp only [List.cons_append, List.nil_append, List.forall_mem_cons]; repeat' (first | exact HB10.out | exact H10.out | (intro _ h; cases h; done) | (exact trivial) | constructor)), ?_⟩
            clear hK K hb ho hgat hgm HC9 HR9 HB9 H9' HA9'
            repeat (first | (refine Hist.wpG_plain 4 _ (by decide +kernel) rfl (by rfl) (by rfl) (fun K hK => ?_); go_big_quiet_op; refine hK _ ?_; clear hK K) | (refine Hist.wpG_plain 3 _ (by decide +kernel) rfl (by rfl) (by rfl) (fun K hK => ?_); go_big_quiet_op; refine hK _ ?_; clear hK K) | (refine Hist.wpG_plain 2 _ (by decide +kernel) rfl (by rfl) (by rfl) (fun K hK => ?_); go_big_quiet_op; refine hK _ ?_; clear hK K) | (refine Hist.wpG_plain 1 _ (by decide +kernel) rfl (by rfl) (by rfl) (fun K hK => ?_); go_big_quiet_op; refine hK _ ?_; clear hK K) | (refine Hist.wpG_plain 0 _ (by decide +kernel) rfl (by rfl) (by rfl) (fun K hK => ?_); go_big_quiet_op; refine hK _ ?_; clear hK K))
            refine Hist.wpG_call (by rfl) (by rfl) (fun K hK => ?_)
            go_big_op
            refine (same5 ga a9 n9 gc c9 cs1 _ HG10.out HA10.out HN9.out hgc hnc9 HGM.out HM9.out).mono ?_
            rintro e w11 ⟨rfl, hb⟩
            have HB11 := Lib.hid (HB10.out.trans (hb.mono HB10.out.size))
            have HC11 := Lib.hid (HC10.out.ext hb)
            have HR11 := Lib.hid (HR10.out.ext hb)
            have H11 := Lib.hid (blk_ext hb H10.out)
            refine hK _ _ ⟨fun _ => True, (by simp only [List.cons_append, List.nil_append, List.forall_mem_cons]; repeat' (first | exact HB11.out | exact H11.out | (intro _ h; cases h; done) | (exact trivial) | constructor)), ?_⟩
            clear hK K hb HC10 HR10 HB10 H10 HA10 HG10
            repeat (first | (refine Hist.wpG_plain 5 _ (by decide +kernel) rfl (by rfl) (by rfl) (fun K hK => ?_); go_big_quiet_op; refine hK _ ?_; clear hK K) | (refine Hist.wpG_plain 4 _ (by decide +kernel) rfl (by rfl) (by rfl) (fun K hK => ?_); go_big_quiet_op; refine hK _ ?_; clear hK K) | (refine Hist.wpG_plain 3 _ (by decide +kernel) rfl (by rfl) (by rfl) (fun K hK => ?_); go_big_quiet_op; refine hK _ ?_; clear hK K) | (refine Hist.wpG_plain 2 _ (by decide +kernel) rfl (by rfl) (by rfl) (fun K hK => ?_); go_big_quiet_op; refine hK _ ?_; clear hK K) | (refine Hist.wpG_plain 1 _ (by decide +kernel) rfl (by rfl) (by rfl) (fun K hK => ?_); go_big_quiet_op; refine hK _ ?_; clear hK K) | (refine Hist.wpG_plain 0 _ (by decide +kernel) rfl (by rfl) (by rfl) (fun K hK => ?_); go_big_quiet_op; refine hK _ ?_; clear hK K))
            refine Hist.wpG_nil ?_
            clear hI0 hIt hI2 hC2 hL2
            clear hB0 hB1 hB2 hB3 hB4 hB5 hB6 hB7 hB8 hB9 hB10 hB11 hB12
            go_wp2
            go_roundw
            case rel => exact ⟨I + 1, q1, cs1, by omega, by go_num, HC11.out, HR11.out, HWF1.out, HB11.out⟩
            case measure => simp [intOf]; omega
        · have hf2 : decide ((I : Int) < (fn : Int)) = false := by simp; omega
          obtain ⟨w5, rfl⟩ : ∃ y : World, y = w3 := ⟨_, rfl⟩
          have hC := HC3.out
          have hR := HR3.out
          have hB := HB3.out
          clear HC3 HR3 HB3
          have HC := Lib.hid hC
          have HR := Lib.hid hR
          have HB := Lib.hid hB
          have hcn := HC.out.lt
          have hrn := HR.out.lt
          have HMX := Lib.hid ((HM.out x (List.mem_of_getElem? hx)))
          obtain ⟨rb, ro, rfl⟩ : ∃ b o, a = some ⟨b, o, none⟩ := by
            rcases HA.out with h | ⟨b, o, e, _⟩
            · rw [h] at hx; simp at hx
            · exact ⟨b, o, e⟩
          obtain ⟨x0, x1, x2, x3, x4, x5, x6, x7, x8, x9, x10, x11, x12⟩ := HA.out.at hx
          haveI hI0 : Nonempty (In (Below w.heap.size w)) := ⟨⟨w, Below.refl _ _⟩⟩
          haveI hIt : Nonempty (In (fun _ : World => True)) := ⟨⟨w, trivial⟩⟩
          have hB0 := fun g : In (Below w.heap.size w) => ext_cell g.h x0
          have hB1 := fun g : In (Below w.heap.size w) => ext_cell g.h x1
          have hB2 := fun g : In (Below w.heap.size w) => ext_cell g.h x2
          have hB3 := fun g : In (Below w.heap.size w) => ext_cell g.h x3
          have hB4 := fun g : In (Below w.heap.size w) => ext_cell g.h x4
          have hB5 := fun g : In (Below w.heap.size w) => ext_cell g.h x5
          have hB6 := fun g : In (Below w.heap.size w) => ext_cell g.h x6
          have hB7 := fun g : In (Below w.heap.size w) => ext_cell g.h x7
          have hB8 := fun g : In (Below w.heap.size w) => ext_cell g.h x8
          have hB9 := fun g : In (Below w.heap.size w) => ext_cell g.h x9
          have hB10 := fun g : In (Below w.heap.size w) => ext_cell g.h x10
          have hB11 := fun g : In (Below w.heap.size w) => ext_cell g.h x11
          have hB12 := fun g : In (Below w.heap.size w) => ext_cell g.h x12
          obtain ⟨E, hE⟩ : ∃ E, (apM q cs x.m).1 = E := ⟨_, rfl⟩
          obtain ⟨q1, hq1⟩ : ∃ E, (apM q cs x.m).2.1 = E := ⟨_, rfl⟩
          obtain ⟨cs1, hcs1⟩ : ∃ E, (apM q cs x.m).2.2 = E := ⟨_, rfl⟩
          have HWF1 := Lib.hid (show WfC cs1 from by rw [← hcs1]; exact apM_wf HWF.out HMX.out.2.2.2)
          have HE := Lib.hid hE
          have HQ1 := Lib.hid hq1
          have HS1 := Lib.hid hcs1
          have hEE : (E != E) = false := by simp
          have hqq : (q1 != q1) = false := by simp
          clear x0 x1 x2 x3 x4 x5 x6 x7 x8 x9 x10 x11 x12 hx hE hq1 hcs1 hC hR hB
          have hw5 := Lib.hid HB.out.size
          go_upto_region 10 with (fail)
          refine Hist.wp_region_hist (Below w.heap.size w) (by kernel_rfl) (by kernel_rfl) (by kernel_rfl) (HB.out.trans ((Below.refl _ _).drew)) ?_
          have HC6 := Lib.hid (HC.out.ext ((Below.refl w5.heap.size w5).drew))
          have HR6 := Lib.hid (HR.out.ext ((Below.refl w5.heap.size w5).drew))
          have HB6 := Lib.hid (show Below w.heap.size w w5.drew from HB.out.trans ((Below.refl _ _).drew))
          clear HC HR HB
          generalize w5.drew = w6 at *
          repeat (first | (refine Hist.wpG_plain 0 _ (by decide +kernel) rfl (by rfl) (by rfl) (fun K hK => ?_); go_big_quiet_op; refine hK _ ?_; clear hK K))
          refine Hist.wpG_call (by rfl) (by rfl) (fun K hK => ?_)
          go_big_op
          refine (caApply cb q cs x _ HC6.out HWF.out (HMX.out.ext HB6.out)).mono ?_
          rintro e w7 ⟨rfl, hp, hr⟩
          rw [HE.out]
          rw [HQ1.out, HS1.out] at hp
          have HB7 := Lib.hid (Below.rim HB6.out hr HCN.out HB6.out.size)
          have HR7 := Lib.hid (HR6.out.other HC6.out hr)
          have HC7 := Lib.hid hp
          refine hK _ _ ⟨fun _ => True, (by simp only [List.cons_append, List.nil_append, List.forall_mem_cons]; repeat' (first | exact HB7.out | (intro _ h; cases h; done) | (exact trivial) | constructor)), ?_⟩
          clear hK K hp hr HC6 HR6 HB6
          repeat (first | (refine Hist.wpG_plain 1 _ (by decide +kernel) rfl (by rfl) (by rfl) (fun K hK => ?_); go_big_quiet_op; refine hK _ ?_; clear hK K) | (refine Hist.wpG_plain 0 _ (by decide +kernel) rfl (by rfl) (by rfl) (fun K hK => ?_); go_big_quiet_op; refine hK _ ?_; clear hK K))
          refine Hist.wpG_call (by rfl) (by rfl) (fun K hK => ?_)
          go_big_op
          refine (rcApply wb q cs x _ HR7.out HWF.out (HMX.out.ext HB7.out)).mono ?_
          rintro e w8 ⟨rfl, hp, hr⟩
          rw [HE.out]
          rw [HQ1.out, HS1.out] at hp
          have HB8 := Lib.hid (Below.rim HB7.out hr HWN.out HB7.out.size)
          have HC8 := Lib.hid (HC7.out.other HR7.out hr)
          have HR8 := Lib.hid hp
          obtain ⟨a9, c9, h9, hnc9, hcm9, hat9⟩ := hp
          obtain ⟨n9, hn9⟩ : ∃ n, cs1.length = n := ⟨_, rfl⟩
          rw [hn9] at h9 hnc9
          have HN9 := Lib.hid hn9
          have H9 := Lib.hid h9
          have HA9 := Lib.hid hat9
          have HM9 := Lib.hid hcm9
          have hn20 : n9 ≤ 20 := by rw [← hn9]; exact HWF1.out.len
          refine hK _ _ ⟨(fun W : World => W.heap[wb]? = some (.cells #[.slice a9 n9 c9, .int .i64 q1] 72 (0, 0))), (by simp only [List.cons_append, List.nil_append, List.forall_mem_cons]; repeat' (first | exact HB8.out | exact H9.out | (intro _ h; cases h; done) | (exact trivial) | constructor)), ?_⟩
          clear hK K hr HC7 HR7 HB7 h9 hat9 hcm9 hn9
          haveI hI2 : Nonempty (In (fun W : World => W.heap[wb]? = some (.cells #[.slice a9 n9 c9, .int .i64 q1] 72 (0, 0)))) := ⟨⟨_, H9.out⟩⟩
          have hC2 := fun g : In (fun W : World => W.heap[wb]? = some (.cells #[.slice a9 n9 c9, .int .i64 q1] 72 (0, 0))) => blk_cell g.h
          have hL2 : ∀ g : In (fun W : World => W.heap[wb]? = some (.cells #[.slice a9 n9 c9, .int .i64 q1] 72 (0, 0))), wb < g.w.heap.size := fun g => blk_lt g.h
          repeat (first | (refine Hist.wpG_plain 2 _ (by decide +kernel) rfl (by rfl) (by rfl) (fun K hK => ?_); go_big_quiet_op; refine hK _ ?_; clear hK K) | (refine Hist.wpG_plain 1 _ (by decide +kernel) rfl (by rfl) (by rfl) (fun K hK => ?_); go_big_quiet_op; refine hK _ ?_; clear hK K) | (refine Hist.wpG_plain 0 _ (by decide +kernel) rfl (by rfl) (by rfl) (fun K hK => ?_); go_big_quiet_op; refine hK _ ?_; clear hK K))
          refine Hist.wpG_call (by rfl) (by rfl) (fun K hK => ?_)
          go_big_op
          refine (cacheSince cb q1 cs1 _ HC8.out).mono ?_
          rintro e w9 ⟨rfl, hb⟩
          have HB9 := Lib.hid (HB8.out.trans (hb.mono HB8.out.size))
          have HC9 := Lib.hid (HC8.out.ext hb)
          have HR9 := Lib.hid (HR8.out.ext hb)
          have HA9' := Lib.hid (HA9.out.ext hb)
          have H9' := Lib.hid (blk_ext hb H9.out)
          refine hK _ _ ⟨(fun W : World => W.heap[wb]? = some (.cells #[.slice a9 n9 c9, .int .i64 q1] 72 (0, 0))), (by simp only [List.cons_append, List.nil_append, List.forall_mem_cons]; repeat' (first | exact HB9.out | exact H9'.out | (intro _ h; cases h; done) | (exact trivial) | constructor)), ?_⟩
          clear hK K hb HC8 HR8 HB8 H9 HA9
          repeat (first | (refine Hist.wpG_plain 3 _ (by decide +kernel) rfl (by rfl) (by rfl) (fun K hK => ?_); go_big_quiet_op; refine hK _ ?_; clear hK K) | (refine Hist.wpG_plain 2 _ (by decide +kernel) rfl (by rfl) (by rfl) (fun K hK => ?_); go_big_quiet_op; refine hK _ ?_; clear hK K) | (refine Hist.wpG_plain 1 _ (by decide +kernel) rfl (by rfl) (by rfl) (fun K hK => ?_); go_big_quiet_op; refine hK _ ?_; clear hK K) | (refine Hist.wpG_plain 0 _ (by decide +kernel) rfl (by rfl) (by rfl) (fun K hK => ?_); go_big_quiet_op; refine hK _ ?_; clear hK K))
          refine Hist.wpG_call (by rfl) (by rfl) (fun K hK => ?_)
          go_big_op
          refine (cacheCards cb q1 cs1 _ HC9.out (by have := HN9.out; omega)).mono ?_
          rintro e w10 ⟨v, rfl, ho, hb⟩
          obtain ⟨ga, gc, rfl, hgc, hgm, hgat, -, -⟩ := ho.read
          rw [HN9.out] at hgc ⊢
          have HB10 := Lib.hid (HB9.out.trans (hb.mono HB9.out.size))
          have HC10 := Lib.hid (HC9.out.ext hb)
          have HR10 := Lib.hid (HR9.out.ext hb)
          have HA10 := Lib.hid (HA9'.out.ext hb)
          have H10 := Lib.hid (blk_ext hb H9'.out)
          have HG10 := Lib.hid hgat
          have HGM := Lib.hid hgm
          refine hK _ _ ⟨fun _ => True, (by simp only [List.cons_append, List.nil_append, List.forall_mem_cons]; repeat' (first | exact HB10.out | exact H10.out | (intro _ h; cases h; done) | (exact trivial) | constructor)), ?_⟩
          clear hK K hb ho hgat hgm HC9 HR9 HB9 H9' HA9'
          repeat (first | (refine Hist.wpG_plain 4 _ (by decide +kernel) rfl (by rfl) (by rfl) (fun K hK => ?_); go_big_quiet_op; refine hK _ ?_; clear hK K) | (refine Hist.wpG_plain 3 _ (by decide +kernel) rfl (by rfl) (by rfl) (fun K hK => ?_); go_big_quiet_op; refine hK _ ?_; clear hK K) | (refine Hist.wpG_plain 2 _ (by decide +kernel) rfl (by rfl) (by rfl) (fun K hK => ?_); go_big_quiet_op; refine hK _ ?_; clear hK K) | (refine Hist.wpG_plain 1 _ (by decide +kernel) rfl (by rfl) (by rfl) (fun K hK => ?_); go_big_quiet_op; refine hK _ ?_; clear hK K) | (refine Hist.wpG_plain 0 _ (by decide +kernel) rfl (by rfl) (by rfl) (fun K hK => ?_); go_big_quiet_op; refine hK _ ?_; clear hK K))
          refine Hist.wpG_call (by rfl) (by rfl) (fun K hK => ?_)
          go_big_op
          refine (same5 ga a9 n9 gc c9 cs1 _ HG10.out HA10.out HN9.out hgc hnc9 HGM.out HM9.out).mono ?_
          rintro e w11 ⟨rfl, hb⟩
          have HB11 := Lib.hid (HB10.out.trans (hb.mono HB10.out.size))
          have HC11 := Lib.hid (HC10.out.ext hb)
          have HR11 := Lib.hid (HR10.out.ext hb)
          have H11 := Lib.hid (blk_ext hb H10.out)
          refine hK _ _ ⟨fun _ => True, (by simp only [List.cons_append, List.nil_append, List.forall_mem_cons]; repeat' (first | exact HB11.out | exact H11.out | (intro _ h; cases h; done) | (exact trivial) | constructor)), ?_⟩
          clear hK K hb HC10 HR10 HB10 H10 HA10 HG10
          repeat (first | (refine Hist.wpG_plain 5 _ (by decide +kernel) rfl (by rfl) (by rfl) (fun K hK => ?_); go_big_quiet_op; refine hK _ ?_; clear hK K) | (refine Hist.wpG_plain 4 _ (by decide +kernel) rfl (by rfl) (by rfl) (fun K hK => ?_); go_big_quiet_op; refine hK _ ?_; clear hK K) | (refine Hist.wpG_plain 3 _ (by decide +kernel) rfl (by rfl) (by rfl) (fun K hK => ?_); go_big_quiet_op; refine hK _ ?_; clear hK K) | (refine Hist.wpG_plain 2 _ (by decide +kernel) rfl (by rfl) (by rfl) (fun K hK => ?_); go_big_quiet_op; refine hK _ ?_; clear hK K) | (refine Hist.wpG_plain 1 _ (by decide +kernel) rfl (by rfl) (by rfl) (fun K hK => ?_); go_big_quiet_op; refine hK _ ?_; clear hK K) | (refine Hist.wpG_plain 0 _ (by decide +kernel) rfl (by rfl) (by rfl) (fun K hK => ?_); go_big_quiet_op; refine hK _ ?_; clear hK K))
          refine Hist.wpG_nil ?_
          clear hI0 hIt hI2 hC2 hL2
          clear hB0 hB1 hB2 hB3 hB4 hB5 hB6 hB7 hB8 hB9 hB10 hB11 hB12
          go_wp2
          go_roundw
          case rel => exact ⟨I + 1, q1, cs1, by omega, by go_num, HC11.out, HR11.out, HWF1.out, HB11.out⟩
          case measure => simp [intOf]; omega
      · have h402 : decide ((I : Int) < 40) = false := by simp; omega
        go_wp2
        go_ret
        exact ⟨rfl, HB3.out⟩
    · obtain rfl : I = n := by omega
      have hlt2 : decide ((I : Int) < (I : Int)) = false := by simp
      go_wp2
      go_ret
      exact ⟨rfl, HB3.out⟩

end Go.Proofs.Ytkhcgopehmndgaa
