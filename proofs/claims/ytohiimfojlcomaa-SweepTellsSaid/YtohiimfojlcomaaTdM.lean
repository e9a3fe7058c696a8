/- Package sweep: entries of a tape. -/
import Derived.Test.YtohiimfojlcomaaTdP
import Derived.Test.YtohiimfojlcomaaHist
namespace Go.Proofs.Ytohiimfojlcomaa
open Go.RowKit
set_option linter.unusedVariables false
set_option linter.unusedSimpArgs false

theorem TapeK.cat {a0 : Option Addr} {len cap b : Nat} {w w' : World} (h : TapeK a0 len cap w b) (hr : Bar b w w') {a : Option Addr} {cs : List Cd} (ho : CAt w a cs) : CAt w' a cs :=
  ho.keep fun k cur hc _ => hr.block k (h.ne (by decide) hc) (blk_lt hc)
theorem on_ord (T : List Cd) : ∀ out : List Cd, Ord klt (out ++ T) → Ord klt (T.foldl onS out) := by
  induction T with
  | nil => intro out h; simpa using h
  | cons x xs ih =>
    intro out h
    refine ih (onS out x) ?_
    rcases List.eq_nil_or_concat out with rfl | ⟨o, y, rfl⟩
    · simpa [onS_nil] using h
    · rw [List.concat_eq_append] at h ⊢
      cases hk : kq y x
      · rw [onS_other _ _ _ hk]; simpa using h
      · rw [onS_same _ _ _ hk]
        refine List.Pairwise.sublist ?_ h
        rw [List.append_assoc, List.append_assoc]
        exact List.Sublist.append (List.Sublist.refl o) (List.sublist_append_right [y] _)
theorem onc_ord (cs : List Cd) : Ord klt (onc cs) := on_ord _ [] (by simpa using srt_is klt klt_weak cs)
theorem on_mem (T : List Cd) : ∀ out : List Cd, ∀ y ∈ T.foldl onS out, y ∈ out ∨ y ∈ T := by
  induction T with
  | nil => intro out y h; exact .inl h
  | cons x xs ih =>
    intro out y h
    rcases ih (onS out x) y h with h1 | h1
    · have : y ∈ out ∨ y = x := by
        rcases List.eq_nil_or_concat out with rfl | ⟨o, z, rfl⟩
        · simp [onS_nil] at h1; exact .inr h1
        · rw [List.concat_eq_append] at h1 ⊢
          cases hk : kq z x
          · rw [onS_other _ _ _ hk] at h1
            rcases List.mem_append.1 h1 with h2 | h2
            · exact .inl h2
            · exact .inr (by simpa using h2)
          · rw [onS_same _ _ _ hk] at h1
            rcases List.mem_append.1 h1 with h2 | h2
            · exact .inl (List.mem_append.2 (.inl h2))
            · exact .inr (by simpa using h2)
      rcases this with h2 | h2
      · exact .inl h2
      · exact .inr (by simp [h2])
    · exact .inr (by simp [h1])
theorem onc_mem {cs : List Cd} {y : Cd} (h : y ∈ onc cs) : y ∈ cs := by
  rcases on_mem _ [] y h with h1 | h1
  · cases h1
  · exact (srt_mem klt y cs).1 h1
/-- an entry that a tape gives -/
def EnS (e : En) : Prop := 0 ≤ e.seen ∧ e.seen < 120 ∧ 1 ≤ e.c.l ∧ e.c.l ≤ 60

set_option maxRecDepth 100000 in
set_option maxHeartbeats 4000000 in
theorem law12made (ra : Option Addr) (rlen rcap : Nat) (rz : List Int) (w : World) (hr : IsRow .i64 w ra rlen rcap rz) :
    Calls Try.prog 10 #[.slice ra rlen rcap, .int .i64 19] w fun e w' => ∃ v' es cs, e = .returned v' ∧ OwnE w.heap.size w' v' es ∧ es.map (fun e => e.c) = onc cs ∧ es.length ≤ 19 ∧ (∀ e ∈ es, EnS e) ∧ Below w.heap.size w w' := by
  obtain ⟨i0, hi, hz0, hz1, hz2⟩ := info_parts' info_en
  have D0 : Below w.heap.size w (w.alloc (.cells #[.slice ra rlen rcap, .int .i64 0] 47)) := (Below.refl _ _).alloc (Nat.le_refl _) _
  have HT0 := Lib.hid (tapeK_new (a := ra) (len := rlen) (cap := rcap) w)
  have HR0 := Lib.hid (rowOk_new hr (.cells #[.slice ra rlen rcap, .int .i64 0] 47))
  have HD0 := Lib.hid D0
  clear hr D0
  go_enter Try.func10, Try.ntmps10
  go_wp2_with fail
  generalize (w.alloc (.cells #[.slice ra rlen rcap, .int .i64 0] 47)) = w0 at *
  obtain ⟨b, hbb⟩ : ∃ b, w.heap.size = b := ⟨_, rfl⟩
  have HBB := Lib.hid hbb
  rw [hbb] at HT0 HR0 ⊢
  clear hbb
  refine (tapeCards ra rlen rcap rz b 19 _ HT0.out HR0.out (by omega)).mono ?_
  rintro e w1 ⟨lv, cs, rfl, ho, hl, hok, hT1, hb1⟩
  obtain ⟨ca, cc', rfl, hcc, hcm, hcat, -, -⟩ := ho.read
  have HCA := Lib.hid hcat
  have HT1 := Lib.hid hT1
  have HR1 := Lib.hid (HR0.out.bar hb1)
  have HB1 := Lib.hid (HD0.out.trans (hb1.below (show w.heap.size ≤ b from Nat.le_of_eq HBB.out) HD0.out.size))
  have HOK := Lib.hid hok
  clear ho hok hb1 hT1 hcat HT0 HR0 HD0
  go_wp2_with fail
  refine (onceC ca cs.length cc' cs _ HCA.out rfl (by omega) hcc).mono ?_
  rintro e w2 ⟨v2, rfl, ho2, hb2⟩
  obtain ⟨l, hl2⟩ : ∃ l, onc cs = l := ⟨_, rfl⟩
  have HL2 := Lib.hid hl2
  have HCS := Lib.hid (show ∀ x ∈ l, 1 ≤ x.l ∧ x.l ≤ 60 from fun x hx => by have h := HOK.out x (onc_mem (by rw [hl2]; exact hx)); exact ⟨h.2.2.2.2.2.2.1, h.2.2.2.2.2.2.2.1⟩)
  have hln : l.length ≤ 19 := by rw [← hl2]; have := onc_len cs; omega
  rw [hl2] at ho2
  obtain ⟨la, lc, rfl, hlc, hlm, hlat, -, hlf⟩ := ho2.read
  obtain ⟨n, hn⟩ : ∃ n, l.length = n := ⟨_, rfl⟩
  have HN := Lib.hid hn
  rw [hn] at hlc hln ⊢
  have HL := Lib.hid hlat
  have HB2 := Lib.hid (ext_trans HB1.out hb2)
  have HT2 := Lib.hid (HT1.out.ext hb2)
  have HRW := Lib.hid (HR1.out.bar (Bar.of hb2))
  unfold maxLen at hlm
  clear ho2 hb2 hl2 hlat hn HCA HB1 HOK HT1 HR1
  go_wp2_with fail
  go_loopw [6, 17] (fun g j wr => ∃ (J : Nat) (es : List En), J ≤ n ∧ j = .int .i64 (J : Int) ∧ es.map (fun e => e.c) = l.take J ∧ (∀ e ∈ es, EnS e) ∧ OwnE w2.heap.size wr g es ∧ TapeK ra rlen rcap wr b ∧ Bar b w2 wr) (fun g j _ => n - (intOf j).toNat)
  case atStart => exact ⟨0, [], by omega, rfl, rfl, by simp, OwnR.nil _ _, HT2.out, Bar.refl _ _⟩
  case round =>
    obtain ⟨w3, rfl⟩ : ∃ y : World, y = wr := ⟨_, rfl⟩
    obtain ⟨J, es, hJ, rfl, hme, hes, ho3, hT3, hb3⟩ := hrel
    obtain ⟨p, hm⟩ : ∃ m, es.length = m := ⟨_, rfl⟩
    have hpJ : p = J := by have h9 := congrArg List.length hme; rw [List.length_map, List.length_take, hm] at h9; have := HN.out; omega
    have hp1 : p ≤ 19 := by omega
    have HPJ := Lib.hid hpJ
    clear hpJ
    obtain ⟨ga, gc, hgv, hgc, hgm, -, hge, -⟩ := ho3.read ec_len
    rw [hm] at hgc hgv
    subst hgv
    have HM := Lib.hid hm
    have HME := Lib.hid hme
    have HES := Lib.hid hes
    unfold maxLen at hgm
    by_cases hlt : J < n
    · obtain ⟨x, hx⟩ : ∃ x, l[J]? = some x := ⟨_, List.getElem?_eq_getElem (by have := HN.out; omega)⟩
      have HST := Lib.hid (take_snoc hx)
      have HXS := Lib.hid (HCS.out x (List.mem_of_getElem? hx))
      obtain ⟨tb, rfl⟩ : ∃ g, la = some ⟨g, 0, none⟩ := by
        rcases hlf with ⟨_, _, e⟩ | ⟨g, e⟩
        · rw [e] at hx; simp at hx
        · exact ⟨g, e⟩
      obtain ⟨x0, x1, x2, x3, x4, x5, x6, x7, x8⟩ := (HT2.out.cat hb3 HL.out).at hx
      simp only [Nat.zero_add] at x0 x1 x2 x3 x4 x5 x6 x7 x8
      have D3 : Below w3.heap.size w3 (w3.alloc (.cells #[.string x.a, .string x.i, .int .i64 x.s, .int .i64 x.o, .int .i64 x.l, .int .i64 x.t, .int .i64 x.k, .int .i64 x.n, .bool x.g] 34)) := (Below.refl _ _).alloc (Nat.le_refl _) _
      have HX := Lib.hid (blk_new w3 #[.string x.a, .string x.i, .int .i64 x.s, .int .i64 x.o, .int .i64 x.l, .int .i64 x.t, .int .i64 x.k, .int .i64 x.n, .bool x.g] 34)
      have HO3 := Lib.hid (ho3.ext D3)
      have HT3 := Lib.hid (hT3.ext D3)
      have HB3 := Lib.hid (hb3.trans (Bar.of D3))
      have HR3 := Lib.hid (HRW.out.bar (hb3.trans (Bar.of D3)))
      have HRN := Lib.hid (show w3.heap.size ≠ b from by have := hT3.lt; omega)
      clear ho3 hb3 hT3 hx hm D3 hme hes hge hlf
      go_upto_region 6 with (fail)
      obtain ⟨r, hr⟩ : ∃ r, w3.heap.size = r := ⟨_, rfl⟩
      rw [hr] at HX HRN ⊢
      clear hr
      generalize (w3.alloc (.cells #[.string x.a, .string x.i, .int .i64 x.s, .int .i64 x.o, .int .i64 x.l, .int .i64 x.t, .int .i64 x.k, .int .i64 x.n, .bool x.g] 34)) = w4 at *
      clear x0 x1 x2 x3 x4 x5 x6 x7 x8
      have R0 : w4.heap[r]? = some (.cells #[.string x.a, .string x.i, .int .i64 x.s, .int .i64 x.o, .int .i64 x.l, .int .i64 x.t, .int .i64 x.k, .int .i64 x.n, .bool x.g] 34 (0, 0)) := HX.out
      have HRB := Lib.hid (HRN.out)
      haveI hI0 : Nonempty (In (fun W : World => W.heap[r]? = some (.cells #[.string x.a, .string x.i, .int .i64 x.s, .int .i64 x.o, .int .i64 x.l, .int .i64 x.t, .int .i64 x.k, .int .i64 x.n, .bool x.g] 34 (0, 0)))) := ⟨⟨_, R0⟩⟩
      have hF0 : ∀ g : In (fun W : World => W.heap[r]? = some (.cells #[.string x.a, .string x.i, .int .i64 x.s, .int .i64 x.o, .int .i64 x.l, .int .i64 x.t, .int .i64 x.k, .int .i64 x.n, .bool x.g] 34 (0, 0))), ∀ q, g.w.cell? ⟨r, q, none⟩ = (#[.string x.a, .string x.i, .int .i64 x.s, .int .i64 x.o, .int .i64 x.l, .int .i64 x.t, .int .i64 x.k, .int .i64 x.n, .bool x.g] : Array Value)[q]? := fun g => blk_cell g.h
      have HO4 := Lib.hid (show OwnE w2.heap.size w4.drew (.slice ga p gc) es from HO3.out)
      have HT4 := Lib.hid (show TapeK ra rlen rcap w4.drew b from HT3.out)
      have HR4 := Lib.hid (show RowOk ra rlen rcap rz w4.drew b from HR3.out)
      have HB4 := Lib.hid (show Bar b w2 w4.drew from HB3.out.trans (Bar.of ((Below.refl _ _).drew)))
      have HX4 := Lib.hid (show w4.drew.heap[r]? = some (.cells #[.string x.a, .string x.i, .int .i64 x.s, .int .i64 x.o, .int .i64 x.l, .int .i64 x.t, .int .i64 x.k, .int .i64 x.n, .bool x.g] 34 (0, 0)) from R0)
      refine Hist.wp_region_hist (fun W : World => W.heap[r]? = some (.cells #[.string x.a, .string x.i, .int .i64 x.s, .int .i64 x.o, .int .i64 x.l, .int .i64 x.t, .int .i64 x.k, .int .i64 x.n, .bool x.g] 34 (0, 0))) (by kernel_rfl) (by kernel_rfl) (by kernel_rfl) HX4.out ?_
      clear R0 HX HO3 HT3 HR3 HB3
      generalize w4.drew = x0 at *
      repeat (first | (refine Hist.wpG_plain 3 _ (by decide +kernel) rfl (by rfl) (by rfl) (fun K hK => ?_); go_big_quiet_op; refine hK _ ?_; clear hK K) | (refine Hist.wpG_plain 2 _ (by decide +kernel) rfl (by rfl) (by rfl) (fun K hK => ?_); go_big_quiet_op; refine hK _ ?_; clear hK K) | (refine Hist.wpG_plain 1 _ (by decide +kernel) rfl (by rfl) (by rfl) (fun K hK => ?_); go_big_quiet_op; refine hK _ ?_; clear hK K) | (refine Hist.wpG_plain 0 _ (by decide +kernel) rfl (by rfl) (by rfl) (fun K hK => ?_); go_big_quiet_op; refine hK _ ?_; clear hK K))
      refine Hist.wpG_call (by rfl) (by rfl) (fun K hK => ?_)
      go_big_op
      refine (tapeNextK _ _ _ rz _ 120 _ HT4.out HR4.out (by omega) (by omega)).mono ?_
      rintro e x1 ⟨q, rfl, hq0, hq1, hT1, hb1⟩
      have HX5 := Lib.hid (hb1.blk HRB.out HX4.out)
      have HT5 := Lib.hid hT1
      have HR5 := Lib.hid (HR4.out.bar hb1)
      have HB5 := Lib.hid (HB4.out.trans hb1)
      have HO5 := Lib.hid (HT4.out.own hb1 (by decide) (show x0.ownsRow w2.heap.size 36 10 (.slice ga p gc) p (flat ec es) from by have := HO4.out; unfold OwnE OwnR at this; rw [HM.out] at this; exact this))
      clear hT1 hb1 HX4 HT4 HR4 HB4 HO4
      haveI hI1 : Nonempty (In (fun _ : World => True)) := ⟨⟨x1, trivial⟩⟩
      refine hK _ _ ⟨fun _ => True, (by simp only [List.cons_append, List.nil_append, List.forall_mem_cons]; repeat' (first | exact HX5.out | (intro _ h; cases h; done) | constructor)), ?_⟩
      clear hK K
      try simp only [Act.put, List.setIfInBounds_toArray, List.set_cons_succ, List.set_cons_zero]
      repeat (first | (refine Hist.wpG_plain 3 _ (by decide +kernel) rfl (by rfl) (by rfl) (fun K hK => ?_); go_big_quiet_op; refine hK _ ?_; clear hK K) | (refine Hist.wpG_plain 2 _ (by decide +kernel) rfl (by rfl) (by rfl) (fun K hK => ?_); go_big_quiet_op; refine hK _ ?_; clear hK K) | (refine Hist.wpG_plain 1 _ (by decide +kernel) rfl (by rfl) (by rfl) (fun K hK => ?_); go_big_quiet_op; refine hK _ ?_; clear hK K) | (refine Hist.wpG_plain 0 _ (by decide +kernel) rfl (by rfl) (by rfl) (fun K hK => ?_); go_big_quiet_op; refine hK _ ?_; clear hK K))
      refine Hist.wpG_call (by rfl) (by rfl) (fun K hK => ?_)
      go_big_op
      have E0 : Below x1.heap.size x1 (x1.alloc (.cells #[.string x.a, .string x.i, .int .i64 x.s, .int .i64 x.o, .int .i64 x.l, .int .i64 x.t, .int .i64 x.k, .int .i64 x.n, .bool x.g, .int .i64 q] 36)) := (Below.refl _ _).alloc (Nat.le_refl _) _
      have HX6 := Lib.hid (blk_ext E0 HX5.out)
      refine hK _ _ ⟨fun _ => True, (by simp only [List.cons_append, List.nil_append, List.forall_mem_cons]; repeat' (first | exact HX6.out | (intro _ h; cases h; done) | constructor)), ?_⟩
      clear hK K
      try simp only [Act.put, List.setIfInBounds_toArray, List.set_cons_succ, List.set_cons_zero]
      repeat (first | (refine Hist.wpG_plain 3 _ (by decide +kernel) rfl (by rfl) (by rfl) (fun K hK => ?_); go_big_quiet_op; refine hK _ ?_; clear hK K) | (refine Hist.wpG_plain 2 _ (by decide +kernel) rfl (by rfl) (by rfl) (fun K hK => ?_); go_big_quiet_op; refine hK _ ?_; clear hK K) | (refine Hist.wpG_plain 1 _ (by decide +kernel) rfl (by rfl) (by rfl) (fun K hK => ?_); go_big_quiet_op; refine hK _ ?_; clear hK K) | (refine Hist.wpG_plain 0 _ (by decide +kernel) rfl (by rfl) (by rfl) (fun K hK => ?_); go_big_quiet_op; refine hK _ ?_; clear hK K))
      refine Hist.wpG_call (by rfl) (by rfl) (fun K hK => ?_)
      refine wp_append_own _ _ _ 23 rfl (w2.heap.size) 36 i0 En.zero.v 10 96 Try.underlying23 hi hz0 hz1 hz2 rfl (by decide) (.slice ga p gc) p (flat ec es) rfl (HO5.out.alloc (.cells #[.string x.a, .string x.i, .int .i64 x.s, .int .i64 x.o, .int .i64 x.l, .int .i64 x.t, .int .i64 x.k, .int .i64 x.n, .bool x.g, .int .i64 q] 36)) ⟨x1.heap.size, 0, none⟩ 1 1 (ec ⟨x, q⟩) rfl ?c0 ?c1 ?c2 ?c3 ?c4 ?c5 ?_
      case c0 => rfl
      case c1 =>
        intro j u hj
        rw [add_off, Nat.zero_add, blk_cell (blk_new x1 #[.string x.a, .string x.i, .int .i64 x.s, .int .i64 x.o, .int .i64 x.l, .int .i64 x.t, .int .i64 x.k, .int .i64 x.n, .bool x.g, .int .i64 q] 36)]
        simpa [ec] using hj
      case c2 => exact ec_one _
      case c3 => unfold maxLen; omega
      case c4 => omega
      case c5 => exact Nat.le_trans HB5.out.size E0.size
      intro v7 x2 ho7 hg7 _
      have HB7 := Lib.hid ((HB5.out.trans (Bar.of E0)).grown hg7 (fun q hq => own_ge HO5.out hq))
      have HT7 := Lib.hid (show TapeK ra rlen rcap x2 b from by
        obtain ⟨q', e1, e2⟩ := HT5.out
        exact ⟨q', (hg7.block b (by have := HT5.out.lt; simp; omega) (own_ne (HO5.out.alloc (.cells #[.string x.a, .string x.i, .int .i64 x.s, .int .i64 x.o, .int .i64 x.l, .int .i64 x.t, .int .i64 x.k, .int .i64 x.n, .bool x.g, .int .i64 q] 36)) (blk_alloc e1 _) (by decide))).trans (blk_alloc e1 _), e2⟩)
      have HX7 := Lib.hid (show x2.heap[r]? = some (.cells #[.string x.a, .string x.i, .int .i64 x.s, .int .i64 x.o, .int .i64 x.l, .int .i64 x.t, .int .i64 x.k, .int .i64 x.n, .bool x.g] 34 (0, 0)) from
        (hg7.block r (blk_lt HX6.out) (own_ne (HO5.out.alloc (.cells #[.string x.a, .string x.i, .int .i64 x.s, .int .i64 x.o, .int .i64 x.l, .int .i64 x.t, .int .i64 x.k, .int .i64 x.n, .bool x.g, .int .i64 q] 36)) HX6.out (by decide))).trans HX6.out)
      have HR7 := Lib.hid (HRW.out.bar HB7.out)
      have HO7 := Lib.hid (show OwnE w2.heap.size x2 v7 (es ++ [⟨x, q⟩]) from by unfold OwnE OwnR; rw [flat_snoc, List.length_append, HM.out]; exact ho7)
      have HES7 := Lib.hid (show ∀ e ∈ es ++ [(⟨x, q⟩ : En)], EnS e from fun e he => by
        rcases List.mem_append.1 he with he | he
        · exact HES.out e he
        · simp at he; subst he; exact ⟨hq0, hq1, HXS.out.1, HXS.out.2⟩)
      refine hK _ _ ⟨fun _ => True, (by simp only [List.cons_append, List.nil_append, List.forall_mem_cons]; repeat' (first | exact HX7.out | (intro _ h; cases h; done) | constructor)), ?_⟩
      clear hK K ho7 hg7 HX5 HX6 HO5 HT5 HR5 HB5 E0
      try simp only [Act.put, List.setIfInBounds_toArray, List.set_cons_succ, List.set_cons_zero]
      repeat (first | (refine Hist.wpG_plain 3 _ (by decide +kernel) rfl (by rfl) (by rfl) (fun K hK => ?_); go_big_quiet_op; refine hK _ ?_; clear hK K) | (refine Hist.wpG_plain 2 _ (by decide +kernel) rfl (by rfl) (by rfl) (fun K hK => ?_); go_big_quiet_op; refine hK _ ?_; clear hK K) | (refine Hist.wpG_plain 1 _ (by decide +kernel) rfl (by rfl) (by rfl) (fun K hK => ?_); go_big_quiet_op; refine hK _ ?_; clear hK K) | (refine Hist.wpG_plain 0 _ (by decide +kernel) rfl (by rfl) (by rfl) (fun K hK => ?_); go_big_quiet_op; refine hK _ ?_; clear hK K))
      refine Hist.wpG_nil ?_
      clear hI0 hF0 hI1
      go_wp2
      go_roundw
      case rel => exact ⟨J + 1, es ++ [⟨x, q⟩], by omega, by go_num, by rw [HST.out, List.map_append, HME.out]; rfl, HES7.out, HO7.out, HT7.out, HB7.out⟩
      case measure => simp [intOf]; omega
    · obtain rfl : J = n := by omega
      have HF := Lib.hid (show es.map (fun e => e.c) = onc cs from by rw [HME.out, List.take_of_length_le (by have := HN.out; omega), HL2.out])
      have Z2 := HB2.out.size
      go_wp2
      go_ret
      exact ⟨_, es, cs, rfl, by have h9 := ho3.base Z2; exact h9, HF.out, by rw [HM.out]; omega, HES.out, HB2.out.trans (hb3.below (show w.heap.size ≤ b from Nat.le_of_eq HBB.out) HB2.out.size)⟩

end Go.Proofs.Ytohiimfojlcomaa
