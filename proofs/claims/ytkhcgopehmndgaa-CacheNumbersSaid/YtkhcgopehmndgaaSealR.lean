/- The document's own sums. -/
import Derived.Test.YtkhcgopehmndgaaBk
import Derived.Test.YtkhcgopehmndgaaChain
namespace Go.Proofs.Ytkhcgopehmndgaa
open Go.RowKit
set_option linter.unusedVariables false
set_option linter.unusedSimpArgs false

theorem sealB_len (ls : List Cd) (h : ls.length ≤ 20) : (sealB ls).length ≤ 10420 := by have h1 := flatB_len (seenL ls); have h2 := seenL_len ls; unfold sealB; omega
theorem sealB_wb (ls : List Cd) : Wb (sealB ls) := flatB_wb _

section
variable {α : Type} (lt : α → α → Bool)
theorem insV_front (c : α) (l : List α) (h : ∀ y ∈ l, lt c y = false) : insV lt c l = c :: l := by
  cases l with
  | nil => rfl
  | cons x xs => unfold insV; rw [if_neg (by simp [h x (by simp)])]
theorem insV_filter (W : Weak lt) (p : α → Bool) (c : α) (l : List α) (h : l.Pairwise (fun x y => lt x y = false)) : (insV lt c l).filter p = if p c then insV lt c (l.filter p) else l.filter p := by
  induction l with
  | nil => cases hp : p c <;> simp [insV, List.filter, hp]
  | cons x xs ih =>
    obtain ⟨h1, h2⟩ := List.pairwise_cons.1 h
    have ih' := ih h2
    by_cases hlt : lt c x = true
    · have e : insV lt c (x :: xs) = x :: insV lt c xs := by
        show (if lt c x then _ else _) = _
        rw [if_pos hlt]
      rw [e]
      cases hx : p x
      · rw [List.filter_cons_of_neg (by simp [hx]), List.filter_cons_of_neg (by simp [hx]), ih']
      · rw [List.filter_cons_of_pos hx, List.filter_cons_of_pos hx, ih']
        cases hp : p c
        · simp
        · simp only [if_true]
          show _ = (if lt c x then _ else _)
          rw [if_pos hlt]
    · have hf : lt c x = false := by simpa using hlt
      have e : insV lt c (x :: xs) = c :: x :: xs := by
        show (if lt c x then _ else _) = _
        rw [if_neg hlt]
      rw [e]
      cases hp : p c
      · rw [List.filter_cons_of_neg (by simp [hp])]; simp
      · rw [List.filter_cons_of_pos hp]
        simp only [if_true]
        rw [insV_front lt c]
        intro y hy
        have hy' := (List.mem_filter.1 hy).1
        rcases List.mem_cons.1 hy' with rfl | hy'
        · exact hf
        · exact W.ntr y x c (h1 y hy') hf
theorem insR_filter (W : Weak lt) (p : α → Bool) (c : α) (l : List α) (h : Ord lt l) : (insR lt c l).filter p = if p c then insR lt c (l.filter p) else l.filter p := by
  unfold insR
  rw [List.filter_reverse, insV_filter lt W p c _ (List.pairwise_reverse.2 h)]
  cases hp : p c
  · simp
  · simp
theorem srt_filter (W : Weak lt) (p : α → Bool) (ls : List α) : (srt lt ls).filter p = srt lt (ls.filter p) := by
  have key : ∀ (ls out : List α), Ord lt out → (ls.foldl (fun out c => insR lt c out) out).filter p = (ls.filter p).foldl (fun out c => insR lt c out) (out.filter p) := by
    intro ls
    induction ls with
    | nil => intro out _; rfl
    | cons x xs ih =>
      intro out ho
      simp only [List.foldl_cons]
      rw [ih _ (insR_ord lt W x out ho), insR_filter lt W p x out ho]
      cases hp : p x
      · rw [List.filter_cons_of_neg (by simp [hp])]; simp
      · rw [List.filter_cons_of_pos hp]; simp
  exact key ls [] List.Pairwise.nil
end
theorem seen_is (ls : List Cd) : (srt klt ls).filter (fun c => !c.g) = seenL ls := srt_filter klt klt_weak _ ls

set_option maxRecDepth 100000 in
set_option maxHeartbeats 2000000 in
theorem refSeen9 (a : Option Addr) (n c : Nat) (ls : List Cd) (w : World) (h : CAt w a ls) (hl : ls.length = n) (hn : n ≤ 1000) (hnc : n ≤ c) :
    Calls Try.prog 26 #[.slice a n c] w fun e w' => ∃ v', e = .returned v' ∧ OwnC w.heap.size w' v' (seenL ls) ∧ Below w.heap.size w w' := by
  obtain ⟨i0, hi, hz0, hz1, hz2⟩ := info_parts' info_card
  have HA0 := Lib.hid h
  have HN0 := Lib.hid hl
  clear h hl
  go_enter Try.func26, Try.ntmps26
  go_wp2_with fail
  refine (refSort a n c ls _ HA0.out HN0.out hn hnc).mono ?_
  rintro e w1 ⟨vs, rfl, hos, hbs⟩
  obtain ⟨T, hT⟩ : ∃ T, srt klt ls = T := ⟨_, rfl⟩
  have hTn : T.length = n := by rw [← hT, srt_len, HN0.out]
  rw [hT] at hos
  obtain ⟨ta, tc, rfl, htc, htm, htat, -, -⟩ := hos.read
  rw [hTn] at htc ⊢
  have HTT := Lib.hid hT
  have HN := Lib.hid hTn
  have HA := Lib.hid htat
  have HB1 := Lib.hid hbs
  have Z1 := hbs.size
  unfold maxLen at htm
  clear hos hbs hT hTn htat HA0
  go_wp2_with fail
  go_loopw [3, 9] (fun o j wr => ∃ J : Nat, J ≤ n ∧ j = .int .i64 (J : Int) ∧ OwnC w1.heap.size wr o ((T.take J).filter (fun c => !c.g)) ∧ Below w1.heap.size w1 wr) (fun o j _ => n - (intOf j).toNat)
  case atStart => exact ⟨0, by omega, rfl, OwnR.nil _ _, Below.refl _ _⟩
  case round =>
    obtain ⟨w2, rfl⟩ : ∃ y : World, y = wr := ⟨_, rfl⟩
    obtain ⟨J, hJ, rfl, ho2, hb2⟩ := hrel
    by_cases hlt : J < n
    · obtain ⟨ga, gc, rfl, hgc, hgm, hgat, hgb, hgf⟩ := ho2.read
      obtain ⟨S, hS⟩ : ∃ S, (T.take J).filter (fun c => !c.g) = S := ⟨_, rfl⟩
      rw [hS] at ho2 hgc hgat hgf ⊢
      obtain ⟨m, hm⟩ : ∃ m, S.length = m := ⟨_, rfl⟩
      have hm1 : m ≤ 1000 := by rw [← hm, ← hS]; have := List.length_filter_le (fun c : Cd => !c.g) (T.take J); rw [List.length_take] at this; omega
      have HM := Lib.hid hm
      rw [hm] at hgc ⊢
      obtain ⟨x, hx⟩ : ∃ x, T[J]? = some x := ⟨_, List.getElem?_eq_getElem (by have := HN.out; omega)⟩
      have HST := Lib.hid (show (T.take (J + 1)).filter (fun c => !c.g) = S ++ (if x.g then [] else [x]) from by rw [List.take_add_one, hx]; show (T.take J ++ [x]).filter _ = _; rw [filt_snoc, hS])
      obtain ⟨b, o, rfl⟩ : ∃ b o, ta = some ⟨b, o, none⟩ := by
        rcases HA.out with h | ⟨b, o, e, _⟩
        · rw [h] at hx; simp at hx
        · exact ⟨b, o, e⟩
      obtain ⟨x0, x1, x2, x3, x4, x5, x6, x7, x8⟩ := (HA.out.ext hb2).at hx
      have D0 : Below w2.heap.size w2 (w2.alloc (.cells #[.string x.a, .string x.i, .int .i64 x.s, .int .i64 x.o, .int .i64 x.l, .int .i64 x.t, .int .i64 x.k, .int .i64 x.n, .bool x.g] 49)) := (Below.refl _ _).alloc (Nat.le_refl _) _
      have HX := Lib.hid (blk_new w2 #[.string x.a, .string x.i, .int .i64 x.s, .int .i64 x.o, .int .i64 x.l, .int .i64 x.t, .int .i64 x.k, .int .i64 x.n, .bool x.g] 49)
      have HO3 := Lib.hid (show OwnC w1.heap.size (w2.alloc (.cells #[.string x.a, .string x.i, .int .i64 x.s, .int .i64 x.o, .int .i64 x.l, .int .i64 x.t, .int .i64 x.k, .int .i64 x.n, .bool x.g] 49)) (.slice ga m gc) S from by have := OwnR.ext ho2 D0; rw [hm] at this; exact this)
      have HB3 := Lib.hid (ext_trans hb2 D0)
      unfold maxLen at hgm
      clear ho2 hb2 hx hS hm D0 hgat hgb hgf
      go_upto_region 5 with (fail)
      obtain ⟨r, hr⟩ : ∃ r, w2.heap.size = r := ⟨_, rfl⟩
      rw [hr] at HX ⊢
      clear hr
      generalize (w2.alloc (.cells #[.string x.a, .string x.i, .int .i64 x.s, .int .i64 x.o, .int .i64 x.l, .int .i64 x.t, .int .i64 x.k, .int .i64 x.n, .bool x.g] 49)) = w4 at *
      clear x0 x1 x2 x3 x4 x5 x6 x7 x8
      have hk4 := blk_cell HX.out
      have hl4 := blk_lt HX.out
      have Z4 := HB3.out.size
      obtain ⟨gg, hgg⟩ : ∃ gg, x.g = gg := ⟨_, rfl⟩
      rw [hgg] at HST
      cases gg
      · have HO5' := Lib.hid (show w4.ownsRow w1.heap.size 49 9 (.slice ga m gc) m (flat cc S) from by have := HO3.out; unfold OwnC OwnR at this; rw [HM.out] at this; exact this)
        go_wp2_with (at_builtin; refine wpList_append_own _ rfl _ _ 33 rfl (w1.heap.size) 49 i0 Cd.zero.v 9 88 Try.underlying33 hi hz0 hz1 hz2 rfl (by decide) _ m (flat cc S) rfl (HO5'.out.alloc (.cells #[.string x.a, .string x.i, .int .i64 x.s, .int .i64 x.o, .int .i64 x.l, .int .i64 x.t, .int .i64 x.k, .int .i64 x.n, .bool false] 49)) ⟨w4.heap.size, 0, none⟩ 1 1 (cc x) rfl rfl ?c1 ?c2 ?c3 ?c4 ?c5 ?_)
        case c1 =>
          intro j u hj
          rw [add_off, Nat.zero_add, blk_cell (blk_new w4 #[.string x.a, .string x.i, .int .i64 x.s, .int .i64 x.o, .int .i64 x.l, .int .i64 x.t, .int .i64 x.k, .int .i64 x.n, .bool false] 49)]
          simpa [cc, hgg] using hj
        case c2 => exact cc_one x
        case c3 => unfold maxLen; omega
        case c4 => omega
        case c5 => simp; omega
        intro v7 w7 ho7 hg7 _
        have HB7 := Lib.hid ((HB3.out.alloc Z4 (.cells #[.string x.a, .string x.i, .int .i64 x.s, .int .i64 x.o, .int .i64 x.l, .int .i64 x.t, .int .i64 x.k, .int .i64 x.n, .bool false] 49)).grown hg7 (by simp; omega) (fun q hq => own_ge HO5'.out hq))
        have HO7 := Lib.hid (show OwnC w1.heap.size w7 v7 (S ++ [x]) by unfold OwnC OwnR; rw [flat_snoc, List.length_append, HM.out]; exact ho7)
        clear ho7 hg7 HO5' HX hk4 hl4
        go_wp2
        go_roundw
        case rel => exact ⟨J + 1, by omega, by go_num, by rw [HST.out]; exact HO7.out, HB7.out⟩
        case measure => simp [intOf]; omega
      · go_wp2
        go_roundw
        case rel => exact ⟨J + 1, by omega, by go_num, by rw [HST.out]; simpa using HO3.out, HB3.out⟩
        case measure => simp [intOf]; omega
    · obtain rfl : J = n := by omega
      have HF := Lib.hid (show (T.take J).filter (fun c => !c.g) = seenL ls from by rw [List.take_of_length_le (by have := HN.out; omega), ← HTT.out]; exact seen_is ls)
      have HO2 := Lib.hid ho2
      clear ho2
      go_wp2
      go_ret
      exact ⟨_, rfl, by have := OwnR.base HO2.out Z1; rw [HF.out] at this; exact this, ext_trans HB1.out hb2⟩

set_option maxRecDepth 100000 in
set_option maxHeartbeats 4000000 in
theorem refBytes9 (a : Option Addr) (n c : Nat) (ls : List Cd) (w : World) (h : CAt w a ls) (hl : ls.length = n) (hn : n ≤ 20) (hnc : n ≤ c) (hs : ∀ x ∈ ls, CdS x) :
    Calls Try.prog 25 #[.slice a n c] w (Row (sealB ls) w) := by
  have HA := Lib.hid h
  have HN := Lib.hid hl
  have HS := Lib.hid hs
  clear h hl hs
  go_enter Try.func25, Try.ntmps25
  go_wp2_with fail
  refine (refSeen9 a n c ls _ HA.out HN.out (by omega) hnc).mono ?_
  rintro e w1 ⟨vs, rfl, hos, hbs⟩
  obtain ⟨T, hT⟩ : ∃ T, seenL ls = T := ⟨_, rfl⟩
  rw [hT] at hos
  obtain ⟨ta, tc, rfl, htc, htm, htat, -, -⟩ := hos.read
  obtain ⟨t, hTt⟩ : ∃ t, T.length = t := ⟨_, rfl⟩
  have ht19 : t ≤ 20 := by rw [← hTt, ← hT]; have := seenL_len ls; rw [HN.out] at this; omega
  have HTS := Lib.hid (show ∀ x ∈ T, CdS x from fun x hx => HS.out x (seenL_mem (by rw [hT]; exact hx)).1)
  rw [hTt] at htc ⊢
  have HTT := Lib.hid hT
  have HTN := Lib.hid hTt
  have HTA := Lib.hid htat
  have HB1 := Lib.hid hbs
  have Z1 := hbs.size
  unfold maxLen at htm
  clear hos hbs hT hTt htat HA
  go_wp2_with fail
  go_loopw [3, 9] (fun g j wr => ∃ J : Nat, J ≤ t ∧ j = .int .i64 (J : Int) ∧ wr.ownsRow w1.heap.size 5 1 g ((T.take J).flatMap cardB).length (bc ((T.take J).flatMap cardB)) ∧ Below w1.heap.size w1 wr) (fun g j _ => t - (intOf j).toNat)
  case atStart => exact ⟨0, by omega, rfl, ⟨rfl, .inl ⟨rfl, rfl⟩⟩, Below.refl _ _⟩
  case round =>
    obtain ⟨w2, rfl⟩ : ∃ y : World, y = wr := ⟨_, rfl⟩
    obtain ⟨J, hJ, rfl, ho2, hb2⟩ := hrel
    obtain ⟨B, hB⟩ : ∃ B, (T.take J).flatMap cardB = B := ⟨_, rfl⟩
    rw [hB] at ho2
    by_cases hlt : J < t
    · obtain ⟨x, hx⟩ : ∃ x, T[J]? = some x := ⟨_, List.getElem?_eq_getElem (by have := HTN.out; omega)⟩
      have HST := Lib.hid (show (T.take (J + 1)).flatMap cardB = B ++ cardB x from by rw [List.take_add_one, hx]; show (T.take J ++ [x]).flatMap cardB = _; rw [List.flatMap_append, hB]; simp)
      obtain ⟨m, hm⟩ : ∃ m, B.length = m := ⟨_, rfl⟩
      have hm1 : m ≤ 10420 := by rw [← hm, ← hB]; have := flatB_len (T.take J); rw [List.length_take] at this; omega
      obtain ⟨b, o, rfl⟩ : ∃ b o, ta = some ⟨b, o, none⟩ := by
        rcases HTA.out with h | ⟨b, o, e, _⟩
        · rw [h] at hx; simp at hx
        · exact ⟨b, o, e⟩
      obtain ⟨x0, x1, x2, x3, x4, x5, x6, x7, x8⟩ := (HTA.out.ext hb2).at hx
      have HXS := HTS.out x (List.mem_of_getElem? hx)
      have hxa := HXS.1
      have hxi := HXS.2
      have D0 : Below w2.heap.size w2 (w2.alloc (.cells #[.string x.a, .string x.i, .int .i64 x.s, .int .i64 x.o, .int .i64 x.l, .int .i64 x.t, .int .i64 x.k, .int .i64 x.n, .bool x.g] 49)) := (Below.refl _ _).alloc (Nat.le_refl _) _
      have HX0 := Lib.hid (blk_new w2 #[.string x.a, .string x.i, .int .i64 x.s, .int .i64 x.o, .int .i64 x.l, .int .i64 x.t, .int .i64 x.k, .int .i64 x.n, .bool x.g] 49)
      have HB0 := Lib.hid (ext_trans hb2 D0)
      obtain ⟨ga, gc, rfl, -, hgc, hgm, hgr, -, -⟩ := own_read ho2
      have HA0 := Lib.hid (BAt.ext hgr D0)
      have HN0 := Lib.hid hm
      rw [hm] at hgc ⊢
      unfold maxLen at hgm
      have HTA' := Lib.hid (txt_len x.a)
      have HTI' := Lib.hid (txt_len x.i)
      have hA0 := cut255_len x.a
      have hI0 := cut255_len x.i
      clear ho2 hb2 hx hB hm D0 hgr HXS
      go_upto_region 5 with (fail)
      obtain ⟨r, hr⟩ : ∃ r, w2.heap.size = r := ⟨_, rfl⟩
      rw [hr] at HX0 ⊢
      clear hr
      generalize (w2.alloc (.cells #[.string x.a, .string x.i, .int .i64 x.s, .int .i64 x.o, .int .i64 x.l, .int .i64 x.t, .int .i64 x.k, .int .i64 x.n, .bool x.g] 49)) = y0 at *
      clear x0 x1 x2 x3 x4 x5 x6 x7 x8
      go_wp2_with fail
      haveI hIc : Nonempty (In (fun W : World => W.heap[r]? = some (.cells #[.string x.a, .string x.i, .int .i64 x.s, .int .i64 x.o, .int .i64 x.l, .int .i64 x.t, .int .i64 x.k, .int .i64 x.n, .bool x.g] 49 (0, 0)))) := ⟨⟨_, HX0.out⟩⟩
      have hFx : ∀ g : In (fun W : World => W.heap[r]? = some (.cells #[.string x.a, .string x.i, .int .i64 x.s, .int .i64 x.o, .int .i64 x.l, .int .i64 x.t, .int .i64 x.k, .int .i64 x.n, .bool x.g] 49 (0, 0))), ∀ n, g.w.cell? ⟨r, n, none⟩ = (#[.string x.a, .string x.i, .int .i64 x.s, .int .i64 x.o, .int .i64 x.l, .int .i64 x.t, .int .i64 x.k, .int .i64 x.n, .bool x.g] : Array Value)[n]? := fun g n => blk_cell g.h n
      have hFl : ∀ g : In (fun W : World => W.heap[r]? = some (.cells #[.string x.a, .string x.i, .int .i64 x.s, .int .i64 x.o, .int .i64 x.l, .int .i64 x.t, .int .i64 x.k, .int .i64 x.n, .bool x.g] 49 (0, 0))), r < g.w.heap.size := fun g => blk_lt g.h
      refine wp_region_chain (fun w' => ∃ g : In (fun W : World => W.heap[r]? = some (.cells #[.string x.a, .string x.i, .int .i64 x.s, .int .i64 x.o, .int .i64 x.l, .int .i64 x.t, .int .i64 x.k, .int .i64 x.n, .bool x.g] 49 (0, 0))), w' = g.w) (by kernel_rfl) (by kernel_rfl) (by kernel_rfl) ?_
      
      have DD : Below y0.heap.size y0 y0.drew := (Below.refl _ _).drew
      have HX0d := Lib.hid (blk_ext DD HX0.out)
      have HA0d := Lib.hid (HA0.out.ext DD)
      have HB0d := Lib.hid (ext_trans HB0.out DD)
      clear HX0 HA0 HB0 DD
      generalize y0.drew = yd at *
      repeat (refine wpG_plain (by rfl) (by rfl) (fun K hK => ?_); go_big_quiet_op; refine hK _ ?_; clear hK K)
      refine wpG_call (by rfl) (by rfl) ⟨⟨_, HX0d.out⟩, rfl⟩ (fun K hK => ?_)
      go_big_op
      refine (refText ga m gc x.a B _ HA0d.out HN0.out (by omega) (by unfold maxLen; omega)).mono ?_
      rintro e y1 ⟨v1, rfl, ho1, hb1⟩
      
      obtain ⟨a1, c1, rfl, -, -, -, hr1, -, -⟩ := own_read ho1
      have HB1 := Lib.hid (ext_trans HB0d.out hb1)
      have HX1 := Lib.hid (blk_ext hb1 HX0d.out)
      have HA1 := Lib.hid hr1
      obtain ⟨n1, hn1⟩ : ∃ n, (B ++ txt x.a).length = n := ⟨_, rfl⟩
      have HN1 := Lib.hid hn1
      rw [hn1]
      
      have hz1 : n1 ≤ 10676 := by rw [← hn1, List.length_append, HTA'.out, HN0.out]; omega
      refine hK _ _ ?_
      clear hK K ho1 hb1 hr1 hn1
      repeat (refine wpG_plain (by rfl) (by rfl) (fun K hK => ?_); go_big_quiet_op; refine hK _ ?_; clear hK K)
      refine wpG_call (by rfl) (by rfl) ⟨⟨_, HX1.out⟩, rfl⟩ (fun K hK => ?_)
      go_big_op
      refine (refText a1 n1 c1 x.i (B ++ txt x.a) _ HA1.out HN1.out (by omega) (by unfold maxLen; omega)).mono ?_
      rintro e y2 ⟨v2, rfl, ho2, hb2⟩
      
      obtain ⟨a2, c2, rfl, -, -, -, hr2, -, -⟩ := own_read ho2
      have HB2 := Lib.hid (ext_trans HB1.out hb2)
      have HX2 := Lib.hid (blk_ext hb2 HX1.out)
      have HA2 := Lib.hid hr2
      obtain ⟨n2, hn2⟩ : ∃ n, (B ++ txt x.a ++ txt x.i).length = n := ⟨_, rfl⟩
      have HN2 := Lib.hid hn2
      rw [hn2]
      
      have hz2 : n2 ≤ 10932 := by rw [← hn2, List.length_append, HTI'.out, HN1.out]; omega
      refine hK _ _ ?_
      clear hK K ho2 hb2 hr2 hn2
      repeat (refine wpG_plain (by rfl) (by rfl) (fun K hK => ?_); go_big_quiet_op; refine hK _ ?_; clear hK K)
      refine wpG_nil ⟨⟨_, HX2.out⟩, rfl⟩ ?_
      clear hFx hFl hIc
      go_wp2_with fail
      haveI hIc : Nonempty (In (fun W : World => W.heap[r]? = some (.cells #[.string x.a, .string x.i, .int .i64 x.s, .int .i64 x.o, .int .i64 x.l, .int .i64 x.t, .int .i64 x.k, .int .i64 x.n, .bool x.g] 49 (0, 0)))) := ⟨⟨_, HX2.out⟩⟩
      have hFx : ∀ g : In (fun W : World => W.heap[r]? = some (.cells #[.string x.a, .string x.i, .int .i64 x.s, .int .i64 x.o, .int .i64 x.l, .int .i64 x.t, .int .i64 x.k, .int .i64 x.n, .bool x.g] 49 (0, 0))), ∀ n, g.w.cell? ⟨r, n, none⟩ = (#[.string x.a, .string x.i, .int .i64 x.s, .int .i64 x.o, .int .i64 x.l, .int .i64 x.t, .int .i64 x.k, .int .i64 x.n, .bool x.g] : Array Value)[n]? := fun g n => blk_cell g.h n
      have hFl : ∀ g : In (fun W : World => W.heap[r]? = some (.cells #[.string x.a, .string x.i, .int .i64 x.s, .int .i64 x.o, .int .i64 x.l, .int .i64 x.t, .int .i64 x.k, .int .i64 x.n, .bool x.g] 49 (0, 0))), r < g.w.heap.size := fun g => blk_lt g.h
      refine wp_region_chain (fun w' => ∃ g : In (fun W : World => W.heap[r]? = some (.cells #[.string x.a, .string x.i, .int .i64 x.s, .int .i64 x.o, .int .i64 x.l, .int .i64 x.t, .int .i64 x.k, .int .i64 x.n, .bool x.g] 49 (0, 0))), w' = g.w) (by kernel_rfl) (by kernel_rfl) (by kernel_rfl) ?_
      
      have DD : Below y2.heap.size y2 y2.drew := (Below.refl _ _).drew
      have HX2d := Lib.hid (blk_ext DD HX2.out)
      have HA2d := Lib.hid (HA2.out.ext DD)
      have HB2d := Lib.hid (ext_trans HB2.out DD)
      clear HX2 HA2 HB2 DD
      generalize y2.drew = ye at *
      repeat (refine wpG_plain (by rfl) (by rfl) (fun K hK => ?_); go_big_quiet_op; refine hK _ ?_; clear hK K)
      refine wpG_call (by rfl) (by rfl) ⟨⟨_, HX2d.out⟩, rfl⟩ (fun K hK => ?_)
      go_big_op
      refine (refShows x _).mono ?_
      rintro e y3 ⟨rfl, hb3⟩
      
      have HB3 := Lib.hid (ext_trans HB2d.out hb3)
      have HX3 := Lib.hid (blk_ext hb3 HX2d.out)
      
      have HA3 := Lib.hid (HA2d.out.ext hb3)
      refine hK _ _ ?_
      clear hK K hb3
      repeat (refine wpG_plain (by rfl) (by rfl) (fun K hK => ?_); go_big_quiet_op; refine hK _ ?_; clear hK K)
      refine wpG_call (by rfl) (by rfl) ⟨⟨_, HX3.out⟩, rfl⟩ (fun K hK => ?_)
      go_big_op
      refine (refByte a2 n2 c2 (shw x) (B ++ txt x.a ++ txt x.i) _ HA3.out HN2.out (by omega)).mono ?_
      rintro e y4 ⟨v4, rfl, ho4, hb4⟩
      
      obtain ⟨a4, c4, rfl, -, -, -, hr4, -, -⟩ := own_read ho4
      have HB4 := Lib.hid (ext_trans HB3.out hb4)
      have HX4 := Lib.hid (blk_ext hb4 HX3.out)
      have HA4 := Lib.hid hr4
      obtain ⟨n4, hn4⟩ : ∃ n, (B ++ txt x.a ++ txt x.i ++ [shw x % 256]).length = n := ⟨_, rfl⟩
      have HN4 := Lib.hid hn4
      rw [hn4]
      
      have hz4 : n4 ≤ 10933 := by rw [← hn4, List.length_append, HN2.out]; simp; omega
      refine hK _ _ ?_
      clear hK K ho4 hb4 hr4 hn4
      repeat (refine wpG_plain (by rfl) (by rfl) (fun K hK => ?_); go_big_quiet_op; refine hK _ ?_; clear hK K)
      refine wpG_call (by rfl) (by rfl) ⟨⟨_, HX4.out⟩, rfl⟩ (fun K hK => ?_)
      go_big_op
      refine (refInt a4 n4 c4 x.l (B ++ txt x.a ++ txt x.i ++ [shw x % 256]) _ HA4.out HN4.out (by omega)).mono ?_
      rintro e y5 ⟨v5, rfl, ho5, hb5⟩
      
      have HO5 := Lib.hid ho5
      have HB5 := Lib.hid (ext_trans HB4.out hb5)
      have HX5 := Lib.hid (blk_ext hb5 HX4.out)
      
      have HZ4 := Lib.hid HB4.out.size
      obtain ⟨a5, c5, rfl, -, -, -, -, -, -⟩ := own_read ho5
      refine hK _ _ ?_
      clear hK K ho5 hb5
      repeat (refine wpG_plain (by rfl) (by rfl) (fun K hK => ?_); go_big_quiet_op; refine hK _ ?_; clear hK K)
      refine wpG_nil ⟨⟨_, HX5.out⟩, rfl⟩ ?_
      clear hFx hFl hIc
      have HE := Lib.hid (show B ++ txt x.a ++ txt x.i ++ [shw x % 256] ++ be x.l = B ++ cardB x from by simp [cardB, List.append_assoc])
      go_wp2
      go_roundw
      case rel => exact ⟨J + 1, by omega, by go_num, by rw [HST.out, ← HE.out]; exact ownsRow_base HO5.out HZ4.out, HB5.out⟩
      case measure => simp [intOf]; omega
    · obtain rfl : J = t := by omega
      have HF := Lib.hid (show B = sealB ls from by rw [← hB, List.take_of_length_le (by have := HTN.out; omega), ← HTT.out]; rfl)
      go_wp2
      go_ret
      exact ⟨_, rfl, by rw [HF.out] at ho2; exact ownsRow_base ho2 Z1, ext_trans HB1.out hb2⟩

set_option maxRecDepth 100000 in
set_option maxHeartbeats 1000000 in
theorem refSeal9 (a : Option Addr) (n c : Nat) (ls : List Cd) (w : World) (h : CAt w a ls) (hl : ls.length = n) (hn : n ≤ 20) (hnc : n ≤ c) (hs : ∀ x ∈ ls, CdS x) :
    Calls Try.prog 19 #[.slice a n c] w fun e w' => e = .returned (.int .u32 (sm (sealB ls))) ∧ Below w.heap.size w w' := by
  have hlen := sealB_len ls (by omega)
  go_enter Try.func19, Try.ntmps19
  go_wp2_with fail
  refine (refBytes9 a n c ls _ h hl hn hnc hs).mono ?_
  rintro e w1 ⟨v1, rfl, ho1, hb1⟩
  obtain ⟨a1, c1, rfl, -, -, -, hr1, -, -⟩ := own_read ho1
  go_wp2_with fail
  refine (refSum a1 _ c1 (sealB ls) _ hr1 rfl (flatB_wb _) (by omega)).mono ?_
  rintro e w2 ⟨rfl, rfl⟩
  go_wp2
  go_ret
  exact ⟨rfl, hb1⟩

end Go.Proofs.Ytkhcgopehmndgaa
