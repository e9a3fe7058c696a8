/- Package gossip's walks: what one has and the other has not. -/
import Derived.Test.YtmgdhgaodjkifaaGosD
namespace Go.Proofs.Ytmgdhgaodjkifaa
open Go.RowKit
set_option linter.unusedVariables false
set_option linter.unusedSimpArgs false

/-- is x's stamp earlier than y's? -/
def stl (x y : Cd) : Bool := sLess x.t x.k x.n y.t y.k y.n
def gk : Nat → List Cd → List Cd → List Ky
  | 0, _, _ => []
  | _ + 1, [], [] => []
  | f + 1, _ :: h, [] => gk f h []
  | f + 1, [], y :: t => kyc y :: gk f [] t
  | f + 1, x :: h, y :: t => if klt x y then gk f h (y :: t) else if klt y x then kyc y :: gk f (x :: h) t else (if stl x y then [kyc y] else []) ++ gk f h t
def gc : Nat → List Cd → List Cd → List Cd
  | 0, _, _ => []
  | _ + 1, [], [] => []
  | f + 1, x :: h, [] => x :: gc f h []
  | f + 1, [], _ :: t => gc f [] t
  | f + 1, x :: h, y :: t => if klt x y then x :: gc f h (y :: t) else if klt y x then gc f (x :: h) t else (if stl y x then [x] else []) ++ gc f h t
theorem gk_nil (f : Nat) : gk f [] [] = [] := by cases f <;> rfl
theorem gc_nil (f : Nat) : gc f [] [] = [] := by cases f <;> rfl
theorem gk_len : ∀ (f : Nat) (h t : List Cd), (gk f h t).length ≤ t.length
  | 0, _, _ => Nat.zero_le _
  | f + 1, [], [] => by simp [gk]
  | f + 1, x :: h, [] => gk_len f h []
  | f + 1, [], y :: t => by have := gk_len f [] t; simp only [gk, List.length_cons]; omega
  | f + 1, x :: h, y :: t => by
    have h1 := gk_len f h (y :: t)
    have h2 := gk_len f (x :: h) t
    have h3 := gk_len f h t
    simp only [gk]
    split
    · exact h1
    · split
      · simp only [List.length_cons]; omega
      · rw [List.length_append, List.length_cons]
        split <;> simp <;> omega
theorem gc_len : ∀ (f : Nat) (h t : List Cd), (gc f h t).length ≤ h.length
  | 0, _, _ => Nat.zero_le _
  | f + 1, [], [] => by simp [gc]
  | f + 1, x :: h, [] => by have := gc_len f h []; simp only [gc, List.length_cons]; omega
  | f + 1, [], y :: t => by have := gc_len f [] t; simp only [gc]; exact this
  | f + 1, x :: h, y :: t => by
    have h1 := gc_len f h (y :: t)
    have h2 := gc_len f (x :: h) t
    have h3 := gc_len f h t
    simp only [gc]
    split
    · simp only [List.length_cons]; omega
    · split
      · exact h2
      · rw [List.length_append, List.length_cons]
        split <;> simp <;> omega
/-- what Compare tells -/
def CmP (H T : List Cd) (w : World) (e : Ending) (w' : World) : Prop := ∃ v1 v2, e = .returned (.tuple #[v1, v2]) ∧ OwnK w.heap.size w' v1 (gk (H.length + T.length) H T) ∧ OwnC w.heap.size w' v2 (gc (H.length + T.length) H T) ∧ Below w.heap.size w w'
set_option maxHeartbeats 1000000 in
theorem cardLessB (x y : Cd) (w : World) : Calls Try.prog 26 #[.agg #[.string x.a, .string x.i], .agg #[.string y.a, .string y.i]] w fun e w' => e = .returned (.bool (klt x y)) ∧ Below w.heap.size w w' :=
  (cardLess x.a x.i y.a y.i w).mono fun _ _ h => ⟨h.1, h.2.below⟩
theorem stampLessB (x y : Cd) (w : World) : Calls Try.prog 27 #[.agg #[.int .i64 x.t, .int .i64 x.k, .int .i64 x.n], .agg #[.int .i64 y.t, .int .i64 y.k, .int .i64 y.n]] w fun e w' => e = .returned (.bool (stl x y)) ∧ Below w.heap.size w w' := stampLess _ _ _ _ _ _ w
/-- a row that may be read, and where it goes on -/
theorem CAt.tl {w : World} {b o : Nat} {x : Cd} {xs : List Cd} (h : CAt w (some ⟨b, o, none⟩) (x :: xs)) : CAt w (some ⟨b, o + 9, none⟩) xs := by
  have := CAt.drop 1 h
  simpa using this

/-- a row whose start may be anywhere where nothing is left -/
def Rst (w : World) (v : Value) (cs : List Cd) : Prop := ∃ a c, v = .slice a cs.length c ∧ cs.length ≤ c ∧ c ≤ 9223372036854775807 ∧ CAt w a cs
theorem Rst.of {base : Nat} {w : World} {v : Value} {ls : List Cd} (h : OwnC base w v ls) : Rst w v ls := by
  obtain ⟨a, c, h1, h2, h3, h4, -, -⟩ := h.read
  exact ⟨a, c, h1, h2, by unfold maxLen at h3; omega, h4⟩

/-- how many are left in a slice -/
def lenV : Value → Nat
  | .slice _ n _ => n
  | _ => 0

set_option maxRecDepth 100000 in
set_option maxHeartbeats 4000000 in
theorem gCompare (a b : Option Addr) (n m c d : Nat) (xs ys : List Cd) (w : World) (h : CAt w a xs) (h' : CAt w b ys) (hl : xs.length = n) (hl' : ys.length = m) (hn : n ≤ 1000) (hm : m ≤ 1000) (hf : (a = none ∧ c = 0) ∨ ∃ g o, a = some ⟨g, o, none⟩) (hf' : (b = none ∧ d = 0) ∨ ∃ g o, b = some ⟨g, o, none⟩) :
    Calls Try.prog 12 #[.slice a n c, .slice b m d] w (CmP (onc xs) (onc ys) w) := by
  obtain ⟨i0, hi, hz0, hz1, hz2⟩ := info_parts' info_card
  obtain ⟨j0, gi, gz0, gz1, gz2⟩ := info_parts' info_ky
  have HA := Lib.hid h
  have HN := Lib.hid hl
  have HD := Lib.hid h'
  have HM := Lib.hid hl'
  have HF := Lib.hid hf
  have HF' := Lib.hid hf'
  clear h h' hl hl' hf hf'
  go_enter Try.func12, Try.ntmps12
  go_wp2_with fail
  refine (gDistinct a n c xs _ HA.out HN.out hn HF.out).mono ?_
  rintro e w0 ⟨v0, rfl, ho0, hb0⟩
  have HD0 := Lib.hid (HD.out.ext hb0)
  have HO0 := Lib.hid ho0
  have HB0 := Lib.hid hb0
  clear ho0 hb0
  go_wp2_with fail
  refine (gDistinct b m d ys _ HD0.out HM.out hm HF'.out).mono ?_
  rintro e w1 ⟨v1, rfl, ho1, hb1⟩
  have HR0 := Lib.hid (Rst.of (HO0.out.ext hb1))
  have HR1 := Lib.hid (Rst.of ho1)
  have HB1 := Lib.hid (ext_trans HB0.out hb1)
  have hl0 : (onc xs).length ≤ 1000 := by have := onc_len xs; have := HN.out; omega
  have hl1 : (onc ys).length ≤ 1000 := by have := onc_len ys; have := HM.out; omega
  clear ho1 hb1 HO0 HD0
  obtain ⟨H0, hH0⟩ : ∃ H0, onc xs = H0 := ⟨_, rfl⟩
  obtain ⟨T0, hT0⟩ : ∃ T0, onc ys = T0 := ⟨_, rfl⟩
  rw [hH0] at hl0
  rw [hT0] at hl1
  have HR0' := Lib.hid (show Rst w1 v0 H0 from by rw [← hH0]; exact HR0.out)
  have HR1' := Lib.hid (show Rst w1 v1 T0 from by rw [← hT0]; exact HR1.out)
  obtain ⟨KT_, hKT⟩ : ∃ L, gk (H0.length + T0.length) H0 T0 = L := ⟨_, rfl⟩
  obtain ⟨CT_, hCT⟩ : ∃ L, gc (H0.length + T0.length) H0 T0 = L := ⟨_, rfl⟩
  have HKT := Lib.hid hKT
  have HCT := Lib.hid hCT
  have hkl : KT_.length ≤ 1000 := by rw [← hKT]; have := gk_len (H0.length + T0.length) H0 T0; omega
  have hcl : CT_.length ≤ 1000 := by rw [← hCT]; have := gc_len (H0.length + T0.length) H0 T0; omega
  have HH0 := Lib.hid hH0
  have HT0 := Lib.hid hT0
  clear hKT hCT hH0 hT0 HR0 HR1
  go_wp2_with fail
  go_loopw [6, 7, 8, 9] (fun kv cv h t wr => ∃ (f : Nat) (H T : List Cd) (K : List Ky) (C : List Cd), H.length + T.length ≤ f ∧ Rst w1 h H ∧ Rst w1 t T ∧ OwnK w1.heap.size wr kv K ∧ OwnC w1.heap.size wr cv C ∧ K ++ gk f H T = KT_ ∧ C ++ gc f H T = CT_ ∧ H.length ≤ 1000 ∧ T.length ≤ 1000 ∧ Below w1.heap.size w1 wr) (fun kv cv h t _ => lenV h + lenV t)
  case atStart => exact ⟨_, H0, T0, [], [], Nat.le_refl _, HR0'.out, HR1'.out, OwnR.nil _ _, OwnR.nil _ _, by simpa using HKT.out, by simpa using HCT.out, hl0, hl1, Below.refl _ _⟩
  case round =>
    obtain ⟨w2, rfl⟩ : ∃ y : World, y = wr := ⟨_, rfl⟩
    obtain ⟨f, H, T, K, C, hf, ⟨ha, hc, rfl, hhc, hcm, hat⟩, ⟨ta, tc, rfl, htc, htm, tat⟩, hk2, hc2, hkt, hct, hH, hT, hb2⟩ := hrel
    obtain ⟨ka, kc_, rfl, hkc, hkm, hkf⟩ := OwnR.form hk2
    obtain ⟨ca, cc_, rfl, hcc, hcmm, hcf⟩ := OwnR.form hc2
    have HKT2 := Lib.hid hkt
    have HCT2 := Lib.hid hct
    have hKl : K.length ≤ 1000 := by have := congrArg List.length hkt; rw [List.length_append] at this; omega
    have hCl : C.length ≤ 1000 := by have := congrArg List.length hct; rw [List.length_append] at this; omega
    obtain ⟨p, hp⟩ : ∃ p, K.length = p := ⟨_, rfl⟩
    obtain ⟨q, hq⟩ : ∃ q, C.length = q := ⟨_, rfl⟩
    have HP := Lib.hid hp
    have HQ := Lib.hid hq
    have HK2 := Lib.hid (show OwnK w1.heap.size w2 (.slice ka p kc_) K from by rw [← hp]; exact hk2)
    have HC2 := Lib.hid (show OwnC w1.heap.size w2 (.slice ca q cc_) C from by rw [← hq]; exact hc2)
    have HB2 := Lib.hid hb2
    rw [hp] at hKl hkc ⊢
    rw [hq] at hCl hcc ⊢
    unfold maxLen at hkm hcmm
    have HAT := Lib.hid hat
    have TAT := Lib.hid tat
    clear hk2 hc2 hb2 hkt hct hp hq hat tat hkf hcf
    cases T with
    | nil =>
      cases H with
      | nil =>
        have HKE := Lib.hid (show K = KT_ from by have := HKT2.out; rw [gk_nil] at this; simpa using this)
        have HCE := Lib.hid (show C = CT_ from by have := HCT2.out; rw [gc_nil] at this; simpa using this)
        go_wp2_with fail
        exact bodyPost_ret (v := .tuple #[.slice ka p kc_, .slice ca q cc_]) (by simp [results, Try.results12, go_sem]) rfl ⟨_, _, rfl, by rw [HH0.out, HT0.out, HKT.out, ← HKE.out]; exact OwnR.base HK2.out HB1.out.size, by rw [HH0.out, HT0.out, HCT.out, ← HCE.out]; exact OwnR.base HC2.out HB1.out.size, ext_trans HB1.out HB2.out⟩
      | cons x xs' =>
        have HKE := Lib.hid (show ∀ f', f = f' + 1 → K ++ gk f' xs' [] = KT_ from fun f' e => by have := HKT2.out; rw [e] at this; exact this)
        have HCE := Lib.hid (show ∀ f', f = f' + 1 → C ++ [x] ++ gc f' xs' [] = CT_ from fun f' e => by have := HCT2.out; rw [e] at this; simpa [gc] using this)
        obtain ⟨f, rfl⟩ : ∃ f', f = f' + 1 := ⟨f - 1, by simp only [List.length_cons, List.length_nil] at hf; omega⟩
        obtain ⟨hb, hoo, rfl⟩ : ∃ b o, ha = some ⟨b, o, none⟩ := by
          rcases HAT.out with h | ⟨b, o, e, _⟩
          · cases h
          · exact ⟨b, o, e⟩
        obtain ⟨l, hl⟩ : ∃ l, xs'.length = l := ⟨_, rfl⟩
        have HXL := Lib.hid hl
        have hlen : (x :: xs').length = l + 1 := by rw [List.length_cons, hl]
        have hf : (x :: xs').length + ([] : List Cd).length ≤ f + 1 := hf
        rw [hlen] at hhc ⊢
        clear hlen hl
        go_wp2_with fail
        haveI hIq : Nonempty (Of w2) := of_some _
        first | (refine wp_region_stay w2 (by kernel_rfl) (by kernel_rfl) (by go_grown) ?_) | (refine wp_region_stay_seq w2 (by go_grown) ?_)
        repeat (go_big_quiet_step (fail))
        refine wpQuiet_nil ?_
        intro w3 hb3
        clear hIq
        have HB3 := Lib.hid (ext_trans HB2.out hb3)
        have HK3 := Lib.hid (OwnR.ext HK2.out hb3)
        have HC3 := Lib.hid (OwnR.ext HC2.out hb3)
        clear hb3 HB2 HK2 HC2
        by_cases hh1 : hc = 1
        · subst hh1
          have HhE := Lib.hid (show xs' = [] from List.eq_nil_of_length_eq_zero (by have := HXL.out; omega))
          obtain ⟨x0, x1, x2, x3, x4, x5, x6, x7, x8⟩ := (HAT.out.ext HB3.out).at (i := 0) rfl
          simp only [Nat.zero_mul, Nat.add_zero] at x0 x1 x2 x3 x4 x5 x6 x7 x8
          have HCa := Lib.hid (show w3.ownsRow w1.heap.size 36 9 (.slice ca q cc_) q (flat cc C) from by have := HC3.out; unfold OwnC OwnR at this; rw [HQ.out] at this; exact this)
          have ZA := HB3.out.size
          go_wp2_with (at_builtin; refine wpList_append_own _ rfl _ _ 27 rfl (w1.heap.size) 36 i0 Cd.zero.v 9 88 Try.underlying27 hi hz0 hz1 hz2 rfl (by decide) _ q (flat cc C) rfl (HCa.out.alloc (.cells #[.string x.a, .string x.i, .int .i64 x.s, .int .i64 x.o, .int .i64 x.l, .int .i64 x.t, .int .i64 x.k, .int .i64 x.n, .bool x.g] 36)) ⟨w3.heap.size, 0, none⟩ 1 1 (cc x) rfl rfl ?c1 ?c2 ?c3 ?c4 ?c5 ?_)
          case c1 =>
            intro j u hj
            rw [add_off, Nat.zero_add, blk_cell (blk_new w3 #[.string x.a, .string x.i, .int .i64 x.s, .int .i64 x.o, .int .i64 x.l, .int .i64 x.t, .int .i64 x.k, .int .i64 x.n, .bool x.g] 36)]
            simpa [cc] using hj
          case c2 => exact cc_one x
          case c3 => unfold maxLen; omega
          case c4 => omega
          case c5 => simp; omega
          intro v7 w7 ho7 hg7 _
          have HG7 := Lib.hid ((World.grownBy_alloc w3 (.cells #[.string x.a, .string x.i, .int .i64 x.s, .int .i64 x.o, .int .i64 x.l, .int .i64 x.t, .int .i64 x.k, .int .i64 x.n, .bool x.g] 36) none).but _ |>.andThen hg7 (fun j hj => .inr hj))
          have HB7 := Lib.hid (HB3.out.grown HG7.out ZA (fun q hq => own_ge HCa.out hq))
          have HC7 := Lib.hid (show OwnC w1.heap.size w7 v7 (C ++ [x]) by unfold OwnC OwnR; rw [flat_snoc, List.length_append, HQ.out]; exact ho7)
          have HK7 := Lib.hid (show OwnK w1.heap.size w7 (.slice ka p kc_) K from own_blocks HK3.out (fun k cur hc => HG7.out.block k (blk_lt hc) (own_ne HCa.out hc (by decide))))
          clear ho7 hg7 HCa
          clear x0 x1 x2 x3 x4 x5 x6 x7 x8 HB3 HK3 HC3
          have HKT7 := Lib.hid (HKE.out f rfl)
          have HCT7 := Lib.hid (HCE.out f rfl)
          go_wp2_with fail
          go_roundw
          case rel => exact ⟨f, xs', [], K, C ++ [x], by have := hf; simp only [List.length_cons, List.length_nil] at this ⊢; omega, ⟨_, 0, by rw [HhE.out]; rfl, by rw [HhE.out]; exact Nat.zero_le _, by omega, .inl HhE.out⟩, ⟨_, _, rfl, by simp, by omega, TAT.out⟩, HK7.out, HC7.out, HKT7.out, HCT7.out, by have := hH; simp only [List.length_cons, List.length_nil] at this ⊢; omega, by have := hT; simp only [List.length_cons, List.length_nil] at this ⊢; omega, HB7.out⟩
          case measure => first | (simp [lenV]; done) | (simp [lenV]; omega)
        · obtain ⟨x0, x1, x2, x3, x4, x5, x6, x7, x8⟩ := (HAT.out.ext HB3.out).at (i := 0) rfl
          simp only [Nat.zero_mul, Nat.add_zero] at x0 x1 x2 x3 x4 x5 x6 x7 x8
          have HCa := Lib.hid (show w3.ownsRow w1.heap.size 36 9 (.slice ca q cc_) q (flat cc C) from by have := HC3.out; unfold OwnC OwnR at this; rw [HQ.out] at this; exact this)
          have ZA := HB3.out.size
          go_wp2_with (at_builtin; refine wpList_append_own _ rfl _ _ 27 rfl (w1.heap.size) 36 i0 Cd.zero.v 9 88 Try.underlying27 hi hz0 hz1 hz2 rfl (by decide) _ q (flat cc C) rfl (HCa.out.alloc (.cells #[.string x.a, .string x.i, .int .i64 x.s, .int .i64 x.o, .int .i64 x.l, .int .i64 x.t, .int .i64 x.k, .int .i64 x.n, .bool x.g] 36)) ⟨w3.heap.size, 0, none⟩ 1 1 (cc x) rfl rfl ?c1 ?c2 ?c3 ?c4 ?c5 ?_)
          case c1 =>
            intro j u hj
            rw [add_off, Nat.zero_add, blk_cell (blk_new w3 #[.string x.a, .string x.i, .int .i64 x.s, .int .i64 x.o, .int .i64 x.l, .int .i64 x.t, .int .i64 x.k, .int .i64 x.n, .bool x.g] 36)]
            simpa [cc] using hj
          case c2 => exact cc_one x
          case c3 => unfold maxLen; omega
          case c4 => omega
          case c5 => simp; omega
          intro v7 w7 ho7 hg7 _
          have HG7 := Lib.hid ((World.grownBy_alloc w3 (.cells #[.string x.a, .string x.i, .int .i64 x.s, .int .i64 x.o, .int .i64 x.l, .int .i64 x.t, .int .i64 x.k, .int .i64 x.n, .bool x.g] 36) none).but _ |>.andThen hg7 (fun j hj => .inr hj))
          have HB7 := Lib.hid (HB3.out.grown HG7.out ZA (fun q hq => own_ge HCa.out hq))
          have HC7 := Lib.hid (show OwnC w1.heap.size w7 v7 (C ++ [x]) by unfold OwnC OwnR; rw [flat_snoc, List.length_append, HQ.out]; exact ho7)
          have HK7 := Lib.hid (show OwnK w1.heap.size w7 (.slice ka p kc_) K from own_blocks HK3.out (fun k cur hc => HG7.out.block k (blk_lt hc) (own_ne HCa.out hc (by decide))))
          clear ho7 hg7 HCa
          clear x0 x1 x2 x3 x4 x5 x6 x7 x8 HB3 HK3 HC3
          have HKT7 := Lib.hid (HKE.out f rfl)
          have HCT7 := Lib.hid (HCE.out f rfl)
          go_wp2_with fail
          go_roundw
          case rel => exact ⟨f, xs', [], K, C ++ [x], by have := hf; simp only [List.length_cons, List.length_nil] at this ⊢; omega, ⟨_, _, by rw [HXL.out], by rw [HXL.out]; omega, by omega, HAT.out.tl⟩, ⟨_, _, rfl, by simp, by omega, TAT.out⟩, HK7.out, HC7.out, HKT7.out, HCT7.out, by have := hH; simp only [List.length_cons, List.length_nil] at this ⊢; omega, by have := hT; simp only [List.length_cons, List.length_nil] at this ⊢; omega, HB7.out⟩
          case measure => first | (simp [lenV]; done) | (simp [lenV]; omega)
    
    | cons y ys' =>
      cases H with
      | nil =>
        have HKE := Lib.hid (show ∀ f', f = f' + 1 → K ++ [kyc y] ++ gk f' [] ys' = KT_ from fun f' e => by have := HKT2.out; rw [e] at this; simpa [gk] using this)
        have HCE := Lib.hid (show ∀ f', f = f' + 1 → C ++ gc f' [] ys' = CT_ from fun f' e => by have := HCT2.out; rw [e] at this; exact this)
        obtain ⟨f, rfl⟩ : ∃ f', f = f' + 1 := ⟨f - 1, by simp only [List.length_cons, List.length_nil] at hf; omega⟩
        obtain ⟨tb, too, rfl⟩ : ∃ b o, ta = some ⟨b, o, none⟩ := by
          rcases TAT.out with h | ⟨b, o, e, _⟩
          · cases h
          · exact ⟨b, o, e⟩
        obtain ⟨r, hr⟩ : ∃ l, ys'.length = l := ⟨_, rfl⟩
        have TXL := Lib.hid hr
        have hlen : (y :: ys').length = r + 1 := by rw [List.length_cons, hr]
        have hf : ([] : List Cd).length + (y :: ys').length ≤ f + 1 := hf
        rw [hlen] at htc ⊢
        clear hlen hr
        have hr0 : ((r : Int) + 1 == 0) = false := by simp; omega
        go_wp2_with fail
        haveI hIq : Nonempty (Of w2) := of_some _
        first | (refine wp_region_stay w2 (by kernel_rfl) (by kernel_rfl) (by go_grown) ?_) | (refine wp_region_stay_seq w2 (by go_grown) ?_)
        repeat (go_big_quiet_step (fail))
        refine wpQuiet_nil ?_
        intro w3 hb3
        clear hIq
        have HB3 := Lib.hid (ext_trans HB2.out hb3)
        have HK3 := Lib.hid (OwnR.ext HK2.out hb3)
        have HC3 := Lib.hid (OwnR.ext HC2.out hb3)
        clear hb3 HB2 HK2 HC2
        go_wp2_with fail
        haveI hIq : Nonempty (Of w3) := of_some _
        first | (refine wp_region_stay w3 (by kernel_rfl) (by kernel_rfl) (by go_grown) ?_) | (refine wp_region_stay_seq w3 (by go_grown) ?_)
        repeat (go_big_quiet_step (fail))
        refine wpQuiet_nil ?_
        intro w4 hb4
        clear hIq
        have HB4 := Lib.hid (ext_trans HB3.out hb4)
        have HK4 := Lib.hid (OwnR.ext HK3.out hb4)
        have HC4 := Lib.hid (OwnR.ext HC3.out hb4)
        clear hb4 HB3 HK3 HC3
        by_cases ht1 : tc = 1
        · subst ht1
          have HtE := Lib.hid (show ys' = [] from List.eq_nil_of_length_eq_zero (by have := TXL.out; omega))
          obtain ⟨y0, y1, y2, y3, y4, y5, y6, y7, y8⟩ := (TAT.out.ext HB4.out).at (i := 0) rfl
          simp only [Nat.zero_mul, Nat.add_zero] at y0 y1 y2 y3 y4 y5 y6 y7 y8
          have HKa7 := Lib.hid (show w4.ownsRow w1.heap.size 32 2 (.slice ka p kc_) p (flat ky K) from by have := HK4.out; unfold OwnK OwnR at this; rw [HP.out] at this; exact this)
          have ZA7 := HB4.out.size
          go_wp2_with (at_builtin; refine wpList_append_own _ rfl _ _ 29 rfl (w1.heap.size) 32 j0 (.agg #[.string ⟨#[]⟩, .string ⟨#[]⟩]) 2 32 Try.underlying29 gi gz0 gz1 gz2 rfl (by decide) _ p (flat ky K) rfl (HKa7.out.alloc (.cells #[.string y.a, .string y.i] 32)) ⟨w4.heap.size, 0, none⟩ 1 1 (ky (kyc y)) rfl rfl ?e1 ?e2 ?e3 ?e4 ?e5 ?_)
          case e1 =>
            intro j u hj
            rw [add_off, Nat.zero_add, blk_cell (blk_new w4 #[.string y.a, .string y.i] 32)]
            simpa [ky] using hj
          case e2 => exact ky_one _
          case e3 => unfold maxLen; omega
          case e4 => omega
          case e5 => simp; omega
          intro v7 w7 ho7 hg7 _
          have HG7 := Lib.hid ((World.grownBy_alloc w4 (.cells #[.string y.a, .string y.i] 32) none).but _ |>.andThen hg7 (fun j hj => .inr hj))
          have HB7 := Lib.hid (HB4.out.grown HG7.out ZA7 (fun q hq => own_ge HKa7.out hq))
          have HK7 := Lib.hid (show OwnK w1.heap.size w7 v7 (K ++ [kyc y]) by unfold OwnK OwnR; rw [flat_snoc, List.length_append, HP.out]; exact ho7)
          have HC7 := Lib.hid (show OwnC w1.heap.size w7 (.slice ca q cc_) C from own_blocks HC4.out (fun k cur hc => HG7.out.block k (blk_lt hc) (own_ne HKa7.out hc (by decide))))
          clear ho7 hg7 HKa7 ZA7 HG7 HB4 HK4 HC4
          clear y0 y1 y2 y3 y4 y5 y6 y7 y8
          have HKT7 := Lib.hid (HKE.out f rfl)
          have HCT7 := Lib.hid (HCE.out f rfl)
          go_wp2_with fail
          go_roundw
          case rel => exact ⟨f, [], ys', (K ++ [kyc y]), C, by have := hf; simp only [List.length_cons, List.length_nil] at this ⊢; omega, ⟨_, _, rfl, by simp, by omega, HAT.out⟩, ⟨_, 0, by rw [HtE.out]; rfl, by rw [HtE.out]; exact Nat.zero_le _, by omega, .inl HtE.out⟩, HK7.out, HC7.out, HKT7.out, HCT7.out, by have := hH; simp only [List.length_cons, List.length_nil] at this ⊢; omega, by have := hT; simp only [List.length_cons, List.length_nil] at this ⊢; omega, HB7.out⟩
          case measure => first | (simp [lenV]; done) | (simp [lenV]; omega)
        · obtain ⟨y0, y1, y2, y3, y4, y5, y6, y7, y8⟩ := (TAT.out.ext HB4.out).at (i := 0) rfl
          simp only [Nat.zero_mul, Nat.add_zero] at y0 y1 y2 y3 y4 y5 y6 y7 y8
          have HKa7 := Lib.hid (show w4.ownsRow w1.heap.size 32 2 (.slice ka p kc_) p (flat ky K) from by have := HK4.out; unfold OwnK OwnR at this; rw [HP.out] at this; exact this)
          have ZA7 := HB4.out.size
          go_wp2_with (at_builtin; refine wpList_append_own _ rfl _ _ 29 rfl (w1.heap.size) 32 j0 (.agg #[.string ⟨#[]⟩, .string ⟨#[]⟩]) 2 32 Try.underlying29 gi gz0 gz1 gz2 rfl (by decide) _ p (flat ky K) rfl (HKa7.out.alloc (.cells #[.string y.a, .string y.i] 32)) ⟨w4.heap.size, 0, none⟩ 1 1 (ky (kyc y)) rfl rfl ?e1 ?e2 ?e3 ?e4 ?e5 ?_)
          case e1 =>
            intro j u hj
            rw [add_off, Nat.zero_add, blk_cell (blk_new w4 #[.string y.a, .string y.i] 32)]
            simpa [ky] using hj
          case e2 => exact ky_one _
          case e3 => unfold maxLen; omega
          case e4 => omega
          case e5 => simp; omega
          intro v7 w7 ho7 hg7 _
          have HG7 := Lib.hid ((World.grownBy_alloc w4 (.cells #[.string y.a, .string y.i] 32) none).but _ |>.andThen hg7 (fun j hj => .inr hj))
          have HB7 := Lib.hid (HB4.out.grown HG7.out ZA7 (fun q hq => own_ge HKa7.out hq))
          have HK7 := Lib.hid (show OwnK w1.heap.size w7 v7 (K ++ [kyc y]) by unfold OwnK OwnR; rw [flat_snoc, List.length_append, HP.out]; exact ho7)
          have HC7 := Lib.hid (show OwnC w1.heap.size w7 (.slice ca q cc_) C from own_blocks HC4.out (fun k cur hc => HG7.out.block k (blk_lt hc) (own_ne HKa7.out hc (by decide))))
          clear ho7 hg7 HKa7 ZA7 HG7 HB4 HK4 HC4
          clear y0 y1 y2 y3 y4 y5 y6 y7 y8
          have HKT7 := Lib.hid (HKE.out f rfl)
          have HCT7 := Lib.hid (HCE.out f rfl)
          go_wp2_with fail
          go_roundw
          case rel => exact ⟨f, [], ys', (K ++ [kyc y]), C, by have := hf; simp only [List.length_cons, List.length_nil] at this ⊢; omega, ⟨_, _, rfl, by simp, by omega, HAT.out⟩, ⟨_, _, by rw [TXL.out], by rw [TXL.out]; omega, by omega, TAT.out.tl⟩, HK7.out, HC7.out, HKT7.out, HCT7.out, by have := hH; simp only [List.length_cons, List.length_nil] at this ⊢; omega, by have := hT; simp only [List.length_cons, List.length_nil] at this ⊢; omega, HB7.out⟩
          case measure => first | (simp [lenV]; done) | (simp [lenV]; omega)
    
      | cons x xs' =>
        obtain ⟨f, rfl⟩ : ∃ f', f = f' + 1 := ⟨f - 1, by simp only [List.length_cons, List.length_nil] at hf; omega⟩
        obtain ⟨hb, hoo, rfl⟩ : ∃ b o, ha = some ⟨b, o, none⟩ := by
          rcases HAT.out with h | ⟨b, o, e, _⟩
          · cases h
          · exact ⟨b, o, e⟩
        obtain ⟨tb, too, rfl⟩ : ∃ b o, ta = some ⟨b, o, none⟩ := by
          rcases TAT.out with h | ⟨b, o, e, _⟩
          · cases h
          · exact ⟨b, o, e⟩
        obtain ⟨l, hl⟩ : ∃ l, xs'.length = l := ⟨_, rfl⟩
        have HXL := Lib.hid hl
        obtain ⟨r, hr⟩ : ∃ l, ys'.length = l := ⟨_, rfl⟩
        have TXL := Lib.hid hr
        have hlen : (x :: xs').length = l + 1 := by rw [List.length_cons, hl]
        have hlen' : (y :: ys').length = r + 1 := by rw [List.length_cons, hr]
        have hf : (x :: xs').length + (y :: ys').length ≤ f + 1 := hf
        rw [hlen] at hhc
        rw [hlen'] at htc
        rw [hlen, hlen']
        clear hlen hlen' hl hr
        have hr0 : ((r : Int) + 1 == 0) = false := by simp; omega
        have hl0' : ((l : Int) + 1 == 0) = false := by simp; omega
        have hlg : decide ((0 : Int) < (l : Int) + 1) = true := decide_eq_true (by omega)
        cases hL : klt x y
        · have HL := Lib.hid hL
          cases hM : klt y x
          · cases hS : stl x y
            · cases hR : stl y x
              · have HKE := Lib.hid (show K ++ gk f xs' ys' = KT_ from by have := HKT2.out; simp only [gk, hL, hM, hS, if_true, Bool.false_eq_true, if_false] at this; simpa using this)
                have HCE := Lib.hid (show C ++ gc f xs' ys' = CT_ from by have := HCT2.out; simp only [gc, hL, hM, hR, if_true, Bool.false_eq_true, if_false] at this; simpa using this)
                have HMm := Lib.hid hM
                have HSs := Lib.hid hS
                have HRr := Lib.hid hR
                clear hL hM hS hR
                obtain ⟨x0, x1, x2, x3, x4, x5, x6, x7, x8⟩ := (HAT.out.ext HB2.out).at (i := 0) rfl
                simp only [Nat.zero_mul, Nat.add_zero] at x0 x1 x2 x3 x4 x5 x6 x7 x8
                obtain ⟨y0, y1, y2, y3, y4, y5, y6, y7, y8⟩ := (TAT.out.ext HB2.out).at (i := 0) rfl
                simp only [Nat.zero_mul, Nat.add_zero] at y0 y1 y2 y3 y4 y5 y6 y7 y8
                go_wp2_with fail
                haveI hIq : Nonempty (Of w2) := of_some _
                have hF0 := of_cell x0
                have hF1 := of_cell x1
                have hF2 := of_cell y0
                have hF3 := of_cell y1
                first | (refine wp_region_stay w2 (by kernel_rfl) (by kernel_rfl) (by go_grown) ?_) | (refine wp_region_stay_seq w2 (by go_grown) ?_)
                repeat (go_big_quiet_step ((go_at_call 26; with_reducible refine stay_bool (u := false) (cardLessB x y _) HL.out)))
                refine wpQuiet_nil ?_
                intro w3 hb3
                clear hIq hF0 hF1 hF2 hF3
                have HB3 := Lib.hid (ext_trans HB2.out hb3)
                have HK3 := Lib.hid (OwnR.ext HK2.out hb3)
                have HC3 := Lib.hid (OwnR.ext HC2.out hb3)
                clear hb3 HB2 HK2 HC2 x0 x1 x2 x3 x4 x5 x6 x7 x8 y0 y1 y2 y3 y4 y5 y6 y7 y8
                obtain ⟨x0, x1, x2, x3, x4, x5, x6, x7, x8⟩ := (HAT.out.ext HB3.out).at (i := 0) rfl
                simp only [Nat.zero_mul, Nat.add_zero] at x0 x1 x2 x3 x4 x5 x6 x7 x8
                obtain ⟨y0, y1, y2, y3, y4, y5, y6, y7, y8⟩ := (TAT.out.ext HB3.out).at (i := 0) rfl
                simp only [Nat.zero_mul, Nat.add_zero] at y0 y1 y2 y3 y4 y5 y6 y7 y8
                go_wp2_with fail
                haveI hIq : Nonempty (Of w3) := of_some _
                have hF0 := of_cell x0
                have hF1 := of_cell x1
                have hF2 := of_cell y0
                have hF3 := of_cell y1
                first | (refine wp_region_stay w3 (by kernel_rfl) (by kernel_rfl) (by go_grown) ?_) | (refine wp_region_stay_seq w3 (by go_grown) ?_)
                repeat (go_big_quiet_step ((go_at_call 26; with_reducible refine stay_bool (u := false) (cardLessB y x _) HMm.out)))
                refine wpQuiet_nil ?_
                intro w4 hb4
                clear hIq hF0 hF1 hF2 hF3
                have HB4 := Lib.hid (ext_trans HB3.out hb4)
                have HK4 := Lib.hid (OwnR.ext HK3.out hb4)
                have HC4 := Lib.hid (OwnR.ext HC3.out hb4)
                clear hb4 HB3 HK3 HC3 x0 x1 x2 x3 x4 x5 x6 x7 x8 y0 y1 y2 y3 y4 y5 y6 y7 y8
                obtain ⟨x0, x1, x2, x3, x4, x5, x6, x7, x8⟩ := (HAT.out.ext HB4.out).at (i := 0) rfl
                simp only [Nat.zero_mul, Nat.add_zero] at x0 x1 x2 x3 x4 x5 x6 x7 x8
                obtain ⟨y0, y1, y2, y3, y4, y5, y6, y7, y8⟩ := (TAT.out.ext HB4.out).at (i := 0) rfl
                simp only [Nat.zero_mul, Nat.add_zero] at y0 y1 y2 y3 y4 y5 y6 y7 y8
                go_wp2_with fail
                haveI hIq : Nonempty (Of w4) := of_some _
                have hF0 := of_cell x5
                have hF1 := of_cell x6
                have hF2 := of_cell x7
                have hF3 := of_cell y5
                have hF4 := of_cell y6
                have hF5 := of_cell y7
                first | (refine wp_region_stay w4 (by kernel_rfl) (by kernel_rfl) (by go_grown) ?_) | (refine wp_region_stay_seq w4 (by go_grown) ?_)
                repeat (go_big_quiet_step ((go_at_call 27; with_reducible refine stay_bool (u := false) (stampLessB x y _) HSs.out)))
                refine wpQuiet_nil ?_
                intro w5 hb5
                clear hIq hF0 hF1 hF2 hF3 hF4 hF5
                have HB5 := Lib.hid (ext_trans HB4.out hb5)
                have HK5 := Lib.hid (OwnR.ext HK4.out hb5)
                have HC5 := Lib.hid (OwnR.ext HC4.out hb5)
                clear hb5 HB4 HK4 HC4 x0 x1 x2 x3 x4 x5 x6 x7 x8 y0 y1 y2 y3 y4 y5 y6 y7 y8
                obtain ⟨x0, x1, x2, x3, x4, x5, x6, x7, x8⟩ := (HAT.out.ext HB5.out).at (i := 0) rfl
                simp only [Nat.zero_mul, Nat.add_zero] at x0 x1 x2 x3 x4 x5 x6 x7 x8
                obtain ⟨y0, y1, y2, y3, y4, y5, y6, y7, y8⟩ := (TAT.out.ext HB5.out).at (i := 0) rfl
                simp only [Nat.zero_mul, Nat.add_zero] at y0 y1 y2 y3 y4 y5 y6 y7 y8
                go_wp2_with fail
                haveI hIq : Nonempty (Of w5) := of_some _
                have hF0 := of_cell x5
                have hF1 := of_cell x6
                have hF2 := of_cell x7
                have hF3 := of_cell y5
                have hF4 := of_cell y6
                have hF5 := of_cell y7
                first | (refine wp_region_stay w5 (by kernel_rfl) (by kernel_rfl) (by go_grown) ?_) | (refine wp_region_stay_seq w5 (by go_grown) ?_)
                repeat (go_big_quiet_step ((go_at_call 27; with_reducible refine stay_bool (u := false) (stampLessB y x _) HRr.out)))
                refine wpQuiet_nil ?_
                intro w8 hb8
                clear hIq hF0 hF1 hF2 hF3 hF4 hF5
                have HB8 := Lib.hid (ext_trans HB5.out hb8)
                have HK8 := Lib.hid (OwnR.ext HK5.out hb8)
                have HC8 := Lib.hid (OwnR.ext HC5.out hb8)
                clear hb8 HB5 HK5 HC5 x0 x1 x2 x3 x4 x5 x6 x7 x8 y0 y1 y2 y3 y4 y5 y6 y7 y8
                by_cases hh1 : hc = 1
                · subst hh1
                  have HhE := Lib.hid (show xs' = [] from List.eq_nil_of_length_eq_zero (by have := HXL.out; omega))
                  by_cases ht1 : tc = 1
                  · subst ht1
                    have HtE := Lib.hid (show ys' = [] from List.eq_nil_of_length_eq_zero (by have := TXL.out; omega))
                    go_wp2_with fail
                    haveI hIq : Nonempty (Of w8) := of_some _
                    first | (refine wp_region_stay w8 (by kernel_rfl) (by kernel_rfl) (by go_grown) ?_) | (refine wp_region_stay_seq w8 (by go_grown) ?_)
                    repeat (go_big_quiet_step (fail))
                    refine wpQuiet_nil ?_
                    intro w10 hb10
                    clear hIq
                    have HB10 := Lib.hid (ext_trans HB8.out hb10)
                    have HK10 := Lib.hid (OwnR.ext HK8.out hb10)
                    have HC10 := Lib.hid (OwnR.ext HC8.out hb10)
                    clear hb10 HB8 HK8 HC8
                    go_wp2_with fail
                    go_roundw
                    case rel => exact ⟨f, xs', ys', K, C, by have := hf; simp only [List.length_cons, List.length_nil] at this ⊢; omega, ⟨_, 0, by rw [HhE.out]; rfl, by rw [HhE.out]; exact Nat.zero_le _, by omega, .inl HhE.out⟩, ⟨_, 0, by rw [HtE.out]; rfl, by rw [HtE.out]; exact Nat.zero_le _, by omega, .inl HtE.out⟩, HK10.out, HC10.out, HKE.out, HCE.out, by have := hH; simp only [List.length_cons, List.length_nil] at this ⊢; omega, by have := hT; simp only [List.length_cons, List.length_nil] at this ⊢; omega, HB10.out⟩
                    case measure => first | (simp [lenV]; done) | (simp [lenV]; omega)
                  · go_wp2_with fail
                    haveI hIq : Nonempty (Of w8) := of_some _
                    first | (refine wp_region_stay w8 (by kernel_rfl) (by kernel_rfl) (by go_grown) ?_) | (refine wp_region_stay_seq w8 (by go_grown) ?_)
                    repeat (go_big_quiet_step (fail))
                    refine wpQuiet_nil ?_
                    intro w10 hb10
                    clear hIq
                    have HB10 := Lib.hid (ext_trans HB8.out hb10)
                    have HK10 := Lib.hid (OwnR.ext HK8.out hb10)
                    have HC10 := Lib.hid (OwnR.ext HC8.out hb10)
                    clear hb10 HB8 HK8 HC8
                    go_wp2_with fail
                    go_roundw
                    case rel => exact ⟨f, xs', ys', K, C, by have := hf; simp only [List.length_cons, List.length_nil] at this ⊢; omega, ⟨_, 0, by rw [HhE.out]; rfl, by rw [HhE.out]; exact Nat.zero_le _, by omega, .inl HhE.out⟩, ⟨_, _, by rw [TXL.out], by rw [TXL.out]; omega, by omega, TAT.out.tl⟩, HK10.out, HC10.out, HKE.out, HCE.out, by have := hH; simp only [List.length_cons, List.length_nil] at this ⊢; omega, by have := hT; simp only [List.length_cons, List.length_nil] at this ⊢; omega, HB10.out⟩
                    case measure => first | (simp [lenV]; done) | (simp [lenV]; omega)
    
                · by_cases ht1 : tc = 1
                  · subst ht1
                    have HtE := Lib.hid (show ys' = [] from List.eq_nil_of_length_eq_zero (by have := TXL.out; omega))
                    go_wp2_with fail
                    haveI hIq : Nonempty (Of w8) := of_some _
                    first | (refine wp_region_stay w8 (by kernel_rfl) (by kernel_rfl) (by go_grown) ?_) | (refine wp_region_stay_seq w8 (by go_grown) ?_)
                    repeat (go_big_quiet_step (fail))
                    refine wpQuiet_nil ?_
                    intro w10 hb10
                    clear hIq
                    have HB10 := Lib.hid (ext_trans HB8.out hb10)
                    have HK10 := Lib.hid (OwnR.ext HK8.out hb10)
                    have HC10 := Lib.hid (OwnR.ext HC8.out hb10)
                    clear hb10 HB8 HK8 HC8
                    go_wp2_with fail
                    go_roundw
                    case rel => exact ⟨f, xs', ys', K, C, by have := hf; simp only [List.length_cons, List.length_nil] at this ⊢; omega, ⟨_, _, by rw [HXL.out], by rw [HXL.out]; omega, by omega, HAT.out.tl⟩, ⟨_, 0, by rw [HtE.out]; rfl, by rw [HtE.out]; exact Nat.zero_le _, by omega, .inl HtE.out⟩, HK10.out, HC10.out, HKE.out, HCE.out, by have := hH; simp only [List.length_cons, List.length_nil] at this ⊢; omega, by have := hT; simp only [List.length_cons, List.length_nil] at this ⊢; omega, HB10.out⟩
                    case measure => first | (simp [lenV]; done) | (simp [lenV]; omega)
                  · go_wp2_with fail
                    haveI hIq : Nonempty (Of w8) := of_some _
                    first | (refine wp_region_stay w8 (by kernel_rfl) (by kernel_rfl) (by go_grown) ?_) | (refine wp_region_stay_seq w8 (by go_grown) ?_)
                    repeat (go_big_quiet_step (fail))
                    refine wpQuiet_nil ?_
                    intro w10 hb10
                    clear hIq
                    have HB10 := Lib.hid (ext_trans HB8.out hb10)
                    have HK10 := Lib.hid (OwnR.ext HK8.out hb10)
                    have HC10 := Lib.hid (OwnR.ext HC8.out hb10)
                    clear hb10 HB8 HK8 HC8
                    go_wp2_with fail
                    go_roundw
                    case rel => exact ⟨f, xs', ys', K, C, by have := hf; simp only [List.length_cons, List.length_nil] at this ⊢; omega, ⟨_, _, by rw [HXL.out], by rw [HXL.out]; omega, by omega, HAT.out.tl⟩, ⟨_, _, by rw [TXL.out], by rw [TXL.out]; omega, by omega, TAT.out.tl⟩, HK10.out, HC10.out, HKE.out, HCE.out, by have := hH; simp only [List.length_cons, List.length_nil] at this ⊢; omega, by have := hT; simp only [List.length_cons, List.length_nil] at this ⊢; omega, HB10.out⟩
                    case measure => first | (simp [lenV]; done) | (simp [lenV]; omega)
    
    
              · have HKE := Lib.hid (show K ++ gk f xs' ys' = KT_ from by have := HKT2.out; simp only [gk, hL, hM, hS, if_true, Bool.false_eq_true, if_false] at this; simpa using this)
                have HCE := Lib.hid (show C ++ [x] ++ gc f xs' ys' = CT_ from by have := HCT2.out; simp only [gc, hL, hM, hR, if_true, Bool.false_eq_true, if_false] at this; simpa using this)
                have HMm := Lib.hid hM
                have HSs := Lib.hid hS
                have HRr := Lib.hid hR
                clear hL hM hS hR
                obtain ⟨x0, x1, x2, x3, x4, x5, x6, x7, x8⟩ := (HAT.out.ext HB2.out).at (i := 0) rfl
                simp only [Nat.zero_mul, Nat.add_zero] at x0 x1 x2 x3 x4 x5 x6 x7 x8
                obtain ⟨y0, y1, y2, y3, y4, y5, y6, y7, y8⟩ := (TAT.out.ext HB2.out).at (i := 0) rfl
                simp only [Nat.zero_mul, Nat.add_zero] at y0 y1 y2 y3 y4 y5 y6 y7 y8
                go_wp2_with fail
                haveI hIq : Nonempty (Of w2) := of_some _
                have hF0 := of_cell x0
                have hF1 := of_cell x1
                have hF2 := of_cell y0
                have hF3 := of_cell y1
                first | (refine wp_region_stay w2 (by kernel_rfl) (by kernel_rfl) (by go_grown) ?_) | (refine wp_region_stay_seq w2 (by go_grown) ?_)
                repeat (go_big_quiet_step ((go_at_call 26; with_reducible refine stay_bool (u := false) (cardLessB x y _) HL.out)))
                refine wpQuiet_nil ?_
                intro w3 hb3
                clear hIq hF0 hF1 hF2 hF3
                have HB3 := Lib.hid (ext_trans HB2.out hb3)
                have HK3 := Lib.hid (OwnR.ext HK2.out hb3)
                have HC3 := Lib.hid (OwnR.ext HC2.out hb3)
                clear hb3 HB2 HK2 HC2 x0 x1 x2 x3 x4 x5 x6 x7 x8 y0 y1 y2 y3 y4 y5 y6 y7 y8
                obtain ⟨x0, x1, x2, x3, x4, x5, x6, x7, x8⟩ := (HAT.out.ext HB3.out).at (i := 0) rfl
                simp only [Nat.zero_mul, Nat.add_zero] at x0 x1 x2 x3 x4 x5 x6 x7 x8
                obtain ⟨y0, y1, y2, y3, y4, y5, y6, y7, y8⟩ := (TAT.out.ext HB3.out).at (i := 0) rfl
                simp only [Nat.zero_mul, Nat.add_zero] at y0 y1 y2 y3 y4 y5 y6 y7 y8
                go_wp2_with fail
                haveI hIq : Nonempty (Of w3) := of_some _
                have hF0 := of_cell x0
                have hF1 := of_cell x1
                have hF2 := of_cell y0
                have hF3 := of_cell y1
                first | (refine wp_region_stay w3 (by kernel_rfl) (by kernel_rfl) (by go_grown) ?_) | (refine wp_region_stay_seq w3 (by go_grown) ?_)
                repeat (go_big_quiet_step ((go_at_call 26; with_reducible refine stay_bool (u := false) (cardLessB y x _) HMm.out)))
                refine wpQuiet_nil ?_
                intro w4 hb4
                clear hIq hF0 hF1 hF2 hF3
                have HB4 := Lib.hid (ext_trans HB3.out hb4)
                have HK4 := Lib.hid (OwnR.ext HK3.out hb4)
                have HC4 := Lib.hid (OwnR.ext HC3.out hb4)
                clear hb4 HB3 HK3 HC3 x0 x1 x2 x3 x4 x5 x6 x7 x8 y0 y1 y2 y3 y4 y5 y6 y7 y8
                obtain ⟨x0, x1, x2, x3, x4, x5, x6, x7, x8⟩ := (HAT.out.ext HB4.out).at (i := 0) rfl
                simp only [Nat.zero_mul, Nat.add_zero] at x0 x1 x2 x3 x4 x5 x6 x7 x8
                obtain ⟨y0, y1, y2, y3, y4, y5, y6, y7, y8⟩ := (TAT.out.ext HB4.out).at (i := 0) rfl
                simp only [Nat.zero_mul, Nat.add_zero] at y0 y1 y2 y3 y4 y5 y6 y7 y8
                go_wp2_with fail
                haveI hIq : Nonempty (Of w4) := of_some _
                have hF0 := of_cell x5
                have hF1 := of_cell x6
                have hF2 := of_cell x7
                have hF3 := of_cell y5
                have hF4 := of_cell y6
                have hF5 := of_cell y7
                first | (refine wp_region_stay w4 (by kernel_rfl) (by kernel_rfl) (by go_grown) ?_) | (refine wp_region_stay_seq w4 (by go_grown) ?_)
                repeat (go_big_quiet_step ((go_at_call 27; with_reducible refine stay_bool (u := false) (stampLessB x y _) HSs.out)))
                refine wpQuiet_nil ?_
                intro w5 hb5
                clear hIq hF0 hF1 hF2 hF3 hF4 hF5
                have HB5 := Lib.hid (ext_trans HB4.out hb5)
                have HK5 := Lib.hid (OwnR.ext HK4.out hb5)
                have HC5 := Lib.hid (OwnR.ext HC4.out hb5)
                clear hb5 HB4 HK4 HC4 x0 x1 x2 x3 x4 x5 x6 x7 x8 y0 y1 y2 y3 y4 y5 y6 y7 y8
                obtain ⟨x0, x1, x2, x3, x4, x5, x6, x7, x8⟩ := (HAT.out.ext HB5.out).at (i := 0) rfl
                simp only [Nat.zero_mul, Nat.add_zero] at x0 x1 x2 x3 x4 x5 x6 x7 x8
                obtain ⟨y0, y1, y2, y3, y4, y5, y6, y7, y8⟩ := (TAT.out.ext HB5.out).at (i := 0) rfl
                simp only [Nat.zero_mul, Nat.add_zero] at y0 y1 y2 y3 y4 y5 y6 y7 y8
                go_wp2_with fail
                haveI hIq : Nonempty (Of w5) := of_some _
                have hF0 := of_cell x5
                have hF1 := of_cell x6
                have hF2 := of_cell x7
                have hF3 := of_cell y5
                have hF4 := of_cell y6
                have hF5 := of_cell y7
                first | (refine wp_region_stay w5 (by kernel_rfl) (by kernel_rfl) (by go_grown) ?_) | (refine wp_region_stay_seq w5 (by go_grown) ?_)
                repeat (go_big_quiet_step ((go_at_call 27; with_reducible refine stay_bool (u := true) (stampLessB y x _) HRr.out)))
                refine wpQuiet_nil ?_
                intro w8 hb8
                clear hIq hF0 hF1 hF2 hF3 hF4 hF5
                have HB8 := Lib.hid (ext_trans HB5.out hb8)
                have HK8 := Lib.hid (OwnR.ext HK5.out hb8)
                have HC8 := Lib.hid (OwnR.ext HC5.out hb8)
                clear hb8 HB5 HK5 HC5 x0 x1 x2 x3 x4 x5 x6 x7 x8 y0 y1 y2 y3 y4 y5 y6 y7 y8
                obtain ⟨x0, x1, x2, x3, x4, x5, x6, x7, x8⟩ := (HAT.out.ext HB8.out).at (i := 0) rfl
                simp only [Nat.zero_mul, Nat.add_zero] at x0 x1 x2 x3 x4 x5 x6 x7 x8
                have HCa9 := Lib.hid (show w8.ownsRow w1.heap.size 36 9 (.slice ca q cc_) q (flat cc C) from by have := HC8.out; unfold OwnC OwnR at this; rw [HQ.out] at this; exact this)
                have ZA9 := HB8.out.size
                go_wp2_with (at_builtin; refine wpList_append_own _ rfl _ _ 27 rfl (w1.heap.size) 36 i0 Cd.zero.v 9 88 Try.underlying27 hi hz0 hz1 hz2 rfl (by decide) _ q (flat cc C) rfl (HCa9.out.alloc (.cells #[.string x.a, .string x.i, .int .i64 x.s, .int .i64 x.o, .int .i64 x.l, .int .i64 x.t, .int .i64 x.k, .int .i64 x.n, .bool x.g] 36)) ⟨w8.heap.size, 0, none⟩ 1 1 (cc x) rfl rfl ?d1 ?d2 ?d3 ?d4 ?d5 ?_)
                case d1 =>
                  intro j u hj
                  rw [add_off, Nat.zero_add, blk_cell (blk_new w8 #[.string x.a, .string x.i, .int .i64 x.s, .int .i64 x.o, .int .i64 x.l, .int .i64 x.t, .int .i64 x.k, .int .i64 x.n, .bool x.g] 36)]
                  simpa [cc] using hj
                case d2 => exact cc_one x
                case d3 => unfold maxLen; omega
                case d4 => omega
                case d5 => simp; omega
                intro v9 w9 ho9 hg9 _
                have HG9 := Lib.hid ((World.grownBy_alloc w8 (.cells #[.string x.a, .string x.i, .int .i64 x.s, .int .i64 x.o, .int .i64 x.l, .int .i64 x.t, .int .i64 x.k, .int .i64 x.n, .bool x.g] 36) none).but _ |>.andThen hg9 (fun j hj => .inr hj))
                have HB9 := Lib.hid (HB8.out.grown HG9.out ZA9 (fun q hq => own_ge HCa9.out hq))
                have HC9 := Lib.hid (show OwnC w1.heap.size w9 v9 (C ++ [x]) by unfold OwnC OwnR; rw [flat_snoc, List.length_append, HQ.out]; exact ho9)
                have HK9 := Lib.hid (show OwnK w1.heap.size w9 (.slice ka p kc_) K from own_blocks HK8.out (fun k cur hc => HG9.out.block k (blk_lt hc) (own_ne HCa9.out hc (by decide))))
                clear ho9 hg9 HCa9 ZA9 HG9 HB8 HK8 HC8
                clear x0 x1 x2 x3 x4 x5 x6 x7 x8
                by_cases hh1 : hc = 1
                · subst hh1
                  have HhE := Lib.hid (show xs' = [] from List.eq_nil_of_length_eq_zero (by have := HXL.out; omega))
                  by_cases ht1 : tc = 1
                  · subst ht1
                    have HtE := Lib.hid (show ys' = [] from List.eq_nil_of_length_eq_zero (by have := TXL.out; omega))
                    go_wp2_with fail
                    haveI hIq : Nonempty (Of w9) := of_some _
                    first | (refine wp_region_stay w9 (by kernel_rfl) (by kernel_rfl) (by go_grown) ?_) | (refine wp_region_stay_seq w9 (by go_grown) ?_)
                    repeat (go_big_quiet_step (fail))
                    refine wpQuiet_nil ?_
                    intro w10 hb10
                    clear hIq
                    have HB10 := Lib.hid (ext_trans HB9.out hb10)
                    have HK10 := Lib.hid (OwnR.ext HK9.out hb10)
                    have HC10 := Lib.hid (OwnR.ext HC9.out hb10)
                    clear hb10 HB9 HK9 HC9
                    go_wp2_with fail
                    go_roundw
                    case rel => exact ⟨f, xs', ys', K, (C ++ [x]), by have := hf; simp only [List.length_cons, List.length_nil] at this ⊢; omega, ⟨_, 0, by rw [HhE.out]; rfl, by rw [HhE.out]; exact Nat.zero_le _, by omega, .inl HhE.out⟩, ⟨_, 0, by rw [HtE.out]; rfl, by rw [HtE.out]; exact Nat.zero_le _, by omega, .inl HtE.out⟩, HK10.out, HC10.out, HKE.out, HCE.out, by have := hH; simp only [List.length_cons, List.length_nil] at this ⊢; omega, by have := hT; simp only [List.length_cons, List.length_nil] at this ⊢; omega, HB10.out⟩
                    case measure => first | (simp [lenV]; done) | (simp [lenV]; omega)
                  · go_wp2_with fail
                    haveI hIq : Nonempty (Of w9) := of_some _
                    first | (refine wp_region_stay w9 (by kernel_rfl) (by kernel_rfl) (by go_grown) ?_) | (refine wp_region_stay_seq w9 (by go_grown) ?_)
                    repeat (go_big_quiet_step (fail))
                    refine wpQuiet_nil ?_
                    intro w10 hb10
                    clear hIq
                    have HB10 := Lib.hid (ext_trans HB9.out hb10)
                    have HK10 := Lib.hid (OwnR.ext HK9.out hb10)
                    have HC10 := Lib.hid (OwnR.ext HC9.out hb10)
                    clear hb10 HB9 HK9 HC9
                    go_wp2_with fail
                    go_roundw
                    case rel => exact ⟨f, xs', ys', K, (C ++ [x]), by have := hf; simp only [List.length_cons, List.length_nil] at this ⊢; omega, ⟨_, 0, by rw [HhE.out]; rfl, by rw [HhE.out]; exact Nat.zero_le _, by omega, .inl HhE.out⟩, ⟨_, _, by rw [TXL.out], by rw [TXL.out]; omega, by omega, TAT.out.tl⟩, HK10.out, HC10.out, HKE.out, HCE.out, by have := hH; simp only [List.length_cons, List.length_nil] at this ⊢; omega, by have := hT; simp only [List.length_cons, List.length_nil] at this ⊢; omega, HB10.out⟩
                    case measure => first | (simp [lenV]; done) | (simp [lenV]; omega)
    
                · by_cases ht1 : tc = 1
                  · subst ht1
                    have HtE := Lib.hid (show ys' = [] from List.eq_nil_of_length_eq_zero (by have := TXL.out; omega))
                    go_wp2_with fail
                    haveI hIq : Nonempty (Of w9) := of_some _
                    first | (refine wp_region_stay w9 (by kernel_rfl) (by kernel_rfl) (by go_grown) ?_) | (refine wp_region_stay_seq w9 (by go_grown) ?_)
                    repeat (go_big_quiet_step (fail))
                    refine wpQuiet_nil ?_
                    intro w10 hb10
                    clear hIq
                    have HB10 := Lib.hid (ext_trans HB9.out hb10)
                    have HK10 := Lib.hid (OwnR.ext HK9.out hb10)
                    have HC10 := Lib.hid (OwnR.ext HC9.out hb10)
                    clear hb10 HB9 HK9 HC9
                    go_wp2_with fail
                    go_roundw
                    case rel => exact ⟨f, xs', ys', K, (C ++ [x]), by have := hf; simp only [List.length_cons, List.length_nil] at this ⊢; omega, ⟨_, _, by rw [HXL.out], by rw [HXL.out]; omega, by omega, HAT.out.tl⟩, ⟨_, 0, by rw [HtE.out]; rfl, by rw [HtE.out]; exact Nat.zero_le _, by omega, .inl HtE.out⟩, HK10.out, HC10.out, HKE.out, HCE.out, by have := hH; simp only [List.length_cons, List.length_nil] at this ⊢; omega, by have := hT; simp only [List.length_cons, List.length_nil] at this ⊢; omega, HB10.out⟩
                    case measure => first | (simp [lenV]; done) | (simp [lenV]; omega)
                  · go_wp2_with fail
                    haveI hIq : Nonempty (Of w9) := of_some _
                    first | (refine wp_region_stay w9 (by kernel_rfl) (by kernel_rfl) (by go_grown) ?_) | (refine wp_region_stay_seq w9 (by go_grown) ?_)
                    repeat (go_big_quiet_step (fail))
                    refine wpQuiet_nil ?_
                    intro w10 hb10
                    clear hIq
                    have HB10 := Lib.hid (ext_trans HB9.out hb10)
                    have HK10 := Lib.hid (OwnR.ext HK9.out hb10)
                    have HC10 := Lib.hid (OwnR.ext HC9.out hb10)
                    clear hb10 HB9 HK9 HC9
                    go_wp2_with fail
                    go_roundw
                    case rel => exact ⟨f, xs', ys', K, (C ++ [x]), by have := hf; simp only [List.length_cons, List.length_nil] at this ⊢; omega, ⟨_, _, by rw [HXL.out], by rw [HXL.out]; omega, by omega, HAT.out.tl⟩, ⟨_, _, by rw [TXL.out], by rw [TXL.out]; omega, by omega, TAT.out.tl⟩, HK10.out, HC10.out, HKE.out, HCE.out, by have := hH; simp only [List.length_cons, List.length_nil] at this ⊢; omega, by have := hT; simp only [List.length_cons, List.length_nil] at this ⊢; omega, HB10.out⟩
                    case measure => first | (simp [lenV]; done) | (simp [lenV]; omega)
    
    
            · cases hR : stl y x
              · have HKE := Lib.hid (show K ++ [kyc y] ++ gk f xs' ys' = KT_ from by have := HKT2.out; simp only [gk, hL, hM, hS, if_true, Bool.false_eq_true, if_false] at this; simpa using this)
                have HCE := Lib.hid (show C ++ gc f xs' ys' = CT_ from by have := HCT2.out; simp only [gc, hL, hM, hR, if_true, Bool.false_eq_true, if_false] at this; simpa using this)
                have HMm := Lib.hid hM
                have HSs := Lib.hid hS
                have HRr := Lib.hid hR
                clear hL hM hS hR
                obtain ⟨x0, x1, x2, x3, x4, x5, x6, x7, x8⟩ := (HAT.out.ext HB2.out).at (i := 0) rfl
                simp only [Nat.zero_mul, Nat.add_zero] at x0 x1 x2 x3 x4 x5 x6 x7 x8
                obtain ⟨y0, y1, y2, y3, y4, y5, y6, y7, y8⟩ := (TAT.out.ext HB2.out).at (i := 0) rfl
                simp only [Nat.zero_mul, Nat.add_zero] at y0 y1 y2 y3 y4 y5 y6 y7 y8
                go_wp2_with fail
                haveI hIq : Nonempty (Of w2) := of_some _
                have hF0 := of_cell x0
                have hF1 := of_cell x1
                have hF2 := of_cell y0
                have hF3 := of_cell y1
                first | (refine wp_region_stay w2 (by kernel_rfl) (by kernel_rfl) (by go_grown) ?_) | (refine wp_region_stay_seq w2 (by go_grown) ?_)
                repeat (go_big_quiet_step ((go_at_call 26; with_reducible refine stay_bool (u := false) (cardLessB x y _) HL.out)))
                refine wpQuiet_nil ?_
                intro w3 hb3
                clear hIq hF0 hF1 hF2 hF3
                have HB3 := Lib.hid (ext_trans HB2.out hb3)
                have HK3 := Lib.hid (OwnR.ext HK2.out hb3)
                have HC3 := Lib.hid (OwnR.ext HC2.out hb3)
                clear hb3 HB2 HK2 HC2 x0 x1 x2 x3 x4 x5 x6 x7 x8 y0 y1 y2 y3 y4 y5 y6 y7 y8
                obtain ⟨x0, x1, x2, x3, x4, x5, x6, x7, x8⟩ := (HAT.out.ext HB3.out).at (i := 0) rfl
                simp only [Nat.zero_mul, Nat.add_zero] at x0 x1 x2 x3 x4 x5 x6 x7 x8
                obtain ⟨y0, y1, y2, y3, y4, y5, y6, y7, y8⟩ := (TAT.out.ext HB3.out).at (i := 0) rfl
                simp only [Nat.zero_mul, Nat.add_zero] at y0 y1 y2 y3 y4 y5 y6 y7 y8
                go_wp2_with fail
                haveI hIq : Nonempty (Of w3) := of_some _
                have hF0 := of_cell x0
                have hF1 := of_cell x1
                have hF2 := of_cell y0
                have hF3 := of_cell y1
                first | (refine wp_region_stay w3 (by kernel_rfl) (by kernel_rfl) (by go_grown) ?_) | (refine wp_region_stay_seq w3 (by go_grown) ?_)
                repeat (go_big_quiet_step ((go_at_call 26; with_reducible refine stay_bool (u := false) (cardLessB y x _) HMm.out)))
                refine wpQuiet_nil ?_
                intro w4 hb4
                clear hIq hF0 hF1 hF2 hF3
                have HB4 := Lib.hid (ext_trans HB3.out hb4)
                have HK4 := Lib.hid (OwnR.ext HK3.out hb4)
                have HC4 := Lib.hid (OwnR.ext HC3.out hb4)
                clear hb4 HB3 HK3 HC3 x0 x1 x2 x3 x4 x5 x6 x7 x8 y0 y1 y2 y3 y4 y5 y6 y7 y8
                obtain ⟨x0, x1, x2, x3, x4, x5, x6, x7, x8⟩ := (HAT.out.ext HB4.out).at (i := 0) rfl
                simp only [Nat.zero_mul, Nat.add_zero] at x0 x1 x2 x3 x4 x5 x6 x7 x8
                obtain ⟨y0, y1, y2, y3, y4, y5, y6, y7, y8⟩ := (TAT.out.ext HB4.out).at (i := 0) rfl
                simp only [Nat.zero_mul, Nat.add_zero] at y0 y1 y2 y3 y4 y5 y6 y7 y8
                go_wp2_with fail
                haveI hIq : Nonempty (Of w4) := of_some _
                have hF0 := of_cell x5
                have hF1 := of_cell x6
                have hF2 := of_cell x7
                have hF3 := of_cell y5
                have hF4 := of_cell y6
                have hF5 := of_cell y7
                first | (refine wp_region_stay w4 (by kernel_rfl) (by kernel_rfl) (by go_grown) ?_) | (refine wp_region_stay_seq w4 (by go_grown) ?_)
                repeat (go_big_quiet_step ((go_at_call 27; with_reducible refine stay_bool (u := true) (stampLessB x y _) HSs.out)))
                refine wpQuiet_nil ?_
                intro w5 hb5
                clear hIq hF0 hF1 hF2 hF3 hF4 hF5
                have HB5 := Lib.hid (ext_trans HB4.out hb5)
                have HK5 := Lib.hid (OwnR.ext HK4.out hb5)
                have HC5 := Lib.hid (OwnR.ext HC4.out hb5)
                clear hb5 HB4 HK4 HC4 x0 x1 x2 x3 x4 x5 x6 x7 x8 y0 y1 y2 y3 y4 y5 y6 y7 y8
                obtain ⟨y0, y1, y2, y3, y4, y5, y6, y7, y8⟩ := (TAT.out.ext HB5.out).at (i := 0) rfl
                simp only [Nat.zero_mul, Nat.add_zero] at y0 y1 y2 y3 y4 y5 y6 y7 y8
                have HKa7 := Lib.hid (show w5.ownsRow w1.heap.size 32 2 (.slice ka p kc_) p (flat ky K) from by have := HK5.out; unfold OwnK OwnR at this; rw [HP.out] at this; exact this)
                have ZA7 := HB5.out.size
                go_wp2_with (at_builtin; refine wpList_append_own _ rfl _ _ 29 rfl (w1.heap.size) 32 j0 (.agg #[.string ⟨#[]⟩, .string ⟨#[]⟩]) 2 32 Try.underlying29 gi gz0 gz1 gz2 rfl (by decide) _ p (flat ky K) rfl (HKa7.out.alloc (.cells #[.string y.a, .string y.i] 32)) ⟨w5.heap.size, 0, none⟩ 1 1 (ky (kyc y)) rfl rfl ?e1 ?e2 ?e3 ?e4 ?e5 ?_)
                case e1 =>
                  intro j u hj
                  rw [add_off, Nat.zero_add, blk_cell (blk_new w5 #[.string y.a, .string y.i] 32)]
                  simpa [ky] using hj
                case e2 => exact ky_one _
                case e3 => unfold maxLen; omega
                case e4 => omega
                case e5 => simp; omega
                intro v7 w7 ho7 hg7 _
                have HG7 := Lib.hid ((World.grownBy_alloc w5 (.cells #[.string y.a, .string y.i] 32) none).but _ |>.andThen hg7 (fun j hj => .inr hj))
                have HB7 := Lib.hid (HB5.out.grown HG7.out ZA7 (fun q hq => own_ge HKa7.out hq))
                have HK7 := Lib.hid (show OwnK w1.heap.size w7 v7 (K ++ [kyc y]) by unfold OwnK OwnR; rw [flat_snoc, List.length_append, HP.out]; exact ho7)
                have HC7 := Lib.hid (show OwnC w1.heap.size w7 (.slice ca q cc_) C from own_blocks HC5.out (fun k cur hc => HG7.out.block k (blk_lt hc) (own_ne HKa7.out hc (by decide))))
                clear ho7 hg7 HKa7 ZA7 HG7 HB5 HK5 HC5
                clear y0 y1 y2 y3 y4 y5 y6 y7 y8
                obtain ⟨x0, x1, x2, x3, x4, x5, x6, x7, x8⟩ := (HAT.out.ext HB7.out).at (i := 0) rfl
                simp only [Nat.zero_mul, Nat.add_zero] at x0 x1 x2 x3 x4 x5 x6 x7 x8
                obtain ⟨y0, y1, y2, y3, y4, y5, y6, y7, y8⟩ := (TAT.out.ext HB7.out).at (i := 0) rfl
                simp only [Nat.zero_mul, Nat.add_zero] at y0 y1 y2 y3 y4 y5 y6 y7 y8
                go_wp2_with fail
                haveI hIq : Nonempty (Of w7) := of_some _
                have hF0 := of_cell x5
                have hF1 := of_cell x6
                have hF2 := of_cell x7
                have hF3 := of_cell y5
                have hF4 := of_cell y6
                have hF5 := of_cell y7
                first | (refine wp_region_stay w7 (by kernel_rfl) (by kernel_rfl) (by go_grown) ?_) | (refine wp_region_stay_seq w7 (by go_grown) ?_)
                repeat (go_big_quiet_step ((go_at_call 27; with_reducible refine stay_bool (u := false) (stampLessB y x _) HRr.out)))
                refine wpQuiet_nil ?_
                intro w8 hb8
                clear hIq hF0 hF1 hF2 hF3 hF4 hF5
                have HB8 := Lib.hid (ext_trans HB7.out hb8)
                have HK8 := Lib.hid (OwnR.ext HK7.out hb8)
                have HC8 := Lib.hid (OwnR.ext HC7.out hb8)
                clear hb8 HB7 HK7 HC7 x0 x1 x2 x3 x4 x5 x6 x7 x8 y0 y1 y2 y3 y4 y5 y6 y7 y8
                by_cases hh1 : hc = 1
                · subst hh1
                  have HhE := Lib.hid (show xs' = [] from List.eq_nil_of_length_eq_zero (by have := HXL.out; omega))
                  by_cases ht1 : tc = 1
                  · subst ht1
                    have HtE := Lib.hid (show ys' = [] from List.eq_nil_of_length_eq_zero (by have := TXL.out; omega))
                    go_wp2_with fail
                    haveI hIq : Nonempty (Of w8) := of_some _
                    first | (refine wp_region_stay w8 (by kernel_rfl) (by kernel_rfl) (by go_grown) ?_) | (refine wp_region_stay_seq w8 (by go_grown) ?_)
                    repeat (go_big_quiet_step (fail))
                    refine wpQuiet_nil ?_
                    intro w10 hb10
                    clear hIq
                    have HB10 := Lib.hid (ext_trans HB8.out hb10)
                    have HK10 := Lib.hid (OwnR.ext HK8.out hb10)
                    have HC10 := Lib.hid (OwnR.ext HC8.out hb10)
                    clear hb10 HB8 HK8 HC8
                    go_wp2_with fail
                    go_roundw
                    case rel => exact ⟨f, xs', ys', (K ++ [kyc y]), C, by have := hf; simp only [List.length_cons, List.length_nil] at this ⊢; omega, ⟨_, 0, by rw [HhE.out]; rfl, by rw [HhE.out]; exact Nat.zero_le _, by omega, .inl HhE.out⟩, ⟨_, 0, by rw [HtE.out]; rfl, by rw [HtE.out]; exact Nat.zero_le _, by omega, .inl HtE.out⟩, HK10.out, HC10.out, HKE.out, HCE.out, by have := hH; simp only [List.length_cons, List.length_nil] at this ⊢; omega, by have := hT; simp only [List.length_cons, List.length_nil] at this ⊢; omega, HB10.out⟩
                    case measure => first | (simp [lenV]; done) | (simp [lenV]; omega)
                  · go_wp2_with fail
                    haveI hIq : Nonempty (Of w8) := of_some _
                    first | (refine wp_region_stay w8 (by kernel_rfl) (by kernel_rfl) (by go_grown) ?_) | (refine wp_region_stay_seq w8 (by go_grown) ?_)
                    repeat (go_big_quiet_step (fail))
                    refine wpQuiet_nil ?_
                    intro w10 hb10
                    clear hIq
                    have HB10 := Lib.hid (ext_trans HB8.out hb10)
                    have HK10 := Lib.hid (OwnR.ext HK8.out hb10)
                    have HC10 := Lib.hid (OwnR.ext HC8.out hb10)
                    clear hb10 HB8 HK8 HC8
                    go_wp2_with fail
                    go_roundw
                    case rel => exact ⟨f, xs', ys', (K ++ [kyc y]), C, by have := hf; simp only [List.length_cons, List.length_nil] at this ⊢; omega, ⟨_, 0, by rw [HhE.out]; rfl, by rw [HhE.out]; exact Nat.zero_le _, by omega, .inl HhE.out⟩, ⟨_, _, by rw [TXL.out], by rw [TXL.out]; omega, by omega, TAT.out.tl⟩, HK10.out, HC10.out, HKE.out, HCE.out, by have := hH; simp only [List.length_cons, List.length_nil] at this ⊢; omega, by have := hT; simp only [List.length_cons, List.length_nil] at this ⊢; omega, HB10.out⟩
                    case measure => first | (simp [lenV]; done) | (simp [lenV]; omega)
    
                · by_cases ht1 : tc = 1
                  · subst ht1
                    have HtE := Lib.hid (show ys' = [] from List.eq_nil_of_length_eq_zero (by have := TXL.out; omega))
                    go_wp2_with fail
                    haveI hIq : Nonempty (Of w8) := of_some _
                    first | (refine wp_region_stay w8 (by kernel_rfl) (by kernel_rfl) (by go_grown) ?_) | (refine wp_region_stay_seq w8 (by go_grown) ?_)
                    repeat (go_big_quiet_step (fail))
                    refine wpQuiet_nil ?_
                    intro w10 hb10
                    clear hIq
                    have HB10 := Lib.hid (ext_trans HB8.out hb10)
                    have HK10 := Lib.hid (OwnR.ext HK8.out hb10)
                    have HC10 := Lib.hid (OwnR.ext HC8.out hb10)
                    clear hb10 HB8 HK8 HC8
                    go_wp2_with fail
                    go_roundw
                    case rel => exact ⟨f, xs', ys', (K ++ [kyc y]), C, by have := hf; simp only [List.length_cons, List.length_nil] at this ⊢; omega, ⟨_, _, by rw [HXL.out], by rw [HXL.out]; omega, by omega, HAT.out.tl⟩, ⟨_, 0, by rw [HtE.out]; rfl, by rw [HtE.out]; exact Nat.zero_le _, by omega, .inl HtE.out⟩, HK10.out, HC10.out, HKE.out, HCE.out, by have := hH; simp only [List.length_cons, List.length_nil] at this ⊢; omega, by have := hT; simp only [List.length_cons, List.length_nil] at this ⊢; omega, HB10.out⟩
                    case measure => first | (simp [lenV]; done) | (simp [lenV]; omega)
                  · go_wp2_with fail
                    haveI hIq : Nonempty (Of w8) := of_some _
                    first | (refine wp_region_stay w8 (by kernel_rfl) (by kernel_rfl) (by go_grown) ?_) | (refine wp_region_stay_seq w8 (by go_grown) ?_)
                    repeat (go_big_quiet_step (fail))
                    refine wpQuiet_nil ?_
                    intro w10 hb10
                    clear hIq
                    have HB10 := Lib.hid (ext_trans HB8.out hb10)
                    have HK10 := Lib.hid (OwnR.ext HK8.out hb10)
                    have HC10 := Lib.hid (OwnR.ext HC8.out hb10)
                    clear hb10 HB8 HK8 HC8
                    go_wp2_with fail
                    go_roundw
                    case rel => exact ⟨f, xs', ys', (K ++ [kyc y]), C, by have := hf; simp only [List.length_cons, List.length_nil] at this ⊢; omega, ⟨_, _, by rw [HXL.out], by rw [HXL.out]; omega, by omega, HAT.out.tl⟩, ⟨_, _, by rw [TXL.out], by rw [TXL.out]; omega, by omega, TAT.out.tl⟩, HK10.out, HC10.out, HKE.out, HCE.out, by have := hH; simp only [List.length_cons, List.length_nil] at this ⊢; omega, by have := hT; simp only [List.length_cons, List.length_nil] at this ⊢; omega, HB10.out⟩
                    case measure => first | (simp [lenV]; done) | (simp [lenV]; omega)
    
    
              · have HKE := Lib.hid (show K ++ [kyc y] ++ gk f xs' ys' = KT_ from by have := HKT2.out; simp only [gk, hL, hM, hS, if_true, Bool.false_eq_true, if_false] at this; simpa using this)
                have HCE := Lib.hid (show C ++ [x] ++ gc f xs' ys' = CT_ from by have := HCT2.out; simp only [gc, hL, hM, hR, if_true, Bool.false_eq_true, if_false] at this; simpa using this)
                have HMm := Lib.hid hM
                have HSs := Lib.hid hS
                have HRr := Lib.hid hR
                clear hL hM hS hR
                obtain ⟨x0, x1, x2, x3, x4, x5, x6, x7, x8⟩ := (HAT.out.ext HB2.out).at (i := 0) rfl
                simp only [Nat.zero_mul, Nat.add_zero] at x0 x1 x2 x3 x4 x5 x6 x7 x8
                obtain ⟨y0, y1, y2, y3, y4, y5, y6, y7, y8⟩ := (TAT.out.ext HB2.out).at (i := 0) rfl
                simp only [Nat.zero_mul, Nat.add_zero] at y0 y1 y2 y3 y4 y5 y6 y7 y8
                go_wp2_with fail
                haveI hIq : Nonempty (Of w2) := of_some _
                have hF0 := of_cell x0
                have hF1 := of_cell x1
                have hF2 := of_cell y0
                have hF3 := of_cell y1
                first | (refine wp_region_stay w2 (by kernel_rfl) (by kernel_rfl) (by go_grown) ?_) | (refine wp_region_stay_seq w2 (by go_grown) ?_)
                repeat (go_big_quiet_step ((go_at_call 26; with_reducible refine stay_bool (u := false) (cardLessB x y _) HL.out)))
                refine wpQuiet_nil ?_
                intro w3 hb3
                clear hIq hF0 hF1 hF2 hF3
                have HB3 := Lib.hid (ext_trans HB2.out hb3)
                have HK3 := Lib.hid (OwnR.ext HK2.out hb3)
                have HC3 := Lib.hid (OwnR.ext HC2.out hb3)
                clear hb3 HB2 HK2 HC2 x0 x1 x2 x3 x4 x5 x6 x7 x8 y0 y1 y2 y3 y4 y5 y6 y7 y8
                obtain ⟨x0, x1, x2, x3, x4, x5, x6, x7, x8⟩ := (HAT.out.ext HB3.out).at (i := 0) rfl
                simp only [Nat.zero_mul, Nat.add_zero] at x0 x1 x2 x3 x4 x5 x6 x7 x8
                obtain ⟨y0, y1, y2, y3, y4, y5, y6, y7, y8⟩ := (TAT.out.ext HB3.out).at (i := 0) rfl
                simp only [Nat.zero_mul, Nat.add_zero] at y0 y1 y2 y3 y4 y5 y6 y7 y8
                go_wp2_with fail
                haveI hIq : Nonempty (Of w3) := of_some _
                have hF0 := of_cell x0
                have hF1 := of_cell x1
                have hF2 := of_cell y0
                have hF3 := of_cell y1
                first | (refine wp_region_stay w3 (by kernel_rfl) (by kernel_rfl) (by go_grown) ?_) | (refine wp_region_stay_seq w3 (by go_grown) ?_)
                repeat (go_big_quiet_step ((go_at_call 26; with_reducible refine stay_bool (u := false) (cardLessB y x _) HMm.out)))
                refine wpQuiet_nil ?_
                intro w4 hb4
                clear hIq hF0 hF1 hF2 hF3
                have HB4 := Lib.hid (ext_trans HB3.out hb4)
                have HK4 := Lib.hid (OwnR.ext HK3.out hb4)
                have HC4 := Lib.hid (OwnR.ext HC3.out hb4)
                clear hb4 HB3 HK3 HC3 x0 x1 x2 x3 x4 x5 x6 x7 x8 y0 y1 y2 y3 y4 y5 y6 y7 y8
                obtain ⟨x0, x1, x2, x3, x4, x5, x6, x7, x8⟩ := (HAT.out.ext HB4.out).at (i := 0) rfl
                simp only [Nat.zero_mul, Nat.add_zero] at x0 x1 x2 x3 x4 x5 x6 x7 x8
                obtain ⟨y0, y1, y2, y3, y4, y5, y6, y7, y8⟩ := (TAT.out.ext HB4.out).at (i := 0) rfl
                simp only [Nat.zero_mul, Nat.add_zero] at y0 y1 y2 y3 y4 y5 y6 y7 y8
                go_wp2_with fail
                haveI hIq : Nonempty (Of w4) := of_some _
                have hF0 := of_cell x5
                have hF1 := of_cell x6
                have hF2 := of_cell x7
                have hF3 := of_cell y5
                have hF4 := of_cell y6
                have hF5 := of_cell y7
                first | (refine wp_region_stay w4 (by kernel_rfl) (by kernel_rfl) (by go_grown) ?_) | (refine wp_region_stay_seq w4 (by go_grown) ?_)
                repeat (go_big_quiet_step ((go_at_call 27; with_reducible refine stay_bool (u := true) (stampLessB x y _) HSs.out)))
                refine wpQuiet_nil ?_
                intro w5 hb5
                clear hIq hF0 hF1 hF2 hF3 hF4 hF5
                have HB5 := Lib.hid (ext_trans HB4.out hb5)
                have HK5 := Lib.hid (OwnR.ext HK4.out hb5)
                have HC5 := Lib.hid (OwnR.ext HC4.out hb5)
                clear hb5 HB4 HK4 HC4 x0 x1 x2 x3 x4 x5 x6 x7 x8 y0 y1 y2 y3 y4 y5 y6 y7 y8
                obtain ⟨y0, y1, y2, y3, y4, y5, y6, y7, y8⟩ := (TAT.out.ext HB5.out).at (i := 0) rfl
                simp only [Nat.zero_mul, Nat.add_zero] at y0 y1 y2 y3 y4 y5 y6 y7 y8
                have HKa7 := Lib.hid (show w5.ownsRow w1.heap.size 32 2 (.slice ka p kc_) p (flat ky K) from by have := HK5.out; unfold OwnK OwnR at this; rw [HP.out] at this; exact this)
                have ZA7 := HB5.out.size
                go_wp2_with (at_builtin; refine wpList_append_own _ rfl _ _ 29 rfl (w1.heap.size) 32 j0 (.agg #[.string ⟨#[]⟩, .string ⟨#[]⟩]) 2 32 Try.underlying29 gi gz0 gz1 gz2 rfl (by decide) _ p (flat ky K) rfl (HKa7.out.alloc (.cells #[.string y.a, .string y.i] 32)) ⟨w5.heap.size, 0, none⟩ 1 1 (ky (kyc y)) rfl rfl ?e1 ?e2 ?e3 ?e4 ?e5 ?_)
                case e1 =>
                  intro j u hj
                  rw [add_off, Nat.zero_add, blk_cell (blk_new w5 #[.string y.a, .string y.i] 32)]
                  simpa [ky] using hj
                case e2 => exact ky_one _
                case e3 => unfold maxLen; omega
                case e4 => omega
                case e5 => simp; omega
                intro v7 w7 ho7 hg7 _
                have HG7 := Lib.hid ((World.grownBy_alloc w5 (.cells #[.string y.a, .string y.i] 32) none).but _ |>.andThen hg7 (fun j hj => .inr hj))
                have HB7 := Lib.hid (HB5.out.grown HG7.out ZA7 (fun q hq => own_ge HKa7.out hq))
                have HK7 := Lib.hid (show OwnK w1.heap.size w7 v7 (K ++ [kyc y]) by unfold OwnK OwnR; rw [flat_snoc, List.length_append, HP.out]; exact ho7)
                have HC7 := Lib.hid (show OwnC w1.heap.size w7 (.slice ca q cc_) C from own_blocks HC5.out (fun k cur hc => HG7.out.block k (blk_lt hc) (own_ne HKa7.out hc (by decide))))
                clear ho7 hg7 HKa7 ZA7 HG7 HB5 HK5 HC5
                clear y0 y1 y2 y3 y4 y5 y6 y7 y8
                obtain ⟨x0, x1, x2, x3, x4, x5, x6, x7, x8⟩ := (HAT.out.ext HB7.out).at (i := 0) rfl
                simp only [Nat.zero_mul, Nat.add_zero] at x0 x1 x2 x3 x4 x5 x6 x7 x8
                obtain ⟨y0, y1, y2, y3, y4, y5, y6, y7, y8⟩ := (TAT.out.ext HB7.out).at (i := 0) rfl
                simp only [Nat.zero_mul, Nat.add_zero] at y0 y1 y2 y3 y4 y5 y6 y7 y8
                go_wp2_with fail
                haveI hIq : Nonempty (Of w7) := of_some _
                have hF0 := of_cell x5
                have hF1 := of_cell x6
                have hF2 := of_cell x7
                have hF3 := of_cell y5
                have hF4 := of_cell y6
                have hF5 := of_cell y7
                first | (refine wp_region_stay w7 (by kernel_rfl) (by kernel_rfl) (by go_grown) ?_) | (refine wp_region_stay_seq w7 (by go_grown) ?_)
                repeat (go_big_quiet_step ((go_at_call 27; with_reducible refine stay_bool (u := true) (stampLessB y x _) HRr.out)))
                refine wpQuiet_nil ?_
                intro w8 hb8
                clear hIq hF0 hF1 hF2 hF3 hF4 hF5
                have HB8 := Lib.hid (ext_trans HB7.out hb8)
                have HK8 := Lib.hid (OwnR.ext HK7.out hb8)
                have HC8 := Lib.hid (OwnR.ext HC7.out hb8)
                clear hb8 HB7 HK7 HC7 x0 x1 x2 x3 x4 x5 x6 x7 x8 y0 y1 y2 y3 y4 y5 y6 y7 y8
                obtain ⟨x0, x1, x2, x3, x4, x5, x6, x7, x8⟩ := (HAT.out.ext HB8.out).at (i := 0) rfl
                simp only [Nat.zero_mul, Nat.add_zero] at x0 x1 x2 x3 x4 x5 x6 x7 x8
                have HCa9 := Lib.hid (show w8.ownsRow w1.heap.size 36 9 (.slice ca q cc_) q (flat cc C) from by have := HC8.out; unfold OwnC OwnR at this; rw [HQ.out] at this; exact this)
                have ZA9 := HB8.out.size
                go_wp2_with (at_builtin; refine wpList_append_own _ rfl _ _ 27 rfl (w1.heap.size) 36 i0 Cd.zero.v 9 88 Try.underlying27 hi hz0 hz1 hz2 rfl (by decide) _ q (flat cc C) rfl (HCa9.out.alloc (.cells #[.string x.a, .string x.i, .int .i64 x.s, .int .i64 x.o, .int .i64 x.l, .int .i64 x.t, .int .i64 x.k, .int .i64 x.n, .bool x.g] 36)) ⟨w8.heap.size, 0, none⟩ 1 1 (cc x) rfl rfl ?d1 ?d2 ?d3 ?d4 ?d5 ?_)
                case d1 =>
                  intro j u hj
                  rw [add_off, Nat.zero_add, blk_cell (blk_new w8 #[.string x.a, .string x.i, .int .i64 x.s, .int .i64 x.o, .int .i64 x.l, .int .i64 x.t, .int .i64 x.k, .int .i64 x.n, .bool x.g] 36)]
                  simpa [cc] using hj
                case d2 => exact cc_one x
                case d3 => unfold maxLen; omega
                case d4 => omega
                case d5 => simp; omega
                intro v9 w9 ho9 hg9 _
                have HG9 := Lib.hid ((World.grownBy_alloc w8 (.cells #[.string x.a, .string x.i, .int .i64 x.s, .int .i64 x.o, .int .i64 x.l, .int .i64 x.t, .int .i64 x.k, .int .i64 x.n, .bool x.g] 36) none).but _ |>.andThen hg9 (fun j hj => .inr hj))
                have HB9 := Lib.hid (HB8.out.grown HG9.out ZA9 (fun q hq => own_ge HCa9.out hq))
                have HC9 := Lib.hid (show OwnC w1.heap.size w9 v9 (C ++ [x]) by unfold OwnC OwnR; rw [flat_snoc, List.length_append, HQ.out]; exact ho9)
                have HK9 := Lib.hid (show OwnK w1.heap.size w9 v7 (K ++ [kyc y]) from own_blocks HK8.out (fun k cur hc => HG9.out.block k (blk_lt hc) (own_ne HCa9.out hc (by decide))))
                clear ho9 hg9 HCa9 ZA9 HG9 HB8 HK8 HC8
                clear x0 x1 x2 x3 x4 x5 x6 x7 x8
                by_cases hh1 : hc = 1
                · subst hh1
                  have HhE := Lib.hid (show xs' = [] from List.eq_nil_of_length_eq_zero (by have := HXL.out; omega))
                  by_cases ht1 : tc = 1
                  · subst ht1
                    have HtE := Lib.hid (show ys' = [] from List.eq_nil_of_length_eq_zero (by have := TXL.out; omega))
                    go_wp2_with fail
                    haveI hIq : Nonempty (Of w9) := of_some _
                    first | (refine wp_region_stay w9 (by kernel_rfl) (by kernel_rfl) (by go_grown) ?_) | (refine wp_region_stay_seq w9 (by go_grown) ?_)
                    repeat (go_big_quiet_step (fail))
                    refine wpQuiet_nil ?_
                    intro w10 hb10
                    clear hIq
                    have HB10 := Lib.hid (ext_trans HB9.out hb10)
                    have HK10 := Lib.hid (OwnR.ext HK9.out hb10)
                    have HC10 := Lib.hid (OwnR.ext HC9.out hb10)
                    clear hb10 HB9 HK9 HC9
                    go_wp2_with fail
                    go_roundw
                    case rel => exact ⟨f, xs', ys', (K ++ [kyc y]), (C ++ [x]), by have := hf; simp only [List.length_cons, List.length_nil] at this ⊢; omega, ⟨_, 0, by rw [HhE.out]; rfl, by rw [HhE.out]; exact Nat.zero_le _, by omega, .inl HhE.out⟩, ⟨_, 0, by rw [HtE.out]; rfl, by rw [HtE.out]; exact Nat.zero_le _, by omega, .inl HtE.out⟩, HK10.out, HC10.out, HKE.out, HCE.out, by have := hH; simp only [List.length_cons, List.length_nil] at this ⊢; omega, by have := hT; simp only [List.length_cons, List.length_nil] at this ⊢; omega, HB10.out⟩
                    case measure => first | (simp [lenV]; done) | (simp [lenV]; omega)
                  · go_wp2_with fail
                    haveI hIq : Nonempty (Of w9) := of_some _
                    first | (refine wp_region_stay w9 (by kernel_rfl) (by kernel_rfl) (by go_grown) ?_) | (refine wp_region_stay_seq w9 (by go_grown) ?_)
                    repeat (go_big_quiet_step (fail))
                    refine wpQuiet_nil ?_
                    intro w10 hb10
                    clear hIq
                    have HB10 := Lib.hid (ext_trans HB9.out hb10)
                    have HK10 := Lib.hid (OwnR.ext HK9.out hb10)
                    have HC10 := Lib.hid (OwnR.ext HC9.out hb10)
                    clear hb10 HB9 HK9 HC9
                    go_wp2_with fail
                    go_roundw
                    case rel => exact ⟨f, xs', ys', (K ++ [kyc y]), (C ++ [x]), by have := hf; simp only [List.length_cons, List.length_nil] at this ⊢; omega, ⟨_, 0, by rw [HhE.out]; rfl, by rw [HhE.out]; exact Nat.zero_le _, by omega, .inl HhE.out⟩, ⟨_, _, by rw [TXL.out], by rw [TXL.out]; omega, by omega, TAT.out.tl⟩, HK10.out, HC10.out, HKE.out, HCE.out, by have := hH; simp only [List.length_cons, List.length_nil] at this ⊢; omega, by have := hT; simp only [List.length_cons, List.length_nil] at this ⊢; omega, HB10.out⟩
                    case measure => first | (simp [lenV]; done) | (simp [lenV]; omega)
    
                · by_cases ht1 : tc = 1
                  · subst ht1
                    have HtE := Lib.hid (show ys' = [] from List.eq_nil_of_length_eq_zero (by have := TXL.out; omega))
                    go_wp2_with fail
                    haveI hIq : Nonempty (Of w9) := of_some _
                    first | (refine wp_region_stay w9 (by kernel_rfl) (by kernel_rfl) (by go_grown) ?_) | (refine wp_region_stay_seq w9 (by go_grown) ?_)
                    repeat (go_big_quiet_step (fail))
                    refine wpQuiet_nil ?_
                    intro w10 hb10
                    clear hIq
                    have HB10 := Lib.hid (ext_trans HB9.out hb10)
                    have HK10 := Lib.hid (OwnR.ext HK9.out hb10)
                    have HC10 := Lib.hid (OwnR.ext HC9.out hb10)
                    clear hb10 HB9 HK9 HC9
                    go_wp2_with fail
                    go_roundw
                    case rel => exact ⟨f, xs', ys', (K ++ [kyc y]), (C ++ [x]), by have := hf; simp only [List.length_cons, List.length_nil] at this ⊢; omega, ⟨_, _, by rw [HXL.out], by rw [HXL.out]; omega, by omega, HAT.out.tl⟩, ⟨_, 0, by rw [HtE.out]; rfl, by rw [HtE.out]; exact Nat.zero_le _, by omega, .inl HtE.out⟩, HK10.out, HC10.out, HKE.out, HCE.out, by have := hH; simp only [List.length_cons, List.length_nil] at this ⊢; omega, by have := hT; simp only [List.length_cons, List.length_nil] at this ⊢; omega, HB10.out⟩
                    case measure => first | (simp [lenV]; done) | (simp [lenV]; omega)
                  · go_wp2_with fail
                    haveI hIq : Nonempty (Of w9) := of_some _
                    first | (refine wp_region_stay w9 (by kernel_rfl) (by kernel_rfl) (by go_grown) ?_) | (refine wp_region_stay_seq w9 (by go_grown) ?_)
                    repeat (go_big_quiet_step (fail))
                    refine wpQuiet_nil ?_
                    intro w10 hb10
                    clear hIq
                    have HB10 := Lib.hid (ext_trans HB9.out hb10)
                    have HK10 := Lib.hid (OwnR.ext HK9.out hb10)
                    have HC10 := Lib.hid (OwnR.ext HC9.out hb10)
                    clear hb10 HB9 HK9 HC9
                    go_wp2_with fail
                    go_roundw
                    case rel => exact ⟨f, xs', ys', (K ++ [kyc y]), (C ++ [x]), by have := hf; simp only [List.length_cons, List.length_nil] at this ⊢; omega, ⟨_, _, by rw [HXL.out], by rw [HXL.out]; omega, by omega, HAT.out.tl⟩, ⟨_, _, by rw [TXL.out], by rw [TXL.out]; omega, by omega, TAT.out.tl⟩, HK10.out, HC10.out, HKE.out, HCE.out, by have := hH; simp only [List.length_cons, List.length_nil] at this ⊢; omega, by have := hT; simp only [List.length_cons, List.length_nil] at this ⊢; omega, HB10.out⟩
                    case measure => first | (simp [lenV]; done) | (simp [lenV]; omega)
    
    
    
          · have HKE := Lib.hid (show K ++ [kyc y] ++ gk f (x :: xs') ys' = KT_ from by have := HKT2.out; simp only [gk, hL, hM, if_true, Bool.false_eq_true, if_false] at this; simpa using this)
            have HCE := Lib.hid (show C ++ gc f (x :: xs') ys' = CT_ from by have := HCT2.out; simp only [gc, hL, hM, if_true, Bool.false_eq_true, if_false] at this; exact this)
            have HMm := Lib.hid hM
            clear hL hM
            obtain ⟨x0, x1, x2, x3, x4, x5, x6, x7, x8⟩ := (HAT.out.ext HB2.out).at (i := 0) rfl
            simp only [Nat.zero_mul, Nat.add_zero] at x0 x1 x2 x3 x4 x5 x6 x7 x8
            obtain ⟨y0, y1, y2, y3, y4, y5, y6, y7, y8⟩ := (TAT.out.ext HB2.out).at (i := 0) rfl
            simp only [Nat.zero_mul, Nat.add_zero] at y0 y1 y2 y3 y4 y5 y6 y7 y8
            go_wp2_with fail
            haveI hIq : Nonempty (Of w2) := of_some _
            have hF0 := of_cell x0
            have hF1 := of_cell x1
            have hF2 := of_cell y0
            have hF3 := of_cell y1
            first | (refine wp_region_stay w2 (by kernel_rfl) (by kernel_rfl) (by go_grown) ?_) | (refine wp_region_stay_seq w2 (by go_grown) ?_)
            repeat (go_big_quiet_step ((go_at_call 26; with_reducible refine stay_bool (u := false) (cardLessB x y _) HL.out)))
            refine wpQuiet_nil ?_
            intro w3 hb3
            clear hIq hF0 hF1 hF2 hF3
            have HB3 := Lib.hid (ext_trans HB2.out hb3)
            have HK3 := Lib.hid (OwnR.ext HK2.out hb3)
            have HC3 := Lib.hid (OwnR.ext HC2.out hb3)
            clear hb3 HB2 HK2 HC2 x0 x1 x2 x3 x4 x5 x6 x7 x8 y0 y1 y2 y3 y4 y5 y6 y7 y8
            obtain ⟨x0, x1, x2, x3, x4, x5, x6, x7, x8⟩ := (HAT.out.ext HB3.out).at (i := 0) rfl
            simp only [Nat.zero_mul, Nat.add_zero] at x0 x1 x2 x3 x4 x5 x6 x7 x8
            obtain ⟨y0, y1, y2, y3, y4, y5, y6, y7, y8⟩ := (TAT.out.ext HB3.out).at (i := 0) rfl
            simp only [Nat.zero_mul, Nat.add_zero] at y0 y1 y2 y3 y4 y5 y6 y7 y8
            go_wp2_with fail
            haveI hIq : Nonempty (Of w3) := of_some _
            have hF0 := of_cell x0
            have hF1 := of_cell x1
            have hF2 := of_cell y0
            have hF3 := of_cell y1
            first | (refine wp_region_stay w3 (by kernel_rfl) (by kernel_rfl) (by go_grown) ?_) | (refine wp_region_stay_seq w3 (by go_grown) ?_)
            repeat (go_big_quiet_step ((go_at_call 26; with_reducible refine stay_bool (u := true) (cardLessB y x _) HMm.out)))
            refine wpQuiet_nil ?_
            intro w4 hb4
            clear hIq hF0 hF1 hF2 hF3
            have HB4 := Lib.hid (ext_trans HB3.out hb4)
            have HK4 := Lib.hid (OwnR.ext HK3.out hb4)
            have HC4 := Lib.hid (OwnR.ext HC3.out hb4)
            clear hb4 HB3 HK3 HC3 x0 x1 x2 x3 x4 x5 x6 x7 x8 y0 y1 y2 y3 y4 y5 y6 y7 y8
            by_cases ht1 : tc = 1
            · subst ht1
              have HtE := Lib.hid (show ys' = [] from List.eq_nil_of_length_eq_zero (by have := TXL.out; omega))
              obtain ⟨y0, y1, y2, y3, y4, y5, y6, y7, y8⟩ := (TAT.out.ext HB4.out).at (i := 0) rfl
              simp only [Nat.zero_mul, Nat.add_zero] at y0 y1 y2 y3 y4 y5 y6 y7 y8
              have HKa7 := Lib.hid (show w4.ownsRow w1.heap.size 32 2 (.slice ka p kc_) p (flat ky K) from by have := HK4.out; unfold OwnK OwnR at this; rw [HP.out] at this; exact this)
              have ZA7 := HB4.out.size
              go_wp2_with (at_builtin; refine wpList_append_own _ rfl _ _ 29 rfl (w1.heap.size) 32 j0 (.agg #[.string ⟨#[]⟩, .string ⟨#[]⟩]) 2 32 Try.underlying29 gi gz0 gz1 gz2 rfl (by decide) _ p (flat ky K) rfl (HKa7.out.alloc (.cells #[.string y.a, .string y.i] 32)) ⟨w4.heap.size, 0, none⟩ 1 1 (ky (kyc y)) rfl rfl ?e1 ?e2 ?e3 ?e4 ?e5 ?_)
              case e1 =>
                intro j u hj
                rw [add_off, Nat.zero_add, blk_cell (blk_new w4 #[.string y.a, .string y.i] 32)]
                simpa [ky] using hj
              case e2 => exact ky_one _
              case e3 => unfold maxLen; omega
              case e4 => omega
              case e5 => simp; omega
              intro v7 w7 ho7 hg7 _
              have HG7 := Lib.hid ((World.grownBy_alloc w4 (.cells #[.string y.a, .string y.i] 32) none).but _ |>.andThen hg7 (fun j hj => .inr hj))
              have HB7 := Lib.hid (HB4.out.grown HG7.out ZA7 (fun q hq => own_ge HKa7.out hq))
              have HK7 := Lib.hid (show OwnK w1.heap.size w7 v7 (K ++ [kyc y]) by unfold OwnK OwnR; rw [flat_snoc, List.length_append, HP.out]; exact ho7)
              have HC7 := Lib.hid (show OwnC w1.heap.size w7 (.slice ca q cc_) C from own_blocks HC4.out (fun k cur hc => HG7.out.block k (blk_lt hc) (own_ne HKa7.out hc (by decide))))
              clear ho7 hg7 HKa7 ZA7 HG7 HB4 HK4 HC4
              clear y0 y1 y2 y3 y4 y5 y6 y7 y8
              go_wp2_with fail
              go_roundw
              case rel => exact ⟨f, (x :: xs'), ys', (K ++ [kyc y]), C, by have := hf; simp only [List.length_cons, List.length_nil] at this ⊢; omega, ⟨_, _, by rw [List.length_cons, HXL.out], by rw [List.length_cons, HXL.out]; omega, by omega, HAT.out⟩, ⟨_, 0, by rw [HtE.out]; rfl, by rw [HtE.out]; exact Nat.zero_le _, by omega, .inl HtE.out⟩, HK7.out, HC7.out, HKE.out, HCE.out, by have := hH; simp only [List.length_cons, List.length_nil] at this ⊢; omega, by have := hT; simp only [List.length_cons, List.length_nil] at this ⊢; omega, HB7.out⟩
              case measure => first | (simp [lenV]; done) | (simp [lenV]; omega)
            · obtain ⟨y0, y1, y2, y3, y4, y5, y6, y7, y8⟩ := (TAT.out.ext HB4.out).at (i := 0) rfl
              simp only [Nat.zero_mul, Nat.add_zero] at y0 y1 y2 y3 y4 y5 y6 y7 y8
              have HKa7 := Lib.hid (show w4.ownsRow w1.heap.size 32 2 (.slice ka p kc_) p (flat ky K) from by have := HK4.out; unfold OwnK OwnR at this; rw [HP.out] at this; exact this)
              have ZA7 := HB4.out.size
              go_wp2_with (at_builtin; refine wpList_append_own _ rfl _ _ 29 rfl (w1.heap.size) 32 j0 (.agg #[.string ⟨#[]⟩, .string ⟨#[]⟩]) 2 32 Try.underlying29 gi gz0 gz1 gz2 rfl (by decide) _ p (flat ky K) rfl (HKa7.out.alloc (.cells #[.string y.a, .string y.i] 32)) ⟨w4.heap.size, 0, none⟩ 1 1 (ky (kyc y)) rfl rfl ?e1 ?e2 ?e3 ?e4 ?e5 ?_)
              case e1 =>
                intro j u hj
                rw [add_off, Nat.zero_add, blk_cell (blk_new w4 #[.string y.a, .string y.i] 32)]
                simpa [ky] using hj
              case e2 => exact ky_one _
              case e3 => unfold maxLen; omega
              case e4 => omega
              case e5 => simp; omega
              intro v7 w7 ho7 hg7 _
              have HG7 := Lib.hid ((World.grownBy_alloc w4 (.cells #[.string y.a, .string y.i] 32) none).but _ |>.andThen hg7 (fun j hj => .inr hj))
              have HB7 := Lib.hid (HB4.out.grown HG7.out ZA7 (fun q hq => own_ge HKa7.out hq))
              have HK7 := Lib.hid (show OwnK w1.heap.size w7 v7 (K ++ [kyc y]) by unfold OwnK OwnR; rw [flat_snoc, List.length_append, HP.out]; exact ho7)
              have HC7 := Lib.hid (show OwnC w1.heap.size w7 (.slice ca q cc_) C from own_blocks HC4.out (fun k cur hc => HG7.out.block k (blk_lt hc) (own_ne HKa7.out hc (by decide))))
              clear ho7 hg7 HKa7 ZA7 HG7 HB4 HK4 HC4
              clear y0 y1 y2 y3 y4 y5 y6 y7 y8
              go_wp2_with fail
              go_roundw
              case rel => exact ⟨f, (x :: xs'), ys', (K ++ [kyc y]), C, by have := hf; simp only [List.length_cons, List.length_nil] at this ⊢; omega, ⟨_, _, by rw [List.length_cons, HXL.out], by rw [List.length_cons, HXL.out]; omega, by omega, HAT.out⟩, ⟨_, _, by rw [TXL.out], by rw [TXL.out]; omega, by omega, TAT.out.tl⟩, HK7.out, HC7.out, HKE.out, HCE.out, by have := hH; simp only [List.length_cons, List.length_nil] at this ⊢; omega, by have := hT; simp only [List.length_cons, List.length_nil] at this ⊢; omega, HB7.out⟩
              case measure => first | (simp [lenV]; done) | (simp [lenV]; omega)
    
    
        · have HL := Lib.hid hL
          have HKE := Lib.hid (show K ++ gk f xs' (y :: ys') = KT_ from by have := HKT2.out; simp only [gk, hL, if_true] at this; exact this)
          have HCE := Lib.hid (show C ++ [x] ++ gc f xs' (y :: ys') = CT_ from by have := HCT2.out; simp only [gc, hL, if_true] at this; simpa using this)
          clear hL
          obtain ⟨x0, x1, x2, x3, x4, x5, x6, x7, x8⟩ := (HAT.out.ext HB2.out).at (i := 0) rfl
          simp only [Nat.zero_mul, Nat.add_zero] at x0 x1 x2 x3 x4 x5 x6 x7 x8
          obtain ⟨y0, y1, y2, y3, y4, y5, y6, y7, y8⟩ := (TAT.out.ext HB2.out).at (i := 0) rfl
          simp only [Nat.zero_mul, Nat.add_zero] at y0 y1 y2 y3 y4 y5 y6 y7 y8
          go_wp2_with fail
          haveI hIq : Nonempty (Of w2) := of_some _
          have hF0 := of_cell x0
          have hF1 := of_cell x1
          have hF2 := of_cell y0
          have hF3 := of_cell y1
          first | (refine wp_region_stay w2 (by kernel_rfl) (by kernel_rfl) (by go_grown) ?_) | (refine wp_region_stay_seq w2 (by go_grown) ?_)
          repeat (go_big_quiet_step ((go_at_call 26; with_reducible refine stay_bool (u := true) (cardLessB x y _) HL.out)))
          refine wpQuiet_nil ?_
          intro w3 hb3
          clear hIq hF0 hF1 hF2 hF3
          have HB3 := Lib.hid (ext_trans HB2.out hb3)
          have HK3 := Lib.hid (OwnR.ext HK2.out hb3)
          have HC3 := Lib.hid (OwnR.ext HC2.out hb3)
          clear hb3 HB2 HK2 HC2 x0 x1 x2 x3 x4 x5 x6 x7 x8 y0 y1 y2 y3 y4 y5 y6 y7 y8
          by_cases hh1 : hc = 1
          · subst hh1
            have HhE := Lib.hid (show xs' = [] from List.eq_nil_of_length_eq_zero (by have := HXL.out; omega))
            obtain ⟨x0, x1, x2, x3, x4, x5, x6, x7, x8⟩ := (HAT.out.ext HB3.out).at (i := 0) rfl
            simp only [Nat.zero_mul, Nat.add_zero] at x0 x1 x2 x3 x4 x5 x6 x7 x8
            have HCa7 := Lib.hid (show w3.ownsRow w1.heap.size 36 9 (.slice ca q cc_) q (flat cc C) from by have := HC3.out; unfold OwnC OwnR at this; rw [HQ.out] at this; exact this)
            have ZA7 := HB3.out.size
            go_wp2_with (at_builtin; refine wpList_append_own _ rfl _ _ 27 rfl (w1.heap.size) 36 i0 Cd.zero.v 9 88 Try.underlying27 hi hz0 hz1 hz2 rfl (by decide) _ q (flat cc C) rfl (HCa7.out.alloc (.cells #[.string x.a, .string x.i, .int .i64 x.s, .int .i64 x.o, .int .i64 x.l, .int .i64 x.t, .int .i64 x.k, .int .i64 x.n, .bool x.g] 36)) ⟨w3.heap.size, 0, none⟩ 1 1 (cc x) rfl rfl ?d1 ?d2 ?d3 ?d4 ?d5 ?_)
            case d1 =>
              intro j u hj
              rw [add_off, Nat.zero_add, blk_cell (blk_new w3 #[.string x.a, .string x.i, .int .i64 x.s, .int .i64 x.o, .int .i64 x.l, .int .i64 x.t, .int .i64 x.k, .int .i64 x.n, .bool x.g] 36)]
              simpa [cc] using hj
            case d2 => exact cc_one x
            case d3 => unfold maxLen; omega
            case d4 => omega
            case d5 => simp; omega
            intro v7 w7 ho7 hg7 _
            have HG7 := Lib.hid ((World.grownBy_alloc w3 (.cells #[.string x.a, .string x.i, .int .i64 x.s, .int .i64 x.o, .int .i64 x.l, .int .i64 x.t, .int .i64 x.k, .int .i64 x.n, .bool x.g] 36) none).but _ |>.andThen hg7 (fun j hj => .inr hj))
            have HB7 := Lib.hid (HB3.out.grown HG7.out ZA7 (fun q hq => own_ge HCa7.out hq))
            have HC7 := Lib.hid (show OwnC w1.heap.size w7 v7 (C ++ [x]) by unfold OwnC OwnR; rw [flat_snoc, List.length_append, HQ.out]; exact ho7)
            have HK7 := Lib.hid (show OwnK w1.heap.size w7 (.slice ka p kc_) K from own_blocks HK3.out (fun k cur hc => HG7.out.block k (blk_lt hc) (own_ne HCa7.out hc (by decide))))
            clear ho7 hg7 HCa7 ZA7 HG7 HB3 HK3 HC3
            clear x0 x1 x2 x3 x4 x5 x6 x7 x8
            go_wp2_with fail
            go_roundw
            case rel => exact ⟨f, xs', (y :: ys'), K, (C ++ [x]), by have := hf; simp only [List.length_cons, List.length_nil] at this ⊢; omega, ⟨_, 0, by rw [HhE.out]; rfl, by rw [HhE.out]; exact Nat.zero_le _, by omega, .inl HhE.out⟩, ⟨_, _, by rw [List.length_cons, TXL.out], by rw [List.length_cons, TXL.out]; omega, by omega, TAT.out⟩, HK7.out, HC7.out, HKE.out, HCE.out, by have := hH; simp only [List.length_cons, List.length_nil] at this ⊢; omega, by have := hT; simp only [List.length_cons, List.length_nil] at this ⊢; omega, HB7.out⟩
            case measure => first | (simp [lenV]; done) | (simp [lenV]; omega)
          · obtain ⟨x0, x1, x2, x3, x4, x5, x6, x7, x8⟩ := (HAT.out.ext HB3.out).at (i := 0) rfl
            simp only [Nat.zero_mul, Nat.add_zero] at x0 x1 x2 x3 x4 x5 x6 x7 x8
            have HCa7 := Lib.hid (show w3.ownsRow w1.heap.size 36 9 (.slice ca q cc_) q (flat cc C) from by have := HC3.out; unfold OwnC OwnR at this; rw [HQ.out] at this; exact this)
            have ZA7 := HB3.out.size
            go_wp2_with (at_builtin; refine wpList_append_own _ rfl _ _ 27 rfl (w1.heap.size) 36 i0 Cd.zero.v 9 88 Try.underlying27 hi hz0 hz1 hz2 rfl (by decide) _ q (flat cc C) rfl (HCa7.out.alloc (.cells #[.string x.a, .string x.i, .int .i64 x.s, .int .i64 x.o, .int .i64 x.l, .int .i64 x.t, .int .i64 x.k, .int .i64 x.n, .bool x.g] 36)) ⟨w3.heap.size, 0, none⟩ 1 1 (cc x) rfl rfl ?d1 ?d2 ?d3 ?d4 ?d5 ?_)
            case d1 =>
              intro j u hj
              rw [add_off, Nat.zero_add, blk_cell (blk_new w3 #[.string x.a, .string x.i, .int .i64 x.s, .int .i64 x.o, .int .i64 x.l, .int .i64 x.t, .int .i64 x.k, .int .i64 x.n, .bool x.g] 36)]
              simpa [cc] using hj
            case d2 => exact cc_one x
            case d3 => unfold maxLen; omega
            case d4 => omega
            case d5 => simp; omega
            intro v7 w7 ho7 hg7 _
            have HG7 := Lib.hid ((World.grownBy_alloc w3 (.cells #[.string x.a, .string x.i, .int .i64 x.s, .int .i64 x.o, .int .i64 x.l, .int .i64 x.t, .int .i64 x.k, .int .i64 x.n, .bool x.g] 36) none).but _ |>.andThen hg7 (fun j hj => .inr hj))
            have HB7 := Lib.hid (HB3.out.grown HG7.out ZA7 (fun q hq => own_ge HCa7.out hq))
            have HC7 := Lib.hid (show OwnC w1.heap.size w7 v7 (C ++ [x]) by unfold OwnC OwnR; rw [flat_snoc, List.length_append, HQ.out]; exact ho7)
            have HK7 := Lib.hid (show OwnK w1.heap.size w7 (.slice ka p kc_) K from own_blocks HK3.out (fun k cur hc => HG7.out.block k (blk_lt hc) (own_ne HCa7.out hc (by decide))))
            clear ho7 hg7 HCa7 ZA7 HG7 HB3 HK3 HC3
            clear x0 x1 x2 x3 x4 x5 x6 x7 x8
            go_wp2_with fail
            go_roundw
            case rel => exact ⟨f, xs', (y :: ys'), K, (C ++ [x]), by have := hf; simp only [List.length_cons, List.length_nil] at this ⊢; omega, ⟨_, _, by rw [HXL.out], by rw [HXL.out]; omega, by omega, HAT.out.tl⟩, ⟨_, _, by rw [List.length_cons, TXL.out], by rw [List.length_cons, TXL.out]; omega, by omega, TAT.out⟩, HK7.out, HC7.out, HKE.out, HCE.out, by have := hH; simp only [List.length_cons, List.length_nil] at this ⊢; omega, by have := hT; simp only [List.length_cons, List.length_nil] at this ⊢; omega, HB7.out⟩
            case measure => first | (simp [lenV]; done) | (simp [lenV]; omega)
    

end Go.Proofs.Ytmgdhgaodjkifaa
