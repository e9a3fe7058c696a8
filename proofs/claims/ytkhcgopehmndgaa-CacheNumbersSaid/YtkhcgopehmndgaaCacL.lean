/- What CacheFulls needs of lists; cards of a tape that are right. -/
import Derived.Test.YtkhcgopehmndgaaCacA
namespace Go.Proofs.Ytkhcgopehmndgaa
open Go.RowKit
set_option linter.unusedVariables false
set_option linter.unusedSimpArgs false

theorem on_memC (T : List Cd) : ∀ out : List Cd, ∀ y ∈ T.foldl onS out, y ∈ out ∨ y ∈ T := by
  induction T with
  | nil => intro out y h; exact .inl h
  | cons x xs ih =>
    intro out y h
    rcases ih (onS out x) y h with h1 | h1
    · have : y ∈ out ∨ y = x := by
        rcases List.eq_nil_or_concat out with rfl | ⟨o, z, rfl⟩
        · simp [onS_nil] at h1; exact .inr h1
        · rw [List.concat_eq_append] at h1 ⊢
          cases hk : kq z x
          · rw [onS_other _ _ _ hk] at h1
            rcases List.mem_append.1 h1 with h2 | h2
            · exact .inl h2
            · exact .inr (by simpa using h2)
          · rw [onS_same _ _ _ hk] at h1
            rcases List.mem_append.1 h1 with h2 | h2
            · exact .inl (List.mem_append.2 (.inl h2))
            · exact .inr (by simpa using h2)
      rcases this with h2 | h2
      · exact .inl h2
      · exact .inr (by simp [h2])
    · exact .inr (by simp [h1])
theorem onc_memC {cs : List Cd} {y : Cd} (h : y ∈ onc cs) : y ∈ cs := by
  rcases on_memC _ [] y h with h1 | h1
  · cases h1
  · exact (srt_mem klt y cs).1 h1
abbrev StrC (ls : List Cd) : Prop := ls.Pairwise (fun x y => klt x y = true)
theorem klt_transC {x y z : Cd} (h1 : klt x y = true) (h2 : klt y z = true) : klt x z = true := by
  have e1 := klt_of h1
  have e2 := klt_of h2
  have n1 := kcmp_neg x z
  rcases Int.lt_or_le (kcmp x z) 0 with h | h
  · exact klt_yes h
  · exfalso
    have h3 := kcmp_le (x := z) (y := x) (z := y) (by omega) (by omega)
    have n2 := kcmp_neg y z
    omega
theorem kcmp_keyC {x y z : Cd} (ha : x.a = y.a) (hi : x.i = y.i) : kcmp z x = kcmp z y ∧ kcmp x z = kcmp y z := by unfold kcmp; rw [ha, hi]; exact ⟨rfl, rfl⟩
theorem kq_iffC {x y : Cd} (h : kq x y = true) : x.a = y.a ∧ x.i = y.i := by simpa [kq] using h
theorem kq_neC {x y : Cd} (h : kq x y = false) : kcmp x y ≠ 0 := by
  intro e
  obtain ⟨h1, h2⟩ := kc_zero e
  rw [kq_yes h1 h2] at h
  cases h
theorem on_strC (T : List Cd) : ∀ out : List Cd, StrC out → Ord klt (out ++ T) → StrC (T.foldl onS out) := by
  induction T with
  | nil => intro out h _; exact h
  | cons x xs ih =>
    intro out h ho
    rcases List.eq_nil_or_concat out with rfl | ⟨o, y, rfl⟩
    · exact ih [x] (List.pairwise_singleton _ _) (by simpa using ho)
    · rw [List.concat_eq_append] at h ho
      obtain ⟨h1, h2, h3⟩ := List.pairwise_append.1 h
      show StrC (xs.foldl onS (onS (o.concat y) x))
      rw [List.concat_eq_append]
      cases hk : kq y x
      · rw [onS_other _ _ _ hk]
        refine ih _ ?_ (by simpa using ho)
        have hyx : klt y x = true := by
          have h4 : klt x y = false := (List.pairwise_append.1 ho).2.2 y (by simp) x (by simp)
          have h5 := klt_nof h4
          have h6 := kq_neC hk
          have h7 := kcmp_neg y x
          exact klt_yes (by omega)
        refine List.pairwise_append.2 ⟨h, List.pairwise_singleton _ _, fun z hz w hw => ?_⟩
        simp at hw
        subst hw
        rcases List.mem_append.1 hz with hz | hz
        · exact klt_transC (h3 z hz y (by simp)) hyx
        · simp at hz; subst hz; exact hyx
      · rw [onS_same _ _ _ hk]
        obtain ⟨e1, e2⟩ := kq_iffC hk
        refine ih _ ?_ ?_
        · refine List.pairwise_append.2 ⟨h1, List.pairwise_singleton _ _, fun z hz w hw => ?_⟩
          simp at hw
          subst hw
          have := h3 z hz y (by simp)
          unfold klt at this ⊢
          rw [← (kcmp_keyC (z := z) e1 e2).1]
          exact this
        · refine List.Pairwise.sublist ?_ ho
          rw [List.append_assoc, List.append_assoc]
          exact List.Sublist.append (List.Sublist.refl o) (List.sublist_append_right [y] _)
theorem onc_strC (cs : List Cd) : StrC (onc cs) := on_strC _ [] List.Pairwise.nil (by simpa using srt_is klt klt_weak cs)

def CdF (c : Cd) : Prop := CdOk c ∧ KA c.a ∧ KI c.i
theorem CdF.r {c : Cd} (h : CdF c) : CdR c := h.1.r h.2.1 h.2.2
theorem full_pw (cs : List Cd) : (seenL (onc cs)).Pairwise (fun x y => kc x.a x.i y.a y.i < 0) := by
  have h : StrC ((onc cs).filter (fun c => !c.g)) := List.Pairwise.filter _ (onc_strC cs)
  unfold seenL
  rw [srt_ord klt _ (h.imp (fun {x y} hxy => klt_weak.asym x y hxy))]
  exact h.imp (fun {x y} hxy => klt_of hxy)
theorem full_r {cs : List Cd} (h : ∀ c ∈ cs, CdF c) : ∀ x ∈ seenL (onc cs), CdR x := fun x hx => (h x (onc_memC (seenL_mem hx).1)).r
theorem full_g (cs : List Cd) : ∀ x ∈ seenL (onc cs), x.g = false := fun x hx => (seenL_mem hx).2
theorem full_len (cs : List Cd) : (seenL (onc cs)).length ≤ cs.length := Nat.le_trans (seenL_len _) (onc_len cs)
section
variable {w w' : World} {b0 : Nat} {cs0 : Array Value} {T0 : TypeId}
theorem blk_rimT (hr : Rim b0 w w') (h0 : w.heap[b0]? = some (.cells cs0 T0 (0, 0))) {b : Nat} {cs : Array Value} {T : TypeId} (hT : T ≠ T0) (h : w.heap[b]? = some (.cells cs T (0, 0))) : w'.heap[b]? = w.heap[b]? :=
  hr.block b (fun e => by subst e; rw [h0] at h; simp at h; exact hT h.2.symm) (blk_lt h)
theorem TapeK.rimT {a : Option Addr} {len cap b : Nat} (h : TapeK a len cap w b) (hr : Rim b0 w w') (h0 : w.heap[b0]? = some (.cells cs0 T0 (0, 0))) (hT : 29 ≠ T0) : TapeK a len cap w' b := by
  obtain ⟨q, h1, h2⟩ := h
  exact ⟨q, (blk_rimT hr h0 hT h1).trans h1, h2⟩
end
theorem CacP.rimS {w w' : World} {cb : Nat} {q : Int} {cs : List Cd} (h : CacP w cb q cs) (hr : Rim cb w w') {b : Nat} {cur : Array Value} {T : TypeId} (hT : T ≠ 80) (hc : w.heap[b]? = some (.cells cur T (0, 0))) : w'.heap[b]? = some (.cells cur T (0, 0)) := by
  obtain ⟨a, c, h1, -⟩ := h
  exact (blk_rimT hr h1 hT hc).trans hc
theorem CAt.rimC {w w' : World} {cb : Nat} {q : Int} {cs ls : List Cd} {a : Option Addr} (h : CAt w a ls) (hc : CacP w cb q cs) (hr : Rim cb w w') : CAt w' a ls :=
  h.keep fun b cur h1 _ => (hc.rimS hr (by decide) h1).trans h1.symm
theorem TapeK.rimC {w w' : World} {cb tb len cap : Nat} {q : Int} {cs : List Cd} {a : Option Addr} (h : TapeK a len cap w tb) (hc : CacP w cb q cs) (hr : Rim cb w w') : TapeK a len cap w' tb := by
  obtain ⟨a1, c1, h1, -⟩ := hc
  exact h.rimT hr h1 (by decide)
theorem CacP.bar {w w' : World} {cb tb len cap : Nat} {q : Int} {cs : List Cd} {a : Option Addr} (hc : CacP w cb q cs) (h : TapeK a len cap w tb) (hb : Bar tb w w') : CacP w' cb q cs := by
  obtain ⟨k, h1, -⟩ := h
  exact hc.rimO ⟨hb.os, hb.tape, hb.output, hb.size, fun k hk hl => hb.block k hk hl⟩ h1 (by decide) (by decide)

set_option maxRecDepth 100000 in
set_option maxHeartbeats 2000000 in
theorem tapeCardsF (a0 : Option Addr) (len cap : Nat) (zs : List Int) (b most : Nat) (w : World) (hT : TapeK a0 len cap w b) (hRow : RowOk a0 len cap zs w b) (hm : most ≤ 1000) :
    Calls Try.prog 28 #[.pointer (some ⟨b, 0, none⟩), .int .i64 (most : Int)] w fun e w' => ∃ v cs, e = .returned v ∧ OwnC w.heap.size w' v cs ∧ cs.length ≤ most ∧ (∀ c ∈ cs, CdF c) ∧ TapeK a0 len cap w' b ∧ Bar b w w' := by
  obtain ⟨i0, hi, hz0, hz1, hz2⟩ := info_parts' info_card
  have HT := Lib.hid hT
  have HR := Lib.hid hRow
  clear hT hRow
  go_enter Try.func28, Try.ntmps28
  go_wp2_with fail
  refine (tapeNextK _ _ _ zs _ ((most : Int) + 1) _ HT.out HR.out (by omega) (by omega)).mono ?_
  rintro e w1 ⟨q, rfl, hq0, hq1, hT1, hb1⟩
  obtain ⟨N0, rfl⟩ : ∃ N0 : Nat, q = (N0 : Int) := ⟨q.toNat, by omega⟩
  have HT1 := Lib.hid hT1
  have HB1 := Lib.hid hb1
  have hN0 : N0 ≤ most := by omega
  clear hT1 hb1 hq0 hq1
  go_wp2_with fail
  go_loopw [5, 6] (fun o n wr => ∃ (N : Nat) (cs : List Cd), n = .int .i64 (N : Int) ∧ OwnC w.heap.size wr o cs ∧ cs.length + N ≤ most ∧ (∀ c ∈ cs, CdF c) ∧ TapeK a0 len cap wr b ∧ Bar b w wr) (fun o n _ => (intOf n).toNat)
  case atStart => exact ⟨N0, [], rfl, OwnR.nil _ _, by simpa using hN0, by simp, HT1.out, HB1.out⟩
  case round =>
    obtain ⟨w2, rfl⟩ : ∃ y : World, y = wr := ⟨_, rfl⟩
    obtain ⟨N, cs, rfl, ho, hl, hok, hT2, hb2⟩ := hrel
    obtain ⟨a, c, rfl, hnc, hcm, -, -, -⟩ := ho.read
    have HO2 := Lib.hid ho
    have HOK := Lib.hid hok
    have HT2 := Lib.hid hT2
    have HB2 := Lib.hid hb2
    obtain ⟨n, hn⟩ : ∃ n, cs.length = n := ⟨_, rfl⟩
    have HN := Lib.hid hn
    rw [hn] at hl hnc ⊢
    unfold maxLen at hcm
    clear ho hok hT2 hb2 hn
    by_cases hlt : N = 0
    · subst hlt
      go_wp2
      go_ret
      exact ⟨_, cs, rfl, by have := HO2.out; rw [HN.out] at this; exact this, by rw [HN.out]; omega, HOK.out, HT2.out, HB2.out⟩
    · have hN : 0 < N := by omega
      have hdN : decide (0 < (N : Int)) = true := by simp; omega
      go_wp2_with fail
      refine (tapeCardF _ _ _ zs _ _ HT2.out (HR.out.bar HB2.out)).mono ?_
      rintro e w3 ⟨x, rfl, hx0, hka, hki, hT3, hb3⟩
      have hx : CdF x := ⟨hx0, hka, hki⟩
      clear hx0 hka hki
      have HX := Lib.hid hx
      have HO3 := Lib.hid (show OwnC w.heap.size w3 (.slice a n c) cs from by have := HT2.out.own hb3 (by decide) HO2.out; unfold OwnC OwnR; rw [HN.out] at this ⊢; exact this)
      have HT3 := Lib.hid hT3
      have HB3 := Lib.hid (HB2.out.trans hb3)
      have Z3 := HB3.out.size
      clear hx hT3 hb3 HO2 HT2
      go_wp2_with (at_builtin; refine wpList_append_own _ rfl _ _ 33 rfl (w.heap.size) 49 i0 Cd.zero.v 9 88 Try.underlying33 hi hz0 hz1 hz2 rfl (by decide) _ n (flat cc cs) rfl (by have := HO3.out.alloc (.cells #[.string x.a, .string x.i, .int .i64 x.s, .int .i64 x.o, .int .i64 x.l, .int .i64 x.t, .int .i64 x.k, .int .i64 x.n, .bool x.g] 49); rw [HN.out] at this; exact this) ⟨w3.heap.size, 0, none⟩ 1 1 (cc x) rfl rfl ?c1 ?c2 ?c3 ?c4 ?c5 ?_)
      case c1 =>
        intro j u hj
        rw [add_off, Nat.zero_add, blk_cell (blk_new w3 #[.string x.a, .string x.i, .int .i64 x.s, .int .i64 x.o, .int .i64 x.l, .int .i64 x.t, .int .i64 x.k, .int .i64 x.n, .bool x.g] 49)]
        simpa [cc] using hj
      case c2 => exact cc_one x
      case c3 => unfold maxLen; omega
      case c4 => omega
      case c5 => simp; omega
      intro v4 w4 ho4 hg4 _
      have B4 := Lib.hid ((HB3.out.trans (Bar.of ((Below.refl _ _).alloc (Nat.le_refl _) (.cells #[.string x.a, .string x.i, .int .i64 x.s, .int .i64 x.o, .int .i64 x.l, .int .i64 x.t, .int .i64 x.k, .int .i64 x.n, .bool x.g] 49)))).grown hg4 (fun q hq => own_ge HO3.out hq))
      have T4 := Lib.hid (show TapeK a0 len cap w4 b from by
        obtain ⟨q, e1, e2⟩ := HT3.out
        exact ⟨q, (hg4.block b (by have := HT3.out.lt; simp; omega) (own_ne (HO3.out.alloc (.cells #[.string x.a, .string x.i, .int .i64 x.s, .int .i64 x.o, .int .i64 x.l, .int .i64 x.t, .int .i64 x.k, .int .i64 x.n, .bool x.g] 49)) (blk_alloc e1 _) (by decide))).trans (blk_alloc e1 _), e2⟩)
      have HO4 := Lib.hid (show OwnC w.heap.size w4 v4 (cs ++ [x]) by unfold OwnC OwnR; rw [flat_snoc, List.length_append, HN.out]; exact ho4)
      have HOK4 := Lib.hid (show ∀ c ∈ cs ++ [x], CdF c from fun c hc => by
        rcases List.mem_append.1 hc with hc | hc
        · exact HOK.out c hc
        · simp at hc; subst hc; exact HX.out)
      obtain ⟨M, rfl⟩ : ∃ M, N = M + 1 := ⟨N - 1, by omega⟩
      clear ho4 hg4 HO3 HT3 HB3 hdN
      go_wp2
      go_roundw
      case rel => exact ⟨M, cs ++ [x], by go_num, HO4.out, by rw [List.length_append, HN.out]; simp only [List.length_cons, List.length_nil]; omega, HOK4.out, T4.out, B4.out⟩
      case measure => first | (simp [intOf]; done) | (simp [intOf]; omega)

set_option maxRecDepth 100000 in
set_option maxHeartbeats 2000000 in
theorem law21known (w : World) :
    Calls Try.prog 9 #[] w fun r w' => r = .returned (.bool true) ∧ Below w.heap.size w w' := by
  have hs17 : sm (sealB []) = 17 := by rfl
  go_enter Try.func9, Try.ntmps9
  go_wp2_with fail
  refine (cacheNew _).mono ?_
  rintro e w1 ⟨rfl, hp, hb⟩
  obtain ⟨cb, hcb⟩ : ∃ cb, w.heap.size = cb := ⟨_, rfl⟩
  have HCB := Lib.hid (show w.heap.size ≤ cb by omega)
  rw [hcb] at hp
  try rw [hcb]
  have HP1 := Lib.hid hp
  have HD1 := Lib.hid hb
  clear hp hb hcb
  go_wp2_with fail
  refine (cacheSince cb (-1) [] _ HP1.out).mono ?_
  rintro e w2 ⟨rfl, hb⟩
  have HP2 := Lib.hid (HP1.out.ext hb)
  have HD2 := Lib.hid (ext_trans HD1.out hb)
  clear hb HP1 HD1
  go_wp2_with fail
  refine (applyFull cb 0 0 none (-1) 4 17 [] [] _ HP2.out (.inl rfl) rfl (by omega) (fun x hx => by cases hx) (fun x hx => by cases hx) List.Pairwise.nil (by omega) hs17).mono ?_
  rintro e w3 ⟨rfl, hp, hr⟩
  have HP3 := Lib.hid hp
  have HD3 := Lib.hid (HD2.out.trans (hr.below HCB.out HD2.out.size))
  clear hp hr HP2 HD2
  go_wp2_with fail
  refine (cacheSince cb 4 [] _ HP3.out).mono ?_
  rintro e w4 ⟨rfl, hb⟩
  have HP4 := Lib.hid (HP3.out.ext hb)
  have HD4 := Lib.hid (ext_trans HD3.out hb)
  clear hb HP3 HD3
  go_wp2_with fail
  refine (applyDiff cb 4 5 18 _ HP4.out (by omega) (by omega) (by rw [hs17]; decide)).mono ?_
  rintro e w5 ⟨rfl, hp, hr⟩
  have HP5 := Lib.hid hp
  have HD5 := Lib.hid (HD4.out.trans (hr.below HCB.out HD4.out.size))
  clear hp hr HP4 HD4
  go_wp2_with fail
  refine (applyNever cb 0 0 none 5 17 [] [] _ HP5.out (.inl rfl) rfl (by omega) (fun x hx => by cases hx) (by omega)).mono ?_
  rintro e w6 ⟨rfl, hb⟩
  have HP6 := Lib.hid (HP5.out.ext hb)
  have HD6 := Lib.hid (ext_trans HD5.out hb)
  clear hb HP5 HD5
  go_wp2_with fail
  refine (applyArg cb _).mono ?_
  rintro e w7 ⟨rfl, hb⟩
  have HP7 := Lib.hid (HP6.out.ext hb)
  have HD7 := Lib.hid (ext_trans HD6.out hb)
  clear hb HP6 HD6
  go_wp2_with fail
  refine (cacheSince cb (-1) [] _ HP7.out).mono ?_
  rintro e w8 ⟨rfl, hb⟩
  have HP8 := Lib.hid (HP7.out.ext hb)
  have HD8 := Lib.hid (ext_trans HD7.out hb)
  clear hb HP7 HD7
  go_wp2_with fail
  refine (cacheCards cb (-1) [] _ HP8.out (by simp)).mono ?_
  rintro e w9 ⟨v, rfl, ho, hb⟩
  obtain ⟨a9, c9, rfl, -, -, -, -, -⟩ := ho.read
  have HD9 := Lib.hid (ext_trans HD8.out hb)
  clear hb ho HP8 HD8
  go_wp2
  go_ret
  exact ⟨rfl, HD9.out⟩

end Go.Proofs.Ytkhcgopehmndgaa
