/- 'MergeTwice': the walk. -/
import Derived.Test.YtkhmaaalmlnblaaMgL
namespace Go.Proofs.Ytkhmaaalmlnblaa
open Go.RowKit
set_option linter.unusedVariables false
set_option linter.unusedSimpArgs false

theorem refLessC (x y : Cd) (b : Bool) (w : World) (h : ltC x y = b) : Calls Try.prog 18 #[.agg #[.int .i64 x.t, .int .i64 x.k, .int .i64 x.n], .agg #[.int .i64 y.t, .int .i64 y.k, .int .i64 y.n]] w fun r w' => r = .returned (.bool b) ∧ Below w.heap.size w w' := by
  subst h
  exact refLess x.t x.k x.n y.t y.k y.n w
theorem insV_perm {α : Type} (lt : α → α → Bool) (c : α) (l : List α) : (insV lt c l).Perm (c :: l) := by
  induction l with
  | nil => simp [insV]
  | cons y l ih =>
    unfold insV
    split
    · first | exact List.Perm.refl _ | exact (List.Perm.cons y ih).trans (List.Perm.swap c y l)
    · first | exact List.Perm.refl _ | exact (List.Perm.cons y ih).trans (List.Perm.swap c y l)
theorem insR_perm {α : Type} (lt : α → α → Bool) (c : α) (l : List α) : (insR lt c l).Perm (c :: l) := by
  unfold insR
  exact (List.reverse_perm _).trans ((insV_perm _ c _).trans (List.Perm.cons c (List.reverse_perm l)))
theorem srt_perm {α : Type} (lt : α → α → Bool) (ls : List α) : (srt lt ls).Perm ls := by
  have h : ∀ (ls out : List α), (ls.foldl (fun out c => insR lt c out) out).Perm (out ++ ls) := by
    intro ls
    induction ls with
    | nil => intro out; simp
    | cons c ls ih =>
      intro out
      refine (ih _).trans (((insR_perm lt c out).append_right ls).trans ?_)
      rw [List.cons_append]
      exact List.perm_middle.symm
  simpa [srt] using h ls []
/-- what is joined with itself is itself -/
theorem join_self {R : List Cd} (h : StrC R) : jnL (srt klt (R ++ R)) = R := by
  have h1 := (jnL_dom _ (srt klt (R ++ R)) rfl (srt_is klt klt_weak _)).1
  have h2 := Dom.self h
  have hm : ∀ c, c ∈ srt klt (R ++ R) ↔ c ∈ R := fun c => by
    rw [(srt_perm klt _).mem_iff, List.mem_append]
    exact ⟨fun q => q.elim id id, .inl⟩
  refine Dom.one (h1.mem hm) h2 (fun c => Iff.rfl) ?_
  intro x hx y hy e1 e2 _ _
  have q1 := h2.asc
  clear h1 h2 hm
  induction R with
  | nil => cases hx
  | cons z R ih =>
    obtain ⟨a1, a2⟩ := List.pairwise_cons.1 q1
    rcases List.mem_cons.1 hx with hx1 | hx1
    · rcases List.mem_cons.1 hy with hy1 | hy1
      · rw [hx1, hy1]
      · have := a1 y hy1
        rw [← hx1, e1, e2, kc_self9] at this
        omega
    · rcases List.mem_cons.1 hy with hy1 | hy1
      · have := a1 x hx1
        rw [← hy1, e1, e2, kc_self9] at this
        omega
      · exact ih a2 hx1 hy1 a2
set_option maxRecDepth 100000 in
set_option maxHeartbeats 6000000 in
theorem mergeTwice_walk (ta : Option Addr) (tlen tcap : Nat) (tz : List Int) (w : World) (hr : IsRow .i64 w ta tlen tcap tz) (hr8 : tlen * 8 ≤ 140737488351232) :
    Calls Try.prog 4 #[.slice ta tlen tcap] w fun r w' => r = .returned (.bool true) ∧ Below w.heap.size w w' := by
  have D0 : Below w.heap.size w (w.alloc (.cells #[.slice ta tlen tcap, .int .i64 0] 49)) := (Below.refl _ _).alloc (Nat.le_refl _) _
  have HT0 := Lib.hid (tapeK_new (a := ta) (len := tlen) (cap := tcap) w)
  have HRS := Lib.hid (rowOk_new hr (.cells #[.slice ta tlen tcap, .int .i64 0] 49))
  have HD0 := Lib.hid D0
  clear D0 hr
  go_enter Try.func4, Try.ntmps4
  go_upto_region 2 with (fail)
  obtain ⟨tb, htb⟩ : ∃ q, w.heap.size = q := ⟨_, rfl⟩
  rw [htb] at HT0 HRS
  try rw [htb]
  have HWT := Lib.hid (show w.heap.size ≤ tb by omega)
  clear htb
  generalize (w.alloc (.cells #[.slice ta tlen tcap, .int .i64 0] 49)) = w1 at *
  go_wp2_with fail
  refine (tapeCardsF ta tlen tcap tz tb 14 w1 HT0.out HRS.out (by omega)).mono ?_
  rintro r w2 ⟨v, ls, rfl, ho, hln, hcf, -, hbar⟩
  have HB2 := Lib.hid (HD0.out.trans (hbar.below HWT.out HD0.out.size))
  obtain ⟨la, lc, rfl, hlc, hlm, hlat, -, hlf⟩ := OwnC.read ho
  obtain ⟨n, hn⟩ : ∃ n, ls.length = n := ⟨_, rfl⟩
  rw [hn] at hlc hln ⊢
  have HN := Lib.hid hn
  have HL2 := Lib.hid hlat
  have HCF := Lib.hid hcf
  clear ho hbar hlat hcf hn HT0 HRS HD0 hlf
  go_wp2_with fail
  refine (deskNew 1 0 w2 (by omega) (by omega) (by omega) (by omega)).mono ?_
  rintro r w3 ⟨db, rfl, hdb, hp3, hb3⟩
  have HDB := Lib.hid (Nat.le_trans HB2.out.size hdb)
  have HP3 := Lib.hid hp3
  have HB3 := Lib.hid (ext_trans HB2.out hb3)
  have HL3 := Lib.hid (HL2.out.ext hb3)
  clear hdb hp3 hb3 HB2 HL2
  go_wp2_with fail
  refine (deskShelf db 1 0 1 0 [] 0 0 0 [] w3 HP3.out).mono ?_
  rintro r w4 ⟨rfl, hb4⟩
  have HP4 := Lib.hid (HP3.out.ext hb4)
  have HB4 := Lib.hid (ext_trans HB3.out hb4)
  have HL4 := Lib.hid (HL3.out.ext hb4)
  clear hb4 HP3 HB3 HL3
  go_wp2_with fail
  refine (deskRecent db 1 0 1 0 [] 0 0 0 [] w4 HP4.out).mono ?_
  rintro r w5 ⟨rfl, hb5⟩
  have HP5 := Lib.hid (HP4.out.ext hb5)
  have HB5 := Lib.hid (ext_trans HB4.out hb5)
  have HL5 := Lib.hid (HL4.out.ext hb5)
  clear hb5 HP4 HB4 HL4
  have hiok := IOk.all (now := 3) ls (C := []) (n := 0) (s := (⟨[], [], [], 0⟩ : Is)) ⟨⟨List.Pairwise.nil, fun x hx => (by cases hx), fun x hx => (by cases hx), fun x hx => (by cases hx)⟩, by simp, by simp, by simp, rfl⟩ (fun x hx => (HCF.out x (by simpa using hx)).2)
  rw [List.nil_append, Nat.zero_add, HN.out] at hiok
  go_wp2_with fail
  refine (mergeInto db 1 0 1 0 [] 0 0 0 [] la n lc ls 3 w5 HP5.out asc_nil (by decide) HL5.out HN.out (by omega) (fun x hx => .inl (HCF.out x hx).r) (by decide) (by decide) (by decide)).mono ?_
  rintro r w6 ⟨v6, rfl, -, hp6, hr6⟩
  obtain ⟨S1, hS1⟩ : ∃ S1, intoL 3 ⟨[], [], [], 0⟩ ls = S1 := ⟨_, rfl⟩
  rw [hS1] at hp6 hiok ⊢
  obtain ⟨E, K, O, R⟩ := S1
  obtain ⟨hdom, hfew, hks, -, -⟩ := hiok
  simp only [] at hdom hfew hks hp6
  have HDOM := Lib.hid hdom
  have HFEW := Lib.hid hfew
  have HKS := Lib.hid hks
  have HAS := Lib.hid (asc_str.2 hdom.asc)
  have HP6 := Lib.hid hp6
  have HB6 := Lib.hid (HB5.out.trans (hr6.below HDB.out HB5.out.size))
  have HL6 := Lib.hid (show CAt w6 la ls from HL5.out.keep fun b cur hc _ => HP5.out.other hr6 hc (by decide))
  clear hp6 hr6 hdom hfew hks hS1 HP5 HB5 HL5
  go_wp2_with fail
  refine (deskShelf db 1 0 1 0 E 0 0 0 K w6 HP6.out).mono ?_
  rintro r w7 ⟨rfl, hb7⟩
  have HP7 := Lib.hid (HP6.out.ext hb7)
  have HB7 := Lib.hid (ext_trans HB6.out hb7)
  have HL7 := Lib.hid (HL6.out.ext hb7)
  clear hb7 HP6 HB6 HL6
  go_wp2_with fail
  refine (deskCards db 1 0 1 0 E 0 0 0 K w7 HP7.out (by have := HFEW.out; omega)).mono ?_
  rintro r w8 ⟨v8, rfl, ho8, hb8⟩
  obtain ⟨W, hW⟩ : ∃ W, E.map (·.c) = W := ⟨_, rfl⟩
  have HW := Lib.hid hW
  rw [hW] at ho8 HDOM
  obtain ⟨wa, wc, rfl, hwc, hwm, hwat, -, hwf⟩ := OwnC.read ho8
  obtain ⟨m, hm⟩ : ∃ m, W.length = m := ⟨_, rfl⟩
  rw [hm] at hwc ⊢
  have HM := Lib.hid hm
  have hm20 : m ≤ 20 := by rw [← hm, ← hW, List.length_map]; exact HFEW.out
  have HWF := Lib.hid (show (wa = none ∧ wc = 0) ∨ ∃ b o, wa = some ⟨b, o, none⟩ from by
    rcases hwf with ⟨h1, h2, -⟩ | ⟨g, h1⟩
    · exact .inl ⟨h1, h2⟩
    · exact .inr ⟨g, 0, h1⟩)
  have HP8 := Lib.hid (HP7.out.ext hb8)
  have HB8 := Lib.hid (ext_trans HB7.out hb8)
  have HL8 := Lib.hid (HL7.out.ext hb8)
  have HA8 := Lib.hid hwat
  clear ho8 hwat hwf hb8 hW hm HP7 HB7 HL7
  go_wp2_with fail
  refine (deskRecent db 1 0 1 0 E 0 0 0 K w8 HP8.out).mono ?_
  rintro r w8b ⟨rfl, hbb⟩
  have HP8b := Lib.hid (HP8.out.ext hbb)
  have HB8b := Lib.hid (ext_trans HB8.out hbb)
  have HL8b := Lib.hid (HL8.out.ext hbb)
  have HA8b := Lib.hid (HA8.out.ext hbb)
  clear hbb HP8 HB8 HL8 HA8
  go_wp2_with fail
  refine (deskSeq db 1 0 1 0 E 0 0 0 K w8b HP8b.out).mono ?_
  rintro r w8c ⟨rfl, hbb⟩
  have HPc := Lib.hid (HP8b.out.ext hbb)
  have HBc := Lib.hid (ext_trans HB8b.out hbb)
  have HLc := Lib.hid (HL8b.out.ext hbb)
  have HAc := Lib.hid (HA8b.out.ext hbb)
  obtain ⟨sq, hsq⟩ : ∃ sq, K.length = sq := ⟨_, rfl⟩
  rw [hsq]
  have HSQ := Lib.hid hsq
  clear hbb HP8b HB8b HL8b HA8b hsq
  go_wp2_with fail
  go_loopw [43] (fun j wr => ∃ J : Nat, J ≤ n ∧ j = .int .i64 (J : Int) ∧ Below w8c.heap.size w8c wr) (fun j _ => n - (intOf j).toNat)
  case atStart => exact ⟨0, by omega, rfl, Below.refl _ _⟩
  case round =>
    obtain ⟨w9, rfl⟩ : ∃ y : World, y = wr := ⟨_, rfl⟩
    obtain ⟨J, hJ, rfl, hb9⟩ := hrel
    by_cases hlt : J < n
    · obtain ⟨y, hy⟩ : ∃ y, ls[J]? = some y := ⟨_, List.getElem?_eq_getElem (by have := HN.out; omega)⟩
      obtain ⟨ab, ao, rfl⟩ : ∃ b o, la = some ⟨b, o, none⟩ := by
        rcases HLc.out with h | ⟨b, o, e, _⟩
        · rw [h] at hy; simp at hy
        · exact ⟨b, o, e⟩
      obtain ⟨y0, y1, y2, y3, y4, y5, y6, y7, y8⟩ := CAt.at (HLc.out.ext hb9) hy
      have HMEM := Lib.hid (List.mem_of_getElem? hy)
      have D3 := (Below.refl w9.heap.size w9).alloc (Nat.le_refl _) (.cells #[.string y.a, .string y.i, .int .i64 y.s, .int .i64 y.o, .int .i64 y.l, .int .i64 y.t, .int .i64 y.k, .int .i64 y.n, .bool y.g] 33)
      have HX4 := Lib.hid (blk_new w9 #[.string y.a, .string y.i, .int .i64 y.s, .int .i64 y.o, .int .i64 y.l, .int .i64 y.t, .int .i64 y.k, .int .i64 y.n, .bool y.g] 33)
      have HP4 := Lib.hid ((HPc.out.ext hb9).ext D3)
      have HB4 := Lib.hid (ext_trans hb9 D3)
      clear hy D3 hb9
      go_upto_region 11 with (fail)
      obtain ⟨p, hp⟩ : ∃ p, w9.heap.size = p := ⟨_, rfl⟩
      rw [hp] at HX4
      try rw [hp]
      clear hp y0 y1 y2 y3 y4 y5 y6 y7 y8
      generalize (w9.alloc (.cells #[.string y.a, .string y.i, .int .i64 y.s, .int .i64 y.o, .int .i64 y.l, .int .i64 y.t, .int .i64 y.k, .int .i64 y.n, .bool y.g] 33)) = w4 at *
      obtain ⟨e, he9⟩ : ∃ e, ge E (y.a, y.i) = e := ⟨_, rfl⟩
      obtain ⟨b, hb9⟩ : ∃ b, isIn (y.a, y.i) E = b := ⟨_, rfl⟩
      have HE := Lib.hid he9
      have HB9 := Lib.hid hb9
      clear he9 hb9
      refine wp_region_inv_eq (J := fun A d act x => ∃ u48 u49 u50 u51 u52 u47 u53 u54 u10 u11 : Value, act = ((((((((((A.put (some 48) u48).put (some 49) u49).put (some 50) u50).put (some 51) u51).put (some 52) u52).put (some 47) u47).put (some 53) u53).put (some 54) u54).put (some 10) u10).put (some 11) u11) ∧ (d 0 = true → u48 = .pointer (some ⟨db, 0, none⟩)) ∧ (d 1 = true → u49 = .pointer (some ⟨db, 4, none⟩)) ∧ (d 2 = true → u50 = .pointer (some ⟨p, 0, none⟩)) ∧ (d 3 = true → u51 = .agg #[.string y.a, .string y.i]) ∧ (d 4 = true → u52 = .tuple #[.agg #[.string e.c.a, .string e.c.i, .int .i64 e.c.s, .int .i64 e.c.o, .int .i64 e.c.l, .int .i64 e.c.t, .int .i64 e.c.k, .int .i64 e.c.n, .bool e.c.g, .int .i64 e.seen], .bool b]) ∧ (d 5 = true → u47 = .tuple #[.agg #[.string e.c.a, .string e.c.i, .int .i64 e.c.s, .int .i64 e.c.o, .int .i64 e.c.l, .int .i64 e.c.t, .int .i64 e.c.k, .int .i64 e.c.n, .bool e.c.g, .int .i64 e.seen], .bool b]) ∧ (d 6 = true → u53 = .agg #[.string e.c.a, .string e.c.i, .int .i64 e.c.s, .int .i64 e.c.o, .int .i64 e.c.l, .int .i64 e.c.t, .int .i64 e.c.k, .int .i64 e.c.n, .bool e.c.g, .int .i64 e.seen]) ∧ (d 7 = true → u54 = .bool b) ∧ (d 8 = true → (∃ b : Nat, u10 = .pointer (some ⟨b, 0, none⟩) ∧ w4.heap.size ≤ b ∧ (d 9 = false → x.heap[b]? = some (.cells #[.string ⟨#[]⟩, .string ⟨#[]⟩, .int .i64 0, .int .i64 0, .int .i64 0, .int .i64 0, .int .i64 0, .int .i64 0, .bool false, .int .i64 0] 55 (0, 0))) ∧ (d 9 = true → x.heap[b]? = some (.cells #[.string e.c.a, .string e.c.i, .int .i64 e.c.s, .int .i64 e.c.o, .int .i64 e.c.l, .int .i64 e.c.t, .int .i64 e.c.k, .int .i64 e.c.n, .bool e.c.g, .int .i64 e.seen] 55 (0, 0))))) ∧ (d 10 = true → u11 = .bool b) ∧ Below w4.heap.size w4 x ∧ (d 9 = true → d 8 = true)) (by simp only [Act.put, List.setIfInBounds_toArray, List.set_cons_succ, List.set_cons_zero]; rfl) (by kernel_rfl) (by kernel_rfl) ?_ ?_ ?_
      · refine ⟨_, _, _, _, _, _, _, _, _, _, rfl, ?_, ?_, ?_, ?_, ?_, ?_, ?_, ?_, ?_, ?_, ?_, ?_⟩
        · intro h; cases h
        · intro h; cases h
        · intro h; cases h
        · intro h; cases h
        · intro h; cases h
        · intro h; cases h
        · intro h; cases h
        · intro h; cases h
        · intro h; cases h
        · intro h; cases h
        · exact ((Below.refl _ _).drew)
        · exact (fun h => by cases h)
      · refine stepsOk_cons (k := 0) ?_ (stepsOk_cons (k := 1) ?_ (stepsOk_cons (k := 2) ?_ (stepsOk_cons (k := 3) ?_ (stepsOk_cons (k := 4) ?_ (stepsOk_cons (k := 5) ?_ (stepsOk_cons (k := 6) ?_ (stepsOk_cons (k := 7) ?_ (stepsOk_cons (k := 8) ?_ (stepsOk_cons (k := 9) ?_ (stepsOk_cons (k := 10) ?_ stepsOk_nil))))))))))
        · unfold StepOk
          rintro d act x ⟨u48, u49, u50, u51, u52, u47, u53, u54, u10, u11, rfl, f0, f1, f2, f3, f4, f5, f6, f7, f8, f10, g0, g1⟩ hd hdep Kc hKc
          rw [if_pos (by rfl)]
          go_big_op
          refine hKc _ _ ⟨_, _, _, _, _, _, _, _, _, _, rfl, ?_, ?_, ?_, ?_, ?_, ?_, ?_, ?_, ?_, ?_, ?_, ?_⟩
          · exact (fun _ => rfl)
          · exact (fun h => f1 (up h rfl))
          · exact (fun h => f2 (up h rfl))
          · exact (fun h => f3 (up h rfl))
          · exact (fun h => f4 (up h rfl))
          · exact (fun h => f5 (up h rfl))
          · exact (fun h => f6 (up h rfl))
          · exact (fun h => f7 (up h rfl))
          · exact (fun h => by obtain ⟨b, e, hb, h1, h2⟩ := f8 (up h rfl); exact ⟨b, e, hb, fun h => (h1 (dn h)), fun h => (h2 (up h rfl))⟩)
          · exact (fun h => f10 (up h rfl))
          · exact g0
          · exact (fun h => upl (g1 (up h rfl)))
        · unfold StepOk
          rintro d act x ⟨u48, u49, u50, u51, u52, u47, u53, u54, u10, u11, rfl, f0, f1, f2, f3, f4, f5, f6, f7, f8, f10, g0, g1⟩ hd hdep Kc hKc
          have hd0 : d 0 = true := hdep ⟨0, .data⟩ (by simp) rfl
          obtain rfl := f0 hd0
          rw [if_pos (by rfl)]
          go_big_op
          refine (deskShelf db 1 0 1 0 E 0 0 0 K x (HP4.out.ext g0)).mono ?_
          rintro e x1 ⟨rfl, hb1⟩
          refine hKc _ _ ⟨_, _, _, _, _, _, _, _, _, _, rfl, ?_, ?_, ?_, ?_, ?_, ?_, ?_, ?_, ?_, ?_, ?_, ?_⟩
          · exact (fun h => f0 (up h rfl))
          · exact (fun _ => rfl)
          · exact (fun h => f2 (up h rfl))
          · exact (fun h => f3 (up h rfl))
          · exact (fun h => f4 (up h rfl))
          · exact (fun h => f5 (up h rfl))
          · exact (fun h => f6 (up h rfl))
          · exact (fun h => f7 (up h rfl))
          · exact (fun h => by obtain ⟨b, e, hb, h1, h2⟩ := f8 (up h rfl); exact ⟨b, e, hb, fun h => blk_ext hb1 (h1 (dn h)), fun h => blk_ext hb1 (h2 (up h rfl))⟩)
          · exact (fun h => f10 (up h rfl))
          · exact (ext_trans g0 hb1)
          · exact (fun h => upl (g1 (up h rfl)))
        · unfold StepOk
          rintro d act x ⟨u48, u49, u50, u51, u52, u47, u53, u54, u10, u11, rfl, f0, f1, f2, f3, f4, f5, f6, f7, f8, f10, g0, g1⟩ hd hdep Kc hKc
          rw [if_pos (by rfl)]
          go_big_op
          refine hKc _ _ ⟨_, _, _, _, _, _, _, _, _, _, rfl, ?_, ?_, ?_, ?_, ?_, ?_, ?_, ?_, ?_, ?_, ?_, ?_⟩
          · exact (fun h => f0 (up h rfl))
          · exact (fun h => f1 (up h rfl))
          · exact (fun _ => rfl)
          · exact (fun h => f3 (up h rfl))
          · exact (fun h => f4 (up h rfl))
          · exact (fun h => f5 (up h rfl))
          · exact (fun h => f6 (up h rfl))
          · exact (fun h => f7 (up h rfl))
          · exact (fun h => by obtain ⟨b, e, hb, h1, h2⟩ := f8 (up h rfl); exact ⟨b, e, hb, fun h => (h1 (dn h)), fun h => (h2 (up h rfl))⟩)
          · exact (fun h => f10 (up h rfl))
          · exact g0
          · exact (fun h => upl (g1 (up h rfl)))
        · unfold StepOk
          rintro d act x ⟨u48, u49, u50, u51, u52, u47, u53, u54, u10, u11, rfl, f0, f1, f2, f3, f4, f5, f6, f7, f8, f10, g0, g1⟩ hd hdep Kc hKc
          have hd2 : d 2 = true := hdep ⟨2, .data⟩ (by simp) rfl
          obtain rfl := f2 hd2
          have hx := blk_cell (blk_ext g0 HX4.out)
          have hxl := blk_lt (blk_ext g0 HX4.out)
          rw [if_pos (by rfl)]
          go_big_op
          refine hKc _ _ ⟨_, _, _, _, _, _, _, _, _, _, rfl, ?_, ?_, ?_, ?_, ?_, ?_, ?_, ?_, ?_, ?_, ?_, ?_⟩
          · exact (fun h => f0 (up h rfl))
          · exact (fun h => f1 (up h rfl))
          · exact (fun h => f2 (up h rfl))
          · exact (fun _ => rfl)
          · exact (fun h => f4 (up h rfl))
          · exact (fun h => f5 (up h rfl))
          · exact (fun h => f6 (up h rfl))
          · exact (fun h => f7 (up h rfl))
          · exact (fun h => by obtain ⟨b, e, hb, h1, h2⟩ := f8 (up h rfl); exact ⟨b, e, hb, fun h => (h1 (dn h)), fun h => (h2 (up h rfl))⟩)
          · exact (fun h => f10 (up h rfl))
          · exact g0
          · exact (fun h => upl (g1 (up h rfl)))
        · unfold StepOk
          rintro d act x ⟨u48, u49, u50, u51, u52, u47, u53, u54, u10, u11, rfl, f0, f1, f2, f3, f4, f5, f6, f7, f8, f10, g0, g1⟩ hd hdep Kc hKc
          have hd1 : d 1 = true := hdep ⟨1, .data⟩ (by simp) rfl
          have hd3 : d 3 = true := hdep ⟨3, .data⟩ (by simp) rfl
          have hd1 : d 1 = true := hdep ⟨1, .chain⟩ (by simp) rfl
          obtain rfl := f1 hd1
          obtain rfl := f3 hd3
          rw [if_pos (by rfl)]
          go_big_op
          refine (dkGetP db 1 0 1 0 E 0 0 0 K (y.a, y.i) x (HP4.out.ext g0) HAS.out (by have := HFEW.out; omega) e b HE.out HB9.out).mono ?_
          rintro e x1 ⟨rfl, hb1⟩
          refine hKc _ _ ⟨_, _, _, _, _, _, _, _, _, _, rfl, ?_, ?_, ?_, ?_, ?_, ?_, ?_, ?_, ?_, ?_, ?_, ?_⟩
          · exact (fun h => f0 (up h rfl))
          · exact (fun h => f1 (up h rfl))
          · exact (fun h => f2 (up h rfl))
          · exact (fun h => f3 (up h rfl))
          · exact (fun _ => rfl)
          · exact (fun h => f5 (up h rfl))
          · exact (fun h => f6 (up h rfl))
          · exact (fun h => f7 (up h rfl))
          · exact (fun h => by obtain ⟨b, e, hb, h1, h2⟩ := f8 (up h rfl); exact ⟨b, e, hb, fun h => blk_ext hb1 (h1 (dn h)), fun h => blk_ext hb1 (h2 (up h rfl))⟩)
          · exact (fun h => f10 (up h rfl))
          · exact (ext_trans g0 hb1)
          · exact (fun h => upl (g1 (up h rfl)))
        · unfold StepOk
          rintro d act x ⟨u48, u49, u50, u51, u52, u47, u53, u54, u10, u11, rfl, f0, f1, f2, f3, f4, f5, f6, f7, f8, f10, g0, g1⟩ hd hdep Kc hKc
          have hd4 : d 4 = true := hdep ⟨4, .data⟩ (by simp) rfl
          obtain rfl := f4 hd4
          rw [if_pos (by rfl)]
          go_big_op
          refine hKc _ _ ⟨_, _, _, _, _, _, _, _, _, _, rfl, ?_, ?_, ?_, ?_, ?_, ?_, ?_, ?_, ?_, ?_, ?_, ?_⟩
          · exact (fun h => f0 (up h rfl))
          · exact (fun h => f1 (up h rfl))
          · exact (fun h => f2 (up h rfl))
          · exact (fun h => f3 (up h rfl))
          · exact (fun h => f4 (up h rfl))
          · exact (fun _ => rfl)
          · exact (fun h => f6 (up h rfl))
          · exact (fun h => f7 (up h rfl))
          · exact (fun h => by obtain ⟨b, e, hb, h1, h2⟩ := f8 (up h rfl); exact ⟨b, e, hb, fun h => (h1 (dn h)), fun h => (h2 (up h rfl))⟩)
          · exact (fun h => f10 (up h rfl))
          · exact g0
          · exact (fun h => upl (g1 (up h rfl)))
        · unfold StepOk
          rintro d act x ⟨u48, u49, u50, u51, u52, u47, u53, u54, u10, u11, rfl, f0, f1, f2, f3, f4, f5, f6, f7, f8, f10, g0, g1⟩ hd hdep Kc hKc
          have hd5 : d 5 = true := hdep ⟨5, .data⟩ (by simp) rfl
          obtain rfl := f5 hd5
          rw [if_pos (by rfl)]
          go_big_op
          refine hKc _ _ ⟨_, _, _, _, _, _, _, _, _, _, rfl, ?_, ?_, ?_, ?_, ?_, ?_, ?_, ?_, ?_, ?_, ?_, ?_⟩
          · exact (fun h => f0 (up h rfl))
          · exact (fun h => f1 (up h rfl))
          · exact (fun h => f2 (up h rfl))
          · exact (fun h => f3 (up h rfl))
          · exact (fun h => f4 (up h rfl))
          · exact (fun h => f5 (up h rfl))
          · exact (fun _ => rfl)
          · exact (fun h => f7 (up h rfl))
          · exact (fun h => by obtain ⟨b, e, hb, h1, h2⟩ := f8 (up h rfl); exact ⟨b, e, hb, fun h => (h1 (dn h)), fun h => (h2 (up h rfl))⟩)
          · exact (fun h => f10 (up h rfl))
          · exact g0
          · exact (fun h => upl (g1 (up h rfl)))
        · unfold StepOk
          rintro d act x ⟨u48, u49, u50, u51, u52, u47, u53, u54, u10, u11, rfl, f0, f1, f2, f3, f4, f5, f6, f7, f8, f10, g0, g1⟩ hd hdep Kc hKc
          have hd5 : d 5 = true := hdep ⟨5, .data⟩ (by simp) rfl
          obtain rfl := f5 hd5
          rw [if_pos (by rfl)]
          go_big_op
          refine hKc _ _ ⟨_, _, _, _, _, _, _, _, _, _, rfl, ?_, ?_, ?_, ?_, ?_, ?_, ?_, ?_, ?_, ?_, ?_, ?_⟩
          · exact (fun h => f0 (up h rfl))
          · exact (fun h => f1 (up h rfl))
          · exact (fun h => f2 (up h rfl))
          · exact (fun h => f3 (up h rfl))
          · exact (fun h => f4 (up h rfl))
          · exact (fun h => f5 (up h rfl))
          · exact (fun h => f6 (up h rfl))
          · exact (fun _ => rfl)
          · exact (fun h => by obtain ⟨b, e, hb, h1, h2⟩ := f8 (up h rfl); exact ⟨b, e, hb, fun h => (h1 (dn h)), fun h => (h2 (up h rfl))⟩)
          · exact (fun h => f10 (up h rfl))
          · exact g0
          · exact (fun h => upl (g1 (up h rfl)))
        · unfold StepOk
          rintro d act x ⟨u48, u49, u50, u51, u52, u47, u53, u54, u10, u11, rfl, f0, f1, f2, f3, f4, f5, f6, f7, f8, f10, g0, g1⟩ hd hdep Kc hKc
          rw [if_pos (by rfl)]
          go_big_op
          refine hKc _ _ ⟨_, _, _, _, _, _, _, _, _, _, rfl, ?_, ?_, ?_, ?_, ?_, ?_, ?_, ?_, ?_, ?_, ?_, ?_⟩
          · exact (fun h => f0 (up h rfl))
          · exact (fun h => f1 (up h rfl))
          · exact (fun h => f2 (up h rfl))
          · exact (fun h => f3 (up h rfl))
          · exact (fun h => f4 (up h rfl))
          · exact (fun h => f5 (up h rfl))
          · exact (fun h => f6 (up h rfl))
          · exact (fun h => f7 (up h rfl))
          · exact (fun _ => ⟨_, rfl, g0.size, fun _ => blk_new _ _ _, fun h => absurd (g1 (up h rfl)) (by rw [hd]; simp)⟩)
          · exact (fun h => f10 (up h rfl))
          · exact (g0.alloc g0.size _)
          · exact (fun h => upl (g1 (up h rfl)))
        · unfold StepOk
          rintro d act x ⟨u48, u49, u50, u51, u52, u47, u53, u54, u10, u11, rfl, f0, f1, f2, f3, f4, f5, f6, f7, f8, f10, g0, g1⟩ hd hdep Kc hKc
          have hd8 : d 8 = true := hdep ⟨8, .data⟩ (by simp) rfl
          have hd6 : d 6 = true := hdep ⟨6, .data⟩ (by simp) rfl
          have hd6 : d 6 = true := hdep ⟨6, .phase⟩ (by simp) rfl
          have hd8 : d 8 = true := hdep ⟨8, .phase⟩ (by simp) rfl
          obtain ⟨nb, rfl, hnb, hz, hf⟩ := f8 hd8
          obtain rfl := f6 hd6
          have HZ := hz hd
          have hbc := blk_cell HZ
          have hbf := blk_free HZ
          have hbl := blk_lt HZ
          rw [if_pos (by rfl)]
          go_big_op
          have HFF := blk_fill10 (v0 := .string e.c.a) (v1 := .string e.c.i) (v2 := .int .i64 e.c.s) (v3 := .int .i64 e.c.o) (v4 := .int .i64 e.c.l) (v5 := .int .i64 e.c.t) (v6 := .int .i64 e.c.k) (v7 := .int .i64 e.c.n) (v8 := .bool e.c.g) (v9 := .int .i64 e.seen) HZ rfl
          have HBB := below_fill10 (v0 := .string e.c.a) (v1 := .string e.c.i) (v2 := .int .i64 e.c.s) (v3 := .int .i64 e.c.o) (v4 := .int .i64 e.c.l) (v5 := .int .i64 e.c.t) (v6 := .int .i64 e.c.k) (v7 := .int .i64 e.c.n) (v8 := .bool e.c.g) (v9 := .int .i64 e.seen) g0 hnb
          refine hKc _ _ ⟨_, _, _, _, _, _, _, _, _, _, rfl, ?_, ?_, ?_, ?_, ?_, ?_, ?_, ?_, ?_, ?_, ?_, ?_⟩
          · exact (fun h => f0 (up h rfl))
          · exact (fun h => f1 (up h rfl))
          · exact (fun h => f2 (up h rfl))
          · exact (fun h => f3 (up h rfl))
          · exact (fun h => f4 (up h rfl))
          · exact (fun h => f5 (up h rfl))
          · exact (fun h => f6 (up h rfl))
          · exact (fun h => f7 (up h rfl))
          · exact (fun h => ⟨nb, rfl, hnb, fun h => by simp at h, fun _ => HFF⟩)
          · exact (fun h => f10 (up h rfl))
          · exact HBB
          · exact (fun h => upl hd8)
        · unfold StepOk
          rintro d act x ⟨u48, u49, u50, u51, u52, u47, u53, u54, u10, u11, rfl, f0, f1, f2, f3, f4, f5, f6, f7, f8, f10, g0, g1⟩ hd hdep Kc hKc
          have hd7 : d 7 = true := hdep ⟨7, .data⟩ (by simp) rfl
          have hd7 : d 7 = true := hdep ⟨7, .phase⟩ (by simp) rfl
          obtain rfl := f7 hd7
          rw [if_pos (by rfl)]
          go_big_op
          refine hKc _ _ ⟨_, _, _, _, _, _, _, _, _, _, rfl, ?_, ?_, ?_, ?_, ?_, ?_, ?_, ?_, ?_, ?_, ?_, ?_⟩
          · exact (fun h => f0 (up h rfl))
          · exact (fun h => f1 (up h rfl))
          · exact (fun h => f2 (up h rfl))
          · exact (fun h => f3 (up h rfl))
          · exact (fun h => f4 (up h rfl))
          · exact (fun h => f5 (up h rfl))
          · exact (fun h => f6 (up h rfl))
          · exact (fun h => f7 (up h rfl))
          · exact (fun h => by obtain ⟨b, e, hb, h1, h2⟩ := f8 (up h rfl); exact ⟨b, e, hb, fun h => (h1 (dn h)), fun h => (h2 (up h rfl))⟩)
          · exact (fun _ => rfl)
          · exact g0
          · exact (fun h => upl (g1 (up h rfl)))
      · rintro d act x ⟨u48, u49, u50, u51, u52, u47, u53, u54, u10, u11, rfl, f0, f1, f2, f3, f4, f5, f6, f7, f8, f10, g0, g1⟩ hall
        obtain rfl := f0 (hall 0 (by decide))
        obtain rfl := f1 (hall 1 (by decide))
        obtain rfl := f2 (hall 2 (by decide))
        obtain rfl := f3 (hall 3 (by decide))
        obtain rfl := f4 (hall 4 (by decide))
        obtain rfl := f5 (hall 5 (by decide))
        obtain rfl := f6 (hall 6 (by decide))
        obtain rfl := f7 (hall 7 (by decide))
        obtain ⟨nb, rfl, hnb, hz, hf⟩ := f8 (hall 8 (by decide))
        obtain rfl := f10 (hall 10 (by decide))
        have HNB := Lib.hid (hf (hall 9 (by decide)))
        have HWB := Lib.hid g0
        have HNL := Lib.hid hnb
        clear f0 f1 f2 f3 f4 f5 f6 f7 f8 f10 g1 hz hf hall g0 hnb
        obtain ⟨w5, rfl⟩ : ∃ y : World, y = x := ⟨_, rfl⟩
        obtain ⟨q1, rfl⟩ : ∃ y : Nat, y = nb := ⟨_, rfl⟩
        clear d
        have HQ5 := Lib.hid HNB.out
        have HX5 := Lib.hid (blk_ext HWB.out HX4.out)
        have HB5 := Lib.hid (ext_trans HB4.out HWB.out)
        clear HNB HWB HNL HX4 HP4 HB4
        have hin : b = true := by
          obtain ⟨z, hz, e1, e2⟩ := HDOM.out.has y HMEM.out
          rw [← HW.out] at hz
          obtain ⟨x, hx, rfl⟩ := List.mem_map.1 hz
          have h9 := (isIn_of HAS.out hx).1
          rw [show enK x = (y.a, y.i) from Prod.ext e1 e2] at h9
          rw [← HB9.out]; exact h9
        subst hin
        have HTB := Lib.hid (show ltC e.c y = false from by
          have h8 := ge_yes HB9.out
          rw [HE.out] at h8
          have h7 : e ∈ E := List.mem_of_getElem? h8.1
          exact HDOM.out.top e.c (by rw [← HW.out]; exact List.mem_map.2 ⟨e, h7, rfl⟩) y HMEM.out (congrArg Prod.fst h8.2).symm (congrArg Prod.snd h8.2).symm)
        have hxc := blk_cell HX5.out
        have hxl := blk_lt HX5.out
        have hqc := blk_cell HQ5.out
        have hql := blk_lt HQ5.out
        go_wp2_with fail
        refine (refLessC e.c y false w5 HTB.out).mono ?_
        rintro r w6 ⟨rfl, hb6⟩
        have HB6 := Lib.hid (ext_trans HB5.out hb6)
        clear hb6 hxc hxl hqc hql HX5 HQ5 HB5
        go_wp2
        go_roundw
        case rel => exact ⟨J + 1, by omega, by go_num, HB6.out⟩
        case measure => simp [intOf]; omega
    · have hdJ : decide ((J : Int) < (n : Int)) = false := by simp; omega
      have HPd := Lib.hid (HPc.out.ext hb9)
      have HBd := Lib.hid (ext_trans HBc.out hb9)
      have HAd := Lib.hid (HAc.out.ext hb9)
      clear hb9 HPc HBc HLc HAc
      obtain ⟨gs, hag, hgs⟩ := again (now := 9) (ks := K) HAS.out (fun x hx => by
        have h1 := HDOM.out.sub x.c (by rw [← HW.out]; exact List.mem_map.2 ⟨x, hx, rfl⟩)
        have h2 := (HCF.out x.c h1).2.1.nm.1
        omega) W E rfl (fun c hc => by rw [← HW.out] at hc; obtain ⟨x, hx, e⟩ := List.mem_map.1 hc; exact ⟨x, hx, e⟩)
      go_wp2_with fail
      refine (mergeInto db 1 0 1 0 E 0 0 0 K wa m wc W 9 w9 HPd.out HAS.out (by have := HFEW.out; omega) HAd.out HM.out (by omega) (fun x hx => .inl (HCF.out x (HDOM.out.sub x hx)).r) (by have := HKS.out; omega) (by decide) (by decide)).mono ?_
      rintro r x1 ⟨v1, rfl, ho1, hp1, hr1⟩
      rw [hag] at ho1 hp1 ⊢
      obtain ⟨oa, oc, rfl, -, -, -⟩ := OwnR.form ho1
      simp only [] at hp1 ho1
      rw [HW.out] at hgs
      have HGS := Lib.hid hgs
      have hgl : gs.length ≤ 900 := by
        have h9 := congrArg List.length hgs
        rw [List.length_map, HM.out] at h9
        omega
      have HP1 := Lib.hid hp1
      have HB1 := Lib.hid (HBd.out.trans (hr1.below HDB.out HBd.out.size))
      have HA1 := Lib.hid (show CAt x1 wa W from HAd.out.keep fun b cur hc _ => HPd.out.other hr1 hc (by decide))
      have hz0 : (([] : List Cd).length : Int) = 0 := rfl
      clear ho1 hp1 hr1 hag hgs HPd HBd HAd
      go_wp2_with fail
      refine (deskRecent db 1 0 1 0 gs 0 0 0 K x1 HP1.out).mono ?_
      rintro r x2 ⟨rfl, hb⟩
      have HP2 := Lib.hid (HP1.out.ext hb)
      have HB2 := Lib.hid (ext_trans HB1.out hb)
      have HA2 := Lib.hid (HA1.out.ext hb)
      clear HP1 HB1 HA1 hb
      go_wp2_with fail
      refine (deskSeq db 1 0 1 0 gs 0 0 0 K x2 HP2.out).mono ?_
      rintro r x3 ⟨rfl, hb⟩
      rw [HSQ.out]
      have HP3 := Lib.hid (HP2.out.ext hb)
      have HB3 := Lib.hid (ext_trans HB2.out hb)
      have HA3 := Lib.hid (HA2.out.ext hb)
      clear HP2 HB2 HA2 hb
      go_wp2_with fail
      refine (deskShelf db 1 0 1 0 gs 0 0 0 K x3 HP3.out).mono ?_
      rintro r x4 ⟨rfl, hb⟩
      have HP4 := Lib.hid (HP3.out.ext hb)
      have HB4 := Lib.hid (ext_trans HB3.out hb)
      have HA4 := Lib.hid (HA3.out.ext hb)
      clear HP3 HB3 HA3 hb
      go_wp2_with fail
      refine (deskCards db 1 0 1 0 gs 0 0 0 K x4 HP4.out hgl).mono ?_
      rintro r x5 ⟨vc, rfl, hoc, hb⟩
      rw [HGS.out] at hoc
      obtain ⟨ca, cc9, rfl, hcc, hcm, hcat, -, -⟩ := OwnC.read hoc
      rw [HM.out] at hcc ⊢
      have HCA := Lib.hid hcat
      clear hoc hcat
      have HP5 := Lib.hid (HP4.out.ext hb)
      have HB5 := Lib.hid (ext_trans HB4.out hb)
      have HA5 := Lib.hid (HA4.out.ext hb)
      clear HP4 HB4 HA4 hb
      go_wp2_with fail
      refine (same5 ca wa m cc9 wc W x5 HCA.out HA5.out HM.out hcc hwc hcm hwm).mono ?_
      rintro r x6 ⟨rfl, hb⟩
      clear HCA
      have HP6 := Lib.hid (HP5.out.ext hb)
      have HB6 := Lib.hid (ext_trans HB5.out hb)
      have HA6 := Lib.hid (HA5.out.ext hb)
      clear HP5 HB5 HA5 hb
      have D7 := (Below.refl x6.heap.size x6).alloc (Nat.le_refl _) (.cells #[.slice wa m wc, .slice wa m wc] 27)
      have HJ7 := Lib.hid (show RwsAt (x6.alloc (.cells #[.slice wa m wc, .slice wa m wc] 27)) (some ⟨x6.heap.size, 0, none⟩) [⟨wa, m, wc, W⟩, ⟨wa, m, wc, W⟩] from ⟨.inr ⟨_, 0, rfl, ⟨_, blk_new x6 #[.slice wa m wc, .slice wa m wc] 27⟩, fun q u hq => by rw [Nat.zero_add, blk_cell (blk_new x6 #[.slice wa m wc, .slice wa m wc] 27)]; simpa [flat, rwE] using hq⟩, fun r hr => by
        have hr9 : r = ⟨wa, m, wc, W⟩ := by simpa using hr
        subst hr9
        exact ⟨HM.out, hwc, hwm, HWF.out, HA6.out.ext D7⟩⟩)
      have HP7 := Lib.hid (HP6.out.ext D7)
      have HB7 := Lib.hid (ext_trans HB6.out D7)
      have HA7 := Lib.hid (HA6.out.ext D7)
      clear D7 HP6 HB6 HA6
      go_wp2_with fail
      refine (mergeJoin (some ⟨x6.heap.size, 0, none⟩) 2 2 [⟨wa, m, wc, W⟩, ⟨wa, m, wc, W⟩] (W ++ W) _ HJ7.out rfl (by decide) (by simp [alls]) (by rw [List.length_append, HM.out]; omega)).mono ?_
      rintro r u1 ⟨vj, rfl, hoj, hbj⟩
      rw [join_self HDOM.out.asc] at hoj
      obtain ⟨ja, jc, rfl, hjc, hjm, hjat, -, -⟩ := OwnC.read hoj
      rw [HM.out] at hjc ⊢
      have HJA := Lib.hid hjat
      have HA8 := Lib.hid (HA7.out.ext hbj)
      have HB8 := Lib.hid (ext_trans HB7.out hbj)
      clear hoj hjat hbj HJ7 HP7 HB7 HA7
      go_wp2_with fail
      refine (same5 ja wa m jc wc W u1 HJA.out HA8.out HM.out hjc hwc hjm hwm).mono ?_
      rintro r u2 ⟨rfl, hb⟩
      have HB9 := Lib.hid (ext_trans HB8.out hb)
      clear hb HJA HA8 HB8
      go_wp2_with fail
      refine (law19known u2).mono ?_
      rintro r u3 ⟨rfl, hb⟩
      have HBA := Lib.hid (ext_trans HB9.out hb)
      clear hb HB9
      go_wp2
      go_ret
      exact ⟨rfl, HBA.out⟩
end Go.Proofs.Ytkhmaaalmlnblaa
