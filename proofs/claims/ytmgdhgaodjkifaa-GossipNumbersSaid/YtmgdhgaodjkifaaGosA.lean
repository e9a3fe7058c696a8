/- Package gossip's walks: the cards of some keys. -/
import Derived.Test.YtmgdhgaodjkifaaMapK
namespace Go.Proofs.Ytmgdhgaodjkifaa
open Go.RowKit
set_option linter.unusedVariables false
set_option linter.unusedSimpArgs false

/-- a card whose texts are short -/
def CdS (c : Cd) : Prop := c.a.size ≤ 1000 ∧ c.i.size ≤ 1000

theorem CdOk.s {c : Cd} (h : CdOk c) : CdS c := ⟨by have := h.1; omega, by have := h.2.1; omega⟩

/-- a card's key -/
abbrev kyc (c : Cd) : Ky := (c.a, c.i)
noncomputable def lastS (p : (Ky → Option Int) × Nat) (c : Cd) : (Ky → Option Int) × Nat := (fput p.1 (kyc c) (p.2 : Int), p.2 + 1)
/-- of each key the last one's place -/
noncomputable def lastU (ls : List Cd) : Ky → Option Int := (ls.foldl lastS (fun _ => none, 0)).1
theorem lastS_snd (ls : List Cd) : ∀ p, (ls.foldl lastS p).2 = p.2 + ls.length := by
  induction ls with
  | nil => intro p; rfl
  | cons x xs ih => intro p; simp only [List.foldl_cons]; rw [ih]; simp only [lastS, List.length_cons]; omega
theorem lastU_snoc (ls : List Cd) (x : Cd) : lastU (ls ++ [x]) = fput (lastU ls) (kyc x) (ls.length : Int) := by
  unfold lastU
  rw [List.foldl_append]
  simp only [List.foldl_cons, List.foldl_nil, lastS]
  rw [lastS_snd]
  simp
theorem lastU_spec (ls : List Cd) (k : Ky) (v : Int) (h : lastU ls k = some v) : ∃ (I : Nat) (x : Cd), v = (I : Int) ∧ ls[I]? = some x ∧ kyc x = k := by
  have key : ∀ n (ls : List Cd), ls.length = n → ∀ v, lastU ls k = some v → ∃ (I : Nat) (x : Cd), v = (I : Int) ∧ ls[I]? = some x ∧ kyc x = k := by
    intro n
    induction n with
    | zero => intro ls h v hv; rw [List.eq_nil_of_length_eq_zero h] at hv; cases hv
    | succ n ih =>
      intro ls h v hv
      rcases List.eq_nil_or_concat ls with rfl | ⟨o, x, rfl⟩
      · simp at h
      · rw [List.concat_eq_append] at h hv ⊢
        rw [lastU_snoc] at hv
        unfold fput at hv
        by_cases e : k = kyc x
        · rw [if_pos e] at hv
          exact ⟨o.length, x, by simpa using hv.symm, by simp, e.symm⟩
        · rw [if_neg e] at hv
          obtain ⟨I, y, h1, h2, h3⟩ := ih o (by simpa using h) v hv
          refine ⟨I, y, h1, ?_, h3⟩
          have hlt : I < o.length := by
            rcases Nat.lt_or_ge I o.length with h' | h'
            · exact h'
            · rw [List.getElem?_eq_none h'] at h2; cases h2
          rw [List.getElem?_append_left hlt]; exact h2
  exact key _ ls rfl v h
noncomputable def look (mine : List Cd) (k : Ky) : Option Cd := (lastU mine k).bind fun v => mine[v.toNat]?
open Classical in
noncomputable def ansS (mine : List Cd) (p : List Ky × List Cd) (k : Ky) : List Ky × List Cd := (p.1 ++ [k], if k ∈ p.1 then p.2 else p.2 ++ (look mine k).toList)
/-- the cards of keys, each once -/
noncomputable def ansL (mine : List Cd) (ks : List Ky) : List Cd := (ks.foldl (ansS mine) ([], [])).2
theorem ansS_fst (mine : List Cd) (ks : List Ky) : ∀ p, (ks.foldl (ansS mine) p).1 = p.1 ++ ks := by
  induction ks with
  | nil => intro p; simp
  | cons x xs ih => intro p; simp only [List.foldl_cons]; rw [ih]; simp [ansS]
open Classical in
theorem ansL_snoc (mine : List Cd) (ks : List Ky) (k : Ky) : ansL mine (ks ++ [k]) = if k ∈ ks then ansL mine ks else ansL mine ks ++ (look mine k).toList := by
  unfold ansL
  rw [List.foldl_append]
  simp only [List.foldl_cons, List.foldl_nil, ansS]
  rw [ansS_fst]
  simp
theorem ansL_len (mine : List Cd) (ks : List Ky) : (ansL mine ks).length ≤ ks.length := by
  have key : ∀ n (ks : List Ky), ks.length = n → (ansL mine ks).length ≤ n := by
    intro n
    induction n with
    | zero => intro ks h; rw [List.eq_nil_of_length_eq_zero h]; exact Nat.le_refl 0
    | succ n ih =>
      intro ks h
      rcases List.eq_nil_or_concat ks with rfl | ⟨o, x, rfl⟩
      · simp at h
      · rw [List.concat_eq_append] at h ⊢
        have h1 := ih o (by simpa using h)
        rw [ansL_snoc]
        split
        · omega
        · rw [List.length_append]
          have : (look mine x).toList.length ≤ 1 := by cases look mine x <;> simp
          omega
  exact key _ ks rfl
open Classical in
/-- what is still there behind some keys -/
noncomputable def leftF (mine : List Cd) (ks : List Ky) : Ky → Option Int := fun q => if q ∈ ks then none else lastU mine q
theorem leftF_nil (mine : List Cd) : leftF mine [] = lastU mine := by funext q; simp [leftF]
theorem leftF_del (mine : List Cd) (ks : List Ky) (k : Ky) : fdel (leftF mine ks) k = leftF mine (ks ++ [k]) := by
  funext q
  unfold fdel leftF
  by_cases h1 : q = k
  · simp [h1]
  · by_cases h2 : q ∈ ks
    · simp [h2]
    · simp [h1, h2]
theorem leftF_same (mine : List Cd) (ks : List Ky) (k : Ky) (h : leftF mine ks k = none) : leftF mine (ks ++ [k]) = leftF mine ks := by
  funext q
  unfold leftF at *
  by_cases h1 : q = k
  · subst h1
    by_cases h2 : q ∈ ks
    · simp [h2]
    · rw [if_neg h2] at h; simp [h2, h]
  · by_cases h2 : q ∈ ks
    · simp [h2]
    · simp [h1, h2]
theorem own_off {base size n : Nat} {T : TypeId} {v : Value} {xs : List Value} {w w' : World} {b m : Nat} {f : Ky → Option Int} (ho : w.ownsRow base T size v n xs) (hm : MpI w b m f) (hg : w.grownBy w' (some b)) : w'.ownsRow base T size v n xs :=
  own_blocks ho (fun k cur hc => hg.block k (blk_lt hc) (fun e => hm.ne hc (by simpa using e)))

set_option maxRecDepth 100000 in
set_option maxHeartbeats 4000000 in
theorem gAnswer (a : Option Addr) (n c : Nat) (mine : List Cd) (ka : Option Addr) (m kc : Nat) (ks : List Ky) (w : World) (h : CAt w a mine) (hl : mine.length = n) (hn : n ≤ 1000) (hnc : n ≤ c) (hs : ∀ x ∈ mine, CdS x) (kh : KyAt w ka ks) (kl : ks.length = m) (km : m ≤ 1000) (hks : ∀ k ∈ ks, KyS k) :
    Calls Try.prog 15 #[.slice a n c, .slice ka m kc] w fun e w' => ∃ v', e = .returned v' ∧ OwnC w.heap.size w' v' (ansL mine ks) ∧ Below w.heap.size w w' := by
  obtain ⟨i0, hi, hz0, hz1, hz2⟩ := info_parts' info_card
  have hmm := @run_makeMap Try.prog
  have D0 : Below w.heap.size w (w.alloc (.map #[] 0)) := (Below.refl _ _).alloc (Nat.le_refl _) _
  have HM0 := Lib.hid (MpI.made w)
  have HB0 := Lib.hid D0
  have HA := Lib.hid h
  have HN := Lib.hid hl
  have HS := Lib.hid hs
  have HKA := Lib.hid kh
  have HKN := Lib.hid kl
  have HKS := Lib.hid hks
  clear h hl hs kh kl hks D0
  go_enter Try.func15, Try.ntmps15
  go_upto_region 2 with (fail)
  obtain ⟨b0, hb0⟩ : ∃ r, w.heap.size = r := ⟨_, rfl⟩
  have HBB := Lib.hid (show w.heap.size ≤ b0 by omega)
  rw [hb0] at HM0 ⊢
  clear hb0 hmm
  generalize (w.alloc (.map #[] 0)) = w0 at *
  go_wp2_with fail
  go_loopw [16] (fun j wr => ∃ J : Nat, J ≤ n ∧ j = .int .i64 (J : Int) ∧ MpI wr b0 J (lastU (mine.take J)) ∧ Below w.heap.size w wr) (fun j _ => n - (intOf j).toNat)
  case atStart => exact ⟨0, by omega, rfl, HM0.out, HB0.out⟩
  case round =>
    obtain ⟨w2, rfl⟩ : ∃ y : World, y = wr := ⟨_, rfl⟩
    obtain ⟨J, hJ, rfl, hm2, hb2⟩ := hrel
    by_cases hlt : J < n
    · obtain ⟨x, hx⟩ : ∃ x, mine[J]? = some x := ⟨_, List.getElem?_eq_getElem (by have := HN.out; omega)⟩
      have HST := Lib.hid (show lastU (mine.take (J + 1)) = fput (lastU (mine.take J)) (kyc x) (J : Int) from by rw [List.take_add_one, hx]; show lastU (mine.take J ++ [x]) = _; rw [lastU_snoc, List.length_take, Nat.min_eq_left (by have := HN.out; omega)])
      have HXS := Lib.hid (HS.out x (List.mem_of_getElem? hx))
      obtain ⟨b, o, rfl⟩ : ∃ b o, a = some ⟨b, o, none⟩ := by
        rcases HA.out with h | ⟨b, o, e, _⟩
        · rw [h] at hx; simp at hx
        · exact ⟨b, o, e⟩
      obtain ⟨x0, x1, x2, x3, x4, x5, x6, x7, x8⟩ := (HA.out.ext hb2).at hx
      have D0 : Below w2.heap.size w2 (w2.alloc (.cells #[.string x.a, .string x.i, .int .i64 x.s, .int .i64 x.o, .int .i64 x.l, .int .i64 x.t, .int .i64 x.k, .int .i64 x.n, .bool x.g] 36)) := (Below.refl _ _).alloc (Nat.le_refl _) _
      have HX := Lib.hid (blk_new w2 #[.string x.a, .string x.i, .int .i64 x.s, .int .i64 x.o, .int .i64 x.l, .int .i64 x.t, .int .i64 x.k, .int .i64 x.n, .bool x.g] 36)
      have HM4 := Lib.hid (hm2.ext D0)
      have HB4 := Lib.hid (ext_trans hb2 D0)
      clear hm2 hb2 hx D0
      go_upto_region 5 with (fail)
      obtain ⟨r, hr⟩ : ∃ r, w2.heap.size = r := ⟨_, rfl⟩
      rw [hr] at HX ⊢
      clear hr
      generalize (w2.alloc (.cells #[.string x.a, .string x.i, .int .i64 x.s, .int .i64 x.o, .int .i64 x.l, .int .i64 x.t, .int .i64 x.k, .int .i64 x.n, .bool x.g] 36)) = w4 at *
      clear x0 x1 x2 x3 x4 x5 x6 x7 x8
      have hk4 := blk_cell HX.out
      have hl4 := blk_lt HX.out
      have hjw : (Lit.int .i64 (J : Int)).wf = true := WalkArith.wf_i64 (by omega)
      have HJW := Lib.hid hjw
      clear hjw
      go_wp2_with (at_mapUpdate; refine wpMapStore _ rfl _ _ _ rfl b0 J _ rfl HM4.out (by unfold maxLen; omega) (kyc x) (J : Int) rfl rfl HXS.out HJW.out ?_; intro w5 hm5 hg5)
      have HM5 := Lib.hid hm5
      have HB5 := Lib.hid (HB4.out.grown hg5 HB4.out.size (fun q hq => by cases hq; exact HBB.out))
      clear hm5 hg5 hk4 hl4 HX HM4 HB4
      go_wp2
      go_roundw
      case rel => exact ⟨J + 1, by omega, by go_num, by rw [HST.out]; exact HM5.out, HB5.out⟩
      case measure => simp [intOf]; omega
    · obtain rfl : n = J := by omega
      have HM2 := Lib.hid (show MpI w2 b0 n (leftF mine []) from by rw [leftF_nil]; have := hm2; rw [List.take_of_length_le (by have := HN.out; omega)] at this; exact this)
      have HB2 := Lib.hid hb2
      clear hm2 hb2 HM0 HB0
      obtain ⟨w3, rfl⟩ : ∃ y : World, y = w2 := ⟨_, rfl⟩
      have HBL := Lib.hid (HM2.out.lt)
      go_wp2_with fail
      go_loopw [8, 28] (fun o j wr => ∃ J : Nat, J ≤ m ∧ j = .int .i64 (J : Int) ∧ OwnC w3.heap.size wr o (ansL mine (ks.take J)) ∧ MpI wr b0 n (leftF mine (ks.take J)) ∧ Below w.heap.size w wr ∧ w3.heap.size ≤ wr.heap.size) (fun o j _ => m - (intOf j).toNat)
      case atStart => exact ⟨0, by omega, rfl, OwnR.nil _ _, HM2.out, HB2.out, Nat.le_refl _⟩
      case round =>
        obtain ⟨w2, rfl⟩ : ∃ y : World, y = wr := ⟨_, rfl⟩
        obtain ⟨J, hJ, rfl, ho2, hm2, hb2, hz2⟩ := hrel
        obtain ⟨ga, gc, rfl, hgc, hgm, hgat, hgb, hgf⟩ := ho2.read
        obtain ⟨S, hS⟩ : ∃ S, ansL mine (ks.take J) = S := ⟨_, rfl⟩
        rw [hS] at ho2 hgc ⊢
        obtain ⟨p, hp⟩ : ∃ p, S.length = p := ⟨_, rfl⟩
        have hp1 : p ≤ 1000 := by rw [← hp, ← hS]; have := ansL_len mine (ks.take J); rw [List.length_take] at this; omega
        have HM := Lib.hid hp
        rw [hp] at hgc ⊢
        by_cases hlt : J < m
        · obtain ⟨k, hk⟩ : ∃ k, ks[J]? = some k := ⟨_, List.getElem?_eq_getElem (by have := HKN.out; omega)⟩
          have HST := Lib.hid (show ansL mine (ks.take (J + 1)) = ansL mine (ks.take J ++ [k]) from by rw [List.take_add_one, hk]; rfl)
          have HLT := Lib.hid (show leftF mine (ks.take (J + 1)) = leftF mine (ks.take J ++ [k]) from by rw [List.take_add_one, hk]; rfl)
          have HXS := Lib.hid (HKS.out k (List.mem_of_getElem? hk))
          obtain ⟨b, o, rfl⟩ : ∃ b o, ka = some ⟨b, o, none⟩ := by
            rcases HKA.out with h | ⟨b, o, e, _⟩
            · rw [h] at hk; simp at hk
            · exact ⟨b, o, e⟩
          obtain ⟨x0, x1⟩ := KyAt.at (HKA.out.ext hb2) hk
          have D0 : Below w2.heap.size w2 (w2.alloc (.cells #[.string k.1, .string k.2] 32)) := (Below.refl _ _).alloc (Nat.le_refl _) _
          have HX := Lib.hid (blk_new w2 #[.string k.1, .string k.2] 32)
          have HO4 := Lib.hid (show OwnC w3.heap.size (w2.alloc (.cells #[.string k.1, .string k.2] 32)) (.slice ga p gc) S from by have := OwnR.ext ho2 D0; rw [hp] at this; exact this)
          have HM4 := Lib.hid (hm2.ext D0)
          have HB4 := Lib.hid (ext_trans hb2 D0)
          have HZ4 := Lib.hid (Nat.le_trans hz2 D0.size)
          have HSS := Lib.hid hS
          unfold maxLen at hgm
          clear ho2 hm2 hb2 hz2 hk hS hp D0 hgat hgb hgf
          go_upto_region 11 with (fail)
          obtain ⟨r, hr⟩ : ∃ r, w2.heap.size = r := ⟨_, rfl⟩
          rw [hr] at HX ⊢
          clear hr
          generalize (w2.alloc (.cells #[.string k.1, .string k.2] 32)) = w5 at *
          clear x0 x1
          have hk5 := blk_cell HX.out
          have hl5 := blk_lt HX.out
          have Z5 := HB4.out.size
          have Z3 := HZ4.out
          obtain ⟨fk, hfk⟩ : ∃ fk, leftF mine (ks.take J) k = fk := ⟨_, rfl⟩
          have HFK := Lib.hid hfk
          clear hfk
          cases fk with
          | none =>
            have HLT' := Lib.hid (HLT.out.trans (leftF_same mine _ k HFK.out))
            have HSE := Lib.hid (show ansL mine (ks.take (J + 1)) = S from by
              rw [HST.out, ansL_snoc]
              by_cases hmem : k ∈ ks.take J
              · rw [if_pos hmem]; exact HSS.out
              · rw [if_neg hmem]
                have hlk : look mine k = none := by
                  have h1 := HFK.out
                  unfold leftF at h1
                  rw [if_neg hmem] at h1
                  unfold look
                  rw [h1]; rfl
                rw [hlk]; simpa using HSS.out)
            go_wp2_with (at_lookup; refine wpMapLook _ rfl _ _ rfl b0 n _ rfl HM4.out k rfl HXS.out ?_; rw [HFK.out]; simp only [Option.getD_none, Option.isSome_none])
            go_roundw
            case rel => exact ⟨J + 1, by omega, by go_num, by rw [HSE.out]; exact HO4.out, by rw [HLT'.out]; exact HM4.out, HB4.out, HZ4.out⟩
            case measure => simp [intOf]; omega
          | some v =>
            have hlu : lastU mine k = some v ∧ k ∉ ks.take J := by
              have h1 := HFK.out
              unfold leftF at h1
              by_cases hmem : k ∈ ks.take J
              · rw [if_pos hmem] at h1; cases h1
              · rw [if_neg hmem] at h1; exact ⟨h1, hmem⟩
            obtain ⟨I, x, rfl, hx, hkx⟩ := lastU_spec mine k v hlu.1
            have hIn : I < n := by
              have := HN.out
              rcases Nat.lt_or_ge I mine.length with h' | h'
              · omega
              · rw [List.getElem?_eq_none h'] at hx; cases hx
            have HSE := Lib.hid (show ansL mine (ks.take (J + 1)) = S ++ [x] from by
              rw [HST.out, ansL_snoc, if_neg hlu.2, HSS.out]
              have hlk : look mine k = some x := by
                unfold look
                rw [hlu.1]
                simpa using hx
              rw [hlk]; rfl)
            obtain ⟨b1, o1, rfl⟩ : ∃ b o, a = some ⟨b, o, none⟩ := by
              rcases HA.out with h | ⟨b, o, e, _⟩
              · rw [h] at hx; simp at hx
              · exact ⟨b, o, e⟩
            obtain ⟨y0, y1, y2, y3, y4, y5, y6, y7, y8⟩ := (HA.out.ext HB4.out).at hx
            have HO5 := HO4
            clear hx hkx hlu
            have HO5' := Lib.hid (show w5.ownsRow w3.heap.size 36 9 (.slice ga p gc) p (flat cc S) from by have := HO5.out; unfold OwnC OwnR at this; rw [HM.out] at this; exact this)
            go_wp2_with (first | (at_lookup; refine wpMapLook _ rfl _ _ rfl b0 n _ rfl HM4.out k rfl HXS.out ?_; rw [HFK.out]; simp only [Option.getD_some, Option.isSome_some]) | (at_builtin; refine wpList_append_own _ rfl _ _ 27 rfl (w3.heap.size) 36 i0 Cd.zero.v 9 88 Try.underlying27 hi hz0 hz1 hz2 rfl (by decide) _ p (flat cc S) rfl (HO5'.out.alloc (.cells #[.string x.a, .string x.i, .int .i64 x.s, .int .i64 x.o, .int .i64 x.l, .int .i64 x.t, .int .i64 x.k, .int .i64 x.n, .bool x.g] 36)) ⟨w5.heap.size, 0, none⟩ 1 1 (cc x) rfl rfl ?c1 ?c2 ?c3 ?c4 ?c5 ?_))
            case c1 =>
              intro j u hj
              rw [add_off, Nat.zero_add, blk_cell (blk_new w5 #[.string x.a, .string x.i, .int .i64 x.s, .int .i64 x.o, .int .i64 x.l, .int .i64 x.t, .int .i64 x.k, .int .i64 x.n, .bool x.g] 36)]
              simpa [cc] using hj
            case c2 => exact cc_one x
            case c3 => unfold maxLen; omega
            case c4 => omega
            case c5 => simp; omega
            intro v7 w7 ho7 hg7 _
            have HG7 := Lib.hid ((World.grownBy_alloc w5 (.cells #[.string x.a, .string x.i, .int .i64 x.s, .int .i64 x.o, .int .i64 x.l, .int .i64 x.t, .int .i64 x.k, .int .i64 x.n, .bool x.g] 36) none).but _ |>.andThen hg7 (fun j hj => .inr hj))
            
            have HB7 := Lib.hid (HB4.out.grown HG7.out Z5 (fun q hq => Nat.le_trans HB2.out.size (own_ge HO5'.out hq)))
            have HM7 := Lib.hid (HM4.out.kept HG7.out (fun e => by have h1 := own_ge HO5'.out e.symm; have := HBL.out; omega))
            have HX7 := Lib.hid (show w7.heap[r]? = some (.cells #[.string k.1, .string k.2] 32 (0, 0)) from (HG7.out.block r hl5 (own_ne HO5'.out HX.out (by decide))).trans HX.out)
            have HO7 := Lib.hid (show OwnC w3.heap.size w7 v7 (S ++ [x]) by unfold OwnC OwnR; rw [flat_snoc, List.length_append, HM.out]; exact ho7)
            have HZ7 := Lib.hid (Nat.le_trans HZ4.out HG7.out.size)
            clear ho7 hg7 HO5 HO4 HO5' y0 y1 y2 y3 y4 y5 y6 y7 y8 hk5 hl5
            have hk7 := blk_cell HX7.out
            have hl7 := blk_lt HX7.out
            go_wp2_with (at_delete; refine wpMapDel _ rfl _ _ rfl b0 n _ rfl HM7.out k rfl HXS.out ?_; intro w8 hm8 hg8)
            have HM8 := Lib.hid (show MpI w8 b0 n (leftF mine (ks.take (J + 1))) from by rw [HLT.out, ← leftF_del]; exact hm8)
            have HO8 := Lib.hid (show OwnC w3.heap.size w8 v7 (S ++ [x]) from own_off HO7.out HM7.out hg8)
            have HB8 := Lib.hid (HB7.out.grown hg8 HB7.out.size (fun q hq => by cases hq; exact HBB.out))
            have HZ8 := Lib.hid (Nat.le_trans HZ7.out hg8.size)
            clear hm8 hg8 hk7 hl7
            go_wp2
            go_roundw
            case rel => exact ⟨J + 1, by omega, by go_num, by rw [HSE.out]; exact HO8.out, HM8.out, HB8.out, HZ8.out⟩
            case measure => simp [intOf]; omega
        · obtain rfl : m = J := by omega
          have HOF := Lib.hid (show OwnC w.heap.size w2 (.slice ga p gc) (ansL mine ks) from by
            have := OwnR.base ho2 HB2.out.size
            rw [← hS, List.take_of_length_le (by have := HKN.out; omega)] at this
            rw [← hS, List.take_of_length_le (by have := HKN.out; omega)] at hp
            rw [hp] at this
            exact this)
          go_wp2
          go_ret
          exact ⟨_, rfl, HOF.out, hb2⟩

end Go.Proofs.Ytmgdhgaodjkifaa
