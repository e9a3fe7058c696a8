/- 'QueueOrder': the walk. -/
import Derived.Test.YtmpkkkcoiljhpaaQueueK
import Derived.Test.YtmpkkkcoiljhpaaQueueT2
import Derived.Test.YtmpkkkcoiljhpaaTapeCards
namespace Go.Proofs.Ytmpkkkcoiljhpaa
open Go.RowKit
set_option linter.unusedVariables false

/-- of each key the last -/
def gC : List Cd → List Cd
  | [] => []
  | x :: xs => if xs.any (fun y => kq y x) then gC xs else x :: gC xs
theorem kq_comm (x y : Cd) : kq x y = kq y x := by
  unfold kq
  rw [show (decide (x.a = y.a)) = decide (y.a = x.a) from decide_eq_decide.2 ⟨Eq.symm, Eq.symm⟩, show (decide (x.i = y.i)) = decide (y.i = x.i) from decide_eq_decide.2 ⟨Eq.symm, Eq.symm⟩]
theorem gC_snoc (xs : List Cd) (y : Cd) : gC (xs ++ [y]) = delC y (gC xs) ++ [y] := by
  induction xs with
  | nil => simp [gC, delC]
  | cons x xs ih =>
    have e : ((xs ++ [y]).any (fun z => kq z x)) = (xs.any (fun z => kq z x) || kq y x) := by simp [List.any_append]
    show (if (xs ++ [y]).any (fun z => kq z x) then gC (xs ++ [y]) else x :: gC (xs ++ [y])) = delC y (if xs.any (fun z => kq z x) then gC xs else x :: gC xs) ++ [y]
    rw [e]
    cases h1 : xs.any (fun z => kq z x)
    · cases h2 : kq y x
      · have h3 : kq x y = false := by rw [kq_comm]; exact h2
        simp only [Bool.or_self, Bool.false_eq_true, if_false]
        rw [ih]
        unfold delC
        rw [List.filter_cons_of_pos (by simp [h3])]
        rfl
      · have h3 : kq x y = true := by rw [kq_comm]; exact h2
        simp only [Bool.or_true, Bool.false_eq_true, if_false, if_true]
        rw [ih]
        unfold delC
        rw [List.filter_cons_of_neg (by simp [h3])]
    · simp only [Bool.true_or, if_true]
      exact ih
theorem gC_len (xs : List Cd) : (gC xs).length ≤ xs.length := by
  induction xs with
  | nil => simp [gC]
  | cons x xs ih =>
    unfold gC
    split
    · simp; omega
    · simp; omega
theorem addM_one (p : Int) (rest : List (Int × List Cd)) : ∀ (n : Nat) (xs : List Cd), xs.length = n → n ≤ 16 → addM 1 xs ((p, []) :: rest, 0) = ((p, gC xs) :: rest, 0) := by
  intro n
  induction n with
  | zero => intro xs h _; rw [List.eq_nil_of_length_eq_zero h]; rfl
  | succ n ih =>
    intro xs h hn
    rcases List.eq_nil_or_concat xs with rfl | ⟨l, b, rfl⟩
    · simp at h
    · simp only [List.concat_eq_append] at h ⊢
      rw [addM_snoc, ih l (by simp at h; omega) (by omega), gC_snoc]
      have h1 := gC_len l
      have h2 := delC_len b (gC l)
      have h3 : (delC b (gC l)).length < 16 := by simp at h; omega
      simp [layU, ovU, layR, layC, ovC, h3]
theorem newM1 : newM [1] = (1, (1, []) :: List.replicate 5 (0, [])) := by first | rfl | kernel_rfl
theorem Rim.grown' {b : Nat} {u w w' : World} {row : Option Nat} (h : Rim b u w) (hg : w.grownBy w' row) (hr : ∀ q, row = some q → u.heap.size ≤ q) : Rim b u w' :=
  ⟨hg.os.trans h.os, hg.tape.trans h.tape, hg.output.trans h.output, Nat.le_trans h.size hg.size, fun k hk hl => (hg.block k (Nat.lt_of_lt_of_le hl h.size) (fun e => by have := hr k e.symm; omega)).trans (h.block k hk hl)⟩
theorem cat_cells {w : World} {b o : Nat} {cs : List Cd} (h : CAt w (some ⟨b, o, none⟩) cs) (j : Nat) (u : Value) (hj : (flat cc cs)[j]? = some u) : w.cell? ⟨b, o + j, none⟩ = some u := by
  rcases h with h | ⟨b', o', e, _, h⟩
  · rw [h] at hj; simp [flat] at hj
  · simp at e
    obtain ⟨rfl, rfl⟩ := e
    exact h j u hj
theorem anyK (cs : List Cd) (x y : Cd) (J K : Nat) (hJ : J + 1 ≤ K) (hy : cs[K]? = some y) : ((cs.take (K + 1)).drop (J + 1)).any (fun y => kq y x) = (((cs.take K).drop (J + 1)).any (fun y => kq y x) || kq y x) := by
  have hlt : K < cs.length := by
    rcases Nat.lt_or_ge K cs.length with h' | h'
    · exact h'
    · rw [List.getElem?_eq_none h'] at hy; cases hy
  rw [List.take_add_one, hy]
  rw [List.drop_append_of_le_length (by rw [List.length_take]; omega), List.any_append]
  simp
theorem run_append_nil (w : World) (ty : TypeId) (a : Option Addr) (n c : Nat) (h : n ≤ c) : (Builtin.append_ #[25, 25] ty #[.slice a n c, .slice none 0 0]).run Try.prog w = .ok (.slice a n c) w := by
  obtain ⟨i0, hi, hz0, hz1, hz2⟩ := info_parts' info_card
  cases a <;> simp [Builtin.append_, run_underlying Try.underlying25, sizeOf, typeInfo, hi, Builtin.lenOf, h, Builtin.firstCells, storeCells]

set_option maxRecDepth 100000 in
set_option maxHeartbeats 4000000 in
theorem queueOrder_walk (ra : Option Addr) (rlen rcap : Nat) (rz : List Int) (w : World) (hr : IsRow .i64 w ra rlen rcap rz) :
    Calls Try.prog 5 #[.slice ra rlen rcap] w fun e w' => e = .returned (.bool true) ∧ Below w.heap.size w w' := by
  obtain ⟨i0, hi, hz0, hz1, hz2⟩ := info_parts' info_card
  have D0 : Below w.heap.size w (w.alloc (.cells #[.slice ra rlen rcap, .int .i64 0] 29)) := (Below.refl _ _).alloc (Nat.le_refl _) _
  have HT0 := Lib.hid (tapeK_new (a := ra) (len := rlen) (cap := rcap) w)
  have HR0 := Lib.hid (rowOk_new hr (.cells #[.slice ra rlen rcap, .int .i64 0] 29))
  have HD0 := Lib.hid D0
  clear hr D0
  go_enter Try.func5, Try.ntmps5
  go_wp2_with fail
  generalize (w.alloc (.cells #[.slice ra rlen rcap, .int .i64 0] 29)) = w0 at *
  refine (tapeCards ra rlen rcap rz w.heap.size 14 _ HT0.out HR0.out (by omega)).mono ?_
  rintro e w1 ⟨lv, cs, rfl, ho, hl, hok, -, hb⟩
  obtain ⟨la, lc, rfl, hlc, hlm, hat, -, -⟩ := ho.read
  have HA1 := Lib.hid hat
  have HL14 := Lib.hid hl
  have HLM := Lib.hid hlm
  have HB1 := Lib.hid (HD0.out.trans (hb.below (Nat.le_refl _) HD0.out.size))
  obtain ⟨n, hn⟩ : ∃ n, cs.length = n := ⟨_, rfl⟩
  have HN := Lib.hid hn
  rw [hn] at hlc ⊢
  have hn14 : n ≤ 14 := by omega
  clear ho hl hok hb hat HT0 HR0 HD0 hn hlm
  have D1 : Below w1.heap.size w1 (w1.alloc (.cells #[.int .i64 1] 3)) := (Below.refl _ _).alloc (Nat.le_refl _) _
  have HNA := Lib.hid (show NAt (w1.alloc (.cells #[.int .i64 1] 3)) (some ⟨w1.heap.size, 0, none⟩) [1] from .inr ⟨_, _, rfl, fun i n hi => by
    have hb := blk_new w1 #[.int .i64 1] 3
    rw [blk_cell hb]
    match i, hi with
    | 0, hi => simp at hi; subst hi; rfl
    | (k + 1), hi => simp at hi⟩)
  have HA2 := Lib.hid (HA1.out.ext D1)
  have HB2 := Lib.hid (ext_trans HB1.out D1)
  clear D1 HA1 HB1
  go_wp2_with fail
  generalize (w1.alloc (.cells #[.int .i64 1] 3)) = w2 at *
  refine (queueNew 1 1 _ [1] _ HNA.out rfl (by omega) (by unfold maxLen; omega)).mono ?_
  rintro e w3 ⟨rfl, hq, -, hb⟩
  obtain ⟨qb, hqb⟩ : ∃ qb, w2.heap.size = qb := ⟨_, rfl⟩
  rw [hqb] at hq ⊢
  have hqw : w.heap.size ≤ qb := by have := HB2.out.size; omega
  rw [newM1] at hq
  have HQ3 := Lib.hid hq
  have HA3 := Lib.hid (HA2.out.ext hb)
  have HB3 := Lib.hid (ext_trans HB2.out hb)
  clear hq hb hqb HNA HA2 HB2
  go_wp2_with fail
  refine (queueAdd qb 1 n lc la cs _ 0 _ HQ3.out HA3.out HN.out hlc HLM.out (by omega)).mono ?_
  rintro e w4 ⟨rfl, hq4, hr4⟩
  obtain ⟨G, hG⟩ : ∃ G, gC cs = G := ⟨_, rfl⟩
  have HG := Lib.hid hG
  have hGL : G.length ≤ 14 := by have := gC_len cs; rw [hG, HN.out] at this; omega
  rw [addM_one 1 _ n cs HN.out (by omega), hG] at hq4
  have HA4 := Lib.hid (HQ3.out.cat hr4 HA3.out)
  have HB4 := Lib.hid (HB3.out.trans (hr4.below hqw HB3.out.size))
  obtain ⟨sl, hqb4, h6, hv, -, hkv⟩ := hq4.keys
  obtain ⟨v0, hv0, hs0⟩ := hkv 0 1 G rfl
  have HQ4 := Lib.hid hqb4
  have H6 := Lib.hid h6
  have HV := Lib.hid hv
  have HS0 := Lib.hid hs0
  have HSL := Lib.hid (show sl.set 0 (1, v0) = sl from by
    cases sl with
    | nil => rfl
    | cons y ys => simp at hv0; subst hv0; rfl)
  have HCONS := Lib.hid (fun v : Value => (show (sl.set 0 (1, v))[0]? = some (1, v) from by rw [List.getElem?_set_self (by have := H6.out; omega)]))
  have HIXP := Lib.hid (fun v : Value => (show ixP 1 0 ((sl.set 0 (1, v)).take 1) = 0 from by
    cases sl with
    | nil => have := H6.out; cases this
    | cons y ys => simp [ixP]))
  have HVS := Lib.hid (fun (v : Value) (hv' : ∃ a n c, v = .slice a n c) => (show ∀ x ∈ sl.set 0 (1, v), ∃ a n c, x.2 = .slice a n c from fun x hx => by
    rcases List.mem_or_eq_of_mem_set hx with hx | rfl
    · exact HV.out x hx
    · exact hv'))
  clear hq4 hr4 hqb4 h6 hv hkv hv0 hs0 hG HQ3 HA3 HB3
  go_wp2_with fail
  go_loopw [6, 7] (fun g i wr => ∃ (I : Nat) (gs : List Cd) (v : Value), I ≤ 6 ∧ i = .int .i64 (I : Int) ∧ OwnC w4.heap.size wr g gs ∧ gs ++ G.drop (4 * I) = G ∧ QB wr qb 1 (sl.set 0 (1, v)) 0 ∧ SlC w4 v (G.drop (4 * I)) ∧ Rim qb w4 wr) (fun g i _ => 6 - (intOf i).toNat)
  case atStart => exact ⟨0, [], v0, by omega, rfl, OwnR.nil _ _, by simp, by rw [HSL.out]; exact HQ4.out, by simpa using HS0.out, Rim.of (Below.refl _ _)⟩
  case round =>
    obtain ⟨w5, rfl⟩ : ∃ y : World, y = wr := ⟨_, rfl⟩
    obtain ⟨I, gs, v, hI, rfl, ho5, hgs, hq5, hs5, hr5⟩ := hrel
    obtain ⟨ga, gc, rfl, hgc, hgm, hgat, -, hgf⟩ := ho5.read
    obtain ⟨gn, hgn⟩ : ∃ gn, gs.length = gn := ⟨_, rfl⟩
    have HGN := Lib.hid hgn
    rw [hgn] at hgc ⊢
    have hgn14 : gn ≤ 14 := by rw [← hgn]; have := congrArg List.length hgs; rw [List.length_append] at this; omega
    have HO5 := Lib.hid ho5
    have HGS := Lib.hid hgs
    have HQ5 := Lib.hid hq5
    have HS5 := Lib.hid hs5
    have HR5 := Lib.hid hr5
    have HGA := Lib.hid hgat
    have HSR := Lib.hid (HQ4.out.slc hr5 hs5)
    have HVV := Lib.hid (show ∃ a n c, v = .slice a n c from by obtain ⟨a, c, e, -⟩ := hs5; exact ⟨a, _, c, e⟩)
    unfold maxLen at hgm
    clear ho5 hgs hq5 hs5 hr5 hgat hgn
    by_cases hlt : I < 6
    · go_wp2_with fail
      refine (queueTake2 qb 1 0 (sl.set 0 (1, v)) 0 1 1 v (G.drop (4 * I)) _ HQ5.out (by rw [List.length_set]; exact H6.out) (by omega) (HVS.out v HVV.out) (HIXP.out v) (HCONS.out v) HSR.out (by rw [List.length_drop]; omega)).mono ?_
      rintro e w6 ⟨t, v', rfl, ho6, hq6, hs6, hr6, hview⟩
      obtain ⟨ta, tc, rfl, htc, htm, htat, htb, htf⟩ := ho6.read
      obtain ⟨M, hM⟩ : ∃ M, ((G.drop (4 * I)).take 4).length = M := ⟨_, rfl⟩
      have HM := Lib.hid hM
      have hM4 : M ≤ 4 := by rw [← hM, List.length_take]; omega
      rw [hM] at htc ⊢
      rw [List.set_set] at hq6
      have HQ6 := Lib.hid hq6
      have HR6 := Lib.hid (HR5.out.trans hr6)
      have HO6 := Lib.hid (show OwnC w4.heap.size w6 (.slice ga gn gc) gs from by have := HQ5.out.own hr6 (by decide) HO5.out; unfold OwnC OwnR; rw [HGN.out] at this ⊢; exact this)
      have HS6 := Lib.hid (show SlC w4 v' (G.drop (4 * (I + 1))) from by have := hview w4 HS5.out; rw [List.drop_drop] at this; exact this)
      have HGS6 := Lib.hid (show (gs ++ (G.drop (4 * I)).take 4) ++ G.drop (4 * (I + 1)) = G from by
        have h1 : G.drop (4 * (I + 1)) = (G.drop (4 * I)).drop 4 := by rw [List.drop_drop]; congr 1
        rw [h1, List.append_assoc, List.take_append_drop]
        exact HGS.out)
      have HAT := Lib.hid htat
      have hdM : decide (4 < (M : Int)) = false := by simp; omega
      clear ho6 hq6 hs6 hr6 hview htat htb hM HQ5 HO5 HSR HGA
      rcases htf with ⟨rfl, rfl, hnil⟩ | ⟨tg, rfl⟩
      · have hM0 : M = 0 := by have := HM.out; rw [hnil] at this; simpa using this.symm
        subst hM0
        have hap := fun (w : World) (ty : TypeId) => run_append_nil w ty ga gn gc hgc
        have HGS7 := Lib.hid (show gs ++ G.drop (4 * (I + 1)) = G from by have := HGS6.out; rw [hnil, List.append_nil] at this; exact this)
        clear hnil
        rcases hgf with ⟨rfl, rfl, -⟩ | ⟨gg, rfl⟩
        · obtain rfl : gn = 0 := by omega
          go_wp2
          go_roundw
          case rel => exact ⟨I + 1, gs, v', by omega, by go_num, HO6.out, HGS7.out, HQ6.out, HS6.out, HR6.out⟩
          case measure => simp [intOf]; omega
        · go_wp2
          go_roundw
          case rel => exact ⟨I + 1, gs, v', by omega, by go_num, HO6.out, HGS7.out, HQ6.out, HS6.out, HR6.out⟩
          case measure => simp [intOf]; omega
      · have HO6' := Lib.hid (show w6.ownsRow w4.heap.size 39 9 (.slice ga gn gc) gn (flat cc gs) from by have := HO6.out; unfold OwnC OwnR at this; rw [HGN.out] at this; exact this)
        clear hgf
        go_wp2_with (at_builtin; refine wpList_append_own _ rfl _ _ 25 rfl (w4.heap.size) 39 i0 Cd.zero.v 9 88 Try.underlying25 hi hz0 hz1 hz2 rfl (by decide) _ gn (flat cc gs) rfl HO6'.out ⟨tg, 0, none⟩ M tc (flat cc ((G.drop (4 * I)).take 4)) rfl ?c0 ?c1 ?c2 ?c3 ?c4 ?c5 ?_)
        case c0 => rw [flat_len cc_len, HM.out]
        case c1 => intro j u hj; rw [add_off]; exact cat_cells HAT.out j u hj
        case c2 => exact flat_one cc_one _
        case c3 => unfold maxLen; omega
        case c4 => omega
        case c5 => exact HR6.out.size
        intro v7 w7 ho7 hg7 _
        have HO7 := Lib.hid (show OwnC w4.heap.size w7 v7 (gs ++ (G.drop (4 * I)).take 4) from by unfold OwnC OwnR; rw [flat_app, List.length_append, HGN.out, HM.out]; exact ho7)
        have HR7 := Lib.hid (HR6.out.grown' hg7 (fun q hq => own_ge HO6.out hq))
        have HQ7 := Lib.hid (show QB w7 qb 1 (sl.set 0 (1, v')) 0 from (hg7.block qb HQ6.out.lt (own_ne HO6.out HQ6.out.blk (by decide))).trans HQ6.out.blk)
        clear ho7 hg7 HQ6 HR6 HO6 HO6'
        go_wp2
        go_roundw
        case rel => exact ⟨I + 1, _, v', by omega, by go_num, HO7.out, HGS6.out, HQ7.out, HS6.out, HR7.out⟩
        case measure => simp [intOf]; omega
    · have hd6 : decide ((I : Int) < 6) = false := by simp; omega
      have HGE := Lib.hid (show gs = G from by have := HGS.out; rw [List.drop_of_length_le (by omega), List.append_nil] at this; exact this)
      have HA5 := Lib.hid (HA4.out.keep (fun b cur hc _ => HR5.out.block b (HQ4.out.ne (by decide) hc) (blk_lt hc)))
      have HB5 := Lib.hid (HB4.out.trans (HR5.out.below hqw HB4.out.size))
      have HSV := Lib.hid (show SlC w5 v [] from by have := HSR.out; rw [List.drop_of_length_le (by omega)] at this; exact this)
      clear hgf HS5 HSR HA4
      go_wp2_with fail
      go_loopw [9, 39] (fun wv i wr => ∃ (J : Nat) (hs : List Cd), J ≤ n ∧ i = .int .i64 (J : Int) ∧ OwnC w5.heap.size wr wv hs ∧ hs ++ gC (cs.drop J) = G ∧ Below w5.heap.size w5 wr) (fun wv i _ => n - (intOf i).toNat)
      case atStart => exact ⟨0, [], by omega, rfl, OwnR.nil _ _, by simpa using HG.out, Below.refl _ _⟩
      case round =>
        obtain ⟨w6, rfl⟩ : ∃ y : World, y = wr := ⟨_, rfl⟩
        obtain ⟨J, hs, hJ, rfl, ho6, hgs6, hb6⟩ := hrel
        obtain ⟨wa, wc, rfl, hwc, hwm, hwat, -, -⟩ := ho6.read
        obtain ⟨wn, hwn⟩ : ∃ wn, hs.length = wn := ⟨_, rfl⟩
        have HWN := Lib.hid hwn
        rw [hwn] at hwc ⊢
        have hwn14 : wn ≤ 14 := by rw [← hwn]; have := congrArg List.length hgs6; rw [List.length_append] at this; omega
        have HO6 := Lib.hid ho6
        have HGS6 := Lib.hid hgs6
        have HB6 := Lib.hid hb6
        have HWA := Lib.hid hwat
        unfold maxLen at hwm
        clear ho6 hgs6 hb6 hwat hwn
        by_cases hlt : J < n
        · obtain ⟨x, hx⟩ : ∃ x, cs[J]? = some x := ⟨_, List.getElem?_eq_getElem (by have := HN.out; omega)⟩
          have HX := Lib.hid hx
          obtain ⟨lb, lo, rfl⟩ : ∃ b o, la = some ⟨b, o, none⟩ := by
            rcases HA5.out with h | ⟨b, o, e, _⟩
            · rw [h] at hx; simp at hx
            · exact ⟨b, o, e⟩
          have HA6 := Lib.hid (HA5.out.ext HB6.out)
          clear hx
          go_wp2_with fail
          go_loopw [11, 12] (fun l k wr => ∃ K : Nat, J + 1 ≤ K ∧ K ≤ n ∧ k = .int .i64 (K : Int) ∧ l = .bool (!((cs.take K).drop (J + 1)).any (fun y => kq y x)) ∧ Below w6.heap.size w6 wr) (fun l k _ => n - (intOf k).toNat)
          case atStart => exact ⟨J + 1, by omega, by omega, by go_num, by rw [List.drop_of_length_le (by rw [List.length_take]; omega)]; rfl, Below.refl _ _⟩
          case round =>
            obtain ⟨w7, rfl⟩ : ∃ y : World, y = wr := ⟨_, rfl⟩
            obtain ⟨K, hK1, hK2, rfl, rfl, hb7⟩ := hrel
            obtain ⟨B, hB⟩ : ∃ B, ((cs.take K).drop (J + 1)).any (fun y => kq y x) = B := ⟨_, rfl⟩
            have HBB := Lib.hid hB
            rw [hB]
            have HB7 := Lib.hid hb7
            clear hb7 hB
            by_cases hlt2 : K < n
            · obtain ⟨y, hy⟩ : ∃ y, cs[K]? = some y := ⟨_, List.getElem?_eq_getElem (by have := HN.out; omega)⟩
              have HY := Lib.hid hy
              obtain ⟨y0, y1, -⟩ := (HA6.out.ext HB7.out).at hy
              obtain ⟨x0, x1, -⟩ := (HA6.out.ext HB7.out).at HX.out
              clear hy
              cases B
              · rw [Bool.not_false]
                by_cases h1 : y.a = x.a
                · by_cases h2 : y.i = x.i
                  · have HK := Lib.hid (kq_yes h1 h2)
                    rw [h1] at y0
                    rw [h2] at y1
                    clear h1 h2
                    go_wp2_with fail
                    haveI hIq : Nonempty (Of w7) := of_some _
                    have hFq0 := of_cell (W := w7) (b := lb) (o := lo + K * 9) (v := .string x.a) (by first | (with_reducible assumption) | (with_reducible (refine ext_cell ((Below.refl _ _).alloc (Nat.le_refl _) _) ?_; assumption)) | (go_cell; done) | (go_keep; done))
                    have hFq1 := of_cell (W := w7) (b := lb) (o := lo + K * 9 + 1) (v := .string x.i) (by first | (with_reducible assumption) | (with_reducible (refine ext_cell ((Below.refl _ _).alloc (Nat.le_refl _) _) ?_; assumption)) | (go_cell; done) | (go_keep; done))
                    have hFq2 := of_cell (W := w7) (b := lb) (o := lo + J * 9) (v := .string x.a) (by first | (with_reducible assumption) | (with_reducible (refine ext_cell ((Below.refl _ _).alloc (Nat.le_refl _) _) ?_; assumption)) | (go_cell; done) | (go_keep; done))
                    have hFq3 := of_cell (W := w7) (b := lb) (o := lo + J * 9 + 1) (v := .string x.i) (by first | (with_reducible assumption) | (with_reducible (refine ext_cell ((Below.refl _ _).alloc (Nat.le_refl _) _) ?_; assumption)) | (go_cell; done) | (go_keep; done))
                    first | (refine wp_region_stay w7 (by kernel_rfl) (by kernel_rfl) (by go_grown) ?_) | (refine wp_region_stay_seq w7 (by go_grown) ?_)
                    repeat (go_big_quiet_step (fail))
                    refine wpQuiet_nil ?_
                    intro wq hq
                    clear hIq hFq0 hFq1 hFq2 hFq3
                    have HBq := Lib.hid (ext_trans HB7.out hq)
                    clear hq
                    go_wp2
                    go_roundw
                    case rel => exact ⟨K + 1, by omega, by omega, by go_num, by rw [anyK cs x y J K hK1 HY.out, HBB.out, HK.out]; rfl, HBq.out⟩
                    case measure => simp [intOf]; omega
                  · have HK := Lib.hid (kq_no (.inr h2))
                    rw [h1] at y0
                    have h3 : ¬ y.i.toList = x.i.toList := fun e => h2 (str_inj e)
                    clear h1 h2
                    go_wp2_with fail
                    haveI hIq : Nonempty (Of w7) := of_some _
                    have hFq0 := of_cell (W := w7) (b := lb) (o := lo + K * 9) (v := .string x.a) (by first | (with_reducible assumption) | (with_reducible (refine ext_cell ((Below.refl _ _).alloc (Nat.le_refl _) _) ?_; assumption)) | (go_cell; done) | (go_keep; done))
                    have hFq1 := of_cell (W := w7) (b := lb) (o := lo + K * 9 + 1) (v := .string y.i) (by first | (with_reducible assumption) | (with_reducible (refine ext_cell ((Below.refl _ _).alloc (Nat.le_refl _) _) ?_; assumption)) | (go_cell; done) | (go_keep; done))
                    have hFq2 := of_cell (W := w7) (b := lb) (o := lo + J * 9) (v := .string x.a) (by first | (with_reducible assumption) | (with_reducible (refine ext_cell ((Below.refl _ _).alloc (Nat.le_refl _) _) ?_; assumption)) | (go_cell; done) | (go_keep; done))
                    have hFq3 := of_cell (W := w7) (b := lb) (o := lo + J * 9 + 1) (v := .string x.i) (by first | (with_reducible assumption) | (with_reducible (refine ext_cell ((Below.refl _ _).alloc (Nat.le_refl _) _) ?_; assumption)) | (go_cell; done) | (go_keep; done))
                    first | (refine wp_region_stay w7 (by kernel_rfl) (by kernel_rfl) (by go_grown) ?_) | (refine wp_region_stay_seq w7 (by go_grown) ?_)
                    repeat (go_big_quiet_step (fail))
                    refine wpQuiet_nil ?_
                    intro wq hq
                    clear hIq hFq0 hFq1 hFq2 hFq3
                    have HBq := Lib.hid (ext_trans HB7.out hq)
                    clear hq
                    go_wp2
                    go_roundw
                    case rel => exact ⟨K + 1, by omega, by omega, by go_num, by rw [anyK cs x y J K hK1 HY.out, HBB.out, HK.out]; rfl, HBq.out⟩
                    case measure => simp [intOf]; omega
                · have HK := Lib.hid (kq_no (.inl h1))
                  have h3 : ¬ y.a.toList = x.a.toList := fun e => h1 (str_inj e)
                  clear h1
                  go_wp2_with fail
                  haveI hIq : Nonempty (Of w7) := of_some _
                  have hFq0 := of_cell (W := w7) (b := lb) (o := lo + K * 9) (v := .string y.a) (by first | (with_reducible assumption) | (with_reducible (refine ext_cell ((Below.refl _ _).alloc (Nat.le_refl _) _) ?_; assumption)) | (go_cell; done) | (go_keep; done))
                  have hFq1 := of_cell (W := w7) (b := lb) (o := lo + K * 9 + 1) (v := .string y.i) (by first | (with_reducible assumption) | (with_reducible (refine ext_cell ((Below.refl _ _).alloc (Nat.le_refl _) _) ?_; assumption)) | (go_cell; done) | (go_keep; done))
                  have hFq2 := of_cell (W := w7) (b := lb) (o := lo + J * 9) (v := .string x.a) (by first | (with_reducible assumption) | (with_reducible (refine ext_cell ((Below.refl _ _).alloc (Nat.le_refl _) _) ?_; assumption)) | (go_cell; done) | (go_keep; done))
                  have hFq3 := of_cell (W := w7) (b := lb) (o := lo + J * 9 + 1) (v := .string x.i) (by first | (with_reducible assumption) | (with_reducible (refine ext_cell ((Below.refl _ _).alloc (Nat.le_refl _) _) ?_; assumption)) | (go_cell; done) | (go_keep; done))
                  first | (refine wp_region_stay w7 (by kernel_rfl) (by kernel_rfl) (by go_grown) ?_) | (refine wp_region_stay_seq w7 (by go_grown) ?_)
                  repeat (go_big_quiet_step (fail))
                  refine wpQuiet_nil ?_
                  intro wq hq
                  clear hIq hFq0 hFq1 hFq2 hFq3
                  have HBq := Lib.hid (ext_trans HB7.out hq)
                  clear hq
                  go_wp2
                  go_roundw
                  case rel => exact ⟨K + 1, by omega, by omega, by go_num, by rw [anyK cs x y J K hK1 HY.out, HBB.out, HK.out]; rfl, HBq.out⟩
                  case measure => simp [intOf]; omega
              · rw [Bool.not_true]
                go_wp2_with fail
                haveI hIq : Nonempty (Of w7) := of_some _
                have hFq0 := of_cell (W := w7) (b := lb) (o := lo + K * 9) (v := .string y.a) (by first | (with_reducible assumption) | (with_reducible (refine ext_cell ((Below.refl _ _).alloc (Nat.le_refl _) _) ?_; assumption)) | (go_cell; done) | (go_keep; done))
                have hFq1 := of_cell (W := w7) (b := lb) (o := lo + K * 9 + 1) (v := .string y.i) (by first | (with_reducible assumption) | (with_reducible (refine ext_cell ((Below.refl _ _).alloc (Nat.le_refl _) _) ?_; assumption)) | (go_cell; done) | (go_keep; done))
                have hFq2 := of_cell (W := w7) (b := lb) (o := lo + J * 9) (v := .string x.a) (by first | (with_reducible assumption) | (with_reducible (refine ext_cell ((Below.refl _ _).alloc (Nat.le_refl _) _) ?_; assumption)) | (go_cell; done) | (go_keep; done))
                have hFq3 := of_cell (W := w7) (b := lb) (o := lo + J * 9 + 1) (v := .string x.i) (by first | (with_reducible assumption) | (with_reducible (refine ext_cell ((Below.refl _ _).alloc (Nat.le_refl _) _) ?_; assumption)) | (go_cell; done) | (go_keep; done))
                first | (refine wp_region_stay w7 (by kernel_rfl) (by kernel_rfl) (by go_grown) ?_) | (refine wp_region_stay_seq w7 (by go_grown) ?_)
                repeat (go_big_quiet_step (fail))
                refine wpQuiet_nil ?_
                intro wq hq
                clear hIq hFq0 hFq1 hFq2 hFq3
                have HBq := Lib.hid (ext_trans HB7.out hq)
                clear hq
                go_wp2
                go_roundw
                case rel => exact ⟨K + 1, by omega, by omega, by go_num, by rw [anyK cs x y J K hK1 HY.out, HBB.out]; rfl, HBq.out⟩
                case measure => simp [intOf]; omega
            · obtain rfl : K = n := by omega
              have HBD := Lib.hid (show (cs.drop (J + 1)).any (fun y => kq y x) = B from by have := HBB.out; rw [List.take_of_length_le (by have := HN.out; omega)] at this; exact this)
              have HGD := Lib.hid (show gC (cs.drop J) = if B then gC (cs.drop (J + 1)) else x :: gC (cs.drop (J + 1)) from by
                rw [drop_at HX.out]
                show (if (cs.drop (J + 1)).any (fun y => kq y x) then _ else _) = _
                rw [HBD.out])
              have HO7 := Lib.hid (HO6.out.ext HB7.out)
              have HB8 := Lib.hid (ext_trans HB6.out HB7.out)
              cases B
              · rw [Bool.not_false]
                obtain ⟨x0, x1, x2, x3, x4, x5, x6, x7, x8⟩ := (HA6.out.ext HB7.out).at HX.out
                have HO7' := Lib.hid (show w7.ownsRow w5.heap.size 39 9 (.slice wa wn wc) wn (flat cc hs) from by have := HO7.out; unfold OwnC OwnR at this; rw [HWN.out] at this; exact this)
                have Z8 := HB8.out.size
                go_wp2_with (at_builtin; refine wpList_append_own _ rfl _ _ 25 rfl (w5.heap.size) 39 i0 Cd.zero.v 9 88 Try.underlying25 hi hz0 hz1 hz2 rfl (by decide) _ wn (flat cc hs) rfl (HO7'.out.alloc (.cells #[.string x.a, .string x.i, .int .i64 x.s, .int .i64 x.o, .int .i64 x.l, .int .i64 x.t, .int .i64 x.k, .int .i64 x.n, .bool x.g] 39)) ⟨w7.heap.size, 0, none⟩ 1 1 (cc x) rfl rfl ?c1 ?c2 ?c3 ?c4 ?c5 ?_)
                case c1 =>
                  intro j u hj
                  rw [add_off, Nat.zero_add, blk_cell (blk_new w7 #[.string x.a, .string x.i, .int .i64 x.s, .int .i64 x.o, .int .i64 x.l, .int .i64 x.t, .int .i64 x.k, .int .i64 x.n, .bool x.g] 39)]
                  simpa [cc] using hj
                case c2 => exact cc_one x
                case c3 => unfold maxLen; omega
                case c4 => omega
                case c5 => simp; omega
                intro v8 w8 ho8 hg8 _
                have D8 : Below w5.heap.size w5 w8 := (HB8.out.alloc Z8 (.cells #[.string x.a, .string x.i, .int .i64 x.s, .int .i64 x.o, .int .i64 x.l, .int .i64 x.t, .int .i64 x.k, .int .i64 x.n, .bool x.g] 39)).grown hg8 (by simp; omega) (fun q hq => own_ge HO7'.out hq)
                have HB9 := Lib.hid D8
                have HO8 := Lib.hid (show OwnC w5.heap.size w8 v8 (hs ++ [x]) by unfold OwnC OwnR; rw [flat_snoc, List.length_append, HWN.out]; exact ho8)
                have HGS8 := Lib.hid (show (hs ++ [x]) ++ gC (cs.drop (J + 1)) = G from by have := HGS6.out; rw [HGD.out] at this; simpa using this)
                clear ho8 hg8 D8 HO7 HO7' x0 x1 x2 x3 x4 x5 x6 x7 x8
                go_wp2
                go_roundw
                case rel => exact ⟨J + 1, hs ++ [x], by omega, by go_num, HO8.out, HGS8.out, HB9.out⟩
                case measure => simp [intOf]; omega
              · rw [Bool.not_true]
                have HGS8 := Lib.hid (show hs ++ gC (cs.drop (J + 1)) = G from by have := HGS6.out; rw [HGD.out] at this; simpa using this)
                have HO8 := Lib.hid (show OwnC w5.heap.size w7 (.slice wa wn wc) hs from by have := HO7.out; rw [HWN.out] at this; exact this)
                go_wp2
                go_roundw
                case rel => exact ⟨J + 1, hs, by omega, by go_num, HO8.out, HGS8.out, HB8.out⟩
                case measure => simp [intOf]; omega
        · obtain rfl : J = n := by omega
          have HHE := Lib.hid (show hs = G from by have := HGS6.out; rw [List.drop_of_length_le (by have := HN.out; omega)] at this; simpa [gC] using this)
          obtain rfl : gn = wn := by rw [← HGN.out, ← HWN.out, HGE.out, HHE.out]
          have HC1 := Lib.hid (show CAt w6 ga G from by have := HGA.out.ext HB6.out; rw [HGE.out] at this; exact this)
          have HC2 := Lib.hid (show CAt w6 wa G from by have := HWA.out; rw [HHE.out] at this; exact this)
          have HGNL := Lib.hid (show G.length = gn from by rw [← HGE.out]; exact HGN.out)
          have HQ6 := Lib.hid (HQ5.out.ext HB6.out)
          have HSV6 := Lib.hid (HSV.out.ext HB6.out)
          have HW6 := Lib.hid (ext_trans HB5.out (HB6.out))
          go_wp2_with fail
          refine (same5 ga wa gn gc wc G _ HC1.out HC2.out HGNL.out hgc hwc (by unfold maxLen; omega) (by unfold maxLen; omega)).mono ?_
          rintro e w7 ⟨rfl, hb7⟩
          have HQ7 := Lib.hid (HQ6.out.ext hb7)
          have HSV7 := Lib.hid (HSV6.out.ext hb7)
          have HW7 := Lib.hid (ext_trans HW6.out hb7)
          clear hb7
          go_wp2_with fail
          refine (queueLost qb 1 (sl.set 0 (1, v)) 0 _ HQ7.out (by rw [List.length_set]; exact H6.out)).mono ?_
          rintro e w8 ⟨rfl, rfl⟩
          go_wp2_with fail
          refine (queueLen qb 1 0 (sl.set 0 (1, v)) 0 1 1 v [] _ HQ7.out (by rw [List.length_set]; exact H6.out) (by omega) (HVS.out v HVV.out) (HIXP.out v) (HCONS.out v) HSV7.out).mono ?_
          rintro e w8 ⟨rfl, hb8⟩
          rw [show (([] : List Cd).length : Int) = 0 from rfl]
          have HW8 := Lib.hid (ext_trans HW7.out hb8)
          clear hb8
          go_wp2_with fail
          refine (law17known _).mono ?_
          rintro e w9 ⟨rfl, hb9⟩
          have HW9 := Lib.hid (ext_trans HW8.out hb9)
          clear hb9
          go_wp2
          go_ret
          exact ⟨rfl, HW9.out⟩

end Go.Proofs.Ytmpkkkcoiljhpaa
