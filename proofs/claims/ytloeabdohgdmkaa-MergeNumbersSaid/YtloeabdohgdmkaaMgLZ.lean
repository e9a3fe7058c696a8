/- Chapter 19's runs that are known; small contracts. -/
import Derived.Test.YtloeabdohgdmkaaMgWZ
import Derived.Test.YtloeabdohgdmkaaMgKZ
import Derived.Test.YtloeabdohgdmkaaDkbZ
import Derived.OwnWalk
namespace Go.Proofs.Ytloeabdohgdmkaa
open Go.RowKit
set_option linter.unusedVariables false
set_option linter.unusedSimpArgs false

theorem low_one (e : En) (k : Ky) (h : enK e = k) : low k [e] = 0 := by subst h; simp [low, elk, enK, kc_self]
theorem isIn_one (e : En) (k : Ky) (h : enK e = k) : isIn k [e] = true := by
  unfold isIn
  rw [low_one e k h]
  subst h
  simp [enK]
theorem ge_one (e : En) (k : Ky) (h : enK e = k) : ge [e] k = e := by
  unfold ge
  rw [if_pos (isIn_one e k h), low_one e k h]
  rfl
theorem put_one (e f : En) (h : enK e = enK f) : putE [e] f = [f] := by
  unfold putE
  rw [if_pos (isIn_one e _ h), low_one e _ h]
  rfl
theorem put_nil (f : En) : putE [] f = [f] := by
  unfold putE
  rw [if_neg (by simp [isIn, low])]
  rfl
theorem asc_nil : Asc [] := List.Pairwise.nil
theorem deskSeq (db : Nat) (nd t0 k0 n0 : Int) (es : List En) (g l tt : Int) (ks : List Ky) (w : World) (h : DkP w db nd t0 k0 n0 es g l tt ks) :
    Calls Try.prog 18 #[.pointer (some ⟨db, 9, none⟩)] w fun r w' => r = .returned (.int .i64 ks.length) ∧ Below w.heap.size w w' := by
  obtain ⟨Dq, h1, -⟩ := h.r
  exact (recentSeqD Dq db _ _ w h1).mono fun r w' ⟨h2, h3⟩ => ⟨h2, by subst h3; exact Below.refl _ _⟩
def CdF (c : Cd) : Prop := CdOk c ∧ KA c.a ∧ KI c.i
theorem CdF.r {c : Cd} (h : CdF c) : CdR c := h.1.r h.2.1 h.2.2
set_option maxRecDepth 100000 in
set_option maxHeartbeats 2000000 in
theorem tapeCardsF (a0 : Option Addr) (len cap : Nat) (zs : List Int) (b most : Nat) (w : World) (hT : TapeK a0 len cap w b) (hRow : RowOk a0 len cap zs w b) (hm : most ≤ 1000) :
    Calls Try.prog 16 #[.pointer (some ⟨b, 0, none⟩), .int .i64 (most : Int)] w fun e w' => ∃ v cs, e = .returned v ∧ OwnC w.heap.size w' v cs ∧ cs.length ≤ most ∧ (∀ c ∈ cs, CdF c) ∧ TapeK a0 len cap w' b ∧ Bar b w w' := by
  obtain ⟨i0, hi, hz0, hz1, hz2⟩ := info_parts' info_card
  have HT := Lib.hid hT
  have HR := Lib.hid hRow
  clear hT hRow
  go_enter Try.func16, Try.ntmps16
  go_wp2_with fail
  refine (tapeNextK _ _ _ zs _ ((most : Int) + 1) _ HT.out HR.out (by omega) (by omega)).mono ?_
  rintro e w1 ⟨q, rfl, hq0, hq1, hT1, hb1⟩
  obtain ⟨N0, rfl⟩ : ∃ N0 : Nat, q = (N0 : Int) := ⟨q.toNat, by omega⟩
  have HT1 := Lib.hid hT1
  have HB1 := Lib.hid hb1
  have hN0 : N0 ≤ most := by omega
  clear hT1 hb1 hq0 hq1
  go_wp2_with fail
  go_loopw [5, 6] (fun o n wr => ∃ (N : Nat) (cs : List Cd), n = .int .i64 (N : Int) ∧ OwnC w.heap.size wr o cs ∧ cs.length + N ≤ most ∧ (∀ c ∈ cs, CdF c) ∧ TapeK a0 len cap wr b ∧ Bar b w wr) (fun o n _ => (intOf n).toNat)
  case atStart => exact ⟨N0, [], rfl, OwnR.nil _ _, by simpa using hN0, by simp, HT1.out, HB1.out⟩
  case round =>
    obtain ⟨w2, rfl⟩ : ∃ y : World, y = wr := ⟨_, rfl⟩
    obtain ⟨N, cs, rfl, ho, hl, hok, hT2, hb2⟩ := hrel
    obtain ⟨a, c, rfl, hnc, hcm, -, -, -⟩ := ho.read
    have HO2 := Lib.hid ho
    have HOK := Lib.hid hok
    have HT2 := Lib.hid hT2
    have HB2 := Lib.hid hb2
    obtain ⟨n, hn⟩ : ∃ n, cs.length = n := ⟨_, rfl⟩
    have HN := Lib.hid hn
    rw [hn] at hl hnc ⊢
    unfold maxLen at hcm
    clear ho hok hT2 hb2 hn
    by_cases hlt : N = 0
    · subst hlt
      go_wp2
      go_ret
      exact ⟨_, cs, rfl, by have := HO2.out; rw [HN.out] at this; exact this, by rw [HN.out]; omega, HOK.out, HT2.out, HB2.out⟩
    · have hN : 0 < N := by omega
      have hdN : decide (0 < (N : Int)) = true := by simp; omega
      go_wp2_with fail
      refine (tapeCardF _ _ _ zs _ _ HT2.out (HR.out.bar HB2.out)).mono ?_
      rintro e w3 ⟨x, rfl, hx0, hka, hki, hT3, hb3⟩
      have hx : CdF x := ⟨hx0, hka, hki⟩
      clear hx0 hka hki
      have HX := Lib.hid hx
      have HO3 := Lib.hid (show OwnC w.heap.size w3 (.slice a n c) cs from by have := HT2.out.own hb3 (by decide) HO2.out; unfold OwnC OwnR; rw [HN.out] at this ⊢; exact this)
      have HT3 := Lib.hid hT3
      have HB3 := Lib.hid (HB2.out.trans hb3)
      have Z3 := HB3.out.size
      clear hx hT3 hb3 HO2 HT2
      go_wp2_with (at_builtin; refine wpList_append_own _ rfl _ _ 28 rfl (w.heap.size) 34 i0 Cd.zero.v 9 88 Try.underlying28 hi hz0 hz1 hz2 rfl (by decide) _ n (flat cc cs) rfl (by have := HO3.out.alloc (.cells #[.string x.a, .string x.i, .int .i64 x.s, .int .i64 x.o, .int .i64 x.l, .int .i64 x.t, .int .i64 x.k, .int .i64 x.n, .bool x.g] 34); rw [HN.out] at this; exact this) ⟨w3.heap.size, 0, none⟩ 1 1 (cc x) rfl rfl ?c1 ?c2 ?c3 ?c4 ?c5 ?_)
      case c1 =>
        intro j u hj
        rw [add_off, Nat.zero_add, blk_cell (blk_new w3 #[.string x.a, .string x.i, .int .i64 x.s, .int .i64 x.o, .int .i64 x.l, .int .i64 x.t, .int .i64 x.k, .int .i64 x.n, .bool x.g] 34)]
        simpa [cc] using hj
      case c2 => exact cc_one x
      case c3 => unfold maxLen; omega
      case c4 => omega
      case c5 => simp; omega
      intro v4 w4 ho4 hg4 _
      have B4 := Lib.hid ((HB3.out.trans (Bar.of ((Below.refl _ _).alloc (Nat.le_refl _) (.cells #[.string x.a, .string x.i, .int .i64 x.s, .int .i64 x.o, .int .i64 x.l, .int .i64 x.t, .int .i64 x.k, .int .i64 x.n, .bool x.g] 34)))).grown hg4 (fun q hq => own_ge HO3.out hq))
      have T4 := Lib.hid (show TapeK a0 len cap w4 b from by
        obtain ⟨q, e1, e2⟩ := HT3.out
        exact ⟨q, (hg4.block b (by have := HT3.out.lt; simp; omega) (own_ne (HO3.out.alloc (.cells #[.string x.a, .string x.i, .int .i64 x.s, .int .i64 x.o, .int .i64 x.l, .int .i64 x.t, .int .i64 x.k, .int .i64 x.n, .bool x.g] 34)) (blk_alloc e1 _) (by decide))).trans (blk_alloc e1 _), e2⟩)
      have HO4 := Lib.hid (show OwnC w.heap.size w4 v4 (cs ++ [x]) by unfold OwnC OwnR; rw [flat_snoc, List.length_append, HN.out]; exact ho4)
      have HOK4 := Lib.hid (show ∀ c ∈ cs ++ [x], CdF c from fun c hc => by
        rcases List.mem_append.1 hc with hc | hc
        · exact HOK.out c hc
        · simp at hc; subst hc; exact HX.out)
      obtain ⟨M, rfl⟩ : ∃ M, N = M + 1 := ⟨N - 1, by omega⟩
      clear ho4 hg4 HO3 HT3 HB3 hdN
      go_wp2
      go_roundw
      case rel => exact ⟨M, cs ++ [x], by go_num, HO4.out, by rw [List.length_append, HN.out]; simp only [List.length_cons, List.length_nil]; omega, HOK4.out, T4.out, B4.out⟩
      case measure => first | (simp [intOf]; done) | (simp [intOf]; omega)
set_option maxHeartbeats 400000 in
theorem refLess (t k n t' k' n' : Int) (w : World) :
    Calls Try.prog 20 #[stv t k n, stv t' k' n'] w fun e w' => e = .returned (.bool (sLess t k n t' k' n')) ∧ Below w.heap.size w w' := by
  by_cases h1 : t = t'
  · subst h1
    by_cases h2 : n = n'
    · subst h2
      go_enter Try.func20, Try.ntmps20
      go_wp2
      go_ret
      exact ⟨by simp [sLess], by go_grown⟩
    · go_enter Try.func20, Try.ntmps20
      go_wp2
      go_ret
      exact ⟨by simp [sLess, h2], by go_grown⟩
  · go_enter Try.func20, Try.ntmps20
    go_wp2
    go_ret
    exact ⟨by simp [sLess, h1], by go_grown⟩
set_option maxRecDepth 100000 in
set_option maxHeartbeats 1000000 in
theorem mergeIntoNil (v : Value) (now : Int) (w : World) :
    Calls Try.prog 12 #[.pointer none, v, .int .i64 now] w fun r w' => r = .returned (.tuple #[.slice none 0 0, .int .i64 0]) ∧ w = w' := by
  go_enter Try.func12, Try.ntmps12
  go_wp2
  go_ret2
  exact ⟨rfl, rfl⟩

theorem cat_is {w : World} {b : Nat} {ls : List Cd} {cs : Array Value} (h : w.heap[b]? = some (.cells cs 34 (0, 0))) (e : (flat cc ls) = cs.toList) : CAt w (some ⟨b, 0, none⟩) ls := by
  refine .inr ⟨_, _, rfl, ⟨_, h⟩, fun q u hq => ?_⟩
  rw [Nat.zero_add, blk_cell h]
  rw [e] at hq
  simpa using hq
theorem known_in : intoL 7 ⟨[], [], [], 0⟩ [(⟨⟨#[97]⟩, ⟨#[98]⟩, 1, 0, 5, 1, 0, 0, false⟩ : Cd), Cd.zero, (⟨⟨#[97]⟩, ⟨#[98]⟩, 1, 0, 5, 1, 0, 0, false⟩ : Cd)] = ⟨[⟨(⟨⟨#[97]⟩, ⟨#[98]⟩, 1, 0, 5, 1, 0, 0, false⟩ : Cd), 7⟩], [(⟨#[97]⟩, ⟨#[98]⟩)], [(⟨⟨#[97]⟩, ⟨#[98]⟩, 1, 0, 5, 1, 0, 0, false⟩ : Cd)], 0⟩ := by
  have hk : enK (⟨(⟨⟨#[97]⟩, ⟨#[98]⟩, 1, 0, 5, 1, 0, 0, false⟩ : Cd), 7⟩ : En) = ck (⟨⟨#[97]⟩, ⟨#[98]⟩, 1, 0, 5, 1, 0, 0, false⟩ : Cd) := rfl
  have e1 : into1 7 ⟨[], [], [], 0⟩ (⟨⟨#[97]⟩, ⟨#[98]⟩, 1, 0, 5, 1, 0, 0, false⟩ : Cd) = ⟨[⟨(⟨⟨#[97]⟩, ⟨#[98]⟩, 1, 0, 5, 1, 0, 0, false⟩ : Cd), 7⟩], [(⟨#[97]⟩, ⟨#[98]⟩)], [(⟨⟨#[97]⟩, ⟨#[98]⟩, 1, 0, 5, 1, 0, 0, false⟩ : Cd)], 0⟩ := by
    rw [into_set (by decide) (.inl rfl) (.inr (by decide)), put_nil]
    rfl
  have e2 : into1 7 ⟨[⟨(⟨⟨#[97]⟩, ⟨#[98]⟩, 1, 0, 5, 1, 0, 0, false⟩ : Cd), 7⟩], [(⟨#[97]⟩, ⟨#[98]⟩)], [(⟨⟨#[97]⟩, ⟨#[98]⟩, 1, 0, 5, 1, 0, 0, false⟩ : Cd)], 0⟩ Cd.zero = ⟨[⟨(⟨⟨#[97]⟩, ⟨#[98]⟩, 1, 0, 5, 1, 0, 0, false⟩ : Cd), 7⟩], [(⟨#[97]⟩, ⟨#[98]⟩)], [(⟨⟨#[97]⟩, ⟨#[98]⟩, 1, 0, 5, 1, 0, 0, false⟩ : Cd)], 0⟩ := into_zero rfl
  have hi : isIn (ck (⟨⟨#[97]⟩, ⟨#[98]⟩, 1, 0, 5, 1, 0, 0, false⟩ : Cd)) [(⟨(⟨⟨#[97]⟩, ⟨#[98]⟩, 1, 0, 5, 1, 0, 0, false⟩ : Cd), 7⟩ : En)] = true := isIn_one _ _ hk
  have hg : ge [(⟨(⟨⟨#[97]⟩, ⟨#[98]⟩, 1, 0, 5, 1, 0, 0, false⟩ : Cd), 7⟩ : En)] (ck (⟨⟨#[97]⟩, ⟨#[98]⟩, 1, 0, 5, 1, 0, 0, false⟩ : Cd)) = ⟨(⟨⟨#[97]⟩, ⟨#[98]⟩, 1, 0, 5, 1, 0, 0, false⟩ : Cd), 7⟩ := ge_one _ _ hk
  have e3 : into1 7 ⟨[⟨(⟨⟨#[97]⟩, ⟨#[98]⟩, 1, 0, 5, 1, 0, 0, false⟩ : Cd), 7⟩], [(⟨#[97]⟩, ⟨#[98]⟩)], [(⟨⟨#[97]⟩, ⟨#[98]⟩, 1, 0, 5, 1, 0, 0, false⟩ : Cd)], 0⟩ (⟨⟨#[97]⟩, ⟨#[98]⟩, 1, 0, 5, 1, 0, 0, false⟩ : Cd) = ⟨[⟨(⟨⟨#[97]⟩, ⟨#[98]⟩, 1, 0, 5, 1, 0, 0, false⟩ : Cd), 7⟩], [(⟨#[97]⟩, ⟨#[98]⟩)], [(⟨⟨#[97]⟩, ⟨#[98]⟩, 1, 0, 5, 1, 0, 0, false⟩ : Cd)], 0⟩ := by
    rw [into_see (s := ⟨[⟨(⟨⟨#[97]⟩, ⟨#[98]⟩, 1, 0, 5, 1, 0, 0, false⟩ : Cd), 7⟩], [(⟨#[97]⟩, ⟨#[98]⟩)], [(⟨⟨#[97]⟩, ⟨#[98]⟩, 1, 0, 5, 1, 0, 0, false⟩ : Cd)], 0⟩) (by decide) hi (by show ltC (ge [(⟨(⟨⟨#[97]⟩, ⟨#[98]⟩, 1, 0, 5, 1, 0, 0, false⟩ : Cd), 7⟩ : En)] (ck (⟨⟨#[97]⟩, ⟨#[98]⟩, 1, 0, 5, 1, 0, 0, false⟩ : Cd))).c (⟨⟨#[97]⟩, ⟨#[98]⟩, 1, 0, 5, 1, 0, 0, false⟩ : Cd) = false; rw [hg]; rfl) ⟨by show _ = _ ∧ _ = _ ∧ _ = _; rw [hg]; exact ⟨rfl, rfl, rfl⟩, by show (ge [(⟨(⟨⟨#[97]⟩, ⟨#[98]⟩, 1, 0, 5, 1, 0, 0, false⟩ : Cd), 7⟩ : En)] (ck (⟨⟨#[97]⟩, ⟨#[98]⟩, 1, 0, 5, 1, 0, 0, false⟩ : Cd))).c.g = false; rw [hg]⟩]
    show (⟨putE [(⟨(⟨⟨#[97]⟩, ⟨#[98]⟩, 1, 0, 5, 1, 0, 0, false⟩ : Cd), 7⟩ : En)] ⟨(ge [(⟨(⟨⟨#[97]⟩, ⟨#[98]⟩, 1, 0, 5, 1, 0, 0, false⟩ : Cd), 7⟩ : En)] (ck (⟨⟨#[97]⟩, ⟨#[98]⟩, 1, 0, 5, 1, 0, 0, false⟩ : Cd))).c, 7⟩, _, _, _⟩ : Is) = _
    rw [hg, put_one _ _ rfl]
  show into1 7 (into1 7 (into1 7 ⟨[], [], [], 0⟩ (⟨⟨#[97]⟩, ⟨#[98]⟩, 1, 0, 5, 1, 0, 0, false⟩ : Cd)) Cd.zero) (⟨⟨#[97]⟩, ⟨#[98]⟩, 1, 0, 5, 1, 0, 0, false⟩ : Cd) = _
  rw [e1, e2, e3]
theorem nm_a19 : NmOk ⟨#[97]⟩ := nm_of (by decide) (by decide) (by decide) (by decide) (by decide) (by decide) (by decide)
theorem nm_b19 : NmOk ⟨#[98]⟩ := nm_of (by decide) (by decide) (by decide) (by decide) (by decide) (by decide) (by decide)
theorem cdr_a : CdR (⟨⟨#[97]⟩, ⟨#[98]⟩, 1, 0, 5, 1, 0, 0, false⟩ : Cd) := ⟨nm_a19, nm_b19, by decide, by decide, by decide, by decide, by decide, by decide, by decide, by decide, by decide, by decide⟩
set_option maxRecDepth 100000 in
set_option maxHeartbeats 4000000 in
theorem law19known (w : World) :
    Calls Try.prog 8 #[] w fun r w' => r = .returned (.bool true) ∧ Below w.heap.size w w' := by
  go_enter Try.func8, Try.ntmps8
  go_wp2_with fail
  refine (deskNew 0 0 w (by omega) (by omega) (by omega) (by omega)).mono ?_
  rintro r w1 ⟨db, rfl, hdb, hp, hb⟩
  have HDB := Lib.hid hdb
  have D2 := (Below.refl w1.heap.size w1).alloc (Nat.le_refl _) (.cells #[.string ⟨#[97]⟩, .string ⟨#[98]⟩, .int .i64 1, .int .i64 0, .int .i64 5, .int .i64 1, .int .i64 0, .int .i64 0, .bool false] 34)
  have HX2 := Lib.hid (blk_new w1 #[.string ⟨#[97]⟩, .string ⟨#[98]⟩, .int .i64 1, .int .i64 0, .int .i64 5, .int .i64 1, .int .i64 0, .int .i64 0, .bool false] 34)
  have HP2 := Lib.hid (hp.ext D2)
  have HB2 := Lib.hid (ext_trans hb D2)
  clear hdb hp hb D2
  go_upto_region 3 with (fail)
  obtain ⟨p, hp⟩ : ∃ p, w1.heap.size = p := ⟨_, rfl⟩
  rw [hp] at HX2
  try rw [hp]
  clear hp
  generalize (w1.alloc (.cells #[.string ⟨#[97]⟩, .string ⟨#[98]⟩, .int .i64 1, .int .i64 0, .int .i64 5, .int .i64 1, .int .i64 0, .int .i64 0, .bool false] 34)) = w2 at *
  have hxc := blk_cell HX2.out
  have hxl := blk_lt HX2.out
  have D3 := (Below.refl w2.heap.size w2).alloc (Nat.le_refl _) (.cells #[.string ⟨#[97]⟩, .string ⟨#[98]⟩, .int .i64 1, .int .i64 0, .int .i64 5, .int .i64 1, .int .i64 0, .int .i64 0, .bool false, .string ⟨#[]⟩, .string ⟨#[]⟩, .int .i64 0, .int .i64 0, .int .i64 0, .int .i64 0, .int .i64 0, .int .i64 0, .bool false, .string ⟨#[97]⟩, .string ⟨#[98]⟩, .int .i64 1, .int .i64 0, .int .i64 5, .int .i64 1, .int .i64 0, .int .i64 0, .bool false] 34)
  have HL3 := Lib.hid (cat_is (ls := [(⟨⟨#[97]⟩, ⟨#[98]⟩, 1, 0, 5, 1, 0, 0, false⟩ : Cd), Cd.zero, (⟨⟨#[97]⟩, ⟨#[98]⟩, 1, 0, 5, 1, 0, 0, false⟩ : Cd)]) (blk_new w2 #[.string ⟨#[97]⟩, .string ⟨#[98]⟩, .int .i64 1, .int .i64 0, .int .i64 5, .int .i64 1, .int .i64 0, .int .i64 0, .bool false, .string ⟨#[]⟩, .string ⟨#[]⟩, .int .i64 0, .int .i64 0, .int .i64 0, .int .i64 0, .int .i64 0, .int .i64 0, .bool false, .string ⟨#[97]⟩, .string ⟨#[98]⟩, .int .i64 1, .int .i64 0, .int .i64 5, .int .i64 1, .int .i64 0, .int .i64 0, .bool false] 34) rfl)
  have HP3 := Lib.hid (HP2.out.ext D3)
  have HX3 := Lib.hid (blk_ext D3 HX2.out)
  have HB3 := Lib.hid (ext_trans HB2.out D3)
  clear D3 HP2 HX2 HB2
  go_wp2_with fail
  refine (mergeInto db 0 0 0 0 [] 0 0 0 [] (some ⟨w2.heap.size, 0, none⟩) 3 3 [(⟨⟨#[97]⟩, ⟨#[98]⟩, 1, 0, 5, 1, 0, 0, false⟩ : Cd), Cd.zero, (⟨⟨#[97]⟩, ⟨#[98]⟩, 1, 0, 5, 1, 0, 0, false⟩ : Cd)] 7 _ HP3.out asc_nil (by decide) HL3.out rfl (by decide) (fun x hx => by
    simp only [List.mem_cons, List.not_mem_nil, or_false] at hx
    rcases hx with rfl | rfl | rfl
    · exact .inl cdr_a
    · exact .inr rfl
    · exact .inl cdr_a) (by decide) (by decide) (by decide)).mono ?_
  rintro r w3 ⟨v, rfl, ho, hp4, hr4⟩
  rw [known_in] at ho hp4 ⊢
  obtain ⟨a1, c1, rfl, hc1, hm1, -⟩ := OwnR.form ho
  have HX4 := Lib.hid ((HP3.out.other hr4 HX3.out (by decide)).trans HX3.out)
  have HP4 := Lib.hid hp4
  have HB4 := Lib.hid (hr4.below HDB.out HB3.out.size |> fun h => HB3.out.trans h)
  clear ho hp4 hr4 hxc hxl HL3 HP3 HX3 HB3
  have hxc := blk_cell HX4.out
  have hxl := blk_lt HX4.out
  have D5 := (Below.refl w3.heap.size w3).alloc (Nat.le_refl _) (.cells #[.string ⟨#[97]⟩, .string ⟨#[98]⟩, .int .i64 1, .int .i64 0, .int .i64 5, .int .i64 1, .int .i64 0, .int .i64 0, .bool false] 34)
  have HP5 := Lib.hid (HP4.out.ext D5)
  have HB5 := Lib.hid (ext_trans HB4.out D5)
  clear D5 HP4 HB4
  have hone : (([(⟨⟨#[97]⟩, ⟨#[98]⟩, 1, 0, 5, 1, 0, 0, false⟩ : Cd)] : List Cd).length : Int) = 1 := rfl
  go_wp2_with fail
  refine (mergeIntoNil _ 7 _).mono ?_
  rintro r w5 ⟨rfl, hw5⟩
  subst hw5
  generalize (w3.alloc (.cells #[.string ⟨#[97]⟩, .string ⟨#[98]⟩, .int .i64 1, .int .i64 0, .int .i64 5, .int .i64 1, .int .i64 0, .int .i64 0, .bool false] 34)) = w5 at *
  clear hxc hxl HX4
  go_wp2_with fail
  refine (mergeJoin none 0 0 [] [] w5 ⟨.inl rfl, fun r hr => by cases hr⟩ rfl (by decide) rfl (by decide)).mono ?_
  rintro r w6 ⟨v6, rfl, ho6, hb6⟩
  obtain ⟨a6, c6, rfl, -, -, -⟩ := OwnR.form ho6
  have HP6 := Lib.hid (HP5.out.ext hb6)
  have HB6 := Lib.hid (ext_trans HB5.out hb6)
  have hl6 : (jnL (srt klt [])).length = 0 := rfl
  rw [hl6]
  clear ho6 hb6 HP5 HB5 hl6
  go_wp2_with fail
  refine (deskRecent db 0 0 0 0 _ 0 0 0 _ w6 HP6.out).mono ?_
  rintro r w7 ⟨rfl, hb7⟩
  have HP7 := Lib.hid (HP6.out.ext hb7)
  have HB7 := Lib.hid (ext_trans HB6.out hb7)
  clear hb7 HP6 HB6
  go_wp2_with fail
  refine (deskSeq db 0 0 0 0 _ 0 0 0 _ w7 HP7.out).mono ?_
  rintro r w8 ⟨rfl, hb8⟩
  have HB8 := Lib.hid (ext_trans HB7.out hb8)
  clear hb8 HP7 HB7
  go_wp2
  go_ret
  exact ⟨rfl, HB8.out⟩

end Go.Proofs.Ytloeabdohgdmkaa
