/- Rows of cards put one behind the other; joined cards. -/
import Derived.Test.YtloeabdohgdmkaaMgDZ
import Derived.Test.YtloeabdohgdmkaaSycZ
import Derived.Test.YtloeabdohgdmkaaMapDZ
import Derived.Lib.AppendZeros
import Derived.Deep.DeepAppendRoom
namespace Go.Proofs.Ytloeabdohgdmkaa
open Go.RowKit
set_option linter.unusedVariables false
set_option linter.unusedSimpArgs false


/-- a row of cards as a slice -/
structure Rw where
  a : Option Addr
  n : Nat
  c : Nat
  ls : List Cd
def rwE (r : Rw) : List Value := [.slice r.a r.n r.c]
theorem rwE_len (r : Rw) : (rwE r).length = 1 := rfl
def RwOk (w : World) (r : Rw) : Prop := r.ls.length = r.n ∧ r.n ≤ r.c ∧ r.c ≤ maxLen ∧ ((r.a = none ∧ r.c = 0) ∨ ∃ b o, r.a = some ⟨b, o, none⟩) ∧ CAt w r.a r.ls
def RwsAt (w : World) (a : Option Addr) (rs : List Rw) : Prop := SAt rwE 1 28 w a rs ∧ ∀ r ∈ rs, RwOk w r
theorem RwOk.ext {w w' : World} {r : Rw} (h : RwOk w r) (hb : Below w.heap.size w w') : RwOk w' r := ⟨h.1, h.2.1, h.2.2.1, h.2.2.2.1, h.2.2.2.2.ext hb⟩
theorem RwsAt.ext {w w' : World} {a : Option Addr} {rs : List Rw} (h : RwsAt w a rs) (hb : Below w.heap.size w w') : RwsAt w' a rs := ⟨h.1.ext hb, fun r hr => (h.2 r hr).ext hb⟩
/-- all cards of rows -/
def alls (rs : List Rw) : List Cd := rs.flatMap (·.ls)
theorem alls_snoc (rs : List Rw) (r : Rw) : alls (rs ++ [r]) = alls rs ++ r.ls := by simp [alls]
theorem alls_take {rs : List Rw} {J : Nat} {r : Rw} (h : rs[J]? = some r) : alls (rs.take (J + 1)) = alls (rs.take J) ++ r.ls := by rw [List.take_add_one, h]; exact alls_snoc _ _
theorem wr_small (a b : Nat) (h : a + b ≤ 1000000) : wrap64 ((a : Int) + (b : Int)) = ((a + b : Nat) : Int) := by
  unfold wrap64
  omega
theorem nat_neg (q : Nat) : decide ((q : Int) < 0) = false := decide_eq_false (by omega)
theorem alls_le (rs : List Rw) (J : Nat) : (alls (rs.take J)).length ≤ (alls rs).length := by
  have h : alls rs = alls (rs.take J) ++ alls (rs.drop J) := by rw [alls, alls, alls, ← List.flatMap_append, List.take_append_drop]
  rw [h, List.length_append]
  omega
set_option maxRecDepth 100000 in
set_option maxHeartbeats 1000000 in
theorem growNil (n : Nat) (w : World) (hn : n ≤ 100000) :
    Calls Try.prog 55 #[.slice none 0 0, .int .i64 (n : Int)] w fun r w' => ∃ v, r = .returned v ∧ OwnC w.heap.size w' v [] ∧ Below w.heap.size w w' := by
  obtain ⟨i0, hi, hz0, hz1, hz2⟩ := info_parts' info_card
  by_cases h0 : n = 0
  · subst h0
    go_enter Try.func55, Try.ntmps55
    go_wp2
    go_ret
    exact ⟨_, rfl, OwnR.nil _ _, Below.refl _ _⟩
  · have h1 : decide ((n : Int) < 0) = false := decide_eq_false (by omega)
    have h2 : decide ((0 : Int) < (n : Int)) = true := decide_eq_true (by omega)
    have h3 : wrap64 ((n : Int) - 0) = (n : Int) := by unfold wrap64; omega
    have hx : (0 : Int) < (n : Int) := by omega
    have hrun := Lib.run_append_nil_zeros (P := Try.prog) w 28 3 28 34 i0 Cd.zero.v .i64 .i64 Try.underlying28 Try.underlying3 hi hz0 n (by omega) (by rw [hz1]; omega) (by omega) (by rw [hz2]; omega)
    go_enter Try.func55, Try.ntmps55
    go_wp2_with (at_builtin; refine Lib.wpList_append_run _ rfl _ _ _ _ rfl _ _ rfl rfl _ _ hrun ?_)
    go_ret
    refine ⟨_, rfl, ?_, ?_⟩
    · refine (World.ownsRow_made (base := w.heap.size) w.drew _ _ (Nat.le_refl _) ?_ ?_)
      · exact grownCap_le_maxLen _ _ _ _ (by unfold maxLen; omega)
      · have hg9 := grownCap_ge w n 0 34
        rw [Array.size_append, size_zeroCells, size_zeroCells]
        show n * 9 + (grownCap w n 0 34 - n) * 9 = grownCap w n 0 34 * 9
        omega
    · exact ((Below.refl _ _).drew).alloc (Nat.le_refl _) _

set_option maxRecDepth 100000 in
set_option maxHeartbeats 2000000 in
theorem concatC (a : Option Addr) (n c : Nat) (rs : List Rw) (w : World) (h : RwsAt w a rs) (hl : rs.length = n) (hn : n ≤ 1000) (ht : (alls rs).length ≤ 100000) :
    Calls Try.prog 28 #[.slice a n c] w fun r w' => ∃ v, r = .returned v ∧ OwnC w.heap.size w' v (alls rs) ∧ Below w.heap.size w w' := by
  obtain ⟨i0, hi, hz0, hz1, hz2⟩ := info_parts' info_card
  have HR := Lib.hid h
  have HL := Lib.hid hl
  clear h hl
  go_enter Try.func28, Try.ntmps28
  go_wp2_with fail
  go_loopw [3, 11] (fun q j wr => ∃ J : Nat, J ≤ n ∧ j = .int .i64 (J : Int) ∧ q = .int .i64 ((alls (rs.take J)).length : Int) ∧ wr = w) (fun q j _ => n - (intOf j).toNat)
  case atStart => exact ⟨0, by omega, rfl, rfl, rfl⟩
  case round =>
    obtain ⟨J, hJ, rfl, rfl, rfl⟩ := hrel
    by_cases hlt : J < n
    · obtain ⟨x, hx⟩ : ∃ x, rs[J]? = some x := ⟨_, List.getElem?_eq_getElem (by have := HL.out; omega)⟩
      obtain ⟨b, o, rfl⟩ : ∃ b o, a = some ⟨b, o, none⟩ := by
        rcases HR.out.1 with h | ⟨b, o, e, _⟩
        · rw [h] at hx; simp at hx
        · exact ⟨b, o, e⟩
      have y0 : wr.cell? ⟨b, o + J, none⟩ = some (.slice x.a x.n x.c) := by
        have h9 := SAt.get rwE_len HR.out.1 hx 0 (.slice x.a x.n x.c) rfl
        simpa using h9
      have hok := HR.out.2 x (List.mem_of_getElem? hx)
      have hle := alls_le rs (J + 1)
      have he := alls_take hx
      obtain ⟨q, hq⟩ : ∃ q, (alls (rs.take J)).length = q := ⟨_, rfl⟩
      obtain ⟨q2, hq2⟩ : ∃ q2, (alls (rs.take (J + 1))).length = q2 := ⟨_, rfl⟩
      have hqq : q2 = q + x.n := by rw [← hq2, he, List.length_append, hq, hok.1]
      rw [hq2] at hle
      rw [hq]
      have HQ2 := Lib.hid hq2
      have HQQ := Lib.hid hqq
      have hs : (wrap64 ((q : Int) + (x.n : Int))) = (q2 : Int) := by rw [hqq]; exact wr_small q x.n (by omega)
      have hd := nat_neg q2
      clear hx hok he hq hq2 hqq
      go_wp2
      go_roundw
      case rel => exact ⟨J + 1, by omega, by go_num, by rw [HQ2.out]; first | rfl | rw [hs], by first | rfl | trivial⟩
      case measure => simp [intOf]; omega
    · have hd : decide ((J : Int) < (n : Int)) = false := by simp; omega
      have hall : rs.take J = rs := List.take_of_length_le (by have := HL.out; omega)
      rw [hall]
      obtain ⟨q, hq⟩ : ∃ q, (alls rs).length = q := ⟨_, rfl⟩
      rw [hq] at ht ⊢
      have HQ := Lib.hid hq
      clear hall hq
      go_wp2_with fail
      refine (growNil q wr ht).mono ?_
      rintro r w1 ⟨v, rfl, ho, hb⟩
      have HO := Lib.hid ho
      have HB := Lib.hid hb
      have HR1 := Lib.hid (HR.out.ext hb)
      clear ho hb hd hlt
      have hd0 : decide ((0 : Int) < (n : Int)) = decide ((0 : Int) < (n : Int)) := rfl
      clear hd0
      obtain ⟨w0, rfl⟩ : ∃ w0 : World, w0 = wr := ⟨_, rfl⟩
      go_wp2_with fail
      go_loopw [6, 27] (fun v j w2 => ∃ J : Nat, J ≤ n ∧ j = .int .i64 (J : Int) ∧ OwnC w0.heap.size w2 v (alls (rs.take J)) ∧ Below w0.heap.size w0 w2) (fun v j _ => n - (intOf j).toNat)
      case atStart => exact ⟨0, by omega, rfl, HO.out, HB.out⟩
      case round =>
        obtain ⟨w2, rfl⟩ : ∃ y : World, y = wr := ⟨_, rfl⟩
        obtain ⟨J, hJ, rfl, ho2, hb2⟩ := hrel
        obtain ⟨S, hS⟩ : ∃ S, alls (rs.take J) = S := ⟨_, rfl⟩
        have hSl : S.length ≤ q := by rw [← hS, ← HQ.out]; exact alls_le rs J
        rw [hS] at ho2
        obtain ⟨m, hm⟩ : ∃ m, S.length = m := ⟨_, rfl⟩
        obtain ⟨ga, gc, rfl, hgc, hgm, hgf⟩ := OwnR.form ho2
        rw [hm] at hgc hSl ho2 ⊢
        have HM := Lib.hid hm
        have HO2 := Lib.hid ho2
        have HB2 := Lib.hid hb2
        have hbz := hb2.size
        clear hm ho2 hb2 HO HB
        by_cases hlt : J < n
        · obtain ⟨x, hx⟩ : ∃ x, rs[J]? = some x := ⟨_, List.getElem?_eq_getElem (by have := HL.out; omega)⟩
          obtain ⟨b, o, rfl⟩ : ∃ b o, a = some ⟨b, o, none⟩ := by
            rcases HR.out.1 with h | ⟨b, o, e, _⟩
            · rw [h] at hx; simp at hx
            · exact ⟨b, o, e⟩
          have hr2 := HR.out.ext HB2.out
          have y0 : w2.cell? ⟨b, o + J, none⟩ = some (.slice x.a x.n x.c) := by
            have h9 := SAt.get rwE_len hr2.1 hx 0 (.slice x.a x.n x.c) rfl
            simpa using h9
          obtain ⟨k1, k2, k3, k4, k5⟩ := hr2.2 x (List.mem_of_getElem? hx)
          have HST := Lib.hid (show alls (rs.take (J + 1)) = S ++ x.ls from by rw [alls_take hx, hS])
          have hle : m + x.n ≤ q := by
            have h9 := alls_le rs (J + 1)
            rw [HST.out, List.length_append, HM.out, k1, HQ.out] at h9
            exact h9
          clear hx hr2 hS
          obtain ⟨xa, xn, xc, xl⟩ := x
          simp only [] at y0 k1 k2 k3 k4 k5 HST hle
          have HK1 := Lib.hid k1
          have HK5 := Lib.hid k5
          clear k1 k5
          rcases k4 with ⟨rfl, rfl⟩ | ⟨xb, xo, rfl⟩
          · obtain rfl : xn = 0 := by omega
            have hx0 : xl = [] := List.eq_nil_of_length_eq_zero HK1.out
            subst hx0
            go_wp2_with (at_builtin; refine Lib.wpList_append_run _ rfl _ _ _ _ rfl _ _ rfl rfl _ _ (run_append_nil w2 _ ga m gc hgc) ?_)
            go_roundw
            case rel => exact ⟨J + 1, by omega, by go_num, by rw [HST.out, List.append_nil]; exact HO2.out, HB2.out⟩
            case measure => simp [intOf]; omega
          · have HO3 := Lib.hid (show w2.ownsRow w0.heap.size 34 9 (.slice ga m gc) m (flat cc S) from by have h9 := HO2.out; unfold OwnC OwnR at h9; rw [HM.out] at h9; exact h9)
            have HCELL := Lib.hid (show ∀ (j : Nat) (u : Value), (flat cc xl)[j]? = some u → w2.cell? ((⟨xb, xo, none⟩ : Addr).add j) = some u from fun j u hj => by
              rcases HK5.out with h | ⟨b9, o9, e9, -, hq9⟩
              · rw [h] at hj; simp [flat] at hj
              · simp at e9
                rw [add_off, e9.1, e9.2]
                exact hq9 j u hj)
            go_wp2_with (at_builtin; refine wpList_append_own _ rfl _ _ 28 rfl (w0.heap.size) 34 i0 Cd.zero.v 9 88 Try.underlying28 hi hz0 hz1 hz2 rfl (by decide) (.slice ga m gc) m (flat cc S) rfl HO3.out ⟨xb, xo, none⟩ xn xc (flat cc xl) rfl (by rw [flat_len cc_len, HK1.out]) HCELL.out ?c2 ?c3 ?c4 ?c5 ?_)
            case c2 => exact flat_one cc_one xl
            case c3 => unfold maxLen; omega
            case c4 => omega
            case c5 => omega
            intro v5 w5 ho5 hg5 _
            have HB5 := Lib.hid (show Below w0.heap.size w0 w5 from HB2.out.grown hg5 HB2.out.size (fun q hq => own_ge HO3.out hq))
            have HO5 := Lib.hid (show OwnC w0.heap.size w5 v5 (S ++ xl) from by unfold OwnC OwnR; rw [flat_app, List.length_append, HM.out, HK1.out]; exact ho5)
            clear ho5 hg5 HO3 HCELL HO2 HB2 HK5
            go_wp2
            go_roundw
            case rel => exact ⟨J + 1, by omega, by go_num, by rw [HST.out]; exact HO5.out, HB5.out⟩
            case measure => simp [intOf]; omega
        · have hd : decide ((J : Int) < (n : Int)) = false := by simp; omega
          have HF := Lib.hid (show S = alls rs from by rw [← hS, List.take_of_length_le (by have := HL.out; omega)])
          clear hS
          go_wp2
          go_ret
          refine ⟨_, rfl, ?_, HB2.out⟩
          have h9 := HO2.out
          rw [HF.out] at h9
          exact h9

theorem stampLessJ (x y : Cd) (b : Bool) (w : World) (h : ltC x y = b) : Calls Try.prog 34 #[.agg #[.int .i64 x.t, .int .i64 x.k, .int .i64 x.n], .agg #[.int .i64 y.t, .int .i64 y.k, .int .i64 y.n]] w fun r w' => r = .returned (.bool b) ∧ Below w.heap.size w w' := by
  subst h
  exact stampLess x.t x.k x.n y.t y.k y.n w
set_option maxRecDepth 100000 in
set_option maxHeartbeats 1000000 in
theorem cardJoin2 (y x : Cd) (w : World) :
    Calls Try.prog 29 #[.agg #[.string y.a, .string y.i, .int .i64 y.s, .int .i64 y.o, .int .i64 y.l, .int .i64 y.t, .int .i64 y.k, .int .i64 y.n, .bool y.g], .agg #[.string x.a, .string x.i, .int .i64 x.s, .int .i64 x.o, .int .i64 x.l, .int .i64 x.t, .int .i64 x.k, .int .i64 x.n, .bool x.g]] w fun r w' => r = .returned (.agg #[.string (jn2 y x).a, .string (jn2 y x).i, .int .i64 (jn2 y x).s, .int .i64 (jn2 y x).o, .int .i64 (jn2 y x).l, .int .i64 (jn2 y x).t, .int .i64 (jn2 y x).k, .int .i64 (jn2 y x).n, .bool (jn2 y x).g]) ∧ Below w.heap.size w w' := by
  have D0 := Lib.hid (show Below w.heap.size w (((w.alloc (.cells #[.string y.a, .string y.i, .int .i64 y.s, .int .i64 y.o, .int .i64 y.l, .int .i64 y.t, .int .i64 y.k, .int .i64 y.n, .bool y.g] 34)).alloc (.cells #[.string x.a, .string x.i, .int .i64 x.s, .int .i64 x.o, .int .i64 x.l, .int .i64 x.t, .int .i64 x.k, .int .i64 x.n, .bool x.g] 34)).alloc (.cells #[.string ⟨#[]⟩, .string ⟨#[]⟩, .int .i64 0, .int .i64 0, .int .i64 0, .int .i64 0, .int .i64 0, .int .i64 0, .bool false] 34)) from (((Below.refl _ _).alloc (Nat.le_refl _) _).alloc (by simp) _).alloc (by simp; omega) _)
  have HY := Lib.hid (blk_alloc (blk_alloc (blk_new w #[.string y.a, .string y.i, .int .i64 y.s, .int .i64 y.o, .int .i64 y.l, .int .i64 y.t, .int .i64 y.k, .int .i64 y.n, .bool y.g] 34) (.cells #[.string x.a, .string x.i, .int .i64 x.s, .int .i64 x.o, .int .i64 x.l, .int .i64 x.t, .int .i64 x.k, .int .i64 x.n, .bool x.g] 34)) (.cells #[.string ⟨#[]⟩, .string ⟨#[]⟩, .int .i64 0, .int .i64 0, .int .i64 0, .int .i64 0, .int .i64 0, .int .i64 0, .bool false] 34))
  have HX := Lib.hid (blk_alloc (show (w.alloc (.cells #[.string y.a, .string y.i, .int .i64 y.s, .int .i64 y.o, .int .i64 y.l, .int .i64 y.t, .int .i64 y.k, .int .i64 y.n, .bool y.g] 34)).alloc (.cells #[.string x.a, .string x.i, .int .i64 x.s, .int .i64 x.o, .int .i64 x.l, .int .i64 x.t, .int .i64 x.k, .int .i64 x.n, .bool x.g] 34) |>.heap[w.heap.size + 1]? = some (.cells #[.string x.a, .string x.i, .int .i64 x.s, .int .i64 x.o, .int .i64 x.l, .int .i64 x.t, .int .i64 x.k, .int .i64 x.n, .bool x.g] 34 (0, 0)) from blk_new_at (by simp) _ _) (.cells #[.string ⟨#[]⟩, .string ⟨#[]⟩, .int .i64 0, .int .i64 0, .int .i64 0, .int .i64 0, .int .i64 0, .int .i64 0, .bool false] 34))
  have HZ := Lib.hid (show (((w.alloc (.cells #[.string y.a, .string y.i, .int .i64 y.s, .int .i64 y.o, .int .i64 y.l, .int .i64 y.t, .int .i64 y.k, .int .i64 y.n, .bool y.g] 34)).alloc (.cells #[.string x.a, .string x.i, .int .i64 x.s, .int .i64 x.o, .int .i64 x.l, .int .i64 x.t, .int .i64 x.k, .int .i64 x.n, .bool x.g] 34)).alloc (.cells #[.string ⟨#[]⟩, .string ⟨#[]⟩, .int .i64 0, .int .i64 0, .int .i64 0, .int .i64 0, .int .i64 0, .int .i64 0, .bool false] 34)).heap[w.heap.size + 1 + 1]? = some (.cells #[.string ⟨#[]⟩, .string ⟨#[]⟩, .int .i64 0, .int .i64 0, .int .i64 0, .int .i64 0, .int .i64 0, .int .i64 0, .bool false] 34 (0, 0)) from blk_new_at (by simp) _ _)
  obtain ⟨u, hu⟩ : ∃ u, jn2 y x = u := ⟨_, rfl⟩
  rw [hu]
  have HU := Lib.hid hu
  clear hu
  go_enter Try.func29, Try.ntmps29
  go_upto_region 1 with (fail)
  obtain ⟨p, hp⟩ : ∃ p, w.heap.size = p := ⟨_, rfl⟩
  obtain ⟨q, hq⟩ : ∃ q, p + 1 = q := ⟨_, rfl⟩
  obtain ⟨z, hz⟩ : ∃ z, q + 1 = z := ⟨_, rfl⟩
  rw [hp] at HY
  rw [hp, hq] at HX
  rw [hp, hq, hz] at HZ
  try rw [hp]
  try rw [hq]
  try rw [hz]
  have HPZ := Lib.hid (show w.heap.size ≤ z by omega)
  have hqz : q ≠ z := by omega
  have hpz : p ≠ z := by omega
  clear hp hq hz
  generalize (((w.alloc (.cells #[.string y.a, .string y.i, .int .i64 y.s, .int .i64 y.o, .int .i64 y.l, .int .i64 y.t, .int .i64 y.k, .int .i64 y.n, .bool y.g] 34)).alloc (.cells #[.string x.a, .string x.i, .int .i64 x.s, .int .i64 x.o, .int .i64 x.l, .int .i64 x.t, .int .i64 x.k, .int .i64 x.n, .bool x.g] 34)).alloc (.cells #[.string ⟨#[]⟩, .string ⟨#[]⟩, .int .i64 0, .int .i64 0, .int .i64 0, .int .i64 0, .int .i64 0, .int .i64 0, .bool false] 34)) = w1 at *
  have hyc := blk_cell HY.out
  have hyl := blk_lt HY.out
  have hxc := blk_cell HX.out
  have hxl := blk_lt HX.out
  obtain ⟨tb, htb⟩ : ∃ tb, ltC y x = tb := ⟨_, rfl⟩
  have HTB := Lib.hid htb
  clear htb
  go_wp2_with fail
  refine (stampLessJ y x tb w1 HTB.out).mono ?_
  rintro r w2 ⟨rfl, hb⟩
  have HX3 := Lib.hid (blk_ext hb HX.out)
  have HY3 := Lib.hid (blk_ext hb HY.out)
  have HZ2 := Lib.hid (blk_ext hb HZ.out)
  have D2 := Lib.hid (ext_trans D0.out hb)
  clear hb hyc hyl hxc hxl HX HY HZ D0
  cases tb
  · have HJ := Lib.hid (show jn2 y x = y from by unfold jn2; rw [HTB.out]; simp)
    obtain rfl : u = y := by rw [← HU.out]; exact HJ.out
    have HX2 := HY3
    have hk := blk_cell HX2.out
    have hkl := blk_lt HX2.out
    have hzc := blk_cell HZ2.out
    have hf := blk_free HZ2.out
    have hzl := blk_lt HZ2.out
    go_wp2
    exact bodyPost_ret (v := .agg #[.string u.a, .string u.i, .int .i64 u.s, .int .i64 u.o, .int .i64 u.l, .int .i64 u.t, .int .i64 u.k, .int .i64 u.n, .bool u.g]) (by have hk2 := blk_cell (blk_fill9 (v0 := .string u.a) (v1 := .string u.i) (v2 := .int .i64 u.s) (v3 := .int .i64 u.o) (v4 := .int .i64 u.l) (v5 := .int .i64 u.t) (v6 := .int .i64 u.k) (v7 := .int .i64 u.n) (v8 := .bool u.g) HZ2.out rfl); simp [results, Try.results29, go_sem, hk2]) rfl ⟨rfl, below_fill9 (v0 := .string u.a) (v1 := .string u.i) (v2 := .int .i64 u.s) (v3 := .int .i64 u.o) (v4 := .int .i64 u.l) (v5 := .int .i64 u.t) (v6 := .int .i64 u.k) (v7 := .int .i64 u.n) (v8 := .bool u.g) D2.out HPZ.out⟩
  · have HJ := Lib.hid (show jn2 y x = x from by unfold jn2; rw [HTB.out]; simp)
    obtain rfl : u = x := by rw [← HU.out]; exact HJ.out
    have HX2 := HX3
    have hk := blk_cell HX2.out
    have hkl := blk_lt HX2.out
    have hzc := blk_cell HZ2.out
    have hf := blk_free HZ2.out
    have hzl := blk_lt HZ2.out
    go_wp2
    exact bodyPost_ret (v := .agg #[.string u.a, .string u.i, .int .i64 u.s, .int .i64 u.o, .int .i64 u.l, .int .i64 u.t, .int .i64 u.k, .int .i64 u.n, .bool u.g]) (by have hk2 := blk_cell (blk_fill9 (v0 := .string u.a) (v1 := .string u.i) (v2 := .int .i64 u.s) (v3 := .int .i64 u.o) (v4 := .int .i64 u.l) (v5 := .int .i64 u.t) (v6 := .int .i64 u.k) (v7 := .int .i64 u.n) (v8 := .bool u.g) HZ2.out rfl); simp [results, Try.results29, go_sem, hk2]) rfl ⟨rfl, below_fill9 (v0 := .string u.a) (v1 := .string u.i) (v2 := .int .i64 u.s) (v3 := .int .i64 u.o) (v4 := .int .i64 u.l) (v5 := .int .i64 u.t) (v6 := .int .i64 u.k) (v7 := .int .i64 u.n) (v8 := .bool u.g) D2.out HPZ.out⟩

end Go.Proofs.Ytloeabdohgdmkaa
