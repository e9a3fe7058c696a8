/- The document's own Join of rows of cards. -/
import Derived.Test.YtloeabdohgdmkaaMgKZ
import Derived.Test.YtloeabdohgdmkaaMgRZ
import Derived.Test.YtloeabdohgdmkaaRiAZ
import Derived.Test.YtloeabdohgdmkaaMgLZ
namespace Go.Proofs.Ytloeabdohgdmkaa
open Go.RowKit
set_option linter.unusedVariables false
set_option linter.unusedSimpArgs false

theorem stampLessRJ (x y : Cd) (b : Bool) (w : World) (h : ltC x y = b) : Calls Try.prog 20 #[.agg #[.int .i64 x.t, .int .i64 x.k, .int .i64 x.n], .agg #[.int .i64 y.t, .int .i64 y.k, .int .i64 y.n]] w fun r w' => r = .returned (.bool b) ∧ Below w.heap.size w w' := by
  subst h
  exact refLess x.t x.k x.n y.t y.k y.n w
set_option maxRecDepth 100000 in
set_option maxHeartbeats 1000000 in
theorem refJoin2 (y x : Cd) (w : World) :
    Calls Try.prog 49 #[.agg #[.string y.a, .string y.i, .int .i64 y.s, .int .i64 y.o, .int .i64 y.l, .int .i64 y.t, .int .i64 y.k, .int .i64 y.n, .bool y.g], .agg #[.string x.a, .string x.i, .int .i64 x.s, .int .i64 x.o, .int .i64 x.l, .int .i64 x.t, .int .i64 x.k, .int .i64 x.n, .bool x.g]] w fun r w' => r = .returned (.agg #[.string (jn2 y x).a, .string (jn2 y x).i, .int .i64 (jn2 y x).s, .int .i64 (jn2 y x).o, .int .i64 (jn2 y x).l, .int .i64 (jn2 y x).t, .int .i64 (jn2 y x).k, .int .i64 (jn2 y x).n, .bool (jn2 y x).g]) ∧ Below w.heap.size w w' := by
  have D0 := Lib.hid (show Below w.heap.size w (((w.alloc (.cells #[.string y.a, .string y.i, .int .i64 y.s, .int .i64 y.o, .int .i64 y.l, .int .i64 y.t, .int .i64 y.k, .int .i64 y.n, .bool y.g] 34)).alloc (.cells #[.string x.a, .string x.i, .int .i64 x.s, .int .i64 x.o, .int .i64 x.l, .int .i64 x.t, .int .i64 x.k, .int .i64 x.n, .bool x.g] 34)).alloc (.cells #[.string ⟨#[]⟩, .string ⟨#[]⟩, .int .i64 0, .int .i64 0, .int .i64 0, .int .i64 0, .int .i64 0, .int .i64 0, .bool false] 34)) from (((Below.refl _ _).alloc (Nat.le_refl _) _).alloc (by simp) _).alloc (by simp; omega) _)
  have HY := Lib.hid (blk_alloc (blk_alloc (blk_new w #[.string y.a, .string y.i, .int .i64 y.s, .int .i64 y.o, .int .i64 y.l, .int .i64 y.t, .int .i64 y.k, .int .i64 y.n, .bool y.g] 34) (.cells #[.string x.a, .string x.i, .int .i64 x.s, .int .i64 x.o, .int .i64 x.l, .int .i64 x.t, .int .i64 x.k, .int .i64 x.n, .bool x.g] 34)) (.cells #[.string ⟨#[]⟩, .string ⟨#[]⟩, .int .i64 0, .int .i64 0, .int .i64 0, .int .i64 0, .int .i64 0, .int .i64 0, .bool false] 34))
  have HX := Lib.hid (blk_alloc (show (w.alloc (.cells #[.string y.a, .string y.i, .int .i64 y.s, .int .i64 y.o, .int .i64 y.l, .int .i64 y.t, .int .i64 y.k, .int .i64 y.n, .bool y.g] 34)).alloc (.cells #[.string x.a, .string x.i, .int .i64 x.s, .int .i64 x.o, .int .i64 x.l, .int .i64 x.t, .int .i64 x.k, .int .i64 x.n, .bool x.g] 34) |>.heap[w.heap.size + 1]? = some (.cells #[.string x.a, .string x.i, .int .i64 x.s, .int .i64 x.o, .int .i64 x.l, .int .i64 x.t, .int .i64 x.k, .int .i64 x.n, .bool x.g] 34 (0, 0)) from blk_new_at (by simp) _ _) (.cells #[.string ⟨#[]⟩, .string ⟨#[]⟩, .int .i64 0, .int .i64 0, .int .i64 0, .int .i64 0, .int .i64 0, .int .i64 0, .bool false] 34))
  have HZ := Lib.hid (show (((w.alloc (.cells #[.string y.a, .string y.i, .int .i64 y.s, .int .i64 y.o, .int .i64 y.l, .int .i64 y.t, .int .i64 y.k, .int .i64 y.n, .bool y.g] 34)).alloc (.cells #[.string x.a, .string x.i, .int .i64 x.s, .int .i64 x.o, .int .i64 x.l, .int .i64 x.t, .int .i64 x.k, .int .i64 x.n, .bool x.g] 34)).alloc (.cells #[.string ⟨#[]⟩, .string ⟨#[]⟩, .int .i64 0, .int .i64 0, .int .i64 0, .int .i64 0, .int .i64 0, .int .i64 0, .bool false] 34)).heap[w.heap.size + 1 + 1]? = some (.cells #[.string ⟨#[]⟩, .string ⟨#[]⟩, .int .i64 0, .int .i64 0, .int .i64 0, .int .i64 0, .int .i64 0, .int .i64 0, .bool false] 34 (0, 0)) from blk_new_at (by simp) _ _)
  obtain ⟨u, hu⟩ : ∃ u, jn2 y x = u := ⟨_, rfl⟩
  rw [hu]
  have HU := Lib.hid hu
  clear hu
  go_enter Try.func49, Try.ntmps49
  go_upto_region 1 with (fail)
  obtain ⟨p, hp⟩ : ∃ p, w.heap.size = p := ⟨_, rfl⟩
  obtain ⟨q, hq⟩ : ∃ q, p + 1 = q := ⟨_, rfl⟩
  obtain ⟨z, hz⟩ : ∃ z, q + 1 = z := ⟨_, rfl⟩
  rw [hp] at HY
  rw [hp, hq] at HX
  rw [hp, hq, hz] at HZ
  try rw [hp]
  try rw [hq]
  try rw [hz]
  have HPZ := Lib.hid (show w.heap.size ≤ z by omega)
  have hqz : q ≠ z := by omega
  have hpz : p ≠ z := by omega
  clear hp hq hz
  generalize (((w.alloc (.cells #[.string y.a, .string y.i, .int .i64 y.s, .int .i64 y.o, .int .i64 y.l, .int .i64 y.t, .int .i64 y.k, .int .i64 y.n, .bool y.g] 34)).alloc (.cells #[.string x.a, .string x.i, .int .i64 x.s, .int .i64 x.o, .int .i64 x.l, .int .i64 x.t, .int .i64 x.k, .int .i64 x.n, .bool x.g] 34)).alloc (.cells #[.string ⟨#[]⟩, .string ⟨#[]⟩, .int .i64 0, .int .i64 0, .int .i64 0, .int .i64 0, .int .i64 0, .int .i64 0, .bool false] 34)) = w1 at *
  have hyc := blk_cell HY.out
  have hyl := blk_lt HY.out
  have hxc := blk_cell HX.out
  have hxl := blk_lt HX.out
  obtain ⟨tb, htb⟩ : ∃ tb, ltC y x = tb := ⟨_, rfl⟩
  have HTB := Lib.hid htb
  clear htb
  go_wp2_with fail
  refine (stampLessRJ y x tb w1 HTB.out).mono ?_
  rintro r w2 ⟨rfl, hb⟩
  have HX3 := Lib.hid (blk_ext hb HX.out)
  have HY3 := Lib.hid (blk_ext hb HY.out)
  have HZ2 := Lib.hid (blk_ext hb HZ.out)
  have D2 := Lib.hid (ext_trans D0.out hb)
  clear hb hyc hyl hxc hxl HX HY HZ D0
  cases tb
  · have HJ := Lib.hid (show jn2 y x = y from by unfold jn2; rw [HTB.out]; simp)
    obtain rfl : u = y := by rw [← HU.out]; exact HJ.out
    have HX2 := HY3
    have hk := blk_cell HX2.out
    have hkl := blk_lt HX2.out
    have hzc := blk_cell HZ2.out
    have hf := blk_free HZ2.out
    have hzl := blk_lt HZ2.out
    go_wp2
    exact bodyPost_ret (v := .agg #[.string u.a, .string u.i, .int .i64 u.s, .int .i64 u.o, .int .i64 u.l, .int .i64 u.t, .int .i64 u.k, .int .i64 u.n, .bool u.g]) (by have hk2 := blk_cell (blk_fill9 (v0 := .string u.a) (v1 := .string u.i) (v2 := .int .i64 u.s) (v3 := .int .i64 u.o) (v4 := .int .i64 u.l) (v5 := .int .i64 u.t) (v6 := .int .i64 u.k) (v7 := .int .i64 u.n) (v8 := .bool u.g) HZ2.out rfl); simp [results, Try.results49, go_sem, hk2]) rfl ⟨rfl, below_fill9 (v0 := .string u.a) (v1 := .string u.i) (v2 := .int .i64 u.s) (v3 := .int .i64 u.o) (v4 := .int .i64 u.l) (v5 := .int .i64 u.t) (v6 := .int .i64 u.k) (v7 := .int .i64 u.n) (v8 := .bool u.g) D2.out HPZ.out⟩
  · have HJ := Lib.hid (show jn2 y x = x from by unfold jn2; rw [HTB.out]; simp)
    obtain rfl : u = x := by rw [← HU.out]; exact HJ.out
    have HX2 := HX3
    have hk := blk_cell HX2.out
    have hkl := blk_lt HX2.out
    have hzc := blk_cell HZ2.out
    have hf := blk_free HZ2.out
    have hzl := blk_lt HZ2.out
    go_wp2
    exact bodyPost_ret (v := .agg #[.string u.a, .string u.i, .int .i64 u.s, .int .i64 u.o, .int .i64 u.l, .int .i64 u.t, .int .i64 u.k, .int .i64 u.n, .bool u.g]) (by have hk2 := blk_cell (blk_fill9 (v0 := .string u.a) (v1 := .string u.i) (v2 := .int .i64 u.s) (v3 := .int .i64 u.o) (v4 := .int .i64 u.l) (v5 := .int .i64 u.t) (v6 := .int .i64 u.k) (v7 := .int .i64 u.n) (v8 := .bool u.g) HZ2.out rfl); simp [results, Try.results49, go_sem, hk2]) rfl ⟨rfl, below_fill9 (v0 := .string u.a) (v1 := .string u.i) (v2 := .int .i64 u.s) (v3 := .int .i64 u.o) (v4 := .int .i64 u.l) (v5 := .int .i64 u.t) (v6 := .int .i64 u.k) (v7 := .int .i64 u.n) (v8 := .bool u.g) D2.out HPZ.out⟩

theorem refJoin2U (y x u : Cd) (w : World) (h : jn2 y x = u) : Calls Try.prog 49 #[.agg #[.string y.a, .string y.i, .int .i64 y.s, .int .i64 y.o, .int .i64 y.l, .int .i64 y.t, .int .i64 y.k, .int .i64 y.n, .bool y.g], .agg #[.string x.a, .string x.i, .int .i64 x.s, .int .i64 x.o, .int .i64 x.l, .int .i64 x.t, .int .i64 x.k, .int .i64 x.n, .bool x.g]] w fun r w' => r = .returned (.agg #[.string u.a, .string u.i, .int .i64 u.s, .int .i64 u.o, .int .i64 u.l, .int .i64 u.t, .int .i64 u.k, .int .i64 u.n, .bool u.g]) ∧ Below w.heap.size w w' := by
  subst h
  exact refJoin2 y x w
theorem wpList_append_nilC {ops : Array Oper} {rest : List Oper} {o : Oper} {a : Act} {w : World} {Q : Exit → Act → World → Prop} (hgd : o.guard = none) (s x : Operand) (ho : o.op = .call { callee := .builtin .append, args := #[s, x], argTypes := #[28, 28] }) (ad : Option Addr) (n c : Nat) (hs : a.eval s = .slice ad n c) (hx : a.eval x = .slice none 0 0) (hn : n ≤ c) (h : wpList Try.prog ops Q rest (a.put o.dst (.slice ad n c)) w) : wpList Try.prog ops Q (o :: rest) a w :=
  wpList_plain hgd fun K hK => wp_append_nil9 s x ho ad n c hs hx hn (hK _ _ h)
theorem RwsAt.at {w : World} {b o i : Nat} {rs : List Rw} {r : Rw} (h : RwsAt w (some ⟨b, o, none⟩) rs) (hi : rs[i]? = some r) : w.cell? ⟨b, o + i, none⟩ = some (.slice r.a r.n r.c) := by
  have := h.1.get rwE_len hi 0 _ rfl
  simpa using this
set_option maxRecDepth 100000 in
set_option maxHeartbeats 4000000 in
theorem refJoin (a : Option Addr) (n9 c : Nat) (rs : List Rw) (L : List Cd) (w : World) (h : RwsAt w a rs) (hl : rs.length = n9) (hn9 : n9 ≤ 1000) (hL : alls rs = L) (hn : L.length ≤ 1000) :
    Calls Try.prog 25 #[.slice a n9 c] w fun r w' => ∃ v', r = .returned v' ∧ OwnC w.heap.size w' v' (jnL (srt klt L)) ∧ Below w.heap.size w w' := by
  obtain ⟨i0, hi, hz0, hz1, hz2⟩ := info_parts' info_card
  have HR := Lib.hid h
  have HLL := Lib.hid hL
  have HN9 := Lib.hid hl
  clear h hl hL
  go_enter Try.func25, Try.ntmps25
  have hLn := HLL.out
  go_wp2_with fail
  go_loopw [3, 11] (fun v j wr => ∃ J : Nat, J ≤ n9 ∧ j = .int .i64 (J : Int) ∧ OwnC w.heap.size wr v (alls (rs.take J)) ∧ Below w.heap.size w wr) (fun v j _ => n9 - (intOf j).toNat)
  case atStart => exact ⟨0, by omega, rfl, OwnR.nil _ _, Below.refl _ _⟩
  case round =>
    obtain ⟨w0, rfl⟩ : ∃ y : World, y = wr := ⟨_, rfl⟩
    obtain ⟨J, hJ, rfl, ho2, hb2⟩ := hrel
    have hle := alls_le rs J
    obtain ⟨S, hS⟩ : ∃ S, alls (rs.take J) = S := ⟨_, rfl⟩
    rw [hS] at ho2 hle
    rw [HLL.out] at hle
    obtain ⟨m, hm⟩ : ∃ m, S.length = m := ⟨_, rfl⟩
    rw [hm] at hle
    have HM := Lib.hid hm
    obtain ⟨ga, gc, rfl, hgc, hgm, -, -, -⟩ := ho2.read
    rw [hm] at hgc ho2 ⊢
    have HO2 := Lib.hid ho2
    have HB2 := Lib.hid hb2
    unfold maxLen at hgm
    clear ho2 hb2 hm
    by_cases hlt : J < n9
    · obtain ⟨r, hr⟩ : ∃ r, rs[J]? = some r := ⟨_, List.getElem?_eq_getElem (by have := HN9.out; omega)⟩
      obtain ⟨ab, ao, rfl⟩ : ∃ b o, a = some ⟨b, o, none⟩ := by
        rcases HR.out.1 with h | ⟨b, o, e, _⟩
        · rw [h] at hr; simp at hr
        · exact ⟨b, o, e⟩
      have hx0 := (HR.out.ext HB2.out).at hr
      have HRO := Lib.hid ((HR.out.ext HB2.out).2 r (List.mem_of_getElem? hr))
      have HST := Lib.hid (show alls (rs.take (J + 1)) = S ++ r.ls from by rw [alls_take hr, hS])
      have hle2 := alls_le rs (J + 1)
      rw [HST.out, List.length_append, HM.out, HLL.out] at hle2
      have hlt2 : (J : Int) < (n9 : Int) := by omega
      clear hr hS
      obtain ⟨⟨ra, rn, rc, rl⟩, hrr⟩ : ∃ r', r' = r := ⟨_, rfl⟩
      subst hrr
      simp only [] at hx0 hle2
      obtain ⟨f1, f2, f3, f4, f5⟩ := HRO.out
      simp only [] at f1 f2 f3 f4 f5
      rw [f1] at hle2
      have HRL := Lib.hid f5
      have HRN := Lib.hid f1
      have Z2 := HB2.out.size
      clear HRO f1 f5
      cases ra with
      | none =>
        have hrc : rc = 0 := by
          rcases f4 with ⟨-, h⟩ | ⟨b, o, h⟩
          · exact h
          · cases h
        have hrn : rn = 0 := by omega
        have hrl : rl = [] := List.eq_nil_of_length_eq_zero (by rw [HRN.out]; exact hrn)
        subst hrc hrn
        go_wp2_with (at_builtin; refine wpList_append_nilC rfl _ _ rfl ga m gc rfl rfl hgc ?_)
        go_wp2
        go_roundw
        case rel => exact ⟨J + 1, by omega, by go_num, by rw [HST.out]; simp only [hrl, List.append_nil]; exact HO2.out, HB2.out⟩
        case measure => simp [intOf]; omega
      | some p =>
        obtain ⟨pb, po, rfl⟩ : ∃ b o, p = ⟨b, o, none⟩ := by
          rcases f4 with ⟨h, -⟩ | ⟨b, o, h⟩
          · cases h
          · exact ⟨b, o, by simpa using h⟩
        have HO' := Lib.hid (show w0.ownsRow w.heap.size 34 9 (.slice ga m gc) m (flat cc S) from by have := HO2.out; unfold OwnC OwnR at this; rw [HM.out] at this; exact this)
        go_wp2_with (at_builtin; refine wpList_append_own _ rfl _ _ 28 rfl (w.heap.size) 34 i0 Cd.zero.v 9 88 Try.underlying28 hi hz0 hz1 hz2 rfl (by decide) _ m (flat cc S) rfl HO'.out ⟨pb, po, none⟩ rn rc (flat cc rl) rfl ?d0 ?d1 ?d2 ?d3 ?d4 ?d5 ?_)
        case d0 => rw [flat_len cc_len, HRN.out]
        case d1 =>
          intro j u hj
          exact cat_cells HRL.out j u hj
        case d2 =>
          intro u hu
          unfold flat at hu
          obtain ⟨y, -, hy⟩ := List.mem_flatMap.1 hu
          exact cc_one y u hy
        case d3 => unfold maxLen; omega
        case d4 => omega
        intro v7 w7 ho7 hg7 _
        have HB7 := Lib.hid (HB2.out.grown hg7 Z2 (fun q hq => own_ge HO'.out hq))
        have HO7 := Lib.hid (show OwnC w.heap.size w7 v7 (S ++ rl) by unfold OwnC OwnR; rw [flat_app, List.length_append, HM.out, HRN.out]; exact ho7)
        clear ho7 hg7 HO' HO2 HB2 hx0
        go_wp2
        go_roundw
        case rel => exact ⟨J + 1, by omega, by go_num, by rw [HST.out]; exact HO7.out, HB7.out⟩
        case measure => simp [intOf]; omega
    · obtain rfl : J = n9 := by omega
      have hlt2 : decide ((J : Int) < (J : Int)) = false := by simp
      have hSL : S = L := by rw [← hS, List.take_of_length_le (by rw [HN9.out]; exact Nat.le_refl _)]; exact HLL.out
      clear hS
      have hSL2 := hSL.symm
      clear hSL
      subst hSL2
      have ho0 := HO2.out
      have hnl : L.length = m := HM.out
      obtain ⟨n, hnm⟩ : ∃ n, n = m := ⟨_, rfl⟩
      rw [← hnm] at hnl hgc ho0 ⊢
      obtain ⟨a0, ha0⟩ : ∃ x, x = ga := ⟨_, rfl⟩
      obtain ⟨c0, hc0⟩ : ∃ x, x = gc := ⟨_, rfl⟩
      rw [← ha0, ← hc0] at ho0 ⊢
      rw [← hc0] at hgc
      rw [hnl] at hn
      have hat0 : CAt w0 a0 L := by
        obtain ⟨a', c', e1, -, -, h3, -, -⟩ := ho0.read
        rw [Value.slice.injEq] at e1
        obtain ⟨rfl, -, -⟩ := e1
        exact h3
      have HN := Lib.hid hnl
      have HA := Lib.hid hat0
      have HB0 := HB2
      clear ho0 hat0 hnl hnm ha0 hc0 HO2 HB2
      go_wp2_with fail
      refine (refSort a0 n c0 L w0 HA.out HN.out hn hgc).mono ?_
      rintro e w1 ⟨vs, rfl, hos, hbs⟩
      obtain ⟨T, hT⟩ : ∃ T, srt klt L = T := ⟨_, rfl⟩
      have hTn : T.length = n := by rw [← hT, srt_len, HN.out]
      rw [hT] at hos
      obtain ⟨ta, tc, rfl, htc, htm, htat, -, htf⟩ := hos.read
      rw [hTn] at htc ⊢
      have HTT := Lib.hid hT
      have HTN := Lib.hid hTn
      have HTA := Lib.hid htat
      have HB1 := Lib.hid (ext_trans HB0.out hbs)
      unfold maxLen at htm
      clear hos hbs hT hTn htat HA
      go_wp2_with fail
      go_loopw [5, 24] (fun g j wr => ∃ J : Nat, J ≤ n ∧ j = .int .i64 (J : Int) ∧ OwnC w1.heap.size wr g (jnL (T.take J)) ∧ Below w1.heap.size w1 wr) (fun g j _ => n - (intOf j).toNat)
      case atStart => exact ⟨0, by omega, rfl, OwnR.nil _ _, Below.refl _ _⟩
      case round =>
        obtain ⟨w2, rfl⟩ : ∃ y : World, y = wr := ⟨_, rfl⟩
        obtain ⟨J, hJ, rfl, ho2, hb2⟩ := hrel
        by_cases hlt : J < n
        · obtain ⟨x, hx⟩ : ∃ x, T[J]? = some x := ⟨_, List.getElem?_eq_getElem (by have := HTN.out; omega)⟩
          obtain ⟨S, hS⟩ : ∃ S, jnL (T.take J) = S := ⟨_, rfl⟩
          have HST := Lib.hid (show jnL (T.take (J + 1)) = jn1 S x from by rw [List.take_add_one, hx]; show jnL (T.take J ++ [x]) = _; rw [jnL_snoc, hS])
          rw [hS] at ho2
          obtain ⟨m, hm⟩ : ∃ m, S.length = m := ⟨_, rfl⟩
          have hm1 : m ≤ 1000 := by have := jnL_len (T.take J); rw [hS, List.length_take, hm] at this; omega
          obtain ⟨tb, tof, rfl⟩ : ∃ b o, ta = some ⟨b, o, none⟩ := by
            rcases HTA.out with h | ⟨b, o, e, _⟩
            · rw [h] at hx; simp at hx
            · exact ⟨b, o, e⟩
          obtain ⟨x0, x1, x2, x3, x4, x5, x6, x7, x8⟩ := (HTA.out.ext hb2).at hx
          obtain ⟨ga, gc, hgv, hgc, hgm, hgat, hgb, hgf⟩ := ho2.read
          rw [hm] at hgc hgv
          subst hgv
          have D0 : Below w2.heap.size w2 (w2.alloc (.cells #[.string x.a, .string x.i, .int .i64 x.s, .int .i64 x.o, .int .i64 x.l, .int .i64 x.t, .int .i64 x.k, .int .i64 x.n, .bool x.g] 34)) := (Below.refl _ _).alloc (Nat.le_refl _) _
          have HX := Lib.hid (blk_new w2 #[.string x.a, .string x.i, .int .i64 x.s, .int .i64 x.o, .int .i64 x.l, .int .i64 x.t, .int .i64 x.k, .int .i64 x.n, .bool x.g] 34)
          have HO3 := Lib.hid (ho2.ext D0)
          have HB3 := Lib.hid (ext_trans hb2 D0)
          have HM := Lib.hid hm
          have HRN := Lib.hid (show ∀ g o, ga = some ⟨g, o, none⟩ → g ≠ w2.heap.size from fun g o e => by have := (hgb g o e).2.1; omega)
          have HGE := Lib.hid (show ∀ g o, ga = some ⟨g, o, none⟩ → w1.heap.size ≤ g from fun g o e => (hgb g o e).1)
          unfold maxLen at hgm
          clear ho2 hb2 hx hS hm D0 hgat hgb
          go_upto_region 11 with (fail)
          obtain ⟨r, hr⟩ : ∃ r, w2.heap.size = r := ⟨_, rfl⟩
          rw [hr] at HX HRN ⊢
          clear hr
          generalize (w2.alloc (.cells #[.string x.a, .string x.i, .int .i64 x.s, .int .i64 x.o, .int .i64 x.l, .int .i64 x.t, .int .i64 x.k, .int .i64 x.n, .bool x.g] 34)) = w4 at *
          clear x0 x1 x2 x3 x4 x5 x6 x7 x8
          by_cases hm0 : m = 0
          · have hd : decide ((0 : Int) < (m : Int)) = false := by simp; omega
            have hd0 : decide (0 < m) = false := by simp; omega
            have HST1 := Lib.hid (show jnL (T.take (J + 1)) = S ++ [x] from by rw [HST.out, List.eq_nil_of_length_eq_zero (HM.out.trans hm0)]; rfl)
            clear hm0 HST
            go_wp2_with fail
            haveI hIq : Nonempty (Of w4) := of_some _
            first | (refine wp_region_stay w4 (by kernel_rfl) (by kernel_rfl) (by go_grown) ?_) | (refine wp_region_stay_seq w4 (by go_grown) ?_)
            repeat (go_big_quiet_step (fail))
            refine wpQuiet_nil ?_
            intro w5 hb5
            clear hIq
        
            have HO5 := Lib.hid (HO3.out.ext hb5)
            have HX5 := Lib.hid (blk_ext hb5 HX.out)
            have HB5 := Lib.hid (ext_trans HB3.out hb5)
            have Z5 := HB5.out.size
            have hk5 := blk_cell HX5.out
            have hl5 := blk_lt HX5.out
            have HO5' := Lib.hid (show w5.ownsRow w1.heap.size 34 9 (.slice ga m gc) (m) (flat cc S) from by have := HO5.out; unfold OwnC OwnR at this; rw [HM.out] at this; exact this)
            clear hb5 HO3 HX HB3
            go_wp2_with (at_builtin; refine wpList_append_own _ rfl _ _ 28 rfl (w1.heap.size) 34 i0 Cd.zero.v 9 88 Try.underlying28 hi hz0 hz1 hz2 rfl (by decide) _ (m) (flat cc S) rfl (HO5'.out.alloc (.cells #[.string x.a, .string x.i, .int .i64 x.s, .int .i64 x.o, .int .i64 x.l, .int .i64 x.t, .int .i64 x.k, .int .i64 x.n, .bool x.g] 34)) ⟨w5.heap.size, 0, none⟩ 1 1 (cc x) rfl rfl ?c1 ?c2 ?c3 ?c4 ?c5 ?_)
            case c1 =>
              intro j u hj
              rw [add_off, Nat.zero_add, blk_cell (blk_new w5 #[.string x.a, .string x.i, .int .i64 x.s, .int .i64 x.o, .int .i64 x.l, .int .i64 x.t, .int .i64 x.k, .int .i64 x.n, .bool x.g] 34)]
              simpa [cc] using hj
            case c2 => exact cc_one x
            case c3 => unfold maxLen; omega
            case c4 => omega
            case c5 => simp; omega
            intro v7 w7 ho7 hg7 _
            have HB7 := Lib.hid ((HB5.out.alloc Z5 (.cells #[.string x.a, .string x.i, .int .i64 x.s, .int .i64 x.o, .int .i64 x.l, .int .i64 x.t, .int .i64 x.k, .int .i64 x.n, .bool x.g] 34)).grown hg7 (by simp; omega) (fun q hq => own_ge HO5'.out hq))
            have HO7 := Lib.hid (show OwnC w1.heap.size w7 v7 (S ++ [x]) by unfold OwnC OwnR; rw [flat_snoc, List.length_append, HM.out]; exact ho7)
            clear ho7 hg7 HO5 HO5' HX5 HB5 hk5 hl5
            go_wp2
            go_roundw
            case rel => exact ⟨J + 1, by omega, by go_num, by rw [HST1.out]; exact HO7.out, HB7.out⟩
            case measure => simp [intOf]; omega
          · obtain ⟨P, rfl⟩ : ∃ P, m = P + 1 := ⟨m - 1, by omega⟩
            obtain ⟨y, hy⟩ : ∃ y, S[P]? = some y := ⟨_, List.getElem?_eq_getElem (by have := HM.out; omega)⟩
            obtain ⟨g, rfl⟩ : ∃ g, ga = some ⟨g, 0, none⟩ := by
              rcases hgf with ⟨_, _, e⟩ | ⟨g, e⟩
              · rw [e] at hy; simp at hy
              · exact ⟨g, e⟩
            have HY9 := Lib.hid hy
            have HSY := Lib.hid (show S = S.take P ++ [y] from by
              have h1 : S = S.take (P + 1) := by rw [List.take_of_length_le (by have := HM.out; omega)]
              conv => lhs; rw [h1, List.take_add_one, hy]
              rfl)
            have hc4 : CAt w4 (some ⟨g, 0, none⟩) S := OwnC.cat HO3.out
            obtain ⟨k0, k1, -⟩ := hc4.at hy
            rw [Nat.zero_add] at k0 k1
            have k2 : w4.cell? ⟨r, 0, none⟩ = some (.string x.a) := by rw [blk_cell HX.out]; rfl
            have k3 : w4.cell? ⟨r, 1, none⟩ = some (.string x.i) := by rw [blk_cell HX.out]; rfl
            have hd : decide ((0 : Int) < (P : Int) + 1) = true := decide_eq_true (by omega)
            clear hy hc4 hgf
            by_cases h1 : y.a = x.a
            · by_cases h2 : y.i = x.i
              · have HST1 := Lib.hid (show jnL (T.take (J + 1)) = S.take P ++ [jn2 y x] from by rw [HST.out]; (conv => lhs; rw [HSY.out]); exact jn1_same h1 h2)
                rw [h1] at k0
                rw [h2] at k1
                clear h1 h2 HST
                go_wp2_with fail
                haveI hIq : Nonempty (Of w4) := of_some _
                have hFa := of_cell k0
                have hFb := of_cell k1
                have hFc := of_cell k2
                have hFd := of_cell k3
                first | (refine wp_region_stay w4 (by kernel_rfl) (by kernel_rfl) (by go_grown) ?_) | (refine wp_region_stay_seq w4 (by go_grown) ?_)
                repeat (go_big_quiet_step (fail))
                refine wpQuiet_nil ?_
                intro w5 hb5
                clear hIq hFa hFb hFc hFd k0 k1 k2 k3
            
                have HO5 := Lib.hid (HO3.out.ext hb5)
                have HX5 := Lib.hid (blk_ext hb5 HX.out)
                have HB5 := Lib.hid (ext_trans HB3.out hb5)
                have Z5 := HB5.out.size
                obtain ⟨hnum, -, -, cur5, hcur5, hcs5, hbg5⟩ := HO5.out.num
                have hc5 : CAt w5 (some ⟨g, 0, none⟩) S := OwnC.cat HO5.out
                have hy : S[P]? = some y := HY9.out
                obtain ⟨y0, y1, y2, y3, y4, y5, y6, y7, y8⟩ := hc5.at hy
                simp only [Nat.zero_add] at y0 y1 y2 y3 y4 y5 y6 y7 y8
                have HC5 := Lib.hid hcur5
                have HGG := Lib.hid (HGE.out g 0 rfl)
                obtain ⟨u, hu⟩ : ∃ u, jn2 y x = u := ⟨_, rfl⟩
                rw [hu] at HST1
                have HU := Lib.hid hu
                have HSE := Lib.hid (show S.set P u = S.take P ++ [u] from by
                  rw [List.set_eq_take_append_cons_drop, if_pos (by have := HM.out; omega), List.drop_of_length_le (by have := HM.out; omega)])
                clear hb5 HO3 HX HB3 hcur5 hcs5 hbg5 hc5 hy hnum hu
                go_upto_region 13 with (fail)
                have HG6 := Lib.hid (show (w5.drew).heap[g]? = _ from blk_drew HC5.out)
                have HX6 := Lib.hid (show (w5.drew).heap[r]? = _ from blk_drew HX5.out)
                have HO6 := Lib.hid (HO5.out.ext ((Below.refl w5.heap.size w5).drew))
                have HB6 := Lib.hid (ext_trans HB5.out ((Below.refl w5.heap.size w5).drew))
                haveI hI0 : Nonempty (In (fun W : World => W.heap[g]? = some (.cells cur5 34 (0, 0)) ∧ W.heap[r]? = some (.cells #[.string x.a, .string x.i, .int .i64 x.s, .int .i64 x.o, .int .i64 x.l, .int .i64 x.t, .int .i64 x.k, .int .i64 x.n, .bool x.g] 34 (0, 0)))) := ⟨⟨_, HG6.out, HX6.out⟩⟩
                have hL0 : ∀ q : In (fun W : World => W.heap[g]? = some (.cells cur5 34 (0, 0)) ∧ W.heap[r]? = some (.cells #[.string x.a, .string x.i, .int .i64 x.s, .int .i64 x.o, .int .i64 x.l, .int .i64 x.t, .int .i64 x.k, .int .i64 x.n, .bool x.g] 34 (0, 0))), g < q.w.heap.size := fun q => blk_lt q.h.1
                have hM0 : ∀ q : In (fun W : World => W.heap[g]? = some (.cells cur5 34 (0, 0)) ∧ W.heap[r]? = some (.cells #[.string x.a, .string x.i, .int .i64 x.s, .int .i64 x.o, .int .i64 x.l, .int .i64 x.t, .int .i64 x.k, .int .i64 x.n, .bool x.g] 34 (0, 0))), r < q.w.heap.size := fun q => blk_lt q.h.2
                have hB0_0 : ∀ q : In (fun W : World => W.heap[g]? = some (.cells cur5 34 (0, 0)) ∧ W.heap[r]? = some (.cells #[.string x.a, .string x.i, .int .i64 x.s, .int .i64 x.o, .int .i64 x.l, .int .i64 x.t, .int .i64 x.k, .int .i64 x.n, .bool x.g] 34 (0, 0))), q.w.cell? ⟨r, 0, none⟩ = some (.string x.a) := fun q => by rw [blk_cell q.h.2]; rfl
                have hB0_1 : ∀ q : In (fun W : World => W.heap[g]? = some (.cells cur5 34 (0, 0)) ∧ W.heap[r]? = some (.cells #[.string x.a, .string x.i, .int .i64 x.s, .int .i64 x.o, .int .i64 x.l, .int .i64 x.t, .int .i64 x.k, .int .i64 x.n, .bool x.g] 34 (0, 0))), q.w.cell? ⟨r, 1, none⟩ = some (.string x.i) := fun q => by rw [blk_cell q.h.2]; rfl
                have hB0_2 : ∀ q : In (fun W : World => W.heap[g]? = some (.cells cur5 34 (0, 0)) ∧ W.heap[r]? = some (.cells #[.string x.a, .string x.i, .int .i64 x.s, .int .i64 x.o, .int .i64 x.l, .int .i64 x.t, .int .i64 x.k, .int .i64 x.n, .bool x.g] 34 (0, 0))), q.w.cell? ⟨r, 2, none⟩ = some (.int .i64 x.s) := fun q => by rw [blk_cell q.h.2]; rfl
                have hB0_3 : ∀ q : In (fun W : World => W.heap[g]? = some (.cells cur5 34 (0, 0)) ∧ W.heap[r]? = some (.cells #[.string x.a, .string x.i, .int .i64 x.s, .int .i64 x.o, .int .i64 x.l, .int .i64 x.t, .int .i64 x.k, .int .i64 x.n, .bool x.g] 34 (0, 0))), q.w.cell? ⟨r, 3, none⟩ = some (.int .i64 x.o) := fun q => by rw [blk_cell q.h.2]; rfl
                have hB0_4 : ∀ q : In (fun W : World => W.heap[g]? = some (.cells cur5 34 (0, 0)) ∧ W.heap[r]? = some (.cells #[.string x.a, .string x.i, .int .i64 x.s, .int .i64 x.o, .int .i64 x.l, .int .i64 x.t, .int .i64 x.k, .int .i64 x.n, .bool x.g] 34 (0, 0))), q.w.cell? ⟨r, 4, none⟩ = some (.int .i64 x.l) := fun q => by rw [blk_cell q.h.2]; rfl
                have hB0_5 : ∀ q : In (fun W : World => W.heap[g]? = some (.cells cur5 34 (0, 0)) ∧ W.heap[r]? = some (.cells #[.string x.a, .string x.i, .int .i64 x.s, .int .i64 x.o, .int .i64 x.l, .int .i64 x.t, .int .i64 x.k, .int .i64 x.n, .bool x.g] 34 (0, 0))), q.w.cell? ⟨r, 5, none⟩ = some (.int .i64 x.t) := fun q => by rw [blk_cell q.h.2]; rfl
                have hB0_6 : ∀ q : In (fun W : World => W.heap[g]? = some (.cells cur5 34 (0, 0)) ∧ W.heap[r]? = some (.cells #[.string x.a, .string x.i, .int .i64 x.s, .int .i64 x.o, .int .i64 x.l, .int .i64 x.t, .int .i64 x.k, .int .i64 x.n, .bool x.g] 34 (0, 0))), q.w.cell? ⟨r, 6, none⟩ = some (.int .i64 x.k) := fun q => by rw [blk_cell q.h.2]; rfl
                have hB0_7 : ∀ q : In (fun W : World => W.heap[g]? = some (.cells cur5 34 (0, 0)) ∧ W.heap[r]? = some (.cells #[.string x.a, .string x.i, .int .i64 x.s, .int .i64 x.o, .int .i64 x.l, .int .i64 x.t, .int .i64 x.k, .int .i64 x.n, .bool x.g] 34 (0, 0))), q.w.cell? ⟨r, 7, none⟩ = some (.int .i64 x.n) := fun q => by rw [blk_cell q.h.2]; rfl
                have hB0_8 : ∀ q : In (fun W : World => W.heap[g]? = some (.cells cur5 34 (0, 0)) ∧ W.heap[r]? = some (.cells #[.string x.a, .string x.i, .int .i64 x.s, .int .i64 x.o, .int .i64 x.l, .int .i64 x.t, .int .i64 x.k, .int .i64 x.n, .bool x.g] 34 (0, 0))), q.w.cell? ⟨r, 8, none⟩ = some (.bool x.g) := fun q => by rw [blk_cell q.h.2]; rfl
                have hY0_0 : ∀ q : In (fun W : World => W.heap[g]? = some (.cells cur5 34 (0, 0)) ∧ W.heap[r]? = some (.cells #[.string x.a, .string x.i, .int .i64 x.s, .int .i64 x.o, .int .i64 x.l, .int .i64 x.t, .int .i64 x.k, .int .i64 x.n, .bool x.g] 34 (0, 0))), q.w.cell? ⟨g, P * 9, none⟩ = some (.string y.a) := fun q => (World.cell?_of_block (w := w5) (q.h.1.trans HC5.out.symm)).trans y0
                have hY0_1 : ∀ q : In (fun W : World => W.heap[g]? = some (.cells cur5 34 (0, 0)) ∧ W.heap[r]? = some (.cells #[.string x.a, .string x.i, .int .i64 x.s, .int .i64 x.o, .int .i64 x.l, .int .i64 x.t, .int .i64 x.k, .int .i64 x.n, .bool x.g] 34 (0, 0))), q.w.cell? ⟨g, P * 9 + 1, none⟩ = some (.string y.i) := fun q => (World.cell?_of_block (w := w5) (q.h.1.trans HC5.out.symm)).trans y1
                have hY0_2 : ∀ q : In (fun W : World => W.heap[g]? = some (.cells cur5 34 (0, 0)) ∧ W.heap[r]? = some (.cells #[.string x.a, .string x.i, .int .i64 x.s, .int .i64 x.o, .int .i64 x.l, .int .i64 x.t, .int .i64 x.k, .int .i64 x.n, .bool x.g] 34 (0, 0))), q.w.cell? ⟨g, P * 9 + 2, none⟩ = some (.int .i64 y.s) := fun q => (World.cell?_of_block (w := w5) (q.h.1.trans HC5.out.symm)).trans y2
                have hY0_3 : ∀ q : In (fun W : World => W.heap[g]? = some (.cells cur5 34 (0, 0)) ∧ W.heap[r]? = some (.cells #[.string x.a, .string x.i, .int .i64 x.s, .int .i64 x.o, .int .i64 x.l, .int .i64 x.t, .int .i64 x.k, .int .i64 x.n, .bool x.g] 34 (0, 0))), q.w.cell? ⟨g, P * 9 + 3, none⟩ = some (.int .i64 y.o) := fun q => (World.cell?_of_block (w := w5) (q.h.1.trans HC5.out.symm)).trans y3
                have hY0_4 : ∀ q : In (fun W : World => W.heap[g]? = some (.cells cur5 34 (0, 0)) ∧ W.heap[r]? = some (.cells #[.string x.a, .string x.i, .int .i64 x.s, .int .i64 x.o, .int .i64 x.l, .int .i64 x.t, .int .i64 x.k, .int .i64 x.n, .bool x.g] 34 (0, 0))), q.w.cell? ⟨g, P * 9 + 4, none⟩ = some (.int .i64 y.l) := fun q => (World.cell?_of_block (w := w5) (q.h.1.trans HC5.out.symm)).trans y4
                have hY0_5 : ∀ q : In (fun W : World => W.heap[g]? = some (.cells cur5 34 (0, 0)) ∧ W.heap[r]? = some (.cells #[.string x.a, .string x.i, .int .i64 x.s, .int .i64 x.o, .int .i64 x.l, .int .i64 x.t, .int .i64 x.k, .int .i64 x.n, .bool x.g] 34 (0, 0))), q.w.cell? ⟨g, P * 9 + 5, none⟩ = some (.int .i64 y.t) := fun q => (World.cell?_of_block (w := w5) (q.h.1.trans HC5.out.symm)).trans y5
                have hY0_6 : ∀ q : In (fun W : World => W.heap[g]? = some (.cells cur5 34 (0, 0)) ∧ W.heap[r]? = some (.cells #[.string x.a, .string x.i, .int .i64 x.s, .int .i64 x.o, .int .i64 x.l, .int .i64 x.t, .int .i64 x.k, .int .i64 x.n, .bool x.g] 34 (0, 0))), q.w.cell? ⟨g, P * 9 + 6, none⟩ = some (.int .i64 y.k) := fun q => (World.cell?_of_block (w := w5) (q.h.1.trans HC5.out.symm)).trans y6
                have hY0_7 : ∀ q : In (fun W : World => W.heap[g]? = some (.cells cur5 34 (0, 0)) ∧ W.heap[r]? = some (.cells #[.string x.a, .string x.i, .int .i64 x.s, .int .i64 x.o, .int .i64 x.l, .int .i64 x.t, .int .i64 x.k, .int .i64 x.n, .bool x.g] 34 (0, 0))), q.w.cell? ⟨g, P * 9 + 7, none⟩ = some (.int .i64 y.n) := fun q => (World.cell?_of_block (w := w5) (q.h.1.trans HC5.out.symm)).trans y7
                have hY0_8 : ∀ q : In (fun W : World => W.heap[g]? = some (.cells cur5 34 (0, 0)) ∧ W.heap[r]? = some (.cells #[.string x.a, .string x.i, .int .i64 x.s, .int .i64 x.o, .int .i64 x.l, .int .i64 x.t, .int .i64 x.k, .int .i64 x.n, .bool x.g] 34 (0, 0))), q.w.cell? ⟨g, P * 9 + 8, none⟩ = some (.bool y.g) := fun q => (World.cell?_of_block (w := w5) (q.h.1.trans HC5.out.symm)).trans y8
                refine wp_region_split 11 1 10 rfl rfl (by kernel_rfl) (by kernel_rfl) (by kernel_rfl) (by kernel_rfl) (by kernel_rfl) ?_
                simp only [List.take_succ_cons, List.take_zero]
                refine wpAny_hist (fun W : World => W.heap[g]? = some (.cells cur5 34 (0, 0)) ∧ W.heap[r]? = some (.cells #[.string x.a, .string x.i, .int .i64 x.s, .int .i64 x.o, .int .i64 x.l, .int .i64 x.t, .int .i64 x.k, .int .i64 x.n, .bool x.g] 34 (0, 0))) (by kernel_rfl) (by kernel_rfl) ⟨HG6.out, HX6.out⟩ ?_
                generalize w5.drew = w6 at *
                repeat (first | (refine Hist.wpG_plain 0 _ (by decide +kernel) rfl (by rfl) (by rfl) (fun K hK => ?_); go_big_quiet_op; refine hK _ ?_; clear hK K))
                refine Hist.wpG_call (by rfl) (by rfl) (fun K hK => ?_)
                go_big_op
                refine (refJoin2U y x u w6 HU.out).mono ?_
                rintro e w7 ⟨rfl, hb7⟩
                have HG7 := Lib.hid (blk_ext hb7 HG6.out)
                have HX7 := Lib.hid (blk_ext hb7 HX6.out)
                have HO7 := Lib.hid (HO6.out.ext hb7)
                have HB7 := Lib.hid (ext_trans HB6.out hb7)
                have Z7 := HB7.out.size
                refine hK _ _ ⟨(fun W : World => W.heap[g]? = some (.cells cur5 34 (0, 0)) ∧ W.heap[r]? = some (.cells #[.string x.a, .string x.i, .int .i64 x.s, .int .i64 x.o, .int .i64 x.l, .int .i64 x.t, .int .i64 x.k, .int .i64 x.n, .bool x.g] 34 (0, 0))), (by simp only [List.cons_append, List.nil_append, List.forall_mem_cons]; repeat' (first | exact ⟨HG7.out, HX7.out⟩ | (intro _ h; cases h; done) | (exact trivial) | constructor)), ?_⟩
                clear hK K hb7 HG6 HX6 HO6 HB6
                repeat (first | (refine Hist.wpG_plain 1 _ (by decide +kernel) rfl (by rfl) (by rfl) (fun K hK => ?_); go_big_quiet_op; refine hK _ ?_; clear hK K) | (refine Hist.wpG_plain 0 _ (by decide +kernel) rfl (by rfl) (by rfl) (fun K hK => ?_); go_big_quiet_op; refine hK _ ?_; clear hK K))
                refine Hist.wpG_nil ?_
                have hgf := blk_free HG7.out
                have hgl := blk_lt HG7.out
                have hgc := fun q => (World.cell?_of_block (w := w5) (a := ⟨g, q, none⟩) (w' := w7) (HG7.out.trans HC5.out.symm))
                have z0 := (hgc (P * 9)).trans y0
                have z1 := (hgc (P * 9 + 1)).trans y1
                have z2 := (hgc (P * 9 + 2)).trans y2
                have z3 := (hgc (P * 9 + 3)).trans y3
                have z4 := (hgc (P * 9 + 4)).trans y4
                have z5 := (hgc (P * 9 + 5)).trans y5
                have z6 := (hgc (P * 9 + 6)).trans y6
                have z7 := (hgc (P * 9 + 7)).trans y7
                have z8 := (hgc (P * 9 + 8)).trans y8
                clear hgc y0 y1 y2 y3 y4 y5 y6 y7 y8
                clear hI0 hL0 hM0 hB0_0 hY0_0 hB0_1 hY0_1 hB0_2 hY0_2 hB0_3 hY0_3 hB0_4 hY0_4 hB0_5 hY0_5 hB0_6 hY0_6 hB0_7 hY0_7 hB0_8 hY0_8
                have HPUT := Lib.hid (OwnR.put cc_len HO7.out (i := P) (by have := HM.out; omega) u)
                have HKP := Lib.hid (kept_sets (cc u) (o := P * 9) (Kept.refl g w7))
                simp only [behind]
                refine wpAny_one 11 _ (by kernel_rfl) rfl ?_
                refine wpOp_do (by simp only [List.getElem?_toArray, List.getElem?_cons_succ, List.getElem?_cons_zero]; rfl) (by rfl) (fun K hK => ?_)
                go_big_op
                refine hK _ _ ?_
                clear hK K
                refine wpAny_end (by kernel_rfl) ?_
                go_wp2
                go_roundw
                case rel => exact ⟨J + 1, by omega, by go_num, by rw [HST1.out, ← HSE.out]; exact HPUT.out, HB7.out.trans ((Rim.kept HKP.out).below HGG.out Z7)⟩
                case measure => simp [intOf]; omega
              · have HST1 := Lib.hid (show jnL (T.take (J + 1)) = S ++ [x] from by rw [HST.out]; (conv => lhs; rw [HSY.out]); exact (jn1_other (fun q => h2 q.2)).trans (by rw [← HSY.out]))
                have h3 : ¬ y.i.toList = x.i.toList := fun e => h2 (str_inj e)
                rw [h1] at k0
                clear h1 h2 HST hd
                go_wp2_with fail
                haveI hIq : Nonempty (Of w4) := of_some _
                have hFa := of_cell k0
                have hFb := of_cell k1
                have hFc := of_cell k2
                have hFd := of_cell k3
                first | (refine wp_region_stay w4 (by kernel_rfl) (by kernel_rfl) (by go_grown) ?_) | (refine wp_region_stay_seq w4 (by go_grown) ?_)
                repeat (go_big_quiet_step (fail))
                refine wpQuiet_nil ?_
                intro w5 hb5
                clear hIq hFa hFb hFc hFd k0 k1 k2 k3
            
                have HO5 := Lib.hid (HO3.out.ext hb5)
                have HX5 := Lib.hid (blk_ext hb5 HX.out)
                have HB5 := Lib.hid (ext_trans HB3.out hb5)
                have Z5 := HB5.out.size
                have hk5 := blk_cell HX5.out
                have hl5 := blk_lt HX5.out
                have HO5' := Lib.hid (show w5.ownsRow w1.heap.size 34 9 (.slice (some ⟨g, 0, none⟩) (P + 1) gc) ((P + 1)) (flat cc S) from by have := HO5.out; unfold OwnC OwnR at this; rw [HM.out] at this; exact this)
                clear hb5 HO3 HX HB3
                go_wp2_with (at_builtin; refine wpList_append_own _ rfl _ _ 28 rfl (w1.heap.size) 34 i0 Cd.zero.v 9 88 Try.underlying28 hi hz0 hz1 hz2 rfl (by decide) _ ((P + 1)) (flat cc S) rfl (HO5'.out.alloc (.cells #[.string x.a, .string x.i, .int .i64 x.s, .int .i64 x.o, .int .i64 x.l, .int .i64 x.t, .int .i64 x.k, .int .i64 x.n, .bool x.g] 34)) ⟨w5.heap.size, 0, none⟩ 1 1 (cc x) rfl rfl ?c1 ?c2 ?c3 ?c4 ?c5 ?_)
                case c1 =>
                  intro j u hj
                  rw [add_off, Nat.zero_add, blk_cell (blk_new w5 #[.string x.a, .string x.i, .int .i64 x.s, .int .i64 x.o, .int .i64 x.l, .int .i64 x.t, .int .i64 x.k, .int .i64 x.n, .bool x.g] 34)]
                  simpa [cc] using hj
                case c2 => exact cc_one x
                case c3 => unfold maxLen; omega
                case c4 => omega
                case c5 => simp; omega
                intro v7 w7 ho7 hg7 _
                have HB7 := Lib.hid ((HB5.out.alloc Z5 (.cells #[.string x.a, .string x.i, .int .i64 x.s, .int .i64 x.o, .int .i64 x.l, .int .i64 x.t, .int .i64 x.k, .int .i64 x.n, .bool x.g] 34)).grown hg7 (by simp; omega) (fun q hq => own_ge HO5'.out hq))
                have HO7 := Lib.hid (show OwnC w1.heap.size w7 v7 (S ++ [x]) by unfold OwnC OwnR; rw [flat_snoc, List.length_append, HM.out]; exact ho7)
                clear ho7 hg7 HO5 HO5' HX5 HB5 hk5 hl5
                go_wp2
                go_roundw
                case rel => exact ⟨J + 1, by omega, by go_num, by rw [HST1.out]; exact HO7.out, HB7.out⟩
                case measure => simp [intOf]; omega
            · have HST1 := Lib.hid (show jnL (T.take (J + 1)) = S ++ [x] from by rw [HST.out]; (conv => lhs; rw [HSY.out]); exact (jn1_other (fun q => h1 q.1)).trans (by rw [← HSY.out]))
              have h3 : ¬ y.a.toList = x.a.toList := fun e => h1 (str_inj e)
              clear h1 HST hd
              go_wp2_with fail
              haveI hIq : Nonempty (Of w4) := of_some _
              have hFa := of_cell k0
              have hFb := of_cell k1
              have hFc := of_cell k2
              have hFd := of_cell k3
              first | (refine wp_region_stay w4 (by kernel_rfl) (by kernel_rfl) (by go_grown) ?_) | (refine wp_region_stay_seq w4 (by go_grown) ?_)
              repeat (go_big_quiet_step (fail))
              refine wpQuiet_nil ?_
              intro w5 hb5
              clear hIq hFa hFb hFc hFd k0 k1 k2 k3
          
              have HO5 := Lib.hid (HO3.out.ext hb5)
              have HX5 := Lib.hid (blk_ext hb5 HX.out)
              have HB5 := Lib.hid (ext_trans HB3.out hb5)
              have Z5 := HB5.out.size
              have hk5 := blk_cell HX5.out
              have hl5 := blk_lt HX5.out
              have HO5' := Lib.hid (show w5.ownsRow w1.heap.size 34 9 (.slice (some ⟨g, 0, none⟩) (P + 1) gc) ((P + 1)) (flat cc S) from by have := HO5.out; unfold OwnC OwnR at this; rw [HM.out] at this; exact this)
              clear hb5 HO3 HX HB3
              go_wp2_with (at_builtin; refine wpList_append_own _ rfl _ _ 28 rfl (w1.heap.size) 34 i0 Cd.zero.v 9 88 Try.underlying28 hi hz0 hz1 hz2 rfl (by decide) _ ((P + 1)) (flat cc S) rfl (HO5'.out.alloc (.cells #[.string x.a, .string x.i, .int .i64 x.s, .int .i64 x.o, .int .i64 x.l, .int .i64 x.t, .int .i64 x.k, .int .i64 x.n, .bool x.g] 34)) ⟨w5.heap.size, 0, none⟩ 1 1 (cc x) rfl rfl ?c1 ?c2 ?c3 ?c4 ?c5 ?_)
              case c1 =>
                intro j u hj
                rw [add_off, Nat.zero_add, blk_cell (blk_new w5 #[.string x.a, .string x.i, .int .i64 x.s, .int .i64 x.o, .int .i64 x.l, .int .i64 x.t, .int .i64 x.k, .int .i64 x.n, .bool x.g] 34)]
                simpa [cc] using hj
              case c2 => exact cc_one x
              case c3 => unfold maxLen; omega
              case c4 => omega
              case c5 => simp; omega
              intro v7 w7 ho7 hg7 _
              have HB7 := Lib.hid ((HB5.out.alloc Z5 (.cells #[.string x.a, .string x.i, .int .i64 x.s, .int .i64 x.o, .int .i64 x.l, .int .i64 x.t, .int .i64 x.k, .int .i64 x.n, .bool x.g] 34)).grown hg7 (by simp; omega) (fun q hq => own_ge HO5'.out hq))
              have HO7 := Lib.hid (show OwnC w1.heap.size w7 v7 (S ++ [x]) by unfold OwnC OwnR; rw [flat_snoc, List.length_append, HM.out]; exact ho7)
              clear ho7 hg7 HO5 HO5' HX5 HB5 hk5 hl5
              go_wp2
              go_roundw
              case rel => exact ⟨J + 1, by omega, by go_num, by rw [HST1.out]; exact HO7.out, HB7.out⟩
              case measure => simp [intOf]; omega
        · obtain rfl : J = n := by omega
          have HF := Lib.hid (show jnL (T.take J) = jnL (srt klt L) from by rw [List.take_of_length_le (by have := HTN.out; omega), ← HTT.out])
          have Z1 := HB1.out.size
          go_wp2
          go_ret
          exact ⟨_, rfl, by rw [HF.out] at ho2; exact ho2.base Z1, ext_trans HB1.out hb2⟩


end Go.Proofs.Ytloeabdohgdmkaa
