/- What a card shows; who is seen. -/
import Derived.Test.YtkblblcjkkgbeaaOnce
namespace Go.Proofs.Ytkblblcjkkgbeaa
open Go.RowKit
set_option linter.unusedVariables false
set_option linter.unusedSimpArgs false

/-- what a card shows -/
def shw (c : Cd) : Int := if c.g then 0 else if c.o = 0 then c.s else c.o

def seenL (ls : List Cd) : List Cd := srt klt (ls.filter (fun c => !c.g))

theorem seenL_len (ls : List Cd) : (seenL ls).length ≤ ls.length := by unfold seenL; rw [srt_len]; exact List.length_filter_le _ _

theorem seenL_mem {ls : List Cd} {c : Cd} (h : c ∈ seenL ls) : c ∈ ls ∧ c.g = false := by
  have := (srt_mem klt c _).1 h
  simpa using this

set_option maxRecDepth 100000 in
set_option maxHeartbeats 1000000 in
theorem cardShows (c : Cd) (w : World) :
    Calls Try.prog 21 #[.agg #[.string c.a, .string c.i, .int .i64 c.s, .int .i64 c.o, .int .i64 c.l, .int .i64 c.t, .int .i64 c.k, .int .i64 c.n, .bool c.g]] w fun e w' => e = .returned (.int .i64 (shw c)) ∧ Below w.heap.size w w' := by
  have D : Below w.heap.size w (w.alloc (.cells #[.string c.a, .string c.i, .int .i64 c.s, .int .i64 c.o, .int .i64 c.l, .int .i64 c.t, .int .i64 c.k, .int .i64 c.n, .bool c.g] 40)) := (Below.refl _ _).alloc (Nat.le_refl _) _
  obtain ⟨a, i, s, o, l, t, k, n, g⟩ := c
  simp only at D ⊢
  cases g
  · by_cases h : o = 0
    · have e : shw ⟨a, i, s, o, l, t, k, n, false⟩ = s := by simp [shw, h]
      rw [e]
      subst h
      clear e
      go_enter Try.func21, Try.ntmps21
      go_wp2
      go_ret
      exact ⟨rfl, D⟩
    · have e : shw ⟨a, i, s, o, l, t, k, n, false⟩ = o := by simp [shw, h]
      rw [e]
      have hd : (o == 0) = false := by simp [h]
      clear e h
      go_enter Try.func21, Try.ntmps21
      go_wp2
      go_ret
      exact ⟨rfl, D⟩
  · have e : shw ⟨a, i, s, o, l, t, k, n, true⟩ = 0 := by simp [shw]
    rw [e]
    clear e
    go_enter Try.func21, Try.ntmps21
    go_wp2
    go_ret
    exact ⟨rfl, D⟩

set_option maxRecDepth 100000 in
set_option maxHeartbeats 1000000 in
theorem refShows (c : Cd) (w : World) :
    Calls Try.prog 12 #[.agg #[.string c.a, .string c.i, .int .i64 c.s, .int .i64 c.o, .int .i64 c.l, .int .i64 c.t, .int .i64 c.k, .int .i64 c.n, .bool c.g]] w fun e w' => e = .returned (.int .i64 (shw c)) ∧ Below w.heap.size w w' := by
  have D : Below w.heap.size w (w.alloc (.cells #[.string c.a, .string c.i, .int .i64 c.s, .int .i64 c.o, .int .i64 c.l, .int .i64 c.t, .int .i64 c.k, .int .i64 c.n, .bool c.g] 40)) := (Below.refl _ _).alloc (Nat.le_refl _) _
  obtain ⟨a, i, s, o, l, t, k, n, g⟩ := c
  simp only at D ⊢
  cases g
  · by_cases h : o = 0
    · have e : shw ⟨a, i, s, o, l, t, k, n, false⟩ = s := by simp [shw, h]
      rw [e]
      subst h
      clear e
      go_enter Try.func12, Try.ntmps12
      go_wp2
      go_ret
      exact ⟨rfl, D⟩
    · have e : shw ⟨a, i, s, o, l, t, k, n, false⟩ = o := by simp [shw, h]
      rw [e]
      have hd : (o == 0) = false := by simp [h]
      clear e h
      go_enter Try.func12, Try.ntmps12
      go_wp2
      go_ret
      exact ⟨rfl, D⟩
  · have e : shw ⟨a, i, s, o, l, t, k, n, true⟩ = 0 := by simp [shw]
    rw [e]
    clear e
    go_enter Try.func12, Try.ntmps12
    go_wp2
    go_ret
    exact ⟨rfl, D⟩

theorem filt_snoc (ls : List Cd) (x : Cd) : (ls ++ [x]).filter (fun c => !c.g) = ls.filter (fun c => !c.g) ++ (if x.g then [] else [x]) := by
  rw [List.filter_append]
  cases h : x.g <;> simp [List.filter, h]

section
variable {α : Type} (lt : α → α → Bool)
theorem insV_front (c : α) (l : List α) (h : ∀ y ∈ l, lt c y = false) : insV lt c l = c :: l := by
  cases l with
  | nil => rfl
  | cons x xs => unfold insV; rw [if_neg (by simp [h x (by simp)])]

theorem insV_filter (W : Weak lt) (p : α → Bool) (c : α) (l : List α) (h : l.Pairwise (fun x y => lt x y = false)) : (insV lt c l).filter p = if p c then insV lt c (l.filter p) else l.filter p := by
  induction l with
  | nil => cases hp : p c <;> simp [insV, List.filter, hp]
  | cons x xs ih =>
    obtain ⟨h1, h2⟩ := List.pairwise_cons.1 h
    have ih' := ih h2
    by_cases hlt : lt c x = true
    · have e : insV lt c (x :: xs) = x :: insV lt c xs := by
        show (if lt c x then _ else _) = _
        rw [if_pos hlt]
      rw [e]
      cases hx : p x
      · rw [List.filter_cons_of_neg (by simp [hx]), List.filter_cons_of_neg (by simp [hx]), ih']
      · rw [List.filter_cons_of_pos hx, List.filter_cons_of_pos hx, ih']
        cases hp : p c
        · simp
        · simp only [if_true]
          show _ = (if lt c x then _ else _)
          rw [if_pos hlt]
    · have hf : lt c x = false := by simpa using hlt
      have e : insV lt c (x :: xs) = c :: x :: xs := by
        show (if lt c x then _ else _) = _
        rw [if_neg hlt]
      rw [e]
      cases hp : p c
      · rw [List.filter_cons_of_neg (by simp [hp])]; simp
      · rw [List.filter_cons_of_pos hp]
        simp only [if_true]
        rw [insV_front lt c]
        intro y hy
        have hy' := (List.mem_filter.1 hy).1
        rcases List.mem_cons.1 hy' with rfl | hy'
        · exact hf
        · exact W.ntr y x c (h1 y hy') hf

theorem insR_filter (W : Weak lt) (p : α → Bool) (c : α) (l : List α) (h : Ord lt l) : (insR lt c l).filter p = if p c then insR lt c (l.filter p) else l.filter p := by
  unfold insR
  rw [List.filter_reverse, insV_filter lt W p c _ (List.pairwise_reverse.2 h)]
  cases hp : p c
  · simp
  · simp

theorem srt_filter (W : Weak lt) (p : α → Bool) (ls : List α) : (srt lt ls).filter p = srt lt (ls.filter p) := by
  have key : ∀ (ls out : List α), Ord lt out → (ls.foldl (fun out c => insR lt c out) out).filter p = (ls.filter p).foldl (fun out c => insR lt c out) (out.filter p) := by
    intro ls
    induction ls with
    | nil => intro out _; rfl
    | cons x xs ih =>
      intro out ho
      simp only [List.foldl_cons]
      rw [ih _ (insR_ord lt W x out ho), insR_filter lt W p x out ho]
      cases hp : p x
      · rw [List.filter_cons_of_neg (by simp [hp])]; simp
      · rw [List.filter_cons_of_pos hp]; simp
  exact key ls [] List.Pairwise.nil

end
theorem seen_is (ls : List Cd) : (srt klt ls).filter (fun c => !c.g) = seenL ls := srt_filter klt klt_weak _ ls

set_option maxRecDepth 100000 in
set_option maxHeartbeats 2000000 in
theorem refSeen9 (a : Option Addr) (n c : Nat) (ls : List Cd) (w : World) (h : CAt w a ls) (hl : ls.length = n) (hn : n ≤ 1000) (hnc : n ≤ c) :
    Calls Try.prog 19 #[.slice a n c] w fun e w' => ∃ v', e = .returned v' ∧ OwnC w.heap.size w' v' (seenL ls) ∧ Below w.heap.size w w' := by
  obtain ⟨i0, hi, hz0, hz1, hz2⟩ := info_parts' info_card
  have HA0 := Lib.hid h
  have HN0 := Lib.hid hl
  clear h hl
  go_enter Try.func19, Try.ntmps19
  go_wp2_with fail
  refine (refSort a n c ls _ HA0.out HN0.out hn hnc).mono ?_
  rintro e w1 ⟨vs, rfl, hos, hbs⟩
  obtain ⟨T, hT⟩ : ∃ T, srt klt ls = T := ⟨_, rfl⟩
  have hTn : T.length = n := by rw [← hT, srt_len, HN0.out]
  rw [hT] at hos
  obtain ⟨ta, tc, rfl, htc, htm, htat, -, -⟩ := hos.read
  rw [hTn] at htc ⊢
  have HTT := Lib.hid hT
  have HN := Lib.hid hTn
  have HA := Lib.hid htat
  have HB1 := Lib.hid hbs
  have Z1 := hbs.size
  unfold maxLen at htm
  clear hos hbs hT hTn htat HA0
  go_wp2_with fail
  go_loopw [3, 9] (fun o j wr => ∃ J : Nat, J ≤ n ∧ j = .int .i64 (J : Int) ∧ OwnC w1.heap.size wr o ((T.take J).filter (fun c => !c.g)) ∧ Below w1.heap.size w1 wr) (fun o j _ => n - (intOf j).toNat)
  case atStart => exact ⟨0, by omega, rfl, OwnR.nil _ _, Below.refl _ _⟩
  case round =>
    obtain ⟨w2, rfl⟩ : ∃ y : World, y = wr := ⟨_, rfl⟩
    obtain ⟨J, hJ, rfl, ho2, hb2⟩ := hrel
    by_cases hlt : J < n
    · obtain ⟨ga, gc, rfl, hgc, hgm, hgat, hgb, hgf⟩ := ho2.read
      obtain ⟨S, hS⟩ : ∃ S, (T.take J).filter (fun c => !c.g) = S := ⟨_, rfl⟩
      rw [hS] at ho2 hgc hgat hgf ⊢
      obtain ⟨m, hm⟩ : ∃ m, S.length = m := ⟨_, rfl⟩
      have hm1 : m ≤ 1000 := by rw [← hm, ← hS]; have := List.length_filter_le (fun c : Cd => !c.g) (T.take J); rw [List.length_take] at this; omega
      have HM := Lib.hid hm
      rw [hm] at hgc ⊢
      obtain ⟨x, hx⟩ : ∃ x, T[J]? = some x := ⟨_, List.getElem?_eq_getElem (by have := HN.out; omega)⟩
      have HST := Lib.hid (show (T.take (J + 1)).filter (fun c => !c.g) = S ++ (if x.g then [] else [x]) from by rw [List.take_add_one, hx]; show (T.take J ++ [x]).filter _ = _; rw [filt_snoc, hS])
      obtain ⟨b, o, rfl⟩ : ∃ b o, ta = some ⟨b, o, none⟩ := by
        rcases HA.out with h | ⟨b, o, e, _⟩
        · rw [h] at hx; simp at hx
        · exact ⟨b, o, e⟩
      obtain ⟨x0, x1, x2, x3, x4, x5, x6, x7, x8⟩ := (HA.out.ext hb2).at hx
      have D0 : Below w2.heap.size w2 (w2.alloc (.cells #[.string x.a, .string x.i, .int .i64 x.s, .int .i64 x.o, .int .i64 x.l, .int .i64 x.t, .int .i64 x.k, .int .i64 x.n, .bool x.g] 40)) := (Below.refl _ _).alloc (Nat.le_refl _) _
      have HX := Lib.hid (blk_new w2 #[.string x.a, .string x.i, .int .i64 x.s, .int .i64 x.o, .int .i64 x.l, .int .i64 x.t, .int .i64 x.k, .int .i64 x.n, .bool x.g] 40)
      have HO3 := Lib.hid (show OwnC w1.heap.size (w2.alloc (.cells #[.string x.a, .string x.i, .int .i64 x.s, .int .i64 x.o, .int .i64 x.l, .int .i64 x.t, .int .i64 x.k, .int .i64 x.n, .bool x.g] 40)) (.slice ga m gc) S from by have := OwnR.ext ho2 D0; rw [hm] at this; exact this)
      have HB3 := Lib.hid (ext_trans hb2 D0)
      unfold maxLen at hgm
      clear ho2 hb2 hx hS hm D0 hgat hgb hgf
      go_upto_region 5 with (fail)
      obtain ⟨r, hr⟩ : ∃ r, w2.heap.size = r := ⟨_, rfl⟩
      rw [hr] at HX ⊢
      clear hr
      generalize (w2.alloc (.cells #[.string x.a, .string x.i, .int .i64 x.s, .int .i64 x.o, .int .i64 x.l, .int .i64 x.t, .int .i64 x.k, .int .i64 x.n, .bool x.g] 40)) = w4 at *
      clear x0 x1 x2 x3 x4 x5 x6 x7 x8
      have hk4 := blk_cell HX.out
      have hl4 := blk_lt HX.out
      have Z4 := HB3.out.size
      obtain ⟨gg, hgg⟩ : ∃ gg, x.g = gg := ⟨_, rfl⟩
      rw [hgg] at HST
      cases gg
      · have HO5' := Lib.hid (show w4.ownsRow w1.heap.size 40 9 (.slice ga m gc) m (flat cc S) from by have := HO3.out; unfold OwnC OwnR at this; rw [HM.out] at this; exact this)
        go_wp2_with (at_builtin; refine wpList_append_own _ rfl _ _ 23 rfl (w1.heap.size) 40 i0 Cd.zero.v 9 88 Try.underlying23 hi hz0 hz1 hz2 rfl (by decide) _ m (flat cc S) rfl (HO5'.out.alloc (.cells #[.string x.a, .string x.i, .int .i64 x.s, .int .i64 x.o, .int .i64 x.l, .int .i64 x.t, .int .i64 x.k, .int .i64 x.n, .bool false] 40)) ⟨w4.heap.size, 0, none⟩ 1 1 (cc x) rfl rfl ?c1 ?c2 ?c3 ?c4 ?c5 ?_)
        case c1 =>
          intro j u hj
          rw [add_off, Nat.zero_add, blk_cell (blk_new w4 #[.string x.a, .string x.i, .int .i64 x.s, .int .i64 x.o, .int .i64 x.l, .int .i64 x.t, .int .i64 x.k, .int .i64 x.n, .bool false] 40)]
          simpa [cc, hgg] using hj
        case c2 => exact cc_one x
        case c3 => unfold maxLen; omega
        case c4 => omega
        case c5 => simp; omega
        intro v7 w7 ho7 hg7 _
        have HB7 := Lib.hid ((HB3.out.alloc Z4 (.cells #[.string x.a, .string x.i, .int .i64 x.s, .int .i64 x.o, .int .i64 x.l, .int .i64 x.t, .int .i64 x.k, .int .i64 x.n, .bool false] 40)).grown hg7 (by simp; omega) (fun q hq => own_ge HO5'.out hq))
        have HO7 := Lib.hid (show OwnC w1.heap.size w7 v7 (S ++ [x]) by unfold OwnC OwnR; rw [flat_snoc, List.length_append, HM.out]; exact ho7)
        clear ho7 hg7 HO5' HX hk4 hl4
        go_wp2
        go_roundw
        case rel => exact ⟨J + 1, by omega, by go_num, by rw [HST.out]; exact HO7.out, HB7.out⟩
        case measure => simp [intOf]; omega
      · go_wp2
        go_roundw
        case rel => exact ⟨J + 1, by omega, by go_num, by rw [HST.out]; simpa using HO3.out, HB3.out⟩
        case measure => simp [intOf]; omega
    · obtain rfl : J = n := by omega
      have HF := Lib.hid (show (T.take J).filter (fun c => !c.g) = seenL ls from by rw [List.take_of_length_le (by have := HN.out; omega), ← HTT.out]; exact seen_is ls)
      have HO2 := Lib.hid ho2
      clear ho2
      go_wp2
      go_ret
      exact ⟨_, rfl, by have := OwnR.base HO2.out Z1; rw [HF.out] at this; exact this, ext_trans HB1.out hb2⟩

end Go.Proofs.Ytkblblcjkkgbeaa
