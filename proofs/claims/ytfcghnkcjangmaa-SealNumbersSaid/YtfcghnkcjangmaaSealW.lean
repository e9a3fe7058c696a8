/- Package seal's walks. -/
import Derived.Test.YtfcghnkcjangmaaOnce
import Derived.Test.YtfcghnkcjangmaaPackW
import Derived.Test.YtfcghnkcjangmaaSum
namespace Go.Proofs.Ytfcghnkcjangmaa
open Go.RowKit
set_option linter.unusedVariables false
set_option linter.unusedSimpArgs false

/-- what a card shows -/
def shw (c : Cd) : Int := if c.g then 0 else if c.o = 0 then c.s else c.o
/-- its bytes -/
def cardB (c : Cd) : List Int := txt c.a ++ txt c.i ++ [shw c % 256] ++ be c.l
/-- a card whose texts are short -/
def CdS (c : Cd) : Prop := c.a.size ≤ 1000 ∧ c.i.size ≤ 1000
theorem CdOk.s {c : Cd} (h : CdOk c) : CdS c := ⟨by have := h.1; omega, by have := h.2.1; omega⟩
theorem cardB_len (c : Cd) : (cardB c).length ≤ 521 := by
  have h1 := txt_len c.a
  have h2 := txt_len c.i
  have h3 := cut255_len c.a
  have h4 := cut255_len c.i
  simp only [cardB, List.length_append, be_len, List.length_cons, List.length_nil]
  omega
theorem cardB_wb (c : Cd) : Wb (cardB c) := (((txt_wb _).app (txt_wb _)).app (Wb.one (Int.emod_nonneg _ (by omega)) (Int.emod_lt_of_pos _ (by omega)))).app (be_wb _)
def seenL (ls : List Cd) : List Cd := srt klt (ls.filter (fun c => !c.g))
def sealB (ls : List Cd) : List Int := (seenL ls).flatMap cardB
theorem flatB_len (ls : List Cd) : (ls.flatMap cardB).length ≤ 521 * ls.length := by
  induction ls with
  | nil => simp
  | cons x xs ih => rw [List.flatMap_cons, List.length_append, List.length_cons]; have := cardB_len x; omega
theorem flatB_wb (ls : List Cd) : Wb (ls.flatMap cardB) := by
  induction ls with
  | nil => exact Wb.nil
  | cons x xs ih => rw [List.flatMap_cons]; exact (cardB_wb x).app ih
theorem seenL_len (ls : List Cd) : (seenL ls).length ≤ ls.length := by unfold seenL; rw [srt_len]; exact List.length_filter_le _ _
theorem seenL_mem {ls : List Cd} {c : Cd} (h : c ∈ seenL ls) : c ∈ ls ∧ c.g = false := by
  have := (srt_mem klt c _).1 h
  simpa using this

set_option maxRecDepth 100000 in
set_option maxHeartbeats 1000000 in
theorem cardShows (c : Cd) (w : World) :
    Calls Try.prog 40 #[.agg #[.string c.a, .string c.i, .int .i64 c.s, .int .i64 c.o, .int .i64 c.l, .int .i64 c.t, .int .i64 c.k, .int .i64 c.n, .bool c.g]] w fun e w' => e = .returned (.int .i64 (shw c)) ∧ Below w.heap.size w w' := by
  have D : Below w.heap.size w (w.alloc (.cells #[.string c.a, .string c.i, .int .i64 c.s, .int .i64 c.o, .int .i64 c.l, .int .i64 c.t, .int .i64 c.k, .int .i64 c.n, .bool c.g] 33)) := (Below.refl _ _).alloc (Nat.le_refl _) _
  obtain ⟨a, i, s, o, l, t, k, n, g⟩ := c
  simp only at D ⊢
  cases g
  · by_cases h : o = 0
    · have e : shw ⟨a, i, s, o, l, t, k, n, false⟩ = s := by simp [shw, h]
      rw [e]
      subst h
      clear e
      go_enter Try.func40, Try.ntmps40
      go_wp2
      go_ret
      exact ⟨rfl, D⟩
    · have e : shw ⟨a, i, s, o, l, t, k, n, false⟩ = o := by simp [shw, h]
      rw [e]
      have hd : (o == 0) = false := by simp [h]
      clear e h
      go_enter Try.func40, Try.ntmps40
      go_wp2
      go_ret
      exact ⟨rfl, D⟩
  · have e : shw ⟨a, i, s, o, l, t, k, n, true⟩ = 0 := by simp [shw]
    rw [e]
    clear e
    go_enter Try.func40, Try.ntmps40
    go_wp2
    go_ret
    exact ⟨rfl, D⟩

set_option maxRecDepth 100000 in
set_option maxHeartbeats 1000000 in
theorem refShows (c : Cd) (w : World) :
    Calls Try.prog 14 #[.agg #[.string c.a, .string c.i, .int .i64 c.s, .int .i64 c.o, .int .i64 c.l, .int .i64 c.t, .int .i64 c.k, .int .i64 c.n, .bool c.g]] w fun e w' => e = .returned (.int .i64 (shw c)) ∧ Below w.heap.size w w' := by
  have D : Below w.heap.size w (w.alloc (.cells #[.string c.a, .string c.i, .int .i64 c.s, .int .i64 c.o, .int .i64 c.l, .int .i64 c.t, .int .i64 c.k, .int .i64 c.n, .bool c.g] 33)) := (Below.refl _ _).alloc (Nat.le_refl _) _
  obtain ⟨a, i, s, o, l, t, k, n, g⟩ := c
  simp only at D ⊢
  cases g
  · by_cases h : o = 0
    · have e : shw ⟨a, i, s, o, l, t, k, n, false⟩ = s := by simp [shw, h]
      rw [e]
      subst h
      clear e
      go_enter Try.func14, Try.ntmps14
      go_wp2
      go_ret
      exact ⟨rfl, D⟩
    · have e : shw ⟨a, i, s, o, l, t, k, n, false⟩ = o := by simp [shw, h]
      rw [e]
      have hd : (o == 0) = false := by simp [h]
      clear e h
      go_enter Try.func14, Try.ntmps14
      go_wp2
      go_ret
      exact ⟨rfl, D⟩
  · have e : shw ⟨a, i, s, o, l, t, k, n, true⟩ = 0 := by simp [shw]
    rw [e]
    clear e
    go_enter Try.func14, Try.ntmps14
    go_wp2
    go_ret
    exact ⟨rfl, D⟩

set_option maxRecDepth 100000 in
set_option maxHeartbeats 1000000 in
theorem sealCard (x : Cd) (w : World) (hx : CdS x) :
    Calls Try.prog 26 #[.agg #[.string x.a, .string x.i, .int .i64 x.s, .int .i64 x.o, .int .i64 x.l, .int .i64 x.t, .int .i64 x.k, .int .i64 x.n, .bool x.g]] w (Row (cardB x) w) := by
  have h1 := hx.1
  have h2 := hx.2
  have hA0 := cut255_len x.a
  have hI0 := cut255_len x.i
  have HTA := Lib.hid (txt_len x.a)
  have HTI := Lib.hid (txt_len x.i)
  have D0 : Below w.heap.size w (w.alloc (.cells #[.string x.a, .string x.i, .int .i64 x.s, .int .i64 x.o, .int .i64 x.l, .int .i64 x.t, .int .i64 x.k, .int .i64 x.n, .bool x.g] 33)) := (Below.refl _ _).alloc (Nat.le_refl _) _
  have HB0 := Lib.hid D0
  have HX0 := Lib.hid (blk_new w #[.string x.a, .string x.i, .int .i64 x.s, .int .i64 x.o, .int .i64 x.l, .int .i64 x.t, .int .i64 x.k, .int .i64 x.n, .bool x.g] 33)
  obtain ⟨r, hr⟩ : ∃ r, w.heap.size = r := ⟨_, rfl⟩
  have HR := Lib.hid hr
  have hk0 := blk_cell HX0.out
  have hl0 := blk_lt HX0.out
  clear D0 hx
  go_enter Try.func26, Try.ntmps26
  go_upto_region 1 with (fail)
  rw [hr] at HX0
  clear hk0 hl0
  generalize (w.alloc (.cells #[.string x.a, .string x.i, .int .i64 x.s, .int .i64 x.o, .int .i64 x.l, .int .i64 x.t, .int .i64 x.k, .int .i64 x.n, .bool x.g] 33)) = w0 at *
  have hk0 := blk_cell HX0.out
  have hl0 := blk_lt HX0.out
  clear hr
  go_wp2_with fail
  refine (packText none 0 0 x.a [] _ (.inl rfl) rfl (by omega) (by unfold maxLen; omega)).mono ?_
  rintro e w1 ⟨v1, rfl, ho1, hb1⟩
  obtain ⟨a1, c1, rfl, -, -, -, hr1, -, -⟩ := own_read ho1
  have HB1 := Lib.hid (ext_trans HB0.out hb1)
  have HX1 := Lib.hid (blk_ext hb1 HX0.out)
  have HA1 := Lib.hid hr1
  obtain ⟨n1, hn1⟩ : ∃ n, (([] : List Int) ++ txt x.a).length = n := ⟨_, rfl⟩
  have HN1 := Lib.hid hn1
  have hk1 := blk_cell HX1.out
  have hl1 := blk_lt HX1.out
  rw [hn1]
  clear ho1 hb1 hr1 hn1
  
  have hz1 : n1 ≤ 256 := by have := HN1.out; rw [List.length_append, HTA.out] at this; simp at this; omega
  go_wp2_with fail
  refine (packText a1 n1 c1 x.i (([] : List Int) ++ txt x.a) _ HA1.out HN1.out (by omega) (by unfold maxLen; omega)).mono ?_
  rintro e w2 ⟨v2, rfl, ho2, hb2⟩
  obtain ⟨a2, c2, rfl, -, -, -, hr2, -, -⟩ := own_read ho2
  have HB2 := Lib.hid (ext_trans HB1.out hb2)
  have HX2 := Lib.hid (blk_ext hb2 HX1.out)
  have HA2 := Lib.hid hr2
  obtain ⟨n2, hn2⟩ : ∃ n, (([] : List Int) ++ txt x.a ++ txt x.i).length = n := ⟨_, rfl⟩
  have HN2 := Lib.hid hn2
  have hk2 := blk_cell HX2.out
  have hl2 := blk_lt HX2.out
  rw [hn2]
  clear ho2 hb2 hr2 hn2
  
  have hz2 : n2 ≤ 512 := by have := HN2.out; rw [List.length_append, HN1.out, HTI.out] at this; omega
  go_wp2_with fail
  refine (cardShows x _).mono ?_
  rintro e w3 ⟨rfl, hb3⟩
  have HB3 := Lib.hid (ext_trans HB2.out hb3)
  have HX3 := Lib.hid (blk_ext hb3 HX2.out)
  have HA3 := Lib.hid (HA2.out.ext hb3)
  clear hb3
  go_wp2_with fail
  refine (packByte a2 n2 c2 (shw x) (([] : List Int) ++ txt x.a ++ txt x.i) _ HA3.out HN2.out (by omega)).mono ?_
  rintro e w4 ⟨v4, rfl, ho4, hb4⟩
  obtain ⟨a4, c4, rfl, -, -, -, hr4, -, -⟩ := own_read ho4
  have HB4 := Lib.hid (ext_trans HB3.out hb4)
  have HX4 := Lib.hid (blk_ext hb4 HX3.out)
  have HA4 := Lib.hid hr4
  obtain ⟨n4, hn4⟩ : ∃ n, (([] : List Int) ++ txt x.a ++ txt x.i ++ [shw x % 256]).length = n := ⟨_, rfl⟩
  have HN4 := Lib.hid hn4
  have hk4 := blk_cell HX4.out
  have hl4 := blk_lt HX4.out
  rw [hn4]
  clear ho4 hb4 hr4 hn4
  
  have hz4 : n4 ≤ 513 := by have := HN4.out; rw [List.length_append, HN2.out] at this; simp at this; omega
  go_wp2_with fail
  refine (packInt a4 n4 c4 x.l (([] : List Int) ++ txt x.a ++ txt x.i ++ [shw x % 256]) _ HA4.out HN4.out (by omega)).mono ?_
  rintro e w5 ⟨v5, rfl, ho5, hb5⟩
  have HO5 := Lib.hid ho5
  have HB5 := Lib.hid (ext_trans HB4.out hb5)
  have Z4 := HB4.out.size
  clear ho5 hb5
  go_wp2
  go_ret
  exact ⟨_, rfl, ownsRow_base HO5.out Z4, HB5.out⟩

end Go.Proofs.Ytfcghnkcjangmaa
