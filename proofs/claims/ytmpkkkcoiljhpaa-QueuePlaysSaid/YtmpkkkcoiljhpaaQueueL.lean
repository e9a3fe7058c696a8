/- Package queue's walks: a card is laid in a row. -/
import Derived.Test.YtmpkkkcoiljhpaaQueueW
import Derived.Deep.DeepCutAuto
namespace Go.Proofs.Ytmpkkkcoiljhpaa
open Go.RowKit
set_option linter.unusedVariables false

/-- a queue's cells: how many peers, six rows, how many were lost -/
def qcells (n : Nat) (sl : List (Int × Value)) (lost : Int) : Array Value := (Value.int .i64 n :: (sl.flatMap (fun x => [Value.int .i64 x.1, x.2]) ++ [.int .i64 lost])).toArray
theorem qsl_len (sl : List (Int × Value)) : (sl.flatMap (fun x => [Value.int .i64 x.1, x.2])).length = sl.length * 2 := by
  induction sl with
  | nil => rfl
  | cons x xs ih => simp only [List.flatMap_cons, List.length_append, List.length_cons, List.length_nil] at *; omega
theorem qsl_at (sl : List (Int × Value)) (i : Nat) (x : Int × Value) (h : sl[i]? = some x) : (sl.flatMap (fun x => [Value.int .i64 x.1, x.2]))[i * 2]? = some (.int .i64 x.1) ∧ (sl.flatMap (fun x => [Value.int .i64 x.1, x.2]))[i * 2 + 1]? = some x.2 := by
  induction sl generalizing i with
  | nil => simp at h
  | cons y ys ih =>
    cases i with
    | zero => simp at h; subst h; simp
    | succ i =>
      have h' := ih i (by simpa using h)
      have e : ∀ q, ((y :: ys).flatMap (fun x => [Value.int .i64 x.1, x.2]))[q + 2]? = (ys.flatMap (fun x => [Value.int .i64 x.1, x.2]))[q]? := fun q => by simp
      exact ⟨by rw [show (i + 1) * 2 = i * 2 + 2 from by omega, e]; exact h'.1, by rw [show (i + 1) * 2 + 1 = i * 2 + 1 + 2 from by omega, e]; exact h'.2⟩
theorem qsl_set (sl : List (Int × Value)) (i : Nat) (x : Int × Value) (h : sl[i]? = some x) (p : Int) (v : Value) : (sl.flatMap (fun x => [Value.int .i64 x.1, x.2])).set (i * 2) (.int .i64 p) = (sl.set i (p, x.2)).flatMap (fun x => [Value.int .i64 x.1, x.2]) ∧ (sl.flatMap (fun x => [Value.int .i64 x.1, x.2])).set (i * 2 + 1) v = (sl.set i (x.1, v)).flatMap (fun x => [Value.int .i64 x.1, x.2]) := by
  induction sl generalizing i with
  | nil => simp at h
  | cons y ys ih =>
    cases i with
    | zero => simp at h; subst h; simp
    | succ i =>
      have h' := ih i (by simpa using h)
      refine ⟨?_, ?_⟩
      · rw [show (i + 1) * 2 = i * 2 + 1 + 1 from by omega]
        simp only [List.flatMap_cons, List.set_cons_succ, List.cons_append, List.nil_append]
        rw [h'.1]
      · rw [show (i + 1) * 2 + 1 = i * 2 + 1 + 1 + 1 from by omega]
        simp only [List.flatMap_cons, List.set_cons_succ, List.cons_append, List.nil_append]
        rw [h'.2]
theorem qc_0 (n : Nat) (sl : List (Int × Value)) (lost : Int) : (qcells n sl lost)[0]? = some (.int .i64 n) := by simp [qcells]
theorem qc_at (n : Nat) (sl : List (Int × Value)) (lost : Int) (i : Nat) (x : Int × Value) (h : sl[i]? = some x) : (qcells n sl lost)[1 + i * 2]? = some (.int .i64 x.1) ∧ (qcells n sl lost)[1 + i * 2 + 1]? = some x.2 := by
  have hi : i < sl.length := by
    rcases Nat.lt_or_ge i sl.length with h' | h'
    · exact h'
    · rw [List.getElem?_eq_none h'] at h; cases h
  have hl := qsl_len sl
  obtain ⟨h1, h2⟩ := qsl_at sl i x h
  refine ⟨?_, ?_⟩
  · rw [show 1 + i * 2 = i * 2 + 1 from by omega]
    simp only [qcells, List.getElem?_toArray, List.getElem?_cons_succ]
    rw [List.getElem?_append_left (by omega)]
    exact h1
  · rw [show 1 + i * 2 + 1 = i * 2 + 1 + 1 from by omega]
    simp only [qcells, List.getElem?_toArray, List.getElem?_cons_succ]
    rw [List.getElem?_append_left (by omega)]
    exact h2
theorem qc_lost (n : Nat) (sl : List (Int × Value)) (lost : Int) (h : sl.length = 6) : (qcells n sl lost)[13]? = some (.int .i64 lost) := by
  have hl := qsl_len sl
  simp only [qcells, List.getElem?_toArray]
  rw [List.getElem?_cons_succ, List.getElem?_append_right (by omega)]
  rw [show 12 - (sl.flatMap (fun x => [Value.int .i64 x.1, x.2])).length = 0 from by omega]
  rfl
theorem qc_set0 (n m : Nat) (sl : List (Int × Value)) (lost : Int) : (qcells n sl lost).setIfInBounds 0 (.int .i64 m) = qcells m sl lost := by simp [qcells]
theorem qc_setp (n : Nat) (sl : List (Int × Value)) (lost : Int) (i : Nat) (x : Int × Value) (h : sl[i]? = some x) (p : Int) : (qcells n sl lost).setIfInBounds (1 + i * 2) (.int .i64 p) = qcells n (sl.set i (p, x.2)) lost := by
  have hi : i < sl.length := by
    rcases Nat.lt_or_ge i sl.length with h' | h'
    · exact h'
    · rw [List.getElem?_eq_none h'] at h; cases h
  have hl := qsl_len sl
  rw [show 1 + i * 2 = i * 2 + 1 from by omega]
  simp only [qcells, List.setIfInBounds_toArray, List.set_cons_succ]
  rw [List.set_append_left _ _ (by omega), (qsl_set sl i x h p x.2).1]
theorem qc_setv (n : Nat) (sl : List (Int × Value)) (lost : Int) (i : Nat) (x : Int × Value) (h : sl[i]? = some x) (v : Value) : (qcells n sl lost).setIfInBounds (1 + i * 2 + 1) v = qcells n (sl.set i (x.1, v)) lost := by
  have hi : i < sl.length := by
    rcases Nat.lt_or_ge i sl.length with h' | h'
    · exact h'
    · rw [List.getElem?_eq_none h'] at h; cases h
  have hl := qsl_len sl
  rw [show 1 + i * 2 + 1 = i * 2 + 1 + 1 from by omega]
  simp only [qcells, List.setIfInBounds_toArray, List.set_cons_succ]
  rw [List.set_append_left _ _ (by omega), (qsl_set sl i x h x.1 v).2]
theorem qc_setl (n : Nat) (sl : List (Int × Value)) (lost m : Int) (h : sl.length = 6) : (qcells n sl lost).setIfInBounds 13 (.int .i64 m) = qcells n sl m := by
  have hl := qsl_len sl
  simp only [qcells, List.setIfInBounds_toArray]
  rw [List.set_cons_succ, List.set_append_right _ _ (by omega), show 12 - (sl.flatMap (fun x => [Value.int .i64 x.1, x.2])).length = 0 from by omega]
  rfl
/-- a queue at block qb -/
def QB (w : World) (qb n : Nat) (sl : List (Int × Value)) (lost : Int) : Prop := w.heap[qb]? = some (.cells (qcells n sl lost) 57 (0, 0))
section
variable {w w' : World} {qb n : Nat} {sl : List (Int × Value)} {lost : Int}
theorem QB.blk (h : QB w qb n sl lost) : w.heap[qb]? = some (.cells (qcells n sl lost) 57 (0, 0)) := h
theorem QB.lt (h : QB w qb n sl lost) : qb < w.heap.size := blk_lt h
theorem QB.c0 (h : QB w qb n sl lost) : w.cell? ⟨qb, 0, none⟩ = some (.int .i64 n) := by rw [blk_cell h]; exact qc_0 _ _ _
theorem QB.cp (h : QB w qb n sl lost) {i : Nat} {x : Int × Value} (hx : sl[i]? = some x) : w.cell? ⟨qb, 1 + i * 2, none⟩ = some (.int .i64 x.1) := by rw [blk_cell h]; exact (qc_at _ _ _ _ _ hx).1
theorem QB.cv (h : QB w qb n sl lost) {i : Nat} {x : Int × Value} (hx : sl[i]? = some x) : w.cell? ⟨qb, 1 + i * 2 + 1, none⟩ = some x.2 := by rw [blk_cell h]; exact (qc_at _ _ _ _ _ hx).2
theorem QB.cl (h : QB w qb n sl lost) (h6 : sl.length = 6) : w.cell? ⟨qb, 13, none⟩ = some (.int .i64 lost) := by rw [blk_cell h]; exact qc_lost _ _ _ h6
theorem QB.ext (h : QB w qb n sl lost) (hb : Below w.heap.size w w') : QB w' qb n sl lost := blk_ext hb h
theorem QB.ne (h : QB w qb n sl lost) {k : Nat} {cur : Array Value} {T : TypeId} (hT : T ≠ 57) (hc : w.heap[k]? = some (.cells cur T (0, 0))) : k ≠ qb := by
  intro e
  subst e
  have h1 := h.blk
  rw [hc] at h1
  simp only [Option.some.injEq, Obj.cells.injEq] at h1
  exact hT h1.2.1
theorem QB.own {base size m : Nat} {T : TypeId} {v : Value} {xs : List Value} (h : QB w qb n sl lost) (hr : Rim qb w w') (hT : T ≠ 57) (ho : w.ownsRow base T size v m xs) : w'.ownsRow base T size v m xs :=
  own_blocks ho (fun b cur hc => hr.block b (h.ne hT hc) (blk_lt hc))
theorem QB.slc {v : Value} {cs : List Cd} (h : QB w qb n sl lost) (hr : Rim qb w w') (ho : SlC w v cs) : SlC w' v cs := by
  obtain ⟨a, c, h1, h2, h3, h4, h5⟩ := ho
  exact ⟨a, c, h1, h2, h3, h4.keep (fun b cur hc _ => hr.block b (h.ne (by decide) hc) (blk_lt hc)), h5⟩
theorem QB.setv (h : QB w qb n sl lost) {i : Nat} {x : Int × Value} (hx : sl[i]? = some x) (v : Value) : QB (w.setCell ⟨qb, 1 + i * 2 + 1, none⟩ v) qb n (sl.set i (x.1, v)) lost := by
  unfold QB
  rw [← qc_setv n sl lost i x hx v]
  exact blk_set h rfl
theorem QB.setp (h : QB w qb n sl lost) {i : Nat} {x : Int × Value} (hx : sl[i]? = some x) (p : Int) : QB (w.setCell ⟨qb, 1 + i * 2, none⟩ (.int .i64 p)) qb n (sl.set i (p, x.2)) lost := by
  unfold QB
  rw [← qc_setp n sl lost i x hx p]
  exact blk_set h rfl
theorem QB.set0 (h : QB w qb n sl lost) (m : Nat) : QB (w.setCell ⟨qb, 0, none⟩ (.int .i64 m)) qb m sl lost := by
  unfold QB
  rw [← qc_set0 n m sl lost]
  exact blk_set h rfl
theorem QB.setl (h : QB w qb n sl lost) (h6 : sl.length = 6) (m : Int) : QB (w.setCell ⟨qb, 13, none⟩ (.int .i64 m)) qb n sl m := by
  unfold QB
  rw [← qc_setl n sl lost m h6]
  exact blk_set h rfl
end
/-- a card laid last, where its key is new -/
def lay1 (cs : List Cd) (x : Cd) : List Cd := if cs.length < 16 then cs ++ [x] else (cs ++ [x]).drop 1
def lost1 (cs : List Cd) (lost : Int) : Int := if cs.length < 16 then lost else lost + 1

set_option maxRecDepth 100000 in
set_option maxHeartbeats 2000000 in
theorem lay_new (qb np i : Nat) (sl : List (Int × Value)) (lost p : Int) (v : Value) (cs : List Cd) (x : Cd) (w : World) (h : QB w qb np sl lost) (h6 : sl.length = 6) (hi' : sl[i]? = some (p, v)) (hs : SlC w v cs) (hno : ixF x 0 cs = -1) (h16 : cs.length < 16) :
    Calls Try.prog 24 #[.pointer (some ⟨qb, 0, none⟩), .pointer (some ⟨qb, 1 + i * 2, none⟩), .agg #[.string x.a, .string x.i, .int .i64 x.s, .int .i64 x.o, .int .i64 x.l, .int .i64 x.t, .int .i64 x.k, .int .i64 x.n, .bool x.g]] w fun e w' => e = .returned (.tuple #[]) ∧ (∃ v', QB w' qb np (sl.set i (p, v')) lost ∧ SlC w' v' (cs ++ [x])) ∧ Rim qb w w' := by
  obtain ⟨i0, hi, hz0, hz1, hz2⟩ := info_parts' info_card
  obtain ⟨a, c, hv, hnc, hcm, hat, hfm⟩ := hs
  obtain ⟨n, hn⟩ : ∃ n, cs.length = n := ⟨_, rfl⟩
  rw [hn] at hv hnc
  have HN := Lib.hid hn
  have hlt := h.lt
  have D0 : Below w.heap.size w (w.alloc (.cells #[.string x.a, .string x.i, .int .i64 x.s, .int .i64 x.o, .int .i64 x.l, .int .i64 x.t, .int .i64 x.k, .int .i64 x.n, .bool x.g] 39)) := (Below.refl _ _).alloc (Nat.le_refl _) _
  have HB := Lib.hid (h.ext D0)
  have HA := Lib.hid (hat.ext D0)
  have HX := Lib.hid (blk_new w #[.string x.a, .string x.i, .int .i64 x.s, .int .i64 x.o, .int .i64 x.l, .int .i64 x.t, .int .i64 x.k, .int .i64 x.n, .bool x.g] 39)
  have HI := Lib.hid hi'
  have H6 := Lib.hid h6
  have HM := Lib.hid hcm
  have HF := Lib.hid hfm
  have HNO := Lib.hid hno
  have hcv := HB.out.cv hi'
  have hlb := HB.out.lt
  simp only at hcv
  subst hv
  unfold maxLen at hcm
  rw [hn] at h16
  clear h hat hn hi' h6 hfm hno
  go_enter Try.func24, Try.ntmps24
  go_wp2_with fail
  obtain ⟨s, hs⟩ : ∃ s, w.heap.size = s := ⟨_, rfl⟩
  have HS := Lib.hid hs
  rw [hs] at HX ⊢
  clear hs
  generalize (w.alloc (.cells #[.string x.a, .string x.i, .int .i64 x.s, .int .i64 x.o, .int .i64 x.l, .int .i64 x.t, .int .i64 x.k, .int .i64 x.n, .bool x.g] 39)) = w1 at *
  refine (cloneC a n c cs _ HA.out HN.out (by omega) HF.out).mono ?_
  rintro e w2 ⟨v2, rfl, ho2, hb2⟩
  have D2 := ext_trans D0 hb2
  have Z1 := D0.size
  have HB2 := Lib.hid (HB.out.ext hb2)
  have HX2 := Lib.hid (blk_ext hb2 HX.out)
  have HO2 := Lib.hid (ho2.base Z1)
  obtain ⟨a2, c2, hv2, hnc2, hcm2, hat2, hge2, hfm2⟩ := ho2.read
  rw [HN.out] at hv2 hnc2
  subst hv2
  have HA2 := Lib.hid hat2
  have HCM2 := Lib.hid hcm2
  clear ho2 hb2 HB HX HA hcv hlb hat2 hcm2 hge2 hfm2
  go_wp2_with fail
  refine (deleteF_no a2 n c2 cs x s _ HA2.out HN.out hnc2 HCM2.out (by omega) HNO.out HX2.out).mono ?_
  rintro e w3 ⟨rfl, hb3⟩
  have D3 := ext_trans D2 hb3
  have HB3 := Lib.hid (HB2.out.ext hb3)
  have X3 := blk_ext hb3 HX2.out
  have O3 := HO2.out.ext hb3
  have hk3 := blk_cell X3
  have hl3 := blk_lt X3
  have Z3 := D3.size
  clear hb3 HB2 HX2 HA2 X3
  go_wp2_with (at_builtin; refine wpList_append_own _ rfl _ _ 25 rfl (w.heap.size) 39 i0 Cd.zero.v 9 88 Try.underlying25 hi hz0 hz1 hz2 rfl (by decide) _ n (flat cc cs) rfl (by have := O3.alloc (.cells #[.string x.a, .string x.i, .int .i64 x.s, .int .i64 x.o, .int .i64 x.l, .int .i64 x.t, .int .i64 x.k, .int .i64 x.n, .bool x.g] 39); rw [HN.out] at this; exact this) ⟨w3.heap.size, 0, none⟩ 1 1 (cc x) rfl rfl ?c1 ?c2 ?c3 ?c4 ?c5 ?_)
  case c1 =>
    intro j u hj
    rw [add_off, Nat.zero_add, blk_cell (blk_new w3 #[.string x.a, .string x.i, .int .i64 x.s, .int .i64 x.o, .int .i64 x.l, .int .i64 x.t, .int .i64 x.k, .int .i64 x.n, .bool x.g] 39)]
    simpa [cc] using hj
  case c2 => exact cc_one x
  case c3 => unfold maxLen; omega
  case c4 => omega
  case c5 => simp; omega
  intro v4 w4 ho4 hg4 _
  have D4 : Below w.heap.size w w4 := (D3.alloc Z3 (.cells #[.string x.a, .string x.i, .int .i64 x.s, .int .i64 x.o, .int .i64 x.l, .int .i64 x.t, .int .i64 x.k, .int .i64 x.n, .bool x.g] 39)).grown hg4 (by simp; omega) (fun q hq => own_ge O3 hq)
  have HB4 := Lib.hid (show QB w4 qb np sl lost from (hg4.block qb (by have := HB3.out.lt; simp; omega) (own_ne (O3.alloc (.cells #[.string x.a, .string x.i, .int .i64 x.s, .int .i64 x.o, .int .i64 x.l, .int .i64 x.t, .int .i64 x.k, .int .i64 x.n, .bool x.g] 39)) (blk_alloc HB3.out.blk _) (by decide))).trans (blk_alloc HB3.out.blk _))
  have HO4 := Lib.hid (show OwnC w.heap.size w4 v4 (cs ++ [x]) by unfold OwnC OwnR; rw [flat_snoc, List.length_append, HN.out]; exact ho4)
  obtain ⟨a4, c4, hv4, hnc4, hcm4, hat4, hge4, hfm4⟩ := HO4.out.read
  rw [List.length_append, HN.out] at hv4 hnc4
  simp only [List.length_cons, List.length_nil, Nat.zero_add] at hv4 hnc4
  subst hv4
  have HA4 := Lib.hid hat4
  have HCM4 := Lib.hid hcm4
  have hcm4' := hcm4
  unfold maxLen at hcm4'
  clear ho4 hg4 O3 HB3 HO2 hk3 hl3 hat4 hcm4
  have hd : decide (16 < (n : Int) + 1) = false := by simp; omega
  have hf4 := blk_free HB4.out.blk
  have hl4 := HB4.out.lt
  have hc4v : w4.cell? ⟨qb, 1 + i * 2 + 1, none⟩ = some (.slice a n c) := HB4.out.cv HI.out
  have HFM4 := Lib.hid hfm4
  clear hge4 hfm4
  go_upto_region 7 with (fail)
  have hk := (Kept.refl qb w4).setCell (1 + i * 2 + 1) (.slice a4 (n + 1) c4)
  have HB5 := Lib.hid (show QB (w4.setCell ⟨qb, 1 + i * 2 + 1, none⟩ (.slice a4 (n + 1) c4)) qb np (sl.set i (p, .slice a4 (n + 1) c4)) lost from HB4.out.setv HI.out (.slice a4 (n + 1) c4))
  have HS5 := Lib.hid (HB4.out.slc (Rim.kept hk) (show SlC w4 (.slice a4 (n + 1) c4) (cs ++ [x]) from ⟨a4, c4, by rw [List.length_append, HN.out]; rfl, by rw [List.length_append, HN.out]; exact hnc4, HCM4.out, HA4.out, by
    rcases HFM4.out with ⟨e1, e2, _⟩ | ⟨g, e⟩
    · exact .inl ⟨e1, e2⟩
    · exact .inr ⟨g, 0, e⟩⟩))
  have R5 := Lib.hid ((Rim.of (b := qb) D4).trans (Rim.kept hk))
  clear hk
  go_wp2
  go_end0
  exact ⟨rfl, ⟨_, HB5.out, HS5.out⟩, R5.out⟩

set_option maxRecDepth 100000 in
set_option maxHeartbeats 2000000 in
theorem lay_full (qb np i : Nat) (sl : List (Int × Value)) (lost p : Int) (v : Value) (cs : List Cd) (x : Cd) (w : World) (h : QB w qb np sl lost) (h6 : sl.length = 6) (hi' : sl[i]? = some (p, v)) (hs : SlC w v cs) (hno : ixF x 0 cs = -1) (h16 : cs.length = 16) (hl0 : 0 ≤ lost) (hl1 : lost ≤ 1000000) :
    Calls Try.prog 24 #[.pointer (some ⟨qb, 0, none⟩), .pointer (some ⟨qb, 1 + i * 2, none⟩), .agg #[.string x.a, .string x.i, .int .i64 x.s, .int .i64 x.o, .int .i64 x.l, .int .i64 x.t, .int .i64 x.k, .int .i64 x.n, .bool x.g]] w fun e w' => e = .returned (.tuple #[]) ∧ (∃ v', QB w' qb np (sl.set i (p, v')) (lost + 1) ∧ SlC w' v' ((cs ++ [x]).drop 1)) ∧ Rim qb w w' := by
  obtain ⟨i0, hi, hz0, hz1, hz2⟩ := info_parts' info_card
  obtain ⟨a, c, hv, hnc, hcm, hat, hfm⟩ := hs
  obtain ⟨n, hn⟩ : ∃ n, cs.length = n := ⟨_, rfl⟩
  rw [hn] at hv hnc
  have HN := Lib.hid hn
  have hlt := h.lt
  have D0 : Below w.heap.size w (w.alloc (.cells #[.string x.a, .string x.i, .int .i64 x.s, .int .i64 x.o, .int .i64 x.l, .int .i64 x.t, .int .i64 x.k, .int .i64 x.n, .bool x.g] 39)) := (Below.refl _ _).alloc (Nat.le_refl _) _
  have HB := Lib.hid (h.ext D0)
  have HA := Lib.hid (hat.ext D0)
  have HX := Lib.hid (blk_new w #[.string x.a, .string x.i, .int .i64 x.s, .int .i64 x.o, .int .i64 x.l, .int .i64 x.t, .int .i64 x.k, .int .i64 x.n, .bool x.g] 39)
  have HI := Lib.hid hi'
  have H6 := Lib.hid h6
  have HM := Lib.hid hcm
  have HF := Lib.hid hfm
  have HNO := Lib.hid hno
  have hcv := HB.out.cv hi'
  have hlb := HB.out.lt
  simp only at hcv
  subst hv
  unfold maxLen at hcm
  rw [hn] at h16
  have hnA : n ≤ 16 := by omega
  have hnB : 16 ≤ n := by omega
  clear h16
  clear h hat hn hi' h6 hfm hno
  go_enter Try.func24, Try.ntmps24
  go_wp2_with fail
  obtain ⟨s, hs⟩ : ∃ s, w.heap.size = s := ⟨_, rfl⟩
  have HS := Lib.hid hs
  rw [hs] at HX ⊢
  clear hs
  generalize (w.alloc (.cells #[.string x.a, .string x.i, .int .i64 x.s, .int .i64 x.o, .int .i64 x.l, .int .i64 x.t, .int .i64 x.k, .int .i64 x.n, .bool x.g] 39)) = w1 at *
  refine (cloneC a n c cs _ HA.out HN.out (by omega) HF.out).mono ?_
  rintro e w2 ⟨v2, rfl, ho2, hb2⟩
  have D2 := ext_trans D0 hb2
  have Z1 := D0.size
  have HB2 := Lib.hid (HB.out.ext hb2)
  have HX2 := Lib.hid (blk_ext hb2 HX.out)
  have HO2 := Lib.hid (ho2.base Z1)
  obtain ⟨a2, c2, hv2, hnc2, hcm2, hat2, hge2, hfm2⟩ := ho2.read
  rw [HN.out] at hv2 hnc2
  subst hv2
  have HA2 := Lib.hid hat2
  have HCM2 := Lib.hid hcm2
  clear ho2 hb2 HB HX HA hcv hlb hat2 hcm2 hge2 hfm2
  go_wp2_with fail
  refine (deleteF_no a2 n c2 cs x s _ HA2.out HN.out hnc2 HCM2.out (by omega) HNO.out HX2.out).mono ?_
  rintro e w3 ⟨rfl, hb3⟩
  have D3 := ext_trans D2 hb3
  have HB3 := Lib.hid (HB2.out.ext hb3)
  have X3 := blk_ext hb3 HX2.out
  have O3 := HO2.out.ext hb3
  have hk3 := blk_cell X3
  have hl3 := blk_lt X3
  have Z3 := D3.size
  clear hb3 HB2 HX2 HA2 X3
  go_wp2_with (at_builtin; refine wpList_append_own _ rfl _ _ 25 rfl (w.heap.size) 39 i0 Cd.zero.v 9 88 Try.underlying25 hi hz0 hz1 hz2 rfl (by decide) _ n (flat cc cs) rfl (by have := O3.alloc (.cells #[.string x.a, .string x.i, .int .i64 x.s, .int .i64 x.o, .int .i64 x.l, .int .i64 x.t, .int .i64 x.k, .int .i64 x.n, .bool x.g] 39); rw [HN.out] at this; exact this) ⟨w3.heap.size, 0, none⟩ 1 1 (cc x) rfl rfl ?c1 ?c2 ?c3 ?c4 ?c5 ?_)
  case c1 =>
    intro j u hj
    rw [add_off, Nat.zero_add, blk_cell (blk_new w3 #[.string x.a, .string x.i, .int .i64 x.s, .int .i64 x.o, .int .i64 x.l, .int .i64 x.t, .int .i64 x.k, .int .i64 x.n, .bool x.g] 39)]
    simpa [cc] using hj
  case c2 => exact cc_one x
  case c3 => unfold maxLen; omega
  case c4 => omega
  case c5 => simp; omega
  intro v4 w4 ho4 hg4 _
  have D4 : Below w.heap.size w w4 := (D3.alloc Z3 (.cells #[.string x.a, .string x.i, .int .i64 x.s, .int .i64 x.o, .int .i64 x.l, .int .i64 x.t, .int .i64 x.k, .int .i64 x.n, .bool x.g] 39)).grown hg4 (by simp; omega) (fun q hq => own_ge O3 hq)
  have HB4 := Lib.hid (show QB w4 qb np sl lost from (hg4.block qb (by have := HB3.out.lt; simp; omega) (own_ne (O3.alloc (.cells #[.string x.a, .string x.i, .int .i64 x.s, .int .i64 x.o, .int .i64 x.l, .int .i64 x.t, .int .i64 x.k, .int .i64 x.n, .bool x.g] 39)) (blk_alloc HB3.out.blk _) (by decide))).trans (blk_alloc HB3.out.blk _))
  have HO4 := Lib.hid (show OwnC w.heap.size w4 v4 (cs ++ [x]) by unfold OwnC OwnR; rw [flat_snoc, List.length_append, HN.out]; exact ho4)
  obtain ⟨a4, c4, hv4, hnc4, hcm4, hat4, hge4, hfm4⟩ := HO4.out.read
  rw [List.length_append, HN.out] at hv4 hnc4
  simp only [List.length_cons, List.length_nil, Nat.zero_add] at hv4 hnc4
  subst hv4
  have HA4 := Lib.hid hat4
  have HCM4 := Lib.hid hcm4
  have hcm4' := hcm4
  unfold maxLen at hcm4'
  clear ho4 hg4 O3 HB3 HO2 hk3 hl3 hat4 hcm4
  have hd : decide (16 < (n : Int) + 1) = true := by simp; omega
  obtain ⟨g4, rfl⟩ : ∃ g, a4 = some ⟨g, 0, none⟩ := by
    rcases hfm4 with ⟨_, _, e⟩ | ⟨g, e⟩
    · simp at e
    · exact ⟨g, e⟩
  have hne : ¬ c4 = 1 := by omega
  have hf4 := blk_free HB4.out.blk
  have hl4 := HB4.out.lt
  have hc4l := HB4.out.cl H6.out
  clear hge4 hfm4
  go_upto_region 7 with (fail)
  have hk1 := (Kept.refl qb w4).setCell 13 (.int .i64 (lost + 1))
  have HB5 := Lib.hid (HB4.out.setl H6.out (lost + 1))
  have hc5v : (w4.setCell ⟨qb, 13, none⟩ (.int .i64 (lost + 1))).cell? ⟨qb, 1 + i * 2 + 1, none⟩ = some (.slice a n c) := HB5.out.cv HI.out
  have hf5 := blk_free HB5.out.blk
  have hl5 := HB5.out.lt
  have hk := hk1.setCell (1 + i * 2 + 1) (.slice (some ⟨g4, 9, none⟩) n (c4 - 1))
  have HB6 := Lib.hid (show QB ((w4.setCell ⟨qb, 13, none⟩ (.int .i64 (lost + 1))).setCell ⟨qb, 1 + i * 2 + 1, none⟩ (.slice (some ⟨g4, 9, none⟩) n (c4 - 1))) qb np (sl.set i (p, .slice (some ⟨g4, 9, none⟩) n (c4 - 1))) (lost + 1) from HB5.out.setv HI.out _)
  have HS6 := Lib.hid (HB4.out.slc (Rim.kept hk) (show SlC w4 (.slice (some ⟨g4, 9, none⟩) n (c4 - 1)) ((cs ++ [x]).drop 1) from ⟨_, c4 - 1, by rw [List.length_drop, List.length_append, HN.out]; rfl, by rw [List.length_drop, List.length_append, HN.out]; simp; omega, by have := HCM4.out; omega, by have := HA4.out.drop 1; rwa [Nat.zero_add, Nat.one_mul] at this, .inr ⟨g4, 9, rfl⟩⟩))
  have R6 := Lib.hid ((Rim.of (b := qb) D4).trans (Rim.kept hk))
  clear hk hk1
  go_wp2
  go_end0
  exact ⟨rfl, ⟨_, HB6.out, HS6.out⟩, R6.out⟩

end Go.Proofs.Ytmpkkkcoiljhpaa
