/- Layer 8's laws: nets as lists of letters; some of the chapter's runs. -/
import Derived.Test.YtkkmnodhmmdllaaNetT
import Derived.Lib.SlBytesConst
namespace Go.Proofs.Ytkkmnodhmmdllaa
open Go.RowKit
set_option linter.unusedVariables false

/-- a net of these letters -/
def NS (w : World) (nb nodes : Nat) (ls : List Lt) (p : List Bool) : Prop := nodes ≤ 6 ∧ p.length = 36 ∧ ls.length ≤ 64 ∧ ∃ v, NetB w nb nodes v p ∧ OwnL 0 w v ls
theorem NS.open {w : World} {nb nodes : Nat} {ls : List Lt} {p : List Bool} (h : NS w nb nodes ls p) : ∃ a c, NetB w nb nodes (.slice a ls.length c) p ∧ OwnL 0 w (.slice a ls.length c) ls := by
  obtain ⟨-, -, -, v, h1, h2⟩ := h
  obtain ⟨a, c, rfl, -⟩ := h2.form
  exact ⟨a, c, h1, h2⟩
theorem NS.ext {w w' : World} {nb nodes : Nat} {ls : List Lt} {p : List Bool} (h : NS w nb nodes ls p) (hb : Below w.heap.size w w') : NS w' nb nodes ls p := by
  obtain ⟨h1, h2, h3, v, h4, h5⟩ := h
  exact ⟨h1, h2, h3, v, h4.ext hb, h5.ext hb⟩
theorem NS.lt {w : World} {nb nodes : Nat} {ls : List Lt} {p : List Bool} (h : NS w nb nodes ls p) : nb < w.heap.size := by
  obtain ⟨h1, h2, h3, v, h4, h5⟩ := h
  exact h4.lt
theorem NS.bytes {w w' : World} {nb nodes : Nat} {ls : List Lt} {p : List Bool} {x : Lt} {xs : List Int} (h : NS w nb nodes ls p) (hr : Rim nb w w') (hx : OwnB 0 w x xs) : OwnB 0 w' x xs := by
  obtain ⟨h1, h2, h3, v, h4, h5⟩ := h
  exact own_rim h4 hr (by decide) hx
theorem OwnB.ext {base : Nat} {w w' : World} {x : Lt} {xs : List Int} (h : OwnB base w x xs) (hb : Below w.heap.size w w') : OwnB base w' x xs := ownsRow_ext h hb
theorem OwnB.read {base : Nat} {w : World} {x : Lt} {xs : List Int} (h : OwnB base w x xs) : BAt w x.a xs ∧ xs.length = x.n := by
  obtain ⟨a, c, e, h1, -, -, h2⟩ := own_u8 h
  simp only [Value.slice.injEq] at e
  obtain ⟨rfl, e2, -⟩ := e
  exact ⟨h2, e2.symm⟩

theorem nsNew (nodes : Nat) (w : World) (h1 : 1 ≤ nodes) (h6 : nodes ≤ 6) :
    Calls Try.prog 8 #[.int .i64 (nodes : Int)] w fun e w' => e = .returned (.pointer (some ⟨w.heap.size, 0, none⟩)) ∧ NS w' w.heap.size nodes [] (List.replicate 36 false) ∧ Below w.heap.size w w' :=
  (netNew nodes w h1 h6).mono fun e w' ⟨he, hb, hw⟩ => ⟨he, ⟨h6, by simp, by simp, _, hb, OwnL.nil _ _⟩, hw⟩
theorem nsSend (nb nodes : Nat) (ls : List Lt) (p : List Bool) (x : Lt) (xs : List Int) (w : World) (h : NS w nb nodes ls p) (hn2 : ls.length < 64) (hf0 : 0 ≤ x.f) (hf1 : x.f < nodes) (ht0 : 0 ≤ x.t) (ht1 : x.t < nodes) (hb : BAt w x.a xs) (hbl : xs.length = x.n) (hbn : x.n ≤ 140737488355328) :
    Calls Try.prog 9 #[.pointer (some ⟨nb, 0, none⟩), .agg #[.int .i64 x.f, .int .i64 x.t, .slice x.a x.n x.c]] w fun e w' => ∃ y : Lt, e = .returned (.int .i64 0) ∧ y.f = x.f ∧ y.t = x.t ∧ OwnB 0 w' y xs ∧ NS w' nb nodes (ls ++ [y]) p ∧ Rim nb w w' := by
  obtain ⟨a, c, h1, h2⟩ := h.open
  refine (netSend nb nodes a ls.length c ls p x xs w h1 h2 rfl h.2.2.1 hn2 hf0 hf1 ht0 ht1 hb hbl hbn).mono ?_
  rintro e w' ⟨y, he, hf, ht, hy, ⟨v, h3, h4⟩, hr⟩
  exact ⟨y, he, hf, ht, ownsRow_base hy (Nat.zero_le _), ⟨h.1, h.2.1, by simp; omega, v, h3, h4⟩, hr⟩
theorem nsTwice (nb nodes : Nat) (ls : List Lt) (p : List Bool) (i : Nat) (x : Lt) (w : World) (h : NS w nb nodes ls p) (hn2 : ls.length < 64) (hx : ls[i]? = some x) :
    Calls Try.prog 19 #[.pointer (some ⟨nb, 0, none⟩), .int .i64 (i : Int)] w fun e w' => e = .returned (.int .i64 0) ∧ NS w' nb nodes (ls ++ [x]) p ∧ Rim nb w w' := by
  obtain ⟨a, c, h1, h2⟩ := h.open
  refine (netTwice nb nodes a ls.length c ls p i x w h1 h2 rfl h.2.2.1 hn2 hx).mono ?_
  rintro e w' ⟨he, ⟨v, h3, h4⟩, hr⟩
  exact ⟨he, ⟨h.1, h.2.1, by simp; omega, v, h3, h4⟩, hr⟩
theorem nsDeliver (nb nodes : Nat) (ls : List Lt) (p : List Bool) (i : Nat) (x : Lt) (xs : List Int) (w : World) (h : NS w nb nodes ls p) (hx : ls[i]? = some x) (hpr : prB nodes p x.f x.t = false) (hb0 : OwnB 0 w x xs) (hxn : xs.length ≤ 140737488355328) :
    Calls Try.prog 10 #[.pointer (some ⟨nb, 0, none⟩), .int .i64 (i : Int)] w fun e w' => ∃ y : Lt, e = .returned (.tuple #[.agg #[.int .i64 y.f, .int .i64 y.t, .slice y.a y.n y.c], .int .i64 0]) ∧ y.f = x.f ∧ y.t = x.t ∧ OwnB 0 w' y xs ∧ NS w' nb nodes (ls.eraseIdx i) p ∧ Rim nb w w' := by
  obtain ⟨a, c, h1, h2⟩ := h.open
  refine (netDeliver nb nodes a ls.length c ls p i x xs w h1 h2 rfl h.2.2.1 h.1 h.2.1 hx hpr hb0 hxn).mono ?_
  rintro e w' ⟨y, he, hf, ht, hy, ⟨v, h3, h4⟩, hr⟩
  exact ⟨y, he, hf, ht, ownsRow_base hy (Nat.zero_le _), ⟨h.1, h.2.1, by have := List.length_eraseIdx_le ls i; have := h.2.2.1; omega, v, h3, h4⟩, hr⟩
theorem nsDeliver_cut (nb nodes : Nat) (ls : List Lt) (p : List Bool) (i : Nat) (x : Lt) (w : World) (h : NS w nb nodes ls p) (hx : ls[i]? = some x) (hpr : prB nodes p x.f x.t = true) :
    Calls Try.prog 10 #[.pointer (some ⟨nb, 0, none⟩), .int .i64 (i : Int)] w fun e w' => e = .returned (.tuple #[.agg #[.int .i64 0, .int .i64 0, .slice none 0 0], .int .i64 26]) ∧ NS w' nb nodes ls p ∧ Below w.heap.size w w' := by
  obtain ⟨a, c, h1, h2⟩ := h.open
  exact (netDeliver_cut nb nodes a ls.length c ls p i x w h1 h2 rfl h.2.2.1 h.1 h.2.1 hx hpr).mono fun e w' ⟨he, hb⟩ => ⟨he, h.ext hb, hb⟩
theorem nsDeliver_no (nb nodes : Nat) (ls : List Lt) (p : List Bool) (i : Int) (w : World) (h : NS w nb nodes ls p) (hi : i < 0 ∨ (ls.length : Int) ≤ i) :
    Calls Try.prog 10 #[.pointer (some ⟨nb, 0, none⟩), .int .i64 i] w fun e w' => e = .returned (.tuple #[.agg #[.int .i64 0, .int .i64 0, .slice none 0 0], .int .i64 23]) ∧ NS w' nb nodes ls p ∧ Below w.heap.size w w' := by
  obtain ⟨a, c, h1, h2⟩ := h.open
  exact (netDeliver_no nb nodes a ls.length c ls p i w h1 h2 rfl h.2.2.1 hi).mono fun e w' ⟨he, hb⟩ => ⟨he, h.ext hb, hb⟩
theorem nsDrop_no (nb nodes : Nat) (ls : List Lt) (p : List Bool) (i : Int) (w : World) (h : NS w nb nodes ls p) (hi : i < 0 ∨ (ls.length : Int) ≤ i) :
    Calls Try.prog 17 #[.pointer (some ⟨nb, 0, none⟩), .int .i64 i] w fun e w' => e = .returned (.int .i64 23) ∧ w = w' := by
  obtain ⟨a, c, h1, h2⟩ := h.open
  exact netDrop_no nb nodes a ls.length c ls p i w h1 h2 rfl h.2.2.1 hi
theorem nsLen (nb nodes : Nat) (ls : List Lt) (p : List Bool) (w : World) (h : NS w nb nodes ls p) :
    Calls Try.prog 11 #[.pointer (some ⟨nb, 0, none⟩)] w fun e w' => e = .returned (.int .i64 (ls.length : Int)) ∧ w = w' := by
  obtain ⟨a, c, h1, h2⟩ := h.open
  exact netLen nb nodes a ls.length c p w h1
theorem nsParted (nb nodes : Nat) (ls : List Lt) (p : List Bool) (a b : Int) (w : World) (h : NS w nb nodes ls p) :
    Calls Try.prog 14 #[.pointer (some ⟨nb, 0, none⟩), .int .i64 a, .int .i64 b] w fun e w' => e = .returned (.bool (prB nodes p a b)) ∧ w = w' := by
  obtain ⟨a', c, h1, h2⟩ := h.open
  exact netParted nb nodes _ p a b w h1 h.1 h.2.1
def partP (p : List Bool) (A B : Nat) (y : Bool) : List Bool := (p.set (A * 6 + B) y).set (B * 6 + A) y
theorem nsCut (nb nodes : Nat) (ls : List Lt) (p : List Bool) (A B : Nat) (w : World) (h : NS w nb nodes ls p) (ha : A < nodes) (hb : B < nodes) (hab : A ≠ B) :
    Calls Try.prog 13 #[.pointer (some ⟨nb, 0, none⟩), .int .i64 (A : Int), .int .i64 (B : Int)] w fun e w' => e = .returned (.int .i64 0) ∧ NS w' nb nodes ls (partP p A B true) ∧ Rim nb w w' := by
  obtain ⟨a, c, h1, h2⟩ := h.open
  refine (netCut nb nodes _ p A B w h1 h.1 h.2.1 ha hb hab).mono ?_
  rintro e w' ⟨he, h3, hk⟩
  exact ⟨he, ⟨h.1, by simp [partP, h.2.1], h.2.2.1, _, h3, own_rim h1 (Rim.kept hk) (by decide) h2⟩, Rim.kept hk⟩
theorem nsHeal (nb nodes : Nat) (ls : List Lt) (p : List Bool) (A B : Nat) (w : World) (h : NS w nb nodes ls p) (ha : A < nodes) (hb : B < nodes) (hab : A ≠ B) :
    Calls Try.prog 15 #[.pointer (some ⟨nb, 0, none⟩), .int .i64 (A : Int), .int .i64 (B : Int)] w fun e w' => e = .returned (.int .i64 0) ∧ NS w' nb nodes ls (partP p A B false) ∧ Rim nb w w' := by
  obtain ⟨a, c, h1, h2⟩ := h.open
  refine (netHeal nb nodes _ p A B w h1 h.1 h.2.1 ha hb hab).mono ?_
  rintro e w' ⟨he, h3, hk⟩
  exact ⟨he, ⟨h.1, by simp [partP, h.2.1], h.2.2.1, _, h3, own_rim h1 (Rim.kept hk) (by decide) h2⟩, Rim.kept hk⟩
theorem nsCut_same (nb nodes : Nat) (ls : List Lt) (p : List Bool) (A : Nat) (w : World) (h : NS w nb nodes ls p) (ha : A < nodes) :
    Calls Try.prog 13 #[.pointer (some ⟨nb, 0, none⟩), .int .i64 (A : Int), .int .i64 (A : Int)] w fun e w' => e = .returned (.int .i64 23) ∧ w = w' := by
  obtain ⟨a, c, h1, h2⟩ := h.open
  exact netCut_same nb nodes _ p A w h1 ha h.1
theorem bat_mark (w : World) (xs : List Int) (fr : Nat × Nat) : BAt (w.alloc (.cells (bc xs).toArray 5 fr)) (some ⟨w.heap.size, 0, none⟩) xs := by
  have h : (w.alloc (.cells (bc xs).toArray 5 fr)).heap[w.heap.size]? = some (.cells (bc xs).toArray 5 fr) := by
    show (w.heap.push _)[w.heap.size]? = _
    simp
  refine .inr ⟨_, _, rfl, fun i n hi => ?_⟩
  simp only [World.cell?, h]
  simp [bc, hi]
theorem str_x : strOfNums [120] = ⟨#[120]⟩ := by decide +kernel
theorem p1_pr : prB 2 (partP (List.replicate 36 false) 0 1 true) 0 1 = true := by decide +kernel
theorem p2_pr : prB 2 (partP (partP (List.replicate 36 false) 0 1 true) 1 0 false) 0 1 = false := by decide +kernel

set_option maxRecDepth 100000 in
set_option maxHeartbeats 1000000 in
theorem law8known (w : World) :
    Calls Try.prog 7 #[] w fun e w' => e = .returned (.bool true) ∧ Below w.heap.size w w' := by
  go_enter Try.func7, Try.ntmps7
  go_wp2_with fail
  refine (nsNew 2 w (by omega) (by omega)).mono ?_
  rintro e w1 ⟨rfl, hs1, D1⟩
  obtain ⟨nb, hnb⟩ : ∃ nb, w.heap.size = nb := ⟨_, rfl⟩
  have HNB := Lib.hid hnb
  rw [hnb] at hs1 ⊢
  have S1 := Lib.hid hs1
  have hnb0 : w.heap.size ≤ nb := by omega
  have hnb1 := hs1.lt
  have hcv0 := Lib.run_convert_bytes_const (P := Try.prog) w1 23 5 #[.int .u8 120] 1 1 Try.underlying23 Try.underlying5
  have A1 := bat_mark w1 [120] (1, 2)
  have F1 : Below w1.heap.size w1 (w1.alloc (.cells #[.int .u8 120] 5 (1, 2))) := (Below.refl _ _).alloc (Nat.le_refl _) _
  clear hs1 hnb
  go_wp2_with fail
  refine (netNew_no 0 _ (by omega)).mono ?_
  rintro e w1' ⟨rfl, rfl⟩
  go_wp2_with fail
  refine (nsSend nb 2 [] (List.replicate 36 false) ⟨0, 1, some ⟨w1.heap.size, 0, none⟩, 1, 1⟩ [120] _ (S1.out.ext F1) (by simp) (by simp) (by simp) (by simp) (by simp) A1 rfl (by simp)).mono ?_
  rintro e w2 ⟨y, rfl, hyf, hyt, hyb, hs2, hr2⟩
  have R2 := (Rim.of (b := nb) (ext_trans D1 F1)).trans hr2
  have S2 := Lib.hid (show NS w2 nb 2 [y] (List.replicate 36 false) from hs2)
  have Y2 := Lib.hid hyb
  have HYF := Lib.hid hyf
  have HYT := Lib.hid hyt
  clear hyf hyt hyb hs2 hr2 hcv0 A1 F1 S1
  go_wp2_with fail
  refine (nsTwice nb 2 [y] (List.replicate 36 false) 0 y _ S2.out (by simp) rfl).mono ?_
  rintro e w3 ⟨rfl, hs3, hr3⟩
  have R3 := R2.trans hr3
  have Y3 := Lib.hid (S2.out.bytes hr3 Y2.out)
  have S3 := Lib.hid (show NS w3 nb 2 [y, y] (List.replicate 36 false) from hs3)
  clear hs3 hr3 S2 Y2
  go_wp2_with fail
  refine (nsCut nb 2 [y, y] (List.replicate 36 false) 0 1 _ S3.out (by omega) (by omega) (by omega)).mono ?_
  rintro e w4 ⟨rfl, hs4, hr4⟩
  have R4 := R3.trans hr4
  have Y4 := Lib.hid (S3.out.bytes hr4 Y3.out)
  have S4 := Lib.hid hs4
  clear hs4 hr4 S3 Y3
  go_wp2_with fail
  refine (nsDeliver_cut nb 2 [y, y] (partP (List.replicate 36 false) 0 1 true) 0 y _ S4.out rfl (by rw [HYF.out, HYT.out]; exact p1_pr)).mono ?_
  rintro e w5 ⟨rfl, hs5, hb5⟩
  have R5 := R4.trans (Rim.of hb5)
  have Y5 := Lib.hid (Y4.out.ext hb5)
  have G5 : Below w5.heap.size w5 (w5.alloc (.cells #[.int .i64 0, .int .i64 0, .slice none 0 0] 34)) := (Below.refl _ _).alloc (Nat.le_refl _) _
  have S5 := Lib.hid (hs5.ext G5)
  have Y6 := Lib.hid (Y5.out.ext G5)
  have R6 := R5.trans (Rim.of G5)
  clear hs5 hb5 S4 Y4 Y5
  go_wp2_with fail
  refine (nsHeal nb 2 [y, y] (partP (List.replicate 36 false) 0 1 true) 1 0 _ S5.out (by omega) (by omega) (by omega)).mono ?_
  rintro e w7 ⟨rfl, hs7, hr7⟩
  have R7 := R6.trans hr7
  have Y7 := Lib.hid (S5.out.bytes hr7 Y6.out)
  have S7 := Lib.hid hs7
  clear hs7 hr7 S5 Y6 G5
  go_wp2_with fail
  refine (nsDeliver nb 2 [y, y] (partP (partP (List.replicate 36 false) 0 1 true) 1 0 false) 1 y [120] _ S7.out rfl (by rw [HYF.out, HYT.out]; exact p2_pr) Y7.out (by simp)).mono ?_
  rintro e w8 ⟨z, rfl, -, -, hzb, hs8, hr8⟩
  have R8 := R7.trans hr8
  have G8 : Below w8.heap.size w8 (w8.alloc (.cells #[.int .i64 z.f, .int .i64 z.t, .slice z.a z.n z.c] 34)) := (Below.refl _ _).alloc (Nat.le_refl _) _
  have S8 := Lib.hid (show NS (w8.alloc (.cells #[.int .i64 z.f, .int .i64 z.t, .slice z.a z.n z.c] 34)) nb 2 [y] (partP (partP (List.replicate 36 false) 0 1 true) 1 0 false) from NS.ext hs8 G8)
  have R9 := R8.trans (Rim.of G8)
  have hz := (hzb.ext G8).read
  have hcv := run_text (P := Try.prog) (w8.alloc (.cells #[.int .i64 z.f, .int .i64 z.t, .slice z.a z.n z.c] 34)) 23 5 Try.underlying23 Try.underlying5 9 Try.underlying9 z.a z.n z.c [120] hz.2 hz.1
  rw [str_x] at hcv
  clear hs8 hr8 hzb hz S7 Y7 G8
  go_wp2_with fail
  refine (nsLen nb 2 [y] (partP (partP (List.replicate 36 false) 0 1 true) 1 0 false) _ S8.out).mono ?_
  rintro e w9 ⟨rfl, rfl⟩
  go_wp2_with fail
  refine (nsCut_same nb 2 [y] (partP (partP (List.replicate 36 false) 0 1 true) 1 0 false) 0 _ S8.out (by omega)).mono ?_
  rintro e w9 ⟨rfl, rfl⟩
  go_wp2_with fail
  refine (nsDrop_no nb 2 [y] (partP (partP (List.replicate 36 false) 0 1 true) 1 0 false) 9 _ S8.out (by simp)).mono ?_
  rintro e w9 ⟨rfl, rfl⟩
  go_wp2_with fail
  refine (nsParted nb 2 [y] (partP (partP (List.replicate 36 false) 0 1 true) 1 0 false) 0 1 _ S8.out).mono ?_
  rintro e w9 ⟨rfl, rfl⟩
  rw [p2_pr]
  go_wp2
  go_ret
  exact ⟨rfl, R9.below (by omega) (Nat.le_refl _)⟩

end Go.Proofs.Ytkkmnodhmmdllaa
