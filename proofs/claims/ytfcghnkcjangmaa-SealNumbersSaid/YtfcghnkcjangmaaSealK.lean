/- Package seal's walks: sums that clash; some of chapter 14's runs. -/
import Derived.Test.YtfcghnkcjangmaaSealS
namespace Go.Proofs.Ytfcghnkcjangmaa
open Go.RowKit
set_option linter.unusedVariables false
set_option linter.unusedSimpArgs false

def clash (xs ys : List Int) : Bool := decide (sm xs = sm ys) && !decide (xs = ys)
theorem bytes_text (w : World) {a : Option Addr} {n c : Nat} {xs : List Int} (h : BAt w a xs) (hl : xs.length = n) : (convert 42 9 (.slice a n c)).run Try.prog w = .ok (.string (strOfNums xs)) w :=
  run_text w 42 5 Try.underlying42 Try.underlying5 9 Try.underlying9 a n c xs hl h
theorem sealB_len (ls : List Cd) (h : ls.length ≤ 19) : (sealB ls).length ≤ 9899 := by have h1 := flatB_len (seenL ls); have h2 := seenL_len ls; unfold sealB; omega
theorem sealB_wb (ls : List Cd) : Wb (sealB ls) := flatB_wb _

set_option maxRecDepth 100000 in
set_option maxHeartbeats 1000000 in
theorem bytesEqual (a b : Option Addr) (n m c d : Nat) (xs ys : List Int) (w : World) (h1 : BAt w a xs) (h2 : BAt w b ys) (hl1 : xs.length = n) (hl2 : ys.length = m) (hx : Wb xs) (hy : Wb ys) :
    Calls Try.prog 23 #[.slice a n c, .slice b m d] w fun e w' => e = .returned (.bool (decide (xs = ys))) ∧ w = w' := by
  have hc1 := bytes_text (c := c) w h1 hl1
  have hc2 := bytes_text (c := d) w h2 hl2
  clear h1 h2
  by_cases h : xs = ys
  · rw [decide_eq_true h]
    subst h
    generalize strOfNums xs = S at *
    go_enter Try.func23, Try.ntmps23
    go_wp2
    go_ret
    exact ⟨rfl, rfl⟩
  · have h1 : ¬ (strOfNums xs).toList = (strOfNums ys).toList := fun e => h (str_nums_inj hx hy (str_inj e))
    rw [decide_eq_false h]
    clear h
    generalize strOfNums xs = S at *
    generalize strOfNums ys = R at *
    have h4 : (S.toList == R.toList) = false := by simpa using h1
    have h5 : (@BEq.beq _ instBEqOfDecidableEq S.toList R.toList) = false := by simpa using h1
    go_enter Try.func23, Try.ntmps23
    go_wp2
    go_ret
    exact ⟨by first | rfl | simp [h4, h5], rfl⟩

set_option maxRecDepth 100000 in
set_option maxHeartbeats 2000000 in
theorem sealClash (a1 a2 : Option Addr) (n1 n2 c1 c2 : Nat) (l1 l2 : List Cd) (w : World) (h1 : CAt w a1 l1) (h2 : CAt w a2 l2) (hl1 : l1.length = n1) (hl2 : l2.length = n2) (hn1 : n1 ≤ 19) (hn2 : n2 ≤ 19) (hc1 : n1 ≤ c1) (hc2 : n2 ≤ c2) (hs1 : ∀ x ∈ l1, CdS x) (hs2 : ∀ x ∈ l2, CdS x) :
    Calls Try.prog 11 #[.slice a1 n1 c1, .slice a2 n2 c2] w fun e w' => e = .returned (.bool (clash (sealB l1) (sealB l2))) ∧ Below w.heap.size w w' := by
  have H1 := Lib.hid h1
  have H2 := Lib.hid h2
  have HL1 := Lib.hid hl1
  have HL2 := Lib.hid hl2
  have HS1 := Lib.hid hs1
  have HS2 := Lib.hid hs2
  have hb1 := sealB_len l1 (by omega)
  have hb2 := sealB_len l2 (by omega)
  clear h1 h2 hl1 hl2 hs1 hs2
  go_enter Try.func11, Try.ntmps11
  go_wp2_with fail
  refine (sealOf a1 n1 c1 l1 _ H1.out HL1.out hn1 hc1 HS1.out).mono ?_
  rintro e w1 ⟨rfl, B1⟩
  have HB1 := Lib.hid B1
  clear B1
  go_wp2_with fail
  refine (sealOf a2 n2 c2 l2 _ (H2.out.ext HB1.out) HL2.out hn2 hc2 HS2.out).mono ?_
  rintro e w2 ⟨rfl, B2⟩
  have HB2 := Lib.hid (ext_trans HB1.out B2)
  clear B2
  obtain ⟨X, hX⟩ : ∃ X, sealB l1 = X := ⟨_, rfl⟩
  obtain ⟨Y, hY⟩ : ∃ Y, sealB l2 = Y := ⟨_, rfl⟩
  have HWX := Lib.hid (show Wb X from by rw [← hX]; exact sealB_wb _)
  have HWY := Lib.hid (show Wb Y from by rw [← hY]; exact sealB_wb _)
  have HX := Lib.hid hX
  have HY := Lib.hid hY
  rw [hX, hY]
  obtain ⟨sx, hsx⟩ : ∃ s, sm X = s := ⟨_, rfl⟩
  obtain ⟨sy, hsy⟩ : ∃ s, sm Y = s := ⟨_, rfl⟩
  by_cases he : sx = sy
  · have hd : (sx == sy) = true := by simp [he]
    have HC := Lib.hid (show clash X Y = !decide (X = Y) from by unfold clash; rw [hsx, hsy, decide_eq_true he]; rfl)
    rw [hsx, hsy]
    clear he hX hY hsx hsy
    go_wp2_with fail
    refine (sealBytes a1 n1 c1 l1 _ (H1.out.ext HB2.out) HL1.out hn1 hc1 HS1.out).mono ?_
    rintro e w3 ⟨v3, rfl, ho3, B3⟩
    obtain ⟨a3, k3, rfl, -, -, -, hr3, -, -⟩ := own_read ho3
    rw [HX.out] at hr3 ⊢
    have HB3 := Lib.hid (ext_trans HB2.out B3)
    have HR3 := Lib.hid hr3
    clear ho3 hr3 B3
    go_wp2_with fail
    refine (sealBytes a2 n2 c2 l2 _ (H2.out.ext HB3.out) HL2.out hn2 hc2 HS2.out).mono ?_
    rintro e w4 ⟨v4, rfl, ho4, B4⟩
    obtain ⟨a4, k4, rfl, -, -, -, hr4, -, -⟩ := own_read ho4
    rw [HY.out] at hr4 ⊢
    have HB4 := Lib.hid (ext_trans HB3.out B4)
    have HR4 := Lib.hid hr4
    have HR3' := Lib.hid (HR3.out.ext B4)
    clear ho4 hr4 B4 HR3
    go_wp2_with fail
    refine (bytesEqual a3 a4 X.length Y.length k3 k4 X Y _ HR3'.out HR4.out rfl rfl HWX.out HWY.out).mono ?_
    rintro e w5 ⟨rfl, rfl⟩
    obtain ⟨q, hq⟩ : ∃ q, decide (X = Y) = q := ⟨_, rfl⟩
    rw [hq] at HC ⊢
    clear hq
    go_wp2
    go_ret
    exact ⟨by rw [HX.out, HY.out, HC.out]; rfl, HB4.out⟩
  · have hd : (sx == sy) = false := by simp [he]
    have HC := Lib.hid (show clash X Y = false from by unfold clash; rw [hsx, hsy, decide_eq_false he]; rfl)
    rw [hsx, hsy]
    clear he hX hY hsx hsy
    go_wp2
    go_ret
    exact ⟨by rw [HX.out, HY.out, HC.out]; rfl, HB2.out⟩

def cA : Cd := ⟨⟨#[97]⟩, ⟨#[98]⟩, 1, 0, 5, 0, 0, 0, false⟩
def cG : Cd := ⟨⟨#[97]⟩, ⟨#[98]⟩, 1, 0, 5, 0, 0, 0, true⟩
theorem cat_lit (w : World) (l : List Cd) : CAt (w.alloc (.cells (flat cc l).toArray 33)) (some ⟨w.heap.size, 0, none⟩) l := by
  refine .inr ⟨_, _, rfl, ⟨_, blk_new _ _ _⟩, fun q u hq => ?_⟩
  rw [Nat.zero_add, blk_cell (blk_new w (flat cc l).toArray 33)]
  simpa using hq
theorem k_nil : sm (sealB []) = 17 := rfl
theorem k_g : sm (sealB [cG]) = 17 := rfl
theorem k_ag : (seenL [cA, cG]).length = 1 := rfl
theorem k_a : sealB [cA] = [1, 97, 1, 98, 1, 0, 0, 0, 0, 0, 0, 0, 5] := by decide +kernel
theorem k_str : strOfNums [1, 97, 1, 98, 1, 0, 0, 0, 0, 0, 0, 0, 5] = ⟨#[1, 97, 1, 98, 1, 0, 0, 0, 0, 0, 0, 0, 5]⟩ := by decide +kernel
theorem k_cl : clash (sealB []) (sealB []) = false := rfl
theorem cA_s : CdS cA := ⟨by decide, by decide⟩
theorem cG_s : CdS cG := ⟨by decide, by decide⟩

set_option maxRecDepth 100000 in
set_option maxHeartbeats 1000000 in
theorem law14known (w : World) :
    Calls Try.prog 8 #[] w fun e w' => e = .returned (.bool true) ∧ Below w.heap.size w w' := by
  have D0 : Below w.heap.size w ((w.alloc (.cells #[.string ⟨#[97]⟩, .string ⟨#[98]⟩, .int .i64 1, .int .i64 0, .int .i64 5, .int .i64 0, .int .i64 0, .int .i64 0, .bool false] 33)).alloc (.cells #[.string ⟨#[97]⟩, .string ⟨#[98]⟩, .int .i64 1, .int .i64 0, .int .i64 5, .int .i64 0, .int .i64 0, .int .i64 0, .bool true] 33)) := ((Below.refl _ _).alloc (Nat.le_refl _) _).alloc (by simp) _
  have HX0 := Lib.hid (show ((w.alloc (.cells #[.string ⟨#[97]⟩, .string ⟨#[98]⟩, .int .i64 1, .int .i64 0, .int .i64 5, .int .i64 0, .int .i64 0, .int .i64 0, .bool false] 33)).alloc (.cells #[.string ⟨#[97]⟩, .string ⟨#[98]⟩, .int .i64 1, .int .i64 0, .int .i64 5, .int .i64 0, .int .i64 0, .int .i64 0, .bool true] 33)).heap[w.heap.size]? = some (.cells #[.string ⟨#[97]⟩, .string ⟨#[98]⟩, .int .i64 1, .int .i64 0, .int .i64 5, .int .i64 0, .int .i64 0, .int .i64 0, .bool false] 33 (0, 0)) from blk_alloc (blk_new _ _ _) _)
  have HY0 := Lib.hid (show ((w.alloc (.cells #[.string ⟨#[97]⟩, .string ⟨#[98]⟩, .int .i64 1, .int .i64 0, .int .i64 5, .int .i64 0, .int .i64 0, .int .i64 0, .bool false] 33)).alloc (.cells #[.string ⟨#[97]⟩, .string ⟨#[98]⟩, .int .i64 1, .int .i64 0, .int .i64 5, .int .i64 0, .int .i64 0, .int .i64 0, .bool true] 33)).heap[w.heap.size + 1]? = some (.cells #[.string ⟨#[97]⟩, .string ⟨#[98]⟩, .int .i64 1, .int .i64 0, .int .i64 5, .int .i64 0, .int .i64 0, .int .i64 0, .bool true] 33 (0, 0)) from by have := blk_new (w.alloc (.cells #[.string ⟨#[97]⟩, .string ⟨#[98]⟩, .int .i64 1, .int .i64 0, .int .i64 5, .int .i64 0, .int .i64 0, .int .i64 0, .bool false] 33)) #[.string ⟨#[97]⟩, .string ⟨#[98]⟩, .int .i64 1, .int .i64 0, .int .i64 5, .int .i64 0, .int .i64 0, .int .i64 0, .bool true] 33; simpa using this)
  have HB0 := Lib.hid D0
  clear D0
  go_enter Try.func8, Try.ntmps8
  go_wp2_with fail
  obtain ⟨r, hr⟩ : ∃ r, w.heap.size = r := ⟨_, rfl⟩
  rw [hr] at HX0 HY0 ⊢
  generalize ((w.alloc (.cells #[.string ⟨#[97]⟩, .string ⟨#[98]⟩, .int .i64 1, .int .i64 0, .int .i64 5, .int .i64 0, .int .i64 0, .int .i64 0, .bool false] 33)).alloc (.cells #[.string ⟨#[97]⟩, .string ⟨#[98]⟩, .int .i64 1, .int .i64 0, .int .i64 5, .int .i64 0, .int .i64 0, .int .i64 0, .bool true] 33)) = w0 at *
  clear hr
  refine (sealOf none 0 0 [] _ (.inl rfl) rfl (by omega) (by omega) (fun x hx => by cases hx)).mono ?_
  rintro e w1 ⟨rfl, hb1⟩
  rw [k_nil]
  have HB1 := Lib.hid (ext_trans HB0.out hb1)
  have HX1 := Lib.hid (blk_ext hb1 HX0.out)
  have HY1 := Lib.hid (blk_ext hb1 HY0.out)
  have hx1 := blk_cell HX1.out
  have hy1 := blk_cell HY1.out
  have lx1 := blk_lt HX1.out
  have ly1 := blk_lt HY1.out
  clear hb1
  
  have D2 : Below w1.heap.size w1 (w1.alloc (.cells #[.string ⟨#[97]⟩, .string ⟨#[98]⟩, .int .i64 1, .int .i64 0, .int .i64 5, .int .i64 0, .int .i64 0, .int .i64 0, .bool true] 33)) := (Below.refl _ _).alloc (Nat.le_refl _) _
  have HC2 := Lib.hid (show CAt (w1.alloc (.cells #[.string ⟨#[97]⟩, .string ⟨#[98]⟩, .int .i64 1, .int .i64 0, .int .i64 5, .int .i64 0, .int .i64 0, .int .i64 0, .bool true] 33)) (some ⟨w1.heap.size, 0, none⟩) [cG] from cat_lit w1 [cG])
  go_wp2_with fail
  refine (sealOf (some ⟨w1.heap.size, 0, none⟩) 1 1 [cG] _ HC2.out rfl (by omega) (by omega) (fun x hx => by simp at hx; subst hx; exact cG_s)).mono ?_
  rintro e w3 ⟨rfl, hb3'⟩
  rw [k_g]
  have hb3 := ext_trans D2 hb3'
  clear D2 HC2 hb3'
  have HB3 := Lib.hid (ext_trans HB1.out hb3)
  have HX3 := Lib.hid (blk_ext hb3 HX1.out)
  have HY3 := Lib.hid (blk_ext hb3 HY1.out)
  have hx3 := blk_cell HX3.out
  have hy3 := blk_cell HY3.out
  have lx3 := blk_lt HX3.out
  have ly3 := blk_lt HY3.out
  clear hb3
  
  have D4 : Below w3.heap.size w3 (w3.alloc (.cells #[.string ⟨#[97]⟩, .string ⟨#[98]⟩, .int .i64 1, .int .i64 0, .int .i64 5, .int .i64 0, .int .i64 0, .int .i64 0, .bool false, .string ⟨#[97]⟩, .string ⟨#[98]⟩, .int .i64 1, .int .i64 0, .int .i64 5, .int .i64 0, .int .i64 0, .int .i64 0, .bool true] 33)) := (Below.refl _ _).alloc (Nat.le_refl _) _
  have HC4 := Lib.hid (show CAt (w3.alloc (.cells #[.string ⟨#[97]⟩, .string ⟨#[98]⟩, .int .i64 1, .int .i64 0, .int .i64 5, .int .i64 0, .int .i64 0, .int .i64 0, .bool false, .string ⟨#[97]⟩, .string ⟨#[98]⟩, .int .i64 1, .int .i64 0, .int .i64 5, .int .i64 0, .int .i64 0, .int .i64 0, .bool true] 33)) (some ⟨w3.heap.size, 0, none⟩) [cA, cG] from cat_lit w3 [cA, cG])
  go_wp2_with fail
  refine (sealSeen (some ⟨w3.heap.size, 0, none⟩) 2 2 [cA, cG] _ HC4.out rfl (by omega) (by omega)).mono ?_
  rintro e w5 ⟨v5, rfl, ho5, hb5'⟩
  obtain ⟨a5, c5, rfl, -, -, -, -, -⟩ := ho5.read
  rw [k_ag]
  have hb5 := ext_trans D4 hb5'
  clear D4 HC4 hb5' ho5
  have HB5 := Lib.hid (ext_trans HB3.out hb5)
  have HX5 := Lib.hid (blk_ext hb5 HX3.out)
  have HY5 := Lib.hid (blk_ext hb5 HY3.out)
  have hx5 := blk_cell HX5.out
  have hy5 := blk_cell HY5.out
  have lx5 := blk_lt HX5.out
  have ly5 := blk_lt HY5.out
  clear hb5
  
  have D6 : Below w5.heap.size w5 (w5.alloc (.cells #[.string ⟨#[97]⟩, .string ⟨#[98]⟩, .int .i64 1, .int .i64 0, .int .i64 5, .int .i64 0, .int .i64 0, .int .i64 0, .bool false] 33)) := (Below.refl _ _).alloc (Nat.le_refl _) _
  have HC6 := Lib.hid (show CAt (w5.alloc (.cells #[.string ⟨#[97]⟩, .string ⟨#[98]⟩, .int .i64 1, .int .i64 0, .int .i64 5, .int .i64 0, .int .i64 0, .int .i64 0, .bool false] 33)) (some ⟨w5.heap.size, 0, none⟩) [cA] from cat_lit w5 [cA])
  go_wp2_with fail
  refine (sealBytes (some ⟨w5.heap.size, 0, none⟩) 1 1 [cA] _ HC6.out rfl (by omega) (by omega) (fun x hx => by simp at hx; subst hx; exact cA_s)).mono ?_
  rintro e w7 ⟨v7, rfl, ho7, hb7'⟩
  obtain ⟨a7, c7, rfl, -, -, -, hr7, -, -⟩ := own_read ho7
  rw [k_a] at hr7 ⊢
  have hconv := bytes_text (n := 13) (c := c7) w7 hr7 rfl
  rw [k_str] at hconv
  have hb7 := ext_trans D6 hb7'
  clear D6 HC6 hb7' ho7 hr7
  have HB7 := Lib.hid (ext_trans HB5.out hb7)
  have HX7 := Lib.hid (blk_ext hb7 HX5.out)
  have HY7 := Lib.hid (blk_ext hb7 HY5.out)
  have hx7 := blk_cell HX7.out
  have hy7 := blk_cell HY7.out
  have lx7 := blk_lt HX7.out
  have ly7 := blk_lt HY7.out
  clear hb7
  
  go_wp2_with fail
  refine (sealClash none none 0 0 0 0 [] [] _ (.inl rfl) (.inl rfl) rfl rfl (by omega) (by omega) (by omega) (by omega) (fun x hx => by cases hx) (fun x hx => by cases hx)).mono ?_
  rintro e w9 ⟨rfl, hb9⟩
  rw [k_cl]
  have HB9 := Lib.hid (ext_trans HB7.out hb9)
  clear hb9
  go_wp2
  go_ret
  exact ⟨rfl, HB9.out⟩

end Go.Proofs.Ytfcghnkcjangmaa
