/- 'GossipLater': the walk. -/
import Derived.Test.YtmgdhgaodjkifaaGosS
import Derived.Test.YtmgdhgaodjkifaaMask
namespace Go.Proofs.Ytmgdhgaodjkifaa
open Go.RowKit
set_option linter.unusedVariables false
set_option linter.unusedSimpArgs false

/-- a card with another time -/
def atT (x : Cd) (t : Int) : Cd := { x with t := t }
theorem onc_one (x : Cd) : onc [x] = [x] := rfl
theorem klt_at (x : Cd) (t : Int) : klt x (atT x t) = false ∧ klt (atT x t) x = false := ⟨klt_self x, klt_self x⟩
theorem stl_lt (x : Cd) (t : Int) (h : x.t < t) : stl x (atT x t) = true ∧ stl (atT x t) x = false := by
  have h1 : ¬ x.t = t := by omega
  have h2 : ¬ t = x.t := by omega
  have h3 : ¬ t < x.t := by omega
  simp [stl, sLess, atT, h1, h2, h, h3]
theorem stl_gt (x : Cd) (t : Int) (h : t < x.t) : stl x (atT x t) = false ∧ stl (atT x t) x = true := by
  have h1 : ¬ x.t = t := by omega
  have h2 : ¬ t = x.t := by omega
  have h3 : ¬ x.t < t := by omega
  simp [stl, sLess, atT, h1, h2, h, h3]
theorem stl_eq (x : Cd) : stl x (atT x x.t) = false ∧ stl (atT x x.t) x = false := by simp [stl, sLess, atT]
theorem gk_one (x y : Cd) (h1 : klt x y = false) (h2 : klt y x = false) : gk 2 [x] [y] = if stl x y then [kyc y] else [] := by
  simp [gk, h1, h2]
theorem gc_one (x y : Cd) (h1 : klt x y = false) (h2 : klt y x = false) : gc 2 [x] [y] = if stl y x then [x] else [] := by
  simp [gc, h1, h2]

set_option maxRecDepth 100000 in
set_option maxHeartbeats 4000000 in
theorem gossipLater_walk (ra : Option Addr) (rlen rcap : Nat) (rz : List Int) (t : Int) (w : World) (hr : IsRow .i64 w ra rlen rcap rz) (hr8 : rlen * 8 ≤ 140737488351232) (htw : (Lit.int .i64 t).wf = true) :
    Calls Try.prog 6 #[.slice ra rlen rcap, .int .i64 t] w fun e w' => e = .returned (.bool true) ∧ Below w.heap.size w w' := by
  have D0 : Below w.heap.size w (w.alloc (.cells #[.slice ra rlen rcap, .int .i64 0] 25)) := (Below.refl _ _).alloc (Nat.le_refl _) _
  have HT0 := Lib.hid (tapeK_new (a := ra) (len := rlen) (cap := rcap) w)
  have HR0 := Lib.hid (rowOk_new hr (.cells #[.slice ra rlen rcap, .int .i64 0] 25))
  have HD0 := Lib.hid D0
  clear hr D0
  obtain ⟨T2, hT2⟩ : ∃ T2, t % 64 = T2 := ⟨_, rfl⟩
  have hband : bits BinOp.and IntKind.i64 t 63 = T2 := by rw [and_63]; exact hT2
  have ht2 : 0 ≤ T2 ∧ T2 < 64 := by omega
  clear hT2
  go_enter Try.func6, Try.ntmps6
  go_wp2_with fail
  generalize (w.alloc (.cells #[.slice ra rlen rcap, .int .i64 0] 25)) = w0 at *
  refine (tapeCardK ra rlen rcap rz w.heap.size _ HT0.out HR0.out).mono ?_
  rintro e w1 ⟨x, rfl, hx, -, hb⟩
  have HXO := Lib.hid hx
  have HB1 := Lib.hid (HD0.out.trans (hb.below (Nat.le_refl _) HD0.out.size))
  clear hx hb HT0 HR0 HD0
  have E1 : Below w1.heap.size w1 ((w1.alloc (.cells #[.string x.a, .string x.i, .int .i64 x.s, .int .i64 x.o, .int .i64 x.l, .int .i64 x.t, .int .i64 x.k, .int .i64 x.n, .bool x.g] 36)).alloc (.cells #[.string x.a, .string x.i, .int .i64 x.s, .int .i64 x.o, .int .i64 x.l, .int .i64 x.t, .int .i64 x.k, .int .i64 x.n, .bool x.g] 36)) := ((Below.refl _ _).alloc (Nat.le_refl _) _).alloc (by simp) _
  have HX2 := Lib.hid (show ((w1.alloc (.cells #[.string x.a, .string x.i, .int .i64 x.s, .int .i64 x.o, .int .i64 x.l, .int .i64 x.t, .int .i64 x.k, .int .i64 x.n, .bool x.g] 36)).alloc (.cells #[.string x.a, .string x.i, .int .i64 x.s, .int .i64 x.o, .int .i64 x.l, .int .i64 x.t, .int .i64 x.k, .int .i64 x.n, .bool x.g] 36)).heap[w1.heap.size]? = some (.cells #[.string x.a, .string x.i, .int .i64 x.s, .int .i64 x.o, .int .i64 x.l, .int .i64 x.t, .int .i64 x.k, .int .i64 x.n, .bool x.g] 36 (0, 0)) from blk_alloc (blk_new _ _ _) _)
  have HY2 := Lib.hid (show ((w1.alloc (.cells #[.string x.a, .string x.i, .int .i64 x.s, .int .i64 x.o, .int .i64 x.l, .int .i64 x.t, .int .i64 x.k, .int .i64 x.n, .bool x.g] 36)).alloc (.cells #[.string x.a, .string x.i, .int .i64 x.s, .int .i64 x.o, .int .i64 x.l, .int .i64 x.t, .int .i64 x.k, .int .i64 x.n, .bool x.g] 36)).heap[w1.heap.size + 1]? = some (.cells #[.string x.a, .string x.i, .int .i64 x.s, .int .i64 x.o, .int .i64 x.l, .int .i64 x.t, .int .i64 x.k, .int .i64 x.n, .bool x.g] 36 (0, 0)) from blk_new_at (by simp) _ _)
  have HB2 := Lib.hid (ext_trans HB1.out E1)
  clear E1
  go_upto_region 4 with (fail)
  obtain ⟨r, hr⟩ : ∃ r, w1.heap.size = r := ⟨_, rfl⟩
  have HR := Lib.hid (show w.heap.size ≤ r by have := HB1.out.size; omega)
  rw [hr] at HX2 HY2 ⊢
  clear hr
  generalize ((w1.alloc (.cells #[.string x.a, .string x.i, .int .i64 x.s, .int .i64 x.o, .int .i64 x.l, .int .i64 x.t, .int .i64 x.k, .int .i64 x.n, .bool x.g] 36)).alloc (.cells #[.string x.a, .string x.i, .int .i64 x.s, .int .i64 x.o, .int .i64 x.l, .int .i64 x.t, .int .i64 x.k, .int .i64 x.n, .bool x.g] 36)) = w2 at *
  have k0 := blk_cell HY2.out
  have l0 := blk_lt HY2.out
  have f0 := blk_free HY2.out
  have HX3 := Lib.hid (show (w2.setCell ⟨r + 1, 5, none⟩ (.int .i64 T2)).heap[r]? = some (.cells #[.string x.a, .string x.i, .int .i64 x.s, .int .i64 x.o, .int .i64 x.l, .int .i64 x.t, .int .i64 x.k, .int .i64 x.n, .bool x.g] 36 (0, 0)) from blk_set_other (by omega) HX2.out)
  have HY3 := Lib.hid (show (w2.setCell ⟨r + 1, 5, none⟩ (.int .i64 T2)).heap[r + 1]? = some (.cells #[.string x.a, .string x.i, .int .i64 x.s, .int .i64 x.o, .int .i64 x.l, .int .i64 T2, .int .i64 x.k, .int .i64 x.n, .bool x.g] 36 (0, 0)) from blk_set HY2.out (by simp))
  have HB3 := Lib.hid (show Below w.heap.size w (w2.setCell ⟨r + 1, 5, none⟩ (.int .i64 T2)) from HB2.out.setCell (show w.heap.size ≤ r + 1 by have := HR.out; omega) _)
  go_upto_region 5 with (fail)
  clear k0 l0 f0 hband HX2 HY2 HB2
  generalize (w2.setCell ⟨r + 1, 5, none⟩ (.int .i64 T2)) = w3 at *
  obtain ⟨CA, CB, E3⟩ := two_rows w3 x (atT x T2)
  have HCA := Lib.hid CA
  have HCB := Lib.hid CB
  have HE := Lib.hid E3
  clear CA CB E3
  simp only [atT] at HCA HCB HE
  have kx := blk_cell HX3.out
  have ky_ := blk_cell HY3.out
  have lx := blk_lt HX3.out
  have ly := blk_lt HY3.out
  go_wp2_with fail
  refine (gCompare (some ⟨w3.heap.size, 0, none⟩) (some ⟨w3.heap.size + 1, 0, none⟩) 1 1 1 1 [x] [atT x T2] _ HCA.out HCB.out rfl rfl (by omega) (by omega) (.inr ⟨_, _, rfl⟩) (.inr ⟨_, _, rfl⟩)).mono ?_
  rintro e w4 ⟨kv_, cv_, rfl, hk, hc, hb3'⟩
  have hb3 := ext_trans HE.out hb3'
  have HB4 := Lib.hid (ext_trans HB3.out hb3)
  have HX4 := Lib.hid (blk_ext hb3 HX3.out)
  have HY4 := Lib.hid (blk_ext hb3 HY3.out)
  have x0 : w4.cell? ⟨r, 0, none⟩ = some (.string x.a) := by rw [blk_cell HX4.out]; rfl
  have x1 : w4.cell? ⟨r, 1, none⟩ = some (.string x.i) := by rw [blk_cell HX4.out]; rfl
  have x2 : w4.cell? ⟨r, 2, none⟩ = some (.int .i64 x.s) := by rw [blk_cell HX4.out]; rfl
  have x3 : w4.cell? ⟨r, 3, none⟩ = some (.int .i64 x.o) := by rw [blk_cell HX4.out]; rfl
  have x4 : w4.cell? ⟨r, 4, none⟩ = some (.int .i64 x.l) := by rw [blk_cell HX4.out]; rfl
  have x5 : w4.cell? ⟨r, 5, none⟩ = some (.int .i64 x.t) := by rw [blk_cell HX4.out]; rfl
  have x6 : w4.cell? ⟨r, 6, none⟩ = some (.int .i64 x.k) := by rw [blk_cell HX4.out]; rfl
  have x7 : w4.cell? ⟨r, 7, none⟩ = some (.int .i64 x.n) := by rw [blk_cell HX4.out]; rfl
  have x8 : w4.cell? ⟨r, 8, none⟩ = some (.bool x.g) := by rw [blk_cell HX4.out]; rfl
  have y5 : w4.cell? ⟨r + 1, 5, none⟩ = some (.int .i64 T2) := by rw [blk_cell HY4.out]; rfl
  have lr := blk_lt HX4.out
  have lr1 := blk_lt HY4.out
  clear hb3' HCA HCB HE kx ky_ lx ly HX3 HY3 HB3
  by_cases hlt : x.t < T2
  · skip
    rw [onc_one, onc_one] at hk hc
    rw [show [x].length + [atT x T2].length = 2 from rfl, gk_one x _ (klt_at x T2).1 (klt_at x T2).2, (stl_lt x T2 hlt).1] at hk
    rw [show [x].length + [atT x T2].length = 2 from rfl, gc_one x _ (klt_at x T2).1 (klt_at x T2).2, (stl_lt x T2 hlt).2] at hc
    simp only [if_true, Bool.false_eq_true, if_false] at hk hc
    obtain ⟨ka, kc_, rfl, -, -, hkt, -, -⟩ := OwnR.read ky_len hk
    obtain ⟨ca, cc_, rfl, -, -, -⟩ := OwnR.form hc
    simp only [List.length_cons, List.length_nil, Nat.zero_add]
    obtain ⟨kb, ko, rfl⟩ : ∃ b o, ka = some ⟨b, o, none⟩ := by
      rcases hkt with h | ⟨b, o, e, _⟩
      · cases h
      · exact ⟨b, o, e⟩
    obtain ⟨z0, z1⟩ := KyAt.at (i := 0) hkt rfl
    simp only [Nat.zero_mul, Nat.add_zero, kyc, atT] at z0 z1
    clear hk hc hkt hb3
    go_wp2_with fail
    haveI hIq : Nonempty (Of w4) := of_some _
    have hF0 := of_cell z0
    have hF1 := of_cell z1
    have hF2 := of_cell x0
    have hF3 := of_cell x1
    first | (refine wp_region_stay w4 (by kernel_rfl) (by kernel_rfl) (by go_grown) ?_) | (refine wp_region_stay_seq w4 (by go_grown) ?_)
    repeat (go_big_quiet_step ((go_at_call 10; with_reducible refine stay_bool (u := true) (law18known _) rfl)))
    refine wpQuiet_nil ?_
    intro w6 hb6
    clear hIq hF0 hF1 hF2 hF3
    
    have HB6 := Lib.hid (ext_trans HB4.out hb6)
    clear hb6 z0 z1 x0 x1 x5 y5
    go_wp2
    go_ret
    exact ⟨rfl, HB6.out⟩
  · by_cases hgt : T2 < x.t
    · skip
      rw [onc_one, onc_one] at hk hc
      rw [show [x].length + [atT x T2].length = 2 from rfl, gk_one x _ (klt_at x T2).1 (klt_at x T2).2, (stl_gt x T2 hgt).1] at hk
      rw [show [x].length + [atT x T2].length = 2 from rfl, gc_one x _ (klt_at x T2).1 (klt_at x T2).2, (stl_gt x T2 hgt).2] at hc
      simp only [if_true, Bool.false_eq_true, if_false] at hk hc
      obtain ⟨ka, kc_, rfl, -, -, -⟩ := OwnR.form hk
      obtain ⟨ca, cc_, rfl, -, -, hct, -, -⟩ := hc.read
      simp only [List.length_cons, List.length_nil, Nat.zero_add]
      obtain ⟨cb, co, rfl⟩ : ∃ b o, ca = some ⟨b, o, none⟩ := by
        rcases hct with h | ⟨b, o, e, _⟩
        · cases h
        · exact ⟨b, o, e⟩
      obtain ⟨z0, z1, z2, z3, z4, z5, z6, z7, z8⟩ := hct.at (i := 0) rfl
      simp only [Nat.zero_mul, Nat.add_zero] at z0 z1 z2 z3 z4 z5 z6 z7 z8
      clear hk hc hct hb3
      go_wp2_with fail
      haveI hIq : Nonempty (Of w4) := of_some _
      have hF0 := of_cell z0
      have hF1 := of_cell z1
      have hF2 := of_cell z2
      have hF3 := of_cell z3
      have hF4 := of_cell z4
      have hF5 := of_cell z5
      have hF6 := of_cell z6
      have hF7 := of_cell z7
      have hF8 := of_cell z8
      have hF9 := of_cell x0
      have hF10 := of_cell x1
      have hF11 := of_cell x2
      have hF12 := of_cell x3
      have hF13 := of_cell x4
      have hF14 := of_cell x5
      have hF15 := of_cell x6
      have hF16 := of_cell x7
      have hF17 := of_cell x8
      first | (refine wp_region_stay w4 (by kernel_rfl) (by kernel_rfl) (by go_grown) ?_) | (refine wp_region_stay_seq w4 (by go_grown) ?_)
      repeat (go_big_quiet_step ((go_at_call 10; with_reducible refine stay_bool (u := true) (law18known _) rfl)))
      refine wpQuiet_nil ?_
      intro w6 hb6
      clear hIq hF0 hF1 hF2 hF3 hF4 hF5 hF6 hF7 hF8 hF9 hF10 hF11 hF12 hF13 hF14 hF15 hF16 hF17
    
      have HB6 := Lib.hid (ext_trans HB4.out hb6)
      clear hb6 z0 z1 z2 z3 z4 z5 z6 z7 z8 x0 x1 x2 x3 x4 x5 x6 x7 x8 y5
      go_wp2
      go_ret
      exact ⟨rfl, HB6.out⟩
    · skip
      obtain rfl : T2 = x.t := by omega
      rw [onc_one, onc_one] at hk hc
      rw [show [x].length + [atT x x.t].length = 2 from rfl, gk_one x _ (klt_at x x.t).1 (klt_at x x.t).2, (stl_eq x).1] at hk
      rw [show [x].length + [atT x x.t].length = 2 from rfl, gc_one x _ (klt_at x x.t).1 (klt_at x x.t).2, (stl_eq x).2] at hc
      simp only [Bool.false_eq_true, if_false] at hk hc
      obtain ⟨ka, kc_, rfl, -, -, -⟩ := OwnR.form hk
      obtain ⟨ca, cc_, rfl, -, -, -⟩ := OwnR.form hc
      simp only [List.length_cons, List.length_nil, Nat.zero_add]
      clear hk hc hb3
      go_wp2_with fail
      refine (law18known _).mono ?_
      rintro e w6 ⟨rfl, hb6⟩
      have HB6 := Lib.hid (ext_trans HB4.out hb6)
      clear hb6
      go_wp2
      go_ret
      exact ⟨rfl, HB6.out⟩

end Go.Proofs.Ytmgdhgaodjkifaa
