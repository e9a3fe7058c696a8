/- 'ShelfOrder': the walk. -/
import Derived.Test.YtnmpjagdkbaidaaShfK
import Derived.Test.YtnmpjagdkbaidaaInv
namespace Go.Proofs.Ytnmpjagdkbaidaa
open Go.RowKit
set_option linter.unusedVariables false
set_option linter.unusedSimpArgs false

set_option maxRecDepth 100000 in
set_option maxHeartbeats 4000000 in
theorem shelfOrder_walk (ra : Option Addr) (rlen rcap : Nat) (rz : List Int) (w : World) (hr : IsRow .i64 w ra rlen rcap rz) (hr8 : rlen * 8 ≤ 140737488351232) :
    Calls Try.prog 5 #[.slice ra rlen rcap] w fun r w' => r = .returned (.bool true) ∧ Below w.heap.size w w' := by
  have D0 : Below w.heap.size w (w.alloc (.cells #[.slice ra rlen rcap, .int .i64 0] 39)) := (Below.refl _ _).alloc (Nat.le_refl _) _
  have HT0 := Lib.hid (tapeK_new (a := ra) (len := rlen) (cap := rcap) w)
  have HR0 := Lib.hid (rowOk_new hr (.cells #[.slice ra rlen rcap, .int .i64 0] 39))
  have HD0 := Lib.hid D0
  clear hr D0
  go_enter Try.func5, Try.ntmps5
  go_wp2_with fail
  generalize (w.alloc (.cells #[.slice ra rlen rcap, .int .i64 0] 39)) = w0 at *
  refine (tapeCards ra rlen rcap rz w.heap.size 15 _ HT0.out HR0.out (by omega)).mono ?_
  rintro e w1 ⟨lv, cs, rfl, ho, hl, hok, -, hb⟩
  obtain ⟨ca, cc', rfl, hcc, hcm, hcat, -, -⟩ := ho.read
  have HCA := Lib.hid hcat
  have HB1 := Lib.hid (HD0.out.trans (hb.below (Nat.le_refl _) HD0.out.size))
  clear ho hok hb hcat HT0 HR0 HD0
  go_wp2_with fail
  refine (onceC ca cs.length cc' cs _ HCA.out rfl (by omega) hcc).mono ?_
  rintro e w2 ⟨v2, rfl, ho2, hb2⟩
  obtain ⟨l, hl2⟩ : ∃ l, onc cs = l := ⟨_, rfl⟩
  have HSTR := Lib.hid (show Str l by rw [← hl2]; exact onc_str cs)
  have hln : l.length ≤ 15 := by rw [← hl2]; have := onc_len cs; omega
  rw [hl2] at ho2
  obtain ⟨la, lc, rfl, hlc, hlm, hlat, -, -⟩ := ho2.read
  obtain ⟨n, hn⟩ : ∃ n, l.length = n := ⟨_, rfl⟩
  have HN := Lib.hid hn
  rw [hn] at hlc hln ⊢
  have HL := Lib.hid hlat
  have HB2 := Lib.hid (ext_trans HB1.out hb2)
  unfold maxLen at hlm
  clear ho2 hb2 hl2 hlat hn HCA HB1
  go_wp2_with fail
  refine (shNew 32 _ (by omega)).mono ?_
  rintro r w3 ⟨rfl, hs3, hb3⟩
  obtain ⟨sa, hsa⟩ : ∃ sa, w2.heap.size = sa := ⟨_, rfl⟩
  rw [hsa] at hs3 ⊢
  have HSA := Lib.hid hsa
  have H3 := Lib.hid hs3
  have HB3 := Lib.hid hb3
  clear hs3 hb3 hsa
  go_wp2_with fail
  refine (shNew 32 _ (by omega)).mono ?_
  rintro r w4 ⟨rfl, hs4, hb4⟩
  have hne0 : sa ≠ w3.heap.size := by have := H3.out.lt; omega
  have hle0 : w2.heap.size ≤ w3.heap.size := HB3.out.size
  obtain ⟨sb, hsb⟩ : ∃ sb, w3.heap.size = sb := ⟨_, rfl⟩
  rw [hsb] at hs4 hne0 hle0 ⊢
  have HNE := Lib.hid hne0
  have HLE := Lib.hid hle0
  have HA4 := Lib.hid (H3.out.ext hb4)
  have HS4 := Lib.hid hs4
  have HB4 := Lib.hid (ext_trans HB3.out hb4)
  clear hs4 hb4 hsb hne0 hle0 H3 HB3
  go_wp2_with fail
  go_loopw [26] (fun i wr => ∃ J : Nat, J ≤ n ∧ i = .int .i64 (J : Int) ∧ ShP wr sa 32 ((l.take J).map en0) ∧ ShP wr sb 32 ((l.drop (n - J)).map en0) ∧ Below w2.heap.size w2 wr) (fun i _ => n - (intOf i).toNat)
  case atStart => exact ⟨0, by omega, rfl, HA4.out, by rw [Nat.sub_zero, List.drop_of_length_le (by have := HN.out; omega)]; exact HS4.out, HB4.out⟩
  case round =>
    obtain ⟨w5, rfl⟩ : ∃ y : World, y = wr := ⟨_, rfl⟩
    obtain ⟨J, hJ, rfl, hA5, hS5, hb5⟩ := hrel
    have HB5 := Lib.hid hb5
    have HL5 := Lib.hid (HL.out.ext hb5)
    clear hb5
    by_cases hlt : J < n
    · obtain ⟨Q, hQ0⟩ : ∃ Q, n - 1 - J = Q := ⟨_, rfl⟩
      have hQ : (n : Int) - 1 - (J : Int) = (Q : Int) := by omega
      have hQn : Q < n := by omega
      obtain ⟨cx, hx⟩ : ∃ x, l[J]? = some x := ⟨_, List.getElem?_eq_getElem (by have := HN.out; omega)⟩
      obtain ⟨cy, hy⟩ : ∃ x, l[Q]? = some x := ⟨_, List.getElem?_eq_getElem (by have := HN.out; omega)⟩
      obtain ⟨lb, lo, rfl⟩ : ∃ b o, la = some ⟨b, o, none⟩ := by
        rcases HL5.out with h | ⟨b, o, e, _⟩
        · rw [h] at hx; simp at hx
        · exact ⟨b, o, e⟩
      have HX := Lib.hid hx
      have HY := Lib.hid hy
      have hdr : l.drop Q = cy :: l.drop (n - J) := by rw [drop_at hy, show Q + 1 = n - J by omega]
      have HDR := Lib.hid hdr
      have HSY := Lib.hid (show Str (cy :: l.drop (n - J)) by rw [← hdr]; exact List.Pairwise.sublist (List.drop_sublist _ _) HSTR.out)
      obtain ⟨W0, hW0⟩ : ∃ W0, w5.drew = W0 := ⟨_, rfl⟩
      have HLW := Lib.hid (show CAt W0 (some ⟨lb, lo, none⟩) l from by rw [← hW0]; exact HL5.out.ext (Below.refl _ _).drew)
      have HAW := Lib.hid (show ShP W0 sa 32 ((l.take J).map en0) from by rw [← hW0]; exact hA5.ext (Below.refl _ _).drew)
      have HSW := Lib.hid (show ShP W0 sb 32 ((l.drop (n - J)).map en0) from by rw [← hW0]; exact hS5.ext (Below.refl _ _).drew)
      have HBW := Lib.hid (show Below w2.heap.size w2 W0 from by rw [← hW0]; exact HB5.out.drew)
      clear hx hy hdr hA5 hS5 HB5 HL5
      go_wp2_with fail
      refine wp_region_inv_eq (J := fun A d act x => ∃ u29 u30 u31 u32 u33 u34 u35 u36 u37 u38 u39 u40 u8 u9 : Value, act = ((((((((((((((A.put (some 29) u29).put (some 30) u30).put (some 31) u31).put (some 32) u32).put (some 33) u33).put (some 34) u34).put (some 35) u35).put (some 36) u36).put (some 37) u37).put (some 38) u38).put (some 39) u39).put (some 40) u40).put (some 8) u8).put (some 9) u9) ∧ (d 0 = true → u29 = .slice (some ⟨lb, lo, none⟩) n lc) ∧ (d 1 = true → u30 = .int .i64 (J : Int)) ∧ (d 2 = true → u31 = .pointer (some ⟨lb, lo + J * 9, none⟩)) ∧ (d 3 = true → u32 = .agg #[.string cx.a, .string cx.i, .int .i64 cx.s, .int .i64 cx.o, .int .i64 cx.l, .int .i64 cx.t, .int .i64 cx.k, .int .i64 cx.n, .bool cx.g]) ∧ (d 4 = true → u33 = .slice (some ⟨lb, lo, none⟩) n lc) ∧ (d 5 = true → u34 = .slice (some ⟨lb, lo, none⟩) n lc) ∧ (d 6 = true → u35 = .int .i64 (n : Int)) ∧ (d 7 = true → u36 = .int .i64 ((n : Int) - 1)) ∧ (d 8 = true → u37 = .int .i64 (J : Int)) ∧ (d 9 = true → u38 = .int .i64 (Q : Int)) ∧ (d 10 = true → u39 = .pointer (some ⟨lb, lo + Q * 9, none⟩)) ∧ (d 11 = true → u40 = .agg #[.string cy.a, .string cy.i, .int .i64 cy.s, .int .i64 cy.o, .int .i64 cy.l, .int .i64 cy.t, .int .i64 cy.k, .int .i64 cy.n, .bool cy.g]) ∧ (d 12 = true → ∃ b : Nat, u8 = .pointer (some ⟨b, 0, none⟩) ∧ W0.heap.size ≤ b ∧ b < x.heap.size ∧ (d 14 = false → x.heap[b]? = some (.cells #[.string ⟨#[]⟩, .string ⟨#[]⟩, .int .i64 0, .int .i64 0, .int .i64 0, .int .i64 0, .int .i64 0, .int .i64 0, .bool false] 31 (0, 0))) ∧ (d 14 = true → x.heap[b]? = some (.cells #[.string cx.a, .string cx.i, .int .i64 cx.s, .int .i64 cx.o, .int .i64 cx.l, .int .i64 cx.t, .int .i64 cx.k, .int .i64 cx.n, .bool cx.g] 31 (0, 0)))) ∧ (d 13 = true → ∃ b : Nat, u9 = .pointer (some ⟨b, 0, none⟩) ∧ W0.heap.size ≤ b ∧ b < x.heap.size ∧ (d 15 = false → x.heap[b]? = some (.cells #[.string ⟨#[]⟩, .string ⟨#[]⟩, .int .i64 0, .int .i64 0, .int .i64 0, .int .i64 0, .int .i64 0, .int .i64 0, .bool false] 31 (0, 0))) ∧ (d 15 = true → x.heap[b]? = some (.cells #[.string cy.a, .string cy.i, .int .i64 cy.s, .int .i64 cy.o, .int .i64 cy.l, .int .i64 cy.t, .int .i64 cy.k, .int .i64 cy.n, .bool cy.g] 31 (0, 0)))) ∧ Below W0.heap.size W0 x ∧ (d 12 = true → d 13 = true → ∀ b b' : Nat, u8 = .pointer (some ⟨b, 0, none⟩) → u9 = .pointer (some ⟨b', 0, none⟩) → b ≠ b') ∧ (d 14 = true → d 12 = true) ∧ (d 15 = true → d 13 = true)) (by simp only [Act.put, List.setIfInBounds_toArray, List.set_cons_succ, List.set_cons_zero]; rfl) (by kernel_rfl) (by kernel_rfl) ?_ ?_ ?_
      · refine ⟨_, _, _, _, _, _, _, _, _, _, _, _, _, _, rfl, ?_, ?_, ?_, ?_, ?_, ?_, ?_, ?_, ?_, ?_, ?_, ?_, ?_, ?_, ?_, ?_, ?_, ?_⟩
        · intro h; cases h
        · intro h; cases h
        · intro h; cases h
        · intro h; cases h
        · intro h; cases h
        · intro h; cases h
        · intro h; cases h
        · intro h; cases h
        · intro h; cases h
        · intro h; cases h
        · intro h; cases h
        · intro h; cases h
        · intro h; cases h
        · intro h; cases h
        · exact (by rw [← hW0]; exact Below.refl _ _)
        · exact (fun h => by cases h)
        · exact (fun h => by cases h)
        · exact (fun h => by cases h)
      · refine stepsOk_cons (k := 0) ?_ (stepsOk_cons (k := 1) ?_ (stepsOk_cons (k := 2) ?_ (stepsOk_cons (k := 3) ?_ (stepsOk_cons (k := 4) ?_ (stepsOk_cons (k := 5) ?_ (stepsOk_cons (k := 6) ?_ (stepsOk_cons (k := 7) ?_ (stepsOk_cons (k := 8) ?_ (stepsOk_cons (k := 9) ?_ (stepsOk_cons (k := 10) ?_ (stepsOk_cons (k := 11) ?_ (stepsOk_cons (k := 12) ?_ (stepsOk_cons (k := 13) ?_ (stepsOk_cons (k := 14) ?_ (stepsOk_cons (k := 15) ?_ stepsOk_nil)))))))))))))))
        · unfold StepOk
          rintro d act x ⟨u29, u30, u31, u32, u33, u34, u35, u36, u37, u38, u39, u40, u8, u9, rfl, f0, f1, f2, f3, f4, f5, f6, f7, f8, f9, f10, f11, f12, f13, g0, g1, g2, g3⟩ hd hdep Kc hKc
          rw [if_pos (by rfl)]
          go_big_op
          refine hKc _ _ ⟨_, _, _, _, _, _, _, _, _, _, _, _, _, _, rfl, ?_, ?_, ?_, ?_, ?_, ?_, ?_, ?_, ?_, ?_, ?_, ?_, ?_, ?_, ?_, ?_, ?_, ?_⟩
          · exact (fun _ => rfl)
          · exact (fun h => f1 (up h rfl))
          · exact (fun h => f2 (up h rfl))
          · exact (fun h => f3 (up h rfl))
          · exact (fun h => f4 (up h rfl))
          · exact (fun h => f5 (up h rfl))
          · exact (fun h => f6 (up h rfl))
          · exact (fun h => f7 (up h rfl))
          · exact (fun h => f8 (up h rfl))
          · exact (fun h => f9 (up h rfl))
          · exact (fun h => f10 (up h rfl))
          · exact (fun h => f11 (up h rfl))
          · exact (fun h => by have f := f12 (up h rfl); obtain ⟨b, e, hn, hm, z, y⟩ := f; exact ⟨b, e, hn, hm, fun h' => id (z (dn h')), fun h' => id (y (up h' rfl))⟩)
          · exact (fun h => by have f := f13 (up h rfl); obtain ⟨b, e, hn, hm, z, y⟩ := f; exact ⟨b, e, hn, hm, fun h' => id (z (dn h')), fun h' => id (y (up h' rfl))⟩)
          · exact g0
          · exact (fun h k => g1 (up h rfl) (up k rfl))
          · exact (fun h => upl (g2 (up h rfl)))
          · exact (fun h => upl (g3 (up h rfl)))
        · unfold StepOk
          rintro d act x ⟨u29, u30, u31, u32, u33, u34, u35, u36, u37, u38, u39, u40, u8, u9, rfl, f0, f1, f2, f3, f4, f5, f6, f7, f8, f9, f10, f11, f12, f13, g0, g1, g2, g3⟩ hd hdep Kc hKc
          rw [if_pos (by rfl)]
          go_big_op
          refine hKc _ _ ⟨_, _, _, _, _, _, _, _, _, _, _, _, _, _, rfl, ?_, ?_, ?_, ?_, ?_, ?_, ?_, ?_, ?_, ?_, ?_, ?_, ?_, ?_, ?_, ?_, ?_, ?_⟩
          · exact (fun h => f0 (up h rfl))
          · exact (fun _ => rfl)
          · exact (fun h => f2 (up h rfl))
          · exact (fun h => f3 (up h rfl))
          · exact (fun h => f4 (up h rfl))
          · exact (fun h => f5 (up h rfl))
          · exact (fun h => f6 (up h rfl))
          · exact (fun h => f7 (up h rfl))
          · exact (fun h => f8 (up h rfl))
          · exact (fun h => f9 (up h rfl))
          · exact (fun h => f10 (up h rfl))
          · exact (fun h => f11 (up h rfl))
          · exact (fun h => by have f := f12 (up h rfl); obtain ⟨b, e, hn, hm, z, y⟩ := f; exact ⟨b, e, hn, hm, fun h' => id (z (dn h')), fun h' => id (y (up h' rfl))⟩)
          · exact (fun h => by have f := f13 (up h rfl); obtain ⟨b, e, hn, hm, z, y⟩ := f; exact ⟨b, e, hn, hm, fun h' => id (z (dn h')), fun h' => id (y (up h' rfl))⟩)
          · exact g0
          · exact (fun h k => g1 (up h rfl) (up k rfl))
          · exact (fun h => upl (g2 (up h rfl)))
          · exact (fun h => upl (g3 (up h rfl)))
        · unfold StepOk
          rintro d act x ⟨u29, u30, u31, u32, u33, u34, u35, u36, u37, u38, u39, u40, u8, u9, rfl, f0, f1, f2, f3, f4, f5, f6, f7, f8, f9, f10, f11, f12, f13, g0, g1, g2, g3⟩ hd hdep Kc hKc
          have hd0 : d 0 = true := hdep ⟨0, .data⟩ (by simp) rfl
          have hd1 : d 1 = true := hdep ⟨1, .data⟩ (by simp) rfl
          obtain rfl := f0 hd0
          obtain rfl := f1 hd1
          have hj0 : (J : Int) < (n : Int) := by omega
          rw [if_pos (by rfl)]
          go_big_op
          refine hKc _ _ ⟨_, _, _, _, _, _, _, _, _, _, _, _, _, _, rfl, ?_, ?_, ?_, ?_, ?_, ?_, ?_, ?_, ?_, ?_, ?_, ?_, ?_, ?_, ?_, ?_, ?_, ?_⟩
          · exact (fun h => f0 (up h rfl))
          · exact (fun h => f1 (up h rfl))
          · exact (fun _ => rfl)
          · exact (fun h => f3 (up h rfl))
          · exact (fun h => f4 (up h rfl))
          · exact (fun h => f5 (up h rfl))
          · exact (fun h => f6 (up h rfl))
          · exact (fun h => f7 (up h rfl))
          · exact (fun h => f8 (up h rfl))
          · exact (fun h => f9 (up h rfl))
          · exact (fun h => f10 (up h rfl))
          · exact (fun h => f11 (up h rfl))
          · exact (fun h => by have f := f12 (up h rfl); obtain ⟨b, e, hn, hm, z, y⟩ := f; exact ⟨b, e, hn, hm, fun h' => id (z (dn h')), fun h' => id (y (up h' rfl))⟩)
          · exact (fun h => by have f := f13 (up h rfl); obtain ⟨b, e, hn, hm, z, y⟩ := f; exact ⟨b, e, hn, hm, fun h' => id (z (dn h')), fun h' => id (y (up h' rfl))⟩)
          · exact g0
          · exact (fun h k => g1 (up h rfl) (up k rfl))
          · exact (fun h => upl (g2 (up h rfl)))
          · exact (fun h => upl (g3 (up h rfl)))
        · unfold StepOk
          rintro d act x ⟨u29, u30, u31, u32, u33, u34, u35, u36, u37, u38, u39, u40, u8, u9, rfl, f0, f1, f2, f3, f4, f5, f6, f7, f8, f9, f10, f11, f12, f13, g0, g1, g2, g3⟩ hd hdep Kc hKc
          have hd2 : d 2 = true := hdep ⟨2, .data⟩ (by simp) rfl
          obtain rfl := f2 hd2
          obtain ⟨a0, a1, a2, a3, a4, a5, a6, a7, a8⟩ := (HLW.out.ext g0).at HX.out
          rw [if_pos (by rfl)]
          go_big_op
          refine hKc _ _ ⟨_, _, _, _, _, _, _, _, _, _, _, _, _, _, rfl, ?_, ?_, ?_, ?_, ?_, ?_, ?_, ?_, ?_, ?_, ?_, ?_, ?_, ?_, ?_, ?_, ?_, ?_⟩
          · exact (fun h => f0 (up h rfl))
          · exact (fun h => f1 (up h rfl))
          · exact (fun h => f2 (up h rfl))
          · exact (fun _ => rfl)
          · exact (fun h => f4 (up h rfl))
          · exact (fun h => f5 (up h rfl))
          · exact (fun h => f6 (up h rfl))
          · exact (fun h => f7 (up h rfl))
          · exact (fun h => f8 (up h rfl))
          · exact (fun h => f9 (up h rfl))
          · exact (fun h => f10 (up h rfl))
          · exact (fun h => f11 (up h rfl))
          · exact (fun h => by have f := f12 (up h rfl); obtain ⟨b, e, hn, hm, z, y⟩ := f; exact ⟨b, e, hn, hm, fun h' => id (z (dn h')), fun h' => id (y (up h' rfl))⟩)
          · exact (fun h => by have f := f13 (up h rfl); obtain ⟨b, e, hn, hm, z, y⟩ := f; exact ⟨b, e, hn, hm, fun h' => id (z (dn h')), fun h' => id (y (up h' rfl))⟩)
          · exact g0
          · exact (fun h k => g1 (up h rfl) (up k rfl))
          · exact (fun h => upl (g2 (up h rfl)))
          · exact (fun h => upl (g3 (up h rfl)))
        · unfold StepOk
          rintro d act x ⟨u29, u30, u31, u32, u33, u34, u35, u36, u37, u38, u39, u40, u8, u9, rfl, f0, f1, f2, f3, f4, f5, f6, f7, f8, f9, f10, f11, f12, f13, g0, g1, g2, g3⟩ hd hdep Kc hKc
          rw [if_pos (by rfl)]
          go_big_op
          refine hKc _ _ ⟨_, _, _, _, _, _, _, _, _, _, _, _, _, _, rfl, ?_, ?_, ?_, ?_, ?_, ?_, ?_, ?_, ?_, ?_, ?_, ?_, ?_, ?_, ?_, ?_, ?_, ?_⟩
          · exact (fun h => f0 (up h rfl))
          · exact (fun h => f1 (up h rfl))
          · exact (fun h => f2 (up h rfl))
          · exact (fun h => f3 (up h rfl))
          · exact (fun _ => rfl)
          · exact (fun h => f5 (up h rfl))
          · exact (fun h => f6 (up h rfl))
          · exact (fun h => f7 (up h rfl))
          · exact (fun h => f8 (up h rfl))
          · exact (fun h => f9 (up h rfl))
          · exact (fun h => f10 (up h rfl))
          · exact (fun h => f11 (up h rfl))
          · exact (fun h => by have f := f12 (up h rfl); obtain ⟨b, e, hn, hm, z, y⟩ := f; exact ⟨b, e, hn, hm, fun h' => id (z (dn h')), fun h' => id (y (up h' rfl))⟩)
          · exact (fun h => by have f := f13 (up h rfl); obtain ⟨b, e, hn, hm, z, y⟩ := f; exact ⟨b, e, hn, hm, fun h' => id (z (dn h')), fun h' => id (y (up h' rfl))⟩)
          · exact g0
          · exact (fun h k => g1 (up h rfl) (up k rfl))
          · exact (fun h => upl (g2 (up h rfl)))
          · exact (fun h => upl (g3 (up h rfl)))
        · unfold StepOk
          rintro d act x ⟨u29, u30, u31, u32, u33, u34, u35, u36, u37, u38, u39, u40, u8, u9, rfl, f0, f1, f2, f3, f4, f5, f6, f7, f8, f9, f10, f11, f12, f13, g0, g1, g2, g3⟩ hd hdep Kc hKc
          rw [if_pos (by rfl)]
          go_big_op
          refine hKc _ _ ⟨_, _, _, _, _, _, _, _, _, _, _, _, _, _, rfl, ?_, ?_, ?_, ?_, ?_, ?_, ?_, ?_, ?_, ?_, ?_, ?_, ?_, ?_, ?_, ?_, ?_, ?_⟩
          · exact (fun h => f0 (up h rfl))
          · exact (fun h => f1 (up h rfl))
          · exact (fun h => f2 (up h rfl))
          · exact (fun h => f3 (up h rfl))
          · exact (fun h => f4 (up h rfl))
          · exact (fun _ => rfl)
          · exact (fun h => f6 (up h rfl))
          · exact (fun h => f7 (up h rfl))
          · exact (fun h => f8 (up h rfl))
          · exact (fun h => f9 (up h rfl))
          · exact (fun h => f10 (up h rfl))
          · exact (fun h => f11 (up h rfl))
          · exact (fun h => by have f := f12 (up h rfl); obtain ⟨b, e, hn, hm, z, y⟩ := f; exact ⟨b, e, hn, hm, fun h' => id (z (dn h')), fun h' => id (y (up h' rfl))⟩)
          · exact (fun h => by have f := f13 (up h rfl); obtain ⟨b, e, hn, hm, z, y⟩ := f; exact ⟨b, e, hn, hm, fun h' => id (z (dn h')), fun h' => id (y (up h' rfl))⟩)
          · exact g0
          · exact (fun h k => g1 (up h rfl) (up k rfl))
          · exact (fun h => upl (g2 (up h rfl)))
          · exact (fun h => upl (g3 (up h rfl)))
        · unfold StepOk
          rintro d act x ⟨u29, u30, u31, u32, u33, u34, u35, u36, u37, u38, u39, u40, u8, u9, rfl, f0, f1, f2, f3, f4, f5, f6, f7, f8, f9, f10, f11, f12, f13, g0, g1, g2, g3⟩ hd hdep Kc hKc
          have hd5 : d 5 = true := hdep ⟨5, .data⟩ (by simp) rfl
          obtain rfl := f5 hd5
          rw [if_pos (by rfl)]
          go_big_op
          refine hKc _ _ ⟨_, _, _, _, _, _, _, _, _, _, _, _, _, _, rfl, ?_, ?_, ?_, ?_, ?_, ?_, ?_, ?_, ?_, ?_, ?_, ?_, ?_, ?_, ?_, ?_, ?_, ?_⟩
          · exact (fun h => f0 (up h rfl))
          · exact (fun h => f1 (up h rfl))
          · exact (fun h => f2 (up h rfl))
          · exact (fun h => f3 (up h rfl))
          · exact (fun h => f4 (up h rfl))
          · exact (fun h => f5 (up h rfl))
          · exact (fun _ => rfl)
          · exact (fun h => f7 (up h rfl))
          · exact (fun h => f8 (up h rfl))
          · exact (fun h => f9 (up h rfl))
          · exact (fun h => f10 (up h rfl))
          · exact (fun h => f11 (up h rfl))
          · exact (fun h => by have f := f12 (up h rfl); obtain ⟨b, e, hn, hm, z, y⟩ := f; exact ⟨b, e, hn, hm, fun h' => id (z (dn h')), fun h' => id (y (up h' rfl))⟩)
          · exact (fun h => by have f := f13 (up h rfl); obtain ⟨b, e, hn, hm, z, y⟩ := f; exact ⟨b, e, hn, hm, fun h' => id (z (dn h')), fun h' => id (y (up h' rfl))⟩)
          · exact g0
          · exact (fun h k => g1 (up h rfl) (up k rfl))
          · exact (fun h => upl (g2 (up h rfl)))
          · exact (fun h => upl (g3 (up h rfl)))
        · unfold StepOk
          rintro d act x ⟨u29, u30, u31, u32, u33, u34, u35, u36, u37, u38, u39, u40, u8, u9, rfl, f0, f1, f2, f3, f4, f5, f6, f7, f8, f9, f10, f11, f12, f13, g0, g1, g2, g3⟩ hd hdep Kc hKc
          have hd6 : d 6 = true := hdep ⟨6, .data⟩ (by simp) rfl
          obtain rfl := f6 hd6
          rw [if_pos (by rfl)]
          go_big_op
          refine hKc _ _ ⟨_, _, _, _, _, _, _, _, _, _, _, _, _, _, rfl, ?_, ?_, ?_, ?_, ?_, ?_, ?_, ?_, ?_, ?_, ?_, ?_, ?_, ?_, ?_, ?_, ?_, ?_⟩
          · exact (fun h => f0 (up h rfl))
          · exact (fun h => f1 (up h rfl))
          · exact (fun h => f2 (up h rfl))
          · exact (fun h => f3 (up h rfl))
          · exact (fun h => f4 (up h rfl))
          · exact (fun h => f5 (up h rfl))
          · exact (fun h => f6 (up h rfl))
          · exact (fun _ => rfl)
          · exact (fun h => f8 (up h rfl))
          · exact (fun h => f9 (up h rfl))
          · exact (fun h => f10 (up h rfl))
          · exact (fun h => f11 (up h rfl))
          · exact (fun h => by have f := f12 (up h rfl); obtain ⟨b, e, hn, hm, z, y⟩ := f; exact ⟨b, e, hn, hm, fun h' => id (z (dn h')), fun h' => id (y (up h' rfl))⟩)
          · exact (fun h => by have f := f13 (up h rfl); obtain ⟨b, e, hn, hm, z, y⟩ := f; exact ⟨b, e, hn, hm, fun h' => id (z (dn h')), fun h' => id (y (up h' rfl))⟩)
          · exact g0
          · exact (fun h k => g1 (up h rfl) (up k rfl))
          · exact (fun h => upl (g2 (up h rfl)))
          · exact (fun h => upl (g3 (up h rfl)))
        · unfold StepOk
          rintro d act x ⟨u29, u30, u31, u32, u33, u34, u35, u36, u37, u38, u39, u40, u8, u9, rfl, f0, f1, f2, f3, f4, f5, f6, f7, f8, f9, f10, f11, f12, f13, g0, g1, g2, g3⟩ hd hdep Kc hKc
          rw [if_pos (by rfl)]
          go_big_op
          refine hKc _ _ ⟨_, _, _, _, _, _, _, _, _, _, _, _, _, _, rfl, ?_, ?_, ?_, ?_, ?_, ?_, ?_, ?_, ?_, ?_, ?_, ?_, ?_, ?_, ?_, ?_, ?_, ?_⟩
          · exact (fun h => f0 (up h rfl))
          · exact (fun h => f1 (up h rfl))
          · exact (fun h => f2 (up h rfl))
          · exact (fun h => f3 (up h rfl))
          · exact (fun h => f4 (up h rfl))
          · exact (fun h => f5 (up h rfl))
          · exact (fun h => f6 (up h rfl))
          · exact (fun h => f7 (up h rfl))
          · exact (fun _ => rfl)
          · exact (fun h => f9 (up h rfl))
          · exact (fun h => f10 (up h rfl))
          · exact (fun h => f11 (up h rfl))
          · exact (fun h => by have f := f12 (up h rfl); obtain ⟨b, e, hn, hm, z, y⟩ := f; exact ⟨b, e, hn, hm, fun h' => id (z (dn h')), fun h' => id (y (up h' rfl))⟩)
          · exact (fun h => by have f := f13 (up h rfl); obtain ⟨b, e, hn, hm, z, y⟩ := f; exact ⟨b, e, hn, hm, fun h' => id (z (dn h')), fun h' => id (y (up h' rfl))⟩)
          · exact g0
          · exact (fun h k => g1 (up h rfl) (up k rfl))
          · exact (fun h => upl (g2 (up h rfl)))
          · exact (fun h => upl (g3 (up h rfl)))
        · unfold StepOk
          rintro d act x ⟨u29, u30, u31, u32, u33, u34, u35, u36, u37, u38, u39, u40, u8, u9, rfl, f0, f1, f2, f3, f4, f5, f6, f7, f8, f9, f10, f11, f12, f13, g0, g1, g2, g3⟩ hd hdep Kc hKc
          have hd7 : d 7 = true := hdep ⟨7, .data⟩ (by simp) rfl
          have hd8 : d 8 = true := hdep ⟨8, .data⟩ (by simp) rfl
          obtain rfl := f7 hd7
          obtain rfl := f8 hd8
          rw [if_pos (by rfl)]
          go_big_op
          refine hKc _ _ ⟨_, _, _, _, _, _, _, _, _, _, _, _, _, _, rfl, ?_, ?_, ?_, ?_, ?_, ?_, ?_, ?_, ?_, ?_, ?_, ?_, ?_, ?_, ?_, ?_, ?_, ?_⟩
          · exact (fun h => f0 (up h rfl))
          · exact (fun h => f1 (up h rfl))
          · exact (fun h => f2 (up h rfl))
          · exact (fun h => f3 (up h rfl))
          · exact (fun h => f4 (up h rfl))
          · exact (fun h => f5 (up h rfl))
          · exact (fun h => f6 (up h rfl))
          · exact (fun h => f7 (up h rfl))
          · exact (fun h => f8 (up h rfl))
          · exact (fun _ => (by rw [← hQ]))
          · exact (fun h => f10 (up h rfl))
          · exact (fun h => f11 (up h rfl))
          · exact (fun h => by have f := f12 (up h rfl); obtain ⟨b, e, hn, hm, z, y⟩ := f; exact ⟨b, e, hn, hm, fun h' => id (z (dn h')), fun h' => id (y (up h' rfl))⟩)
          · exact (fun h => by have f := f13 (up h rfl); obtain ⟨b, e, hn, hm, z, y⟩ := f; exact ⟨b, e, hn, hm, fun h' => id (z (dn h')), fun h' => id (y (up h' rfl))⟩)
          · exact g0
          · exact (fun h k => g1 (up h rfl) (up k rfl))
          · exact (fun h => upl (g2 (up h rfl)))
          · exact (fun h => upl (g3 (up h rfl)))
        · unfold StepOk
          rintro d act x ⟨u29, u30, u31, u32, u33, u34, u35, u36, u37, u38, u39, u40, u8, u9, rfl, f0, f1, f2, f3, f4, f5, f6, f7, f8, f9, f10, f11, f12, f13, g0, g1, g2, g3⟩ hd hdep Kc hKc
          have hd4 : d 4 = true := hdep ⟨4, .data⟩ (by simp) rfl
          have hd9 : d 9 = true := hdep ⟨9, .data⟩ (by simp) rfl
          obtain rfl := f4 hd4
          obtain rfl := f9 hd9
          have hj0 : (Q : Int) < (n : Int) := by omega
          rw [if_pos (by rfl)]
          go_big_op
          refine hKc _ _ ⟨_, _, _, _, _, _, _, _, _, _, _, _, _, _, rfl, ?_, ?_, ?_, ?_, ?_, ?_, ?_, ?_, ?_, ?_, ?_, ?_, ?_, ?_, ?_, ?_, ?_, ?_⟩
          · exact (fun h => f0 (up h rfl))
          · exact (fun h => f1 (up h rfl))
          · exact (fun h => f2 (up h rfl))
          · exact (fun h => f3 (up h rfl))
          · exact (fun h => f4 (up h rfl))
          · exact (fun h => f5 (up h rfl))
          · exact (fun h => f6 (up h rfl))
          · exact (fun h => f7 (up h rfl))
          · exact (fun h => f8 (up h rfl))
          · exact (fun h => f9 (up h rfl))
          · exact (fun _ => rfl)
          · exact (fun h => f11 (up h rfl))
          · exact (fun h => by have f := f12 (up h rfl); obtain ⟨b, e, hn, hm, z, y⟩ := f; exact ⟨b, e, hn, hm, fun h' => id (z (dn h')), fun h' => id (y (up h' rfl))⟩)
          · exact (fun h => by have f := f13 (up h rfl); obtain ⟨b, e, hn, hm, z, y⟩ := f; exact ⟨b, e, hn, hm, fun h' => id (z (dn h')), fun h' => id (y (up h' rfl))⟩)
          · exact g0
          · exact (fun h k => g1 (up h rfl) (up k rfl))
          · exact (fun h => upl (g2 (up h rfl)))
          · exact (fun h => upl (g3 (up h rfl)))
        · unfold StepOk
          rintro d act x ⟨u29, u30, u31, u32, u33, u34, u35, u36, u37, u38, u39, u40, u8, u9, rfl, f0, f1, f2, f3, f4, f5, f6, f7, f8, f9, f10, f11, f12, f13, g0, g1, g2, g3⟩ hd hdep Kc hKc
          have hd10 : d 10 = true := hdep ⟨10, .data⟩ (by simp) rfl
          obtain rfl := f10 hd10
          obtain ⟨a0, a1, a2, a3, a4, a5, a6, a7, a8⟩ := (HLW.out.ext g0).at HY.out
          rw [if_pos (by rfl)]
          go_big_op
          refine hKc _ _ ⟨_, _, _, _, _, _, _, _, _, _, _, _, _, _, rfl, ?_, ?_, ?_, ?_, ?_, ?_, ?_, ?_, ?_, ?_, ?_, ?_, ?_, ?_, ?_, ?_, ?_, ?_⟩
          · exact (fun h => f0 (up h rfl))
          · exact (fun h => f1 (up h rfl))
          · exact (fun h => f2 (up h rfl))
          · exact (fun h => f3 (up h rfl))
          · exact (fun h => f4 (up h rfl))
          · exact (fun h => f5 (up h rfl))
          · exact (fun h => f6 (up h rfl))
          · exact (fun h => f7 (up h rfl))
          · exact (fun h => f8 (up h rfl))
          · exact (fun h => f9 (up h rfl))
          · exact (fun h => f10 (up h rfl))
          · exact (fun _ => rfl)
          · exact (fun h => by have f := f12 (up h rfl); obtain ⟨b, e, hn, hm, z, y⟩ := f; exact ⟨b, e, hn, hm, fun h' => id (z (dn h')), fun h' => id (y (up h' rfl))⟩)
          · exact (fun h => by have f := f13 (up h rfl); obtain ⟨b, e, hn, hm, z, y⟩ := f; exact ⟨b, e, hn, hm, fun h' => id (z (dn h')), fun h' => id (y (up h' rfl))⟩)
          · exact g0
          · exact (fun h k => g1 (up h rfl) (up k rfl))
          · exact (fun h => upl (g2 (up h rfl)))
          · exact (fun h => upl (g3 (up h rfl)))
        · unfold StepOk
          rintro d act x ⟨u29, u30, u31, u32, u33, u34, u35, u36, u37, u38, u39, u40, u8, u9, rfl, f0, f1, f2, f3, f4, f5, f6, f7, f8, f9, f10, f11, f12, f13, g0, g1, g2, g3⟩ hd hdep Kc hKc
          have h14 : d 14 = false := by
            cases h : d 14
            · rfl
            · exact absurd (g2 h) (by rw [hd]; simp)
          rw [if_pos (by rfl)]
          go_big_op
          refine hKc _ _ ⟨_, _, _, _, _, _, _, _, _, _, _, _, _, _, rfl, ?_, ?_, ?_, ?_, ?_, ?_, ?_, ?_, ?_, ?_, ?_, ?_, ?_, ?_, ?_, ?_, ?_, ?_⟩
          · exact (fun h => f0 (up h rfl))
          · exact (fun h => f1 (up h rfl))
          · exact (fun h => f2 (up h rfl))
          · exact (fun h => f3 (up h rfl))
          · exact (fun h => f4 (up h rfl))
          · exact (fun h => f5 (up h rfl))
          · exact (fun h => f6 (up h rfl))
          · exact (fun h => f7 (up h rfl))
          · exact (fun h => f8 (up h rfl))
          · exact (fun h => f9 (up h rfl))
          · exact (fun h => f10 (up h rfl))
          · exact (fun h => f11 (up h rfl))
          · exact (fun _ => ⟨_, rfl, g0.size, by simp, fun _ => blk_new _ _ _, fun h => absurd (up h rfl) (by rw [h14]; simp)⟩)
          · exact (fun h => by have f := f13 (up h rfl); obtain ⟨b, e, hn, hm, z, y⟩ := f; exact ⟨b, e, hn, (by simp; omega), fun h' => (fun q => blk_alloc q _) (z (dn h')), fun h' => (fun q => blk_alloc q _) (y (up h' rfl))⟩)
          · exact (g0.alloc g0.size _)
          · exact (fun _ k b b' e e' => by obtain ⟨c, e2, hn, hm, -, -⟩ := f13 (up k rfl); rw [e2] at e'; simp at e e'; omega)
          · exact (fun h => upl (g2 (up h rfl)))
          · exact (fun h => upl (g3 (up h rfl)))
        · unfold StepOk
          rintro d act x ⟨u29, u30, u31, u32, u33, u34, u35, u36, u37, u38, u39, u40, u8, u9, rfl, f0, f1, f2, f3, f4, f5, f6, f7, f8, f9, f10, f11, f12, f13, g0, g1, g2, g3⟩ hd hdep Kc hKc
          have h15 : d 15 = false := by
            cases h : d 15
            · rfl
            · exact absurd (g3 h) (by rw [hd]; simp)
          rw [if_pos (by rfl)]
          go_big_op
          refine hKc _ _ ⟨_, _, _, _, _, _, _, _, _, _, _, _, _, _, rfl, ?_, ?_, ?_, ?_, ?_, ?_, ?_, ?_, ?_, ?_, ?_, ?_, ?_, ?_, ?_, ?_, ?_, ?_⟩
          · exact (fun h => f0 (up h rfl))
          · exact (fun h => f1 (up h rfl))
          · exact (fun h => f2 (up h rfl))
          · exact (fun h => f3 (up h rfl))
          · exact (fun h => f4 (up h rfl))
          · exact (fun h => f5 (up h rfl))
          · exact (fun h => f6 (up h rfl))
          · exact (fun h => f7 (up h rfl))
          · exact (fun h => f8 (up h rfl))
          · exact (fun h => f9 (up h rfl))
          · exact (fun h => f10 (up h rfl))
          · exact (fun h => f11 (up h rfl))
          · exact (fun h => by have f := f12 (up h rfl); obtain ⟨b, e, hn, hm, z, y⟩ := f; exact ⟨b, e, hn, (by simp; omega), fun h' => (fun q => blk_alloc q _) (z (dn h')), fun h' => (fun q => blk_alloc q _) (y (up h' rfl))⟩)
          · exact (fun _ => ⟨_, rfl, g0.size, by simp, fun _ => blk_new _ _ _, fun h => absurd (up h rfl) (by rw [h15]; simp)⟩)
          · exact (g0.alloc g0.size _)
          · exact (fun k _ b b' e e' => by obtain ⟨c, e2, hn, hm, -, -⟩ := f12 (up k rfl); rw [e2] at e; simp at e e'; omega)
          · exact (fun h => upl (g2 (up h rfl)))
          · exact (fun h => upl (g3 (up h rfl)))
        · unfold StepOk
          rintro d act x ⟨u29, u30, u31, u32, u33, u34, u35, u36, u37, u38, u39, u40, u8, u9, rfl, f0, f1, f2, f3, f4, f5, f6, f7, f8, f9, f10, f11, f12, f13, g0, g1, g2, g3⟩ hd hdep Kc hKc
          have hd12 : d 12 = true := hdep ⟨12, .data⟩ (by simp) rfl
          have hd3 : d 3 = true := hdep ⟨3, .data⟩ (by simp) rfl
          have hd3 : d 3 = true := hdep ⟨3, .phase⟩ (by simp) rfl
          have hd12 : d 12 = true := hdep ⟨12, .phase⟩ (by simp) rfl
          have hd13 : d 13 = true := hdep ⟨13, .phase⟩ (by simp) rfl
          obtain ⟨b8, rfl, n8, m8, z8, y8⟩ := f12 hd12
          obtain rfl := f3 hd3
          obtain ⟨b9, rfl, n9, m9, z9, y9⟩ := f13 hd13
          have hz8 := z8 hd
          have k8 := blk_cell hz8
          have k8f := blk_free hz8
          have ne89 : b9 ≠ b8 := fun e => g1 hd12 hd13 b8 b9 rfl rfl e.symm
          rw [if_pos (by rfl)]
          go_big_op
          have hkp : Kept b8 x (((((((((x.setCell ⟨b8, 0, none⟩ (.string cx.a)).setCell ⟨b8, 1, none⟩ (.string cx.i)).setCell ⟨b8, 2, none⟩ (.int .i64 cx.s)).setCell ⟨b8, 3, none⟩ (.int .i64 cx.o)).setCell ⟨b8, 4, none⟩ (.int .i64 cx.l)).setCell ⟨b8, 5, none⟩ (.int .i64 cx.t)).setCell ⟨b8, 6, none⟩ (.int .i64 cx.k)).setCell ⟨b8, 7, none⟩ (.int .i64 cx.n)).setCell ⟨b8, 8, none⟩ (.bool cx.g)) := (((((((((Kept.refl b8 x).setCell _ _).setCell _ _).setCell _ _).setCell _ _).setCell _ _).setCell _ _).setCell _ _).setCell _ _).setCell _ _
          have RB : (((((((((x.setCell ⟨b8, 0, none⟩ (.string cx.a)).setCell ⟨b8, 1, none⟩ (.string cx.i)).setCell ⟨b8, 2, none⟩ (.int .i64 cx.s)).setCell ⟨b8, 3, none⟩ (.int .i64 cx.o)).setCell ⟨b8, 4, none⟩ (.int .i64 cx.l)).setCell ⟨b8, 5, none⟩ (.int .i64 cx.t)).setCell ⟨b8, 6, none⟩ (.int .i64 cx.k)).setCell ⟨b8, 7, none⟩ (.int .i64 cx.n)).setCell ⟨b8, 8, none⟩ (.bool cx.g)).heap[b8]? = some (.cells #[.string cx.a, .string cx.i, .int .i64 cx.s, .int .i64 cx.o, .int .i64 cx.l, .int .i64 cx.t, .int .i64 cx.k, .int .i64 cx.n, .bool cx.g] 31 (0, 0)) := blk_fill9 hz8 rfl
          have hbe : Below W0.heap.size W0 (((((((((x.setCell ⟨b8, 0, none⟩ (.string cx.a)).setCell ⟨b8, 1, none⟩ (.string cx.i)).setCell ⟨b8, 2, none⟩ (.int .i64 cx.s)).setCell ⟨b8, 3, none⟩ (.int .i64 cx.o)).setCell ⟨b8, 4, none⟩ (.int .i64 cx.l)).setCell ⟨b8, 5, none⟩ (.int .i64 cx.t)).setCell ⟨b8, 6, none⟩ (.int .i64 cx.k)).setCell ⟨b8, 7, none⟩ (.int .i64 cx.n)).setCell ⟨b8, 8, none⟩ (.bool cx.g)) := below_fill9 g0 n8
          generalize (((((((((x.setCell ⟨b8, 0, none⟩ (.string cx.a)).setCell ⟨b8, 1, none⟩ (.string cx.i)).setCell ⟨b8, 2, none⟩ (.int .i64 cx.s)).setCell ⟨b8, 3, none⟩ (.int .i64 cx.o)).setCell ⟨b8, 4, none⟩ (.int .i64 cx.l)).setCell ⟨b8, 5, none⟩ (.int .i64 cx.t)).setCell ⟨b8, 6, none⟩ (.int .i64 cx.k)).setCell ⟨b8, 7, none⟩ (.int .i64 cx.n)).setCell ⟨b8, 8, none⟩ (.bool cx.g)) = X9 at *
          refine hKc _ _ ⟨_, _, _, _, _, _, _, _, _, _, _, _, _, _, rfl, ?_, ?_, ?_, ?_, ?_, ?_, ?_, ?_, ?_, ?_, ?_, ?_, ?_, ?_, ?_, ?_, ?_, ?_⟩
          · exact (fun h => f0 (up h rfl))
          · exact (fun h => f1 (up h rfl))
          · exact (fun h => f2 (up h rfl))
          · exact (fun h => f3 (up h rfl))
          · exact (fun h => f4 (up h rfl))
          · exact (fun h => f5 (up h rfl))
          · exact (fun h => f6 (up h rfl))
          · exact (fun h => f7 (up h rfl))
          · exact (fun h => f8 (up h rfl))
          · exact (fun h => f9 (up h rfl))
          · exact (fun h => f10 (up h rfl))
          · exact (fun h => f11 (up h rfl))
          · exact (fun _ => ⟨b8, rfl, n8, by rw [hkp.size]; exact m8, fun h' => by simp at h', fun _ => RB⟩)
          · exact (fun _ => ⟨b9, rfl, n9, by rw [hkp.size]; exact m9, fun h' => (hkp.block b9 ne89).trans (z9 (dn h')), fun h' => (hkp.block b9 ne89).trans (y9 (up h' rfl))⟩)
          · exact hbe
          · exact (fun h k => g1 (up h rfl) (up k rfl))
          · exact (fun _ => upl hd12)
          · exact (fun h => upl (g3 (up h rfl)))
        · unfold StepOk
          rintro d act x ⟨u29, u30, u31, u32, u33, u34, u35, u36, u37, u38, u39, u40, u8, u9, rfl, f0, f1, f2, f3, f4, f5, f6, f7, f8, f9, f10, f11, f12, f13, g0, g1, g2, g3⟩ hd hdep Kc hKc
          have hd13 : d 13 = true := hdep ⟨13, .data⟩ (by simp) rfl
          have hd11 : d 11 = true := hdep ⟨11, .data⟩ (by simp) rfl
          have hd14 : d 14 = true := hdep ⟨14, .chain⟩ (by simp) rfl
          have hd11 : d 11 = true := hdep ⟨11, .phase⟩ (by simp) rfl
          have hd12 : d 12 = true := hdep ⟨12, .phase⟩ (by simp) rfl
          have hd13 : d 13 = true := hdep ⟨13, .phase⟩ (by simp) rfl
          have hd14 : d 14 = true := hdep ⟨14, .phase⟩ (by simp) rfl
          obtain ⟨b9, rfl, n9, m9, z9, y9⟩ := f13 hd13
          obtain rfl := f11 hd11
          obtain ⟨b8, rfl, n8, m8, z8, y8⟩ := f12 hd12
          have hz9 := z9 hd
          have k9 := blk_cell hz9
          have k9f := blk_free hz9
          have ne89 : b8 ≠ b9 := fun e => g1 hd12 hd13 b8 b9 rfl rfl e
          rw [if_pos (by rfl)]
          go_big_op
          have hkp : Kept b9 x (((((((((x.setCell ⟨b9, 0, none⟩ (.string cy.a)).setCell ⟨b9, 1, none⟩ (.string cy.i)).setCell ⟨b9, 2, none⟩ (.int .i64 cy.s)).setCell ⟨b9, 3, none⟩ (.int .i64 cy.o)).setCell ⟨b9, 4, none⟩ (.int .i64 cy.l)).setCell ⟨b9, 5, none⟩ (.int .i64 cy.t)).setCell ⟨b9, 6, none⟩ (.int .i64 cy.k)).setCell ⟨b9, 7, none⟩ (.int .i64 cy.n)).setCell ⟨b9, 8, none⟩ (.bool cy.g)) := (((((((((Kept.refl b9 x).setCell _ _).setCell _ _).setCell _ _).setCell _ _).setCell _ _).setCell _ _).setCell _ _).setCell _ _).setCell _ _
          have RB : (((((((((x.setCell ⟨b9, 0, none⟩ (.string cy.a)).setCell ⟨b9, 1, none⟩ (.string cy.i)).setCell ⟨b9, 2, none⟩ (.int .i64 cy.s)).setCell ⟨b9, 3, none⟩ (.int .i64 cy.o)).setCell ⟨b9, 4, none⟩ (.int .i64 cy.l)).setCell ⟨b9, 5, none⟩ (.int .i64 cy.t)).setCell ⟨b9, 6, none⟩ (.int .i64 cy.k)).setCell ⟨b9, 7, none⟩ (.int .i64 cy.n)).setCell ⟨b9, 8, none⟩ (.bool cy.g)).heap[b9]? = some (.cells #[.string cy.a, .string cy.i, .int .i64 cy.s, .int .i64 cy.o, .int .i64 cy.l, .int .i64 cy.t, .int .i64 cy.k, .int .i64 cy.n, .bool cy.g] 31 (0, 0)) := blk_fill9 hz9 rfl
          have hbe : Below W0.heap.size W0 (((((((((x.setCell ⟨b9, 0, none⟩ (.string cy.a)).setCell ⟨b9, 1, none⟩ (.string cy.i)).setCell ⟨b9, 2, none⟩ (.int .i64 cy.s)).setCell ⟨b9, 3, none⟩ (.int .i64 cy.o)).setCell ⟨b9, 4, none⟩ (.int .i64 cy.l)).setCell ⟨b9, 5, none⟩ (.int .i64 cy.t)).setCell ⟨b9, 6, none⟩ (.int .i64 cy.k)).setCell ⟨b9, 7, none⟩ (.int .i64 cy.n)).setCell ⟨b9, 8, none⟩ (.bool cy.g)) := below_fill9 g0 n9
          generalize (((((((((x.setCell ⟨b9, 0, none⟩ (.string cy.a)).setCell ⟨b9, 1, none⟩ (.string cy.i)).setCell ⟨b9, 2, none⟩ (.int .i64 cy.s)).setCell ⟨b9, 3, none⟩ (.int .i64 cy.o)).setCell ⟨b9, 4, none⟩ (.int .i64 cy.l)).setCell ⟨b9, 5, none⟩ (.int .i64 cy.t)).setCell ⟨b9, 6, none⟩ (.int .i64 cy.k)).setCell ⟨b9, 7, none⟩ (.int .i64 cy.n)).setCell ⟨b9, 8, none⟩ (.bool cy.g)) = X9 at *
          refine hKc _ _ ⟨_, _, _, _, _, _, _, _, _, _, _, _, _, _, rfl, ?_, ?_, ?_, ?_, ?_, ?_, ?_, ?_, ?_, ?_, ?_, ?_, ?_, ?_, ?_, ?_, ?_, ?_⟩
          · exact (fun h => f0 (up h rfl))
          · exact (fun h => f1 (up h rfl))
          · exact (fun h => f2 (up h rfl))
          · exact (fun h => f3 (up h rfl))
          · exact (fun h => f4 (up h rfl))
          · exact (fun h => f5 (up h rfl))
          · exact (fun h => f6 (up h rfl))
          · exact (fun h => f7 (up h rfl))
          · exact (fun h => f8 (up h rfl))
          · exact (fun h => f9 (up h rfl))
          · exact (fun h => f10 (up h rfl))
          · exact (fun h => f11 (up h rfl))
          · exact (fun _ => ⟨b8, rfl, n8, by rw [hkp.size]; exact m8, fun h' => (hkp.block b8 ne89).trans (z8 (dn h')), fun h' => (hkp.block b8 ne89).trans (y8 (up h' rfl))⟩)
          · exact (fun _ => ⟨b9, rfl, n9, by rw [hkp.size]; exact m9, fun h' => by simp at h', fun _ => RB⟩)
          · exact hbe
          · exact (fun h k => g1 (up h rfl) (up k rfl))
          · exact (fun h => upl (g2 (up h rfl)))
          · exact (fun _ => upl hd13)
      · rintro d act x ⟨u29, u30, u31, u32, u33, u34, u35, u36, u37, u38, u39, u40, u8, u9, rfl, f0, f1, f2, f3, f4, f5, f6, f7, f8, f9, f10, f11, f12, f13, g0, g1, g2, g3⟩ hall
        obtain ⟨b8, rfl, n8, m8, z8, y8⟩ := f12 (hall 12 (by decide))
        obtain ⟨b9, rfl, n9, m9, z9, y9⟩ := f13 (hall 13 (by decide))
        clear f0 f1 f2 f3 f4 f5 f6 f7 f8 f9 f10 f11 f12 f13
        have ne89 : b8 ≠ b9 := g1 (hall 12 (by decide)) (hall 13 (by decide)) b8 b9 rfl rfl
        have HX6 := Lib.hid (y8 (hall 14 (by decide)))
        have HY6 := Lib.hid (y9 (hall 15 (by decide)))
        have HA6 := Lib.hid (HAW.out.ext g0)
        have HS6 := Lib.hid (HSW.out.ext g0)
        have HB6 := Lib.hid (show Below w2.heap.size w2 x from HBW.out.trans (g0.mono HBW.out.size))
        have hq : b8 ≠ sa ∧ b8 ≠ sb ∧ b9 ≠ sa ∧ b9 ≠ sb := by have h1 := HAW.out.lt; have h2 := HSW.out.lt; omega
        have HQ := Lib.hid hq
        have BN := Lib.hid (back_no HSTR.out HX.out)
        have FN := Lib.hid (front_no HSY.out)
        have HLN := HN.out
        clear g0 g1 g2 g3 z8 y8 z9 y9 hall hq HAW HSW HBW HLW n8 n9
        have k8 := blk_cell HX6.out
        go_wp2_with fail
        refine (shPutNew sa 32 ((l.take J).map en0) (en0 cx) _ HA6.out (str_asc (List.Pairwise.sublist (List.take_sublist _ _) HSTR.out)) (by rw [List.length_map, List.length_take]; omega) BN.out.1 (by rw [List.length_map, List.length_take]; omega)).mono ?_
        rintro r w7 ⟨rfl, hs7, hr7⟩
        rw [BN.out.2] at hs7
        obtain ⟨cur6, hcur6⟩ := HA6.out.cur
        have HA7 := Lib.hid hs7
        have HS7 := Lib.hid (HS6.out.rim hr7 (fun e => HNE.out e.symm) hcur6)
        have HX7 := Lib.hid ((hr7.block b8 HQ.out.1 (blk_lt HX6.out)).trans HX6.out)
        have HY7 := Lib.hid ((hr7.block b9 HQ.out.2.2.1 (blk_lt HY6.out)).trans HY6.out)
        have HB7 := Lib.hid (HB6.out.trans (hr7.below (by have := HSA.out; omega) HB6.out.size))
        clear hs7 hr7 hcur6 HA6 HS6 HX6 HY6 HB6 k8 BN
        have k9 := blk_cell HY7.out
        go_wp2_with fail
        refine (shPutNew sb 32 ((l.drop (n - J)).map en0) (en9 cy) _ HS7.out (str_asc (List.pairwise_cons.1 HSY.out).2) (by rw [List.length_map, List.length_drop]; omega) FN.out.1 (by rw [List.length_map, List.length_drop]; omega)).mono ?_
        rintro r w8 ⟨rfl, hs8, hr8'⟩
        rw [FN.out.2] at hs8
        obtain ⟨cur7, hcur7⟩ := HS7.out.cur
        have HS8 := Lib.hid hs8
        have HA8 := Lib.hid (HA7.out.rim hr8' HNE.out hcur7)
        have HY8 := Lib.hid ((hr8'.block b9 HQ.out.2.2.2 (blk_lt HY7.out)).trans HY7.out)
        have HB8 := Lib.hid (HB7.out.trans (hr8'.below HLE.out HB7.out.size))
        clear hs8 hr8' hcur7 HA7 HS7 HX7 HY7 HB7 k9 FN
        have k9 := blk_cell HY8.out
        go_wp2_with fail
        refine (shPutIn sb 32 (en9 cy :: (l.drop (n - J)).map en0) (en0 cy) _ HS8.out (front_asc HSY.out) (by rw [List.length_cons, List.length_map, List.length_drop]; omega) front_yes.1).mono ?_
        rintro r w9 ⟨rfl, hs9, hr9⟩
        rw [front_yes.2, ← HDR.out] at hs9
        obtain ⟨cur8, hcur8⟩ := HS8.out.cur
        have HS9 := Lib.hid hs9
        have HA9 := Lib.hid (HA8.out.rim hr9 HNE.out hcur8)
        have HB9 := Lib.hid (HB8.out.trans (hr9.below HLE.out HB8.out.size))
        clear hs9 hr9 hcur8 HA8 HS8 HY8 HB8 k9
        go_wp2
        go_roundw
        case rel => exact ⟨J + 1, by omega, by go_num, HA9.out, by rw [show n - (J + 1) = Q by omega]; exact HS9.out, HB9.out⟩
        case measure => simp [intOf]; omega
    · have hJn : J = n := by omega
      have hlt2 : decide ((J : Int) < (n : Int)) = false := by simp; omega
      have HLN := HN.out
      have HA6 := Lib.hid (show ShP w5 sa 32 (l.map en0) from by rw [hJn, List.take_of_length_le (by omega)] at hA5; exact hA5)
      have HS6 := Lib.hid (show ShP w5 sb 32 (l.map en0) from by rw [hJn, Nat.sub_self, List.drop_zero] at hS5; exact hS5)
      have hmn : (l.map en0).length = n := by rw [List.length_map]; exact HLN
      obtain ⟨M, hM⟩ : ∃ M, l.map en0 = M := ⟨_, rfl⟩
      rw [hM] at HA6 HS6 hmn
      have HMN := Lib.hid hmn
      clear hA5 hS5 hM hJn HL5 hmn HL HSTR HLN
      go_wp2_with fail
      refine (shAll sa 32 M _ HA6.out (by rw [HMN.out]; omega)).mono ?_
      rintro r w6 ⟨v6, rfl, ho6, hb6⟩
      obtain ⟨a6, c6, rfl, -, -, hat6, -, -⟩ := OwnR.read ec_len ho6
      rw [HMN.out]
      have HT6 := Lib.hid hat6
      have HA7 := Lib.hid (HA6.out.ext hb6)
      have HS7 := Lib.hid (HS6.out.ext hb6)
      have HB6 := Lib.hid (HB5.out.trans (hb6.mono HB5.out.size))
      clear ho6 hat6 hb6 HA6 HS6 HB5
      go_wp2_with fail
      refine (shAll sb 32 M _ HS7.out (by rw [HMN.out]; omega)).mono ?_
      rintro r w7 ⟨v7, rfl, ho7, hb7⟩
      obtain ⟨a7, c7, rfl, -, -, hat7, -, -⟩ := OwnR.read ec_len ho7
      rw [HMN.out]
      have HT7 := Lib.hid hat7
      have HT67 := Lib.hid (SAt.ext HT6.out hb7)
      have HA8 := Lib.hid (HA7.out.ext hb7)
      have HB7 := Lib.hid (HB6.out.trans (hb7.mono HB6.out.size))
      clear ho7 hat7 hb7 HA7 HS7 HB6 HT6
      go_wp2_with fail
      refine (sameE a6 a7 n c6 c7 M _ HT67.out HT7.out HMN.out (by omega)).mono ?_
      rintro r w8 ⟨rfl, hb8⟩
      have HA9 := Lib.hid (HA8.out.ext hb8)
      have HB8 := Lib.hid (HB7.out.trans (hb8.mono HB7.out.size))
      clear hb8 HA8 HB7 HT67 HT7
      go_wp2_with fail
      refine (shLen sa 32 M _ HA9.out (by rw [HMN.out]; omega)).mono ?_
      rintro r w9 ⟨rfl, hb9⟩
      rw [HMN.out]
      have HB9 := Lib.hid (HB8.out.trans (hb9.mono HB8.out.size))
      clear hb9 HA9 HB8
      go_wp2_with fail
      refine (law10known _).mono ?_
      rintro r w10 ⟨rfl, hb10⟩
      have HB10 := Lib.hid (HB9.out.trans (hb10.mono HB9.out.size))
      clear hb10 HB9
      go_wp2
      go_ret
      exact ⟨rfl, ext_trans HB2.out HB10.out⟩

end Go.Proofs.Ytnmpjagdkbaidaa
