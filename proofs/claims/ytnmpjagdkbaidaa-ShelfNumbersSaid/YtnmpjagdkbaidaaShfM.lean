/- 'same' of layer 10: a shelf and the document's own that hold the same. -/
import Derived.Test.YtnmpjagdkbaidaaShfS
namespace Go.Proofs.Ytnmpjagdkbaidaa
open Go.RowKit
set_option linter.unusedVariables false
set_option linter.unusedSimpArgs false

set_option maxRecDepth 100000 in
set_option maxHeartbeats 4000000 in
theorem law10same (sb rb : Nat) (most most' : Int) (es : List En) (w : World) (h : ShP w sb most es) (h' : RShP w rb most' es) (hn : es.length ≤ 900) :
    Calls Try.prog 27 #[.pointer (some ⟨sb, 0, none⟩), .pointer (some ⟨rb, 0, none⟩)] w fun r w' => r = .returned (.bool true) ∧ Below w.heap.size w w' := by
  have HS := Lib.hid h
  have HR := Lib.hid h'
  have HN9 := Lib.hid hn
  obtain ⟨n, hl⟩ : ∃ n, es.length = n := ⟨_, rfl⟩
  have HL := Lib.hid hl
  have hn9 : n ≤ 900 := by omega
  obtain ⟨V, hV⟩ : ∃ V, livN es = V := ⟨_, rfl⟩
  have HLV := Lib.hid (show ((livN es : Nat) : Int) = (V : Int) from by rw [hV])
  have HLI := Lib.hid (show ((es.length : Nat) : Int) = (n : Int) from by rw [hl])
  clear h h' hn hl hV
  go_enter Try.func27, Try.ntmps27
  go_wp2_with fail
  refine (shAll sb most es _ HS.out HN9.out).mono ?_
  rintro r w1 ⟨v1, rfl, ho1, hb1⟩
  obtain ⟨a1, c1, rfl, hc1, hm1, hat1, -, -⟩ := OwnR.read ec_len ho1
  rw [HL.out] at hc1 ⊢
  have HA1 := Lib.hid (show EAt w1 a1 es from hat1)
  have HS1 := Lib.hid (HS.out.ext hb1)
  have HR1 := Lib.hid (HR.out.ext hb1)
  have HB1 := Lib.hid hb1
  clear ho1 hat1 hb1 HS HR
  go_wp2_with fail
  refine (shCards sb most es _ HS1.out HN9.out).mono ?_
  rintro r w3 ⟨v3, rfl, ho3, hb3⟩
  obtain ⟨a3, c3, rfl, hc3, hm3, hat3, -, -⟩ := ho3.read
  have hln : (es.map (·.c)).length = n := by rw [List.length_map]; exact HL.out
  rw [hln] at hc3 ⊢
  have HC3 := Lib.hid (show CAt w3 a3 (es.map (·.c)) from hat3)
  have HA3 := Lib.hid (show EAt w3 a1 es from SAt.ext HA1.out hb3)
  have HS3 := Lib.hid (HS1.out.ext hb3)
  have HB3 := Lib.hid (ext_trans HB1.out hb3)
  obtain ⟨ra, rc, hr1, hr2, hr3, hr4, -⟩ := HR1.out.ext hb3
  rw [HL.out] at hr1 hr3
  have HRB := Lib.hid hr1
  have HRA := Lib.hid hr2
  unfold maxLen at hm1 hm3 hr4
  have d1 := blk_cell hr1 1
  simp only [List.getElem?_toArray, List.getElem?_cons_zero, List.getElem?_cons_succ] at d1
  clear ho3 hat3 hb3 hr1 hr2 hln HS1 HR1 HA1 HB1
  go_wp2_with fail
  haveI hIq : Nonempty (Of w3) := of_some _
  have hF0 := of_cell d1
  first | (refine wp_region_stay w3 (by kernel_rfl) (by kernel_rfl) (by go_grown) ?_) | (refine wp_region_stay_seq w3 (by go_grown) ?_)
  repeat (go_big_quiet_step (first | (go_at_call 17; with_reducible refine stay_as (shLen sb most es _ (HS3.out.ext (In.h _)) HN9.out) (congrArg (Value.int .i64) HLI.out)) | (go_at_call 22; with_reducible refine stay_as (shLive sb most es _ (HS3.out.ext (In.h _)) HN9.out) (congrArg (Value.int .i64) HLV.out)) | (go_at_call 38; with_reducible refine stay_as (rLive ra n rc es _ (SAt.ext HRA.out (In.h _)) HL.out hn9) (congrArg (Value.int .i64) HLV.out))))
  refine wpQuiet_nil ?_
  intro w4 hb4
  clear hIq hF0

  have HB4 := Lib.hid (ext_trans HB3.out hb4)
  have HC4 := Lib.hid (show CAt w4 a3 (es.map (·.c)) from CAt.ext HC3.out hb4)
  have HA4 := Lib.hid (show EAt w4 a1 es from SAt.ext HA3.out hb4)
  have HRB4 := Lib.hid (show BoxR w4 rb most' ra n rc from blk_ext hb4 HRB.out)
  have HRA4 := Lib.hid (show REAt w4 ra es from SAt.ext HRA.out hb4)
  clear hb4 d1 HC3 HA3 HS3 HRB HRA HB3
  go_wp2_with fail
  go_loopw [52] (fun j wr => ∃ J : Nat, J ≤ n ∧ j = .int .i64 (J : Int) ∧ Below w4.heap.size w4 wr) (fun j _ => n - (intOf j).toNat)
  case atStart => exact ⟨0, by omega, rfl, Below.refl _ _⟩
  case round =>
    obtain ⟨w5, rfl⟩ : ∃ y : World, y = wr := ⟨_, rfl⟩
    obtain ⟨J, hJ, rfl, hb5⟩ := hrel
    have HB5 := Lib.hid hb5
    by_cases hlt : J < n
    · obtain ⟨x, hx⟩ : ∃ x, es[J]? = some x := ⟨_, List.getElem?_eq_getElem (by have := HL.out; omega)⟩
      have hxc : (es.map (·.c))[J]? = some x.c := by rw [List.getElem?_map, hx]; rfl
      obtain ⟨b1, o1, rfl⟩ : ∃ b o, a1 = some ⟨b, o, none⟩ := by
        rcases HA4.out with h | ⟨b, o, e, _⟩
        · rw [h] at hx; simp at hx
        · exact ⟨b, o, e⟩
      obtain ⟨b2, o2, rfl⟩ : ∃ b o, ra = some ⟨b, o, none⟩ := by
        rcases HRA4.out with h | ⟨b, o, e, _⟩
        · rw [h] at hx; simp at hx
        · exact ⟨b, o, e⟩
      obtain ⟨b3, o3, rfl⟩ : ∃ b o, a3 = some ⟨b, o, none⟩ := by
        rcases HC4.out with h | ⟨b, o, e, _⟩
        · rw [h] at hxc; simp at hxc
        · exact ⟨b, o, e⟩
      obtain ⟨y0, y1, y2, y3, y4, y5, y6, y7, y8, y9⟩ := EAt.at (SAt.ext HA4.out hb5) hx
      obtain ⟨z0, z1, z2, z3, z4, z5, z6, z7, z8, z9⟩ := REAt.at (SAt.ext HRA4.out hb5) hx
      obtain ⟨v0, v1, v2, v3, v4, v5, v6, v7, v8⟩ := (HC4.out.ext hb5).at hxc
      have d1 := blk_cell (blk_ext hb5 HRB4.out) 1
      simp only [List.getElem?_toArray, List.getElem?_cons_zero, List.getElem?_cons_succ] at d1
      have hJn : (J : Int) < (n : Int) := by omega
      clear hb5 hx hxc
      go_wp2_with fail
      haveI hIq : Nonempty (Of w5) := of_some _
      have hF0 := of_cell d1
      have hF1 := of_cell y0
      have hF2 := of_cell y1
      have hF3 := of_cell y2
      have hF4 := of_cell y3
      have hF5 := of_cell y4
      have hF6 := of_cell y5
      have hF7 := of_cell y6
      have hF8 := of_cell y7
      have hF9 := of_cell y8
      have hF10 := of_cell y9
      have hF11 := of_cell z0
      have hF12 := of_cell z1
      have hF13 := of_cell z2
      have hF14 := of_cell z3
      have hF15 := of_cell z4
      have hF16 := of_cell z5
      have hF17 := of_cell z6
      have hF18 := of_cell z7
      have hF19 := of_cell z8
      have hF20 := of_cell z9
      have hF21 := of_cell v0
      have hF22 := of_cell v1
      have hF23 := of_cell v2
      have hF24 := of_cell v3
      have hF25 := of_cell v4
      have hF26 := of_cell v5
      have hF27 := of_cell v6
      have hF28 := of_cell v7
      have hF29 := of_cell v8
      first | (refine wp_region_stay w5 (by kernel_rfl) (by kernel_rfl) (by go_grown) ?_) | (refine wp_region_stay_seq w5 (by go_grown) ?_)
      repeat (go_big_quiet_step (fail))
      refine wpQuiet_nil ?_
      intro w6 hb6
      clear hIq hF0 hF1 hF2 hF3 hF4 hF5 hF6 hF7 hF8 hF9 hF10 hF11 hF12 hF13 hF14 hF15 hF16 hF17 hF18 hF19 hF20 hF21 hF22 hF23 hF24 hF25 hF26 hF27 hF28 hF29

      have HB6 := Lib.hid (ext_trans HB5.out hb6)
      clear hb6 d1 y0 y1 y2 y3 y4 y5 y6 y7 y8 y9 z0 z1 z2 z3 z4 z5 z6 z7 z8 z9 v0 v1 v2 v3 v4 v5 v6 v7 v8
      go_wp2
      go_roundw
      case rel => exact ⟨J + 1, by omega, by go_num, HB6.out⟩
      case measure => simp [intOf]; omega
    · obtain rfl : J = n := by omega
      have hlt2 : decide ((J : Int) < (J : Int)) = false := by simp
      go_wp2
      go_ret
      exact ⟨rfl, ext_trans HB4.out HB5.out⟩

end Go.Proofs.Ytnmpjagdkbaidaa
