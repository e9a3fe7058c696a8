/- FeedSizes: the walk. -/
import Derived.Test.YtgnmlkomgokimaaFeedV
import Derived.Test.YtgnmlkomgokimaaFeedK
import Derived.IntWalk
import Derived.WalkArith
namespace Go.Proofs.Ytgnmlkomgokimaa
open Go.RowKit
set_option linter.unusedVariables false
set_option linter.unusedSimpArgs false

theorem seenL_seenL (ls : List Cd) : seenL (seenL ls) = seenL ls := by
  have h : (seenL ls).filter (fun c => !c.g) = seenL ls := List.filter_eq_self.2 (fun c hc => by simp [(seenL_mem hc).2])
  unfold seenL at h ⊢
  rw [h]
  exact srt_ord klt _ (srt_is klt klt_weak _)
theorem livN_seen (es : List En) : livN es = (seenL (es.map (·.c))).length := by
  unfold livN seenL
  rw [srt_len, List.filter_map, List.length_map]
  rfl
set_option maxRecDepth 100000 in
set_option maxHeartbeats 4000000 in
theorem feedSizes_walk (ra : Option Addr) (rlen rcap : Nat) (rz : List Int) (since : Int) (w : World) (hr : IsRow .i64 w ra rlen rcap rz) (hr8 : rlen * 8 ≤ 140737488351232) (hw : (Lit.int .i64 since).wf = true) :
    Calls Try.prog 6 #[.slice ra rlen rcap, .int .i64 since] w fun r w' => r = .returned (.bool true) ∧ Below w.heap.size w w' := by
  obtain ⟨n, hbn⟩ : ∃ n, bits BinOp.and IntKind.i64 since 31 = n := ⟨_, rfl⟩
  have HBN := Lib.hid hbn
  clear hbn
  go_enter Try.func6, Try.ntmps6
  go_wp2_with fail
  refine (law15made ra rlen rcap rz _ hr hr8).mono ?_
  rintro e w1 ⟨sb, rb, wb, xb, es, ks, rfl, hp, has, hka, hkl⟩
  have hn := few has hka
  have hn9 : es.length ≤ 900 := by omega
  have HC := Lib.hid (show ∀ x ∈ es, CdS x.c from fun x hx => ⟨by have := (hka x hx).1.size; omega, by have := (hka x hx).2.size; omega⟩)
  have HCC := Lib.hid (show ∀ x ∈ (seenL (es.map (·.c))), CdS x from fun x hx => by obtain ⟨e, he, rfl⟩ := List.mem_map.1 (seenL_mem hx).1; exact HC.out e he)
  have HAS := Lib.hid has
  have HP1 := Lib.hid hp
  have HD1 := Lib.hid hp.2.2.2.2.1
  obtain ⟨N, hN⟩ : ∃ N, ks.length = N := ⟨_, rfl⟩
  have HN := Lib.hid hN
  have hN29 : N ≤ 29 := by omega
  obtain ⟨S, hS⟩ : ∃ S, sm (sealB (es.map (·.c))) = S := ⟨_, rfl⟩
  have HSM := Lib.hid hS
  have HSI2 := Lib.hid (show sm (sealB (seenL (es.map (·.c)))) = S from by rw [← hS]; unfold sealB; rw [seenL_seenL])
  clear hp has hka hkl hN hS hr
  go_wp2_with fail
  refine (feedFull sb rb ks.length 20 es (lastK ks ks.length) _ HP1.out.1 HP1.out.2.1 hn HC.out).mono ?_
  rintro e w2 ⟨va, k, vc, rfl, hk, hvc, hvm, hvat, hb⟩
  rw [HN.out, HSM.out]
  have HKL := Lib.hid hk
  have hk20 : k ≤ 20 := by rw [← hk]; refine Nat.le_trans (seenL_len _) ?_; rw [List.length_map]; exact hn
  have HLV := Lib.hid (show ((livN es : Nat) : Int) = (k : Int) from by rw [livN_seen, hk])
  have E2 := Lib.hid (show Below w2.heap.size w2 (w2.alloc (.cells #[.int .i64 2, .int .i64 5, .int .i64 0, .int .i64 0, .int .i64 0, .int .i64 0, .int .i64 (N : Int), .string ⟨#[]⟩, .string ⟨#[]⟩, .bool true, .int .u32 S, .slice va k vc, .slice none 0 0] 38)) from (Below.refl _ _).alloc (Nat.le_refl _) _)
  have HF1 := Lib.hid (blk_new w2 #[.int .i64 2, .int .i64 5, .int .i64 0, .int .i64 0, .int .i64 0, .int .i64 0, .int .i64 (N : Int), .string ⟨#[]⟩, .string ⟨#[]⟩, .bool true, .int .u32 S, .slice va k vc, .slice none 0 0] 38)
  have HV2 := Lib.hid (hvat.ext E2.out)
  have HP2 := Lib.hid ((HP1.out.ext hb).ext E2.out)
  have HD2 := Lib.hid (ext_trans (ext_trans HD1.out hb) E2.out)
  clear hb hk hvat HP1 HD1
  unfold maxLen at hvm
  go_upto_region 6 with (fail)
  rw [HBN.out]
  obtain ⟨f, hf⟩ : ∃ f, w2.heap.size = f := ⟨_, rfl⟩
  rw [hf] at HF1
  try rw [hf]
  have HF2 := Lib.hid HF1.out
  clear hf HF1 E2 HBN
  generalize (w2.alloc (.cells #[.int .i64 2, .int .i64 5, .int .i64 0, .int .i64 0, .int .i64 0, .int .i64 0, .int .i64 (N : Int), .string ⟨#[]⟩, .string ⟨#[]⟩, .bool true, .int .u32 S, .slice va k vc, .slice none 0 0] 38)) = w0 at *
  by_cases hy : 0 ≤ n ∧ n ≤ (N : Int) ∧ (N : Int) - 16 ≤ n
  · skip
    obtain ⟨q, hq⟩ : ∃ q : Nat, n = (q : Int) := ⟨n.toNat, by omega⟩
    obtain ⟨m0, hm0⟩ : ∃ m0 : Nat, q + m0 = N := ⟨N - q, by omega⟩
    have hm16 : m0 ≤ 16 := by omega
    have hmN : m0 ≤ N := by omega
    have hsi : n = (N : Int) - m0 := by omega
    have HSI := Lib.hid hsi
    have HTL := Lib.hid (show (lastK ks ks.length).drop ((lastK ks ks.length).length - m0) = ks.drop q from by
      rw [lastK_tail (Nat.le_refl _) (by rw [HN.out]; exact hmN) hm16, List.take_length, HN.out, ← hm0, Nat.add_sub_cancel])
    have HKM := Lib.hid (show ((kp (ks.drop q) (ks.drop q).length).map (cur es)).length ≤ m0 from by
      rw [List.length_map]
      refine Nat.le_trans (kp_len _ _) ?_
      rw [List.length_drop, HN.out]
      omega)
    have HKK := Lib.hid (show (kp (ks.drop q) (ks.drop q).length).length ≤ 16 from by
      have := HKM.out
      rw [List.length_map] at this
      omega)
    clear hq hm0 hsi hy
    go_wp2_with fail
    refine (feedDelta sb rb ks.length n 20 es (lastK ks ks.length) _ HP2.out.1 HP2.out.2.1 HAS.out hn HC.out (by rw [HN.out]; omega) m0 (ks.drop q) _ (lastK_len _ _ (Nat.le_refl _)) (by rw [HN.out]; exact HSI.out) (by rw [HN.out]; exact hmN) hm16 HTL.out rfl HKK.out).mono ?_
    rintro e w3 ⟨da, dk, dc, rfl, hdk, hdc, hdm, -, hb⟩
    rw [HN.out, HSM.out]
    have HDK := Lib.hid hdk
    have HF3 := Lib.hid (blk_ext hb HF2.out)
    have HP3 := Lib.hid (HP2.out.ext hb)
    have HV3 := Lib.hid (HV2.out.ext hb)
    have HD3 := Lib.hid (ext_trans HD2.out hb)
    have E4 := Lib.hid (show Below w3.heap.size w3 (w3.alloc (.cells #[.int .i64 2, .int .i64 5, .int .i64 0, .int .i64 0, .int .i64 0, .int .i64 0, .int .i64 (N : Int), .string ⟨#[]⟩, .string ⟨#[]⟩, .bool false, .int .u32 S, .slice da dk dc, .slice none 0 0] 38)) from (Below.refl _ _).alloc (Nat.le_refl _) _)
    have HG4 := Lib.hid (blk_new w3 #[.int .i64 2, .int .i64 5, .int .i64 0, .int .i64 0, .int .i64 0, .int .i64 0, .int .i64 (N : Int), .string ⟨#[]⟩, .string ⟨#[]⟩, .bool false, .int .u32 S, .slice da dk dc, .slice none 0 0] 38)
    have hl3 := blk_lt HF3.out
    clear hb hdk HF2 HP2 HV2 HD2
    go_upto_region 7 with (fail)
    obtain ⟨d, hd⟩ : ∃ d, w3.heap.size = d := ⟨_, rfl⟩
    rw [hd] at HG4 hl3
    try rw [hd]
    have hfd : f ≠ d := by omega
    have HF4 := Lib.hid (blk_ext E4.out HF3.out)
    have HP4 := Lib.hid (HP3.out.ext E4.out)
    have HV4 := Lib.hid (HV3.out.ext E4.out)
    have HD4 := Lib.hid (ext_trans HD3.out E4.out)
    clear hd hl3 E4 HF3 HP3 HV3 HD3
    generalize (w3.alloc (.cells #[.int .i64 2, .int .i64 5, .int .i64 0, .int .i64 0, .int .i64 0, .int .i64 0, .int .i64 (N : Int), .string ⟨#[]⟩, .string ⟨#[]⟩, .bool false, .int .u32 S, .slice da dk dc, .slice none 0 0] 38)) = w4 at *
    have hk4 := blk_cell HF4.out
    have hl4 := blk_lt HF4.out
    go_wp2_with fail
    go_loopw [41] (fun j wr => ∃ J : Nat, J ≤ k ∧ j = .int .i64 (J : Int) ∧ Below w4.heap.size w4 wr) (fun j _ => k - (intOf j).toNat)
    case atStart => exact ⟨0, by omega, rfl, Below.refl _ _⟩
    case round =>
      obtain ⟨w5, rfl⟩ : ∃ y : World, y = wr := ⟨_, rfl⟩
      obtain ⟨J, hJ, rfl, hb5⟩ := hrel
      have HB5 := Lib.hid hb5
      clear hk4 hl4 hb5
      by_cases hlt : J < k
      · obtain ⟨c, hcx⟩ : ∃ c, (seenL (es.map (·.c)))[J]? = some c := ⟨_, List.getElem?_eq_getElem (by rw [HKL.out]; exact hlt)⟩
        have hcg : c.g = false := (seenL_mem (List.mem_of_getElem? hcx)).2
        obtain ⟨vb, vo, rfl⟩ : ∃ b o, va = some ⟨b, o, none⟩ := by
          rcases HV4.out with h | ⟨b, o, e, _⟩
          · rw [h] at hcx; simp at hcx
          · exact ⟨b, o, e⟩
        obtain ⟨y0, y1, y2, y3, y4, y5, y6, y7, y8⟩ := (HV4.out.ext HB5.out).at hcx
        rw [hcg] at y8
        have hJn : (J : Int) < (k : Int) := by omega
        have HB6 := Lib.hid (show Below w4.heap.size w4 (w5.alloc (.cells #[.string c.a, .string c.i, .int .i64 c.s, .int .i64 c.o, .int .i64 c.l, .int .i64 c.t, .int .i64 c.k, .int .i64 c.n, .bool false] 43)) from HB5.out.alloc HB5.out.size _)
        clear hcx hcg
        go_wp2_with fail
        go_roundw
        case rel => exact ⟨J + 1, by omega, by go_num, HB6.out⟩
        case measure => simp [intOf]; omega
      · obtain rfl : J = k := by omega
        have hlt2 : decide ((J : Int) < (J : Int)) = false := by simp
        have HP5 := Lib.hid (HP4.out.ext HB5.out)
        go_wp2_with fail
        refine (recentSince_at rb ks.length m0 n (lastK ks ks.length) (ks.drop q) _ HP5.out.2.1 (lastK_len _ _ (Nat.le_refl _)) (by rw [HN.out]; exact HSI.out) (by rw [HN.out]; exact hmN) hm16 (by rw [HN.out]; omega) HTL.out).mono ?_
        rintro e w6 ht
        obtain ⟨ka, kcap, rfl, -, hb⟩ := Told.read ht rfl
        clear ht
        have HF6 := Lib.hid (blk_ext (ext_trans HB5.out hb) HF4.out)
        have HG6 := Lib.hid (blk_ext (ext_trans HB5.out hb) HG4.out)
        have HP6 := Lib.hid (HP5.out.ext hb)
        have HSH6 := Lib.hid (show ShP w6 sb 20 es from HP6.out.1)
        have HR6 := Lib.hid (show RecAt w6 rb N (lastK ks ks.length) from by rw [← HN.out]; exact HP6.out.2.1)
        have HV6 := Lib.hid (HV4.out.ext (ext_trans HB5.out hb))
        have HD6 := Lib.hid (ext_trans HD4.out (ext_trans HB5.out hb))
        clear hb HP4 HP5 HF4 HG4 HV4 HD4 HB5
        go_upto_region 14 with (fail)
        haveI hIq : Nonempty (Of w6) := of_some _
        have hF0 := blk_of HF6.out
        have hF1 := blk_of HG6.out
        have hqs : IntKind.i64.wrap ((N : Int) - n) = (m0 : Int) := by rw [show (N : Int) - n = (m0 : Int) from by rw [HSI.out]; omega]; exact IntWalk.i64_in _ (by omega)
        have hle : decide (dk ≤ m0) = true := decide_eq_true (by have := HDK.out; have := HKM.out; omega)
        first | (refine wp_region_stay w6 (by kernel_rfl) (by kernel_rfl) (by go_grown) ?_) | (refine wp_region_stay_seq w6 (by go_grown) ?_)
        repeat (go_big_quiet_step (first | (go_at_call 20; with_reducible refine stay_as (shLive sb 20 es _ (HSH6.out.ext (In.h _)) hn9) (congrArg (Value.int .i64) HLV.out)) | (go_at_call 11; with_reducible refine stay_same (recentSeq rb N (lastK ks ks.length) _ (HR6.out.ext (In.h _)))) | (go_at_call 17; with_reducible refine stay_as (sealOf va J vc (seenL (es.map (·.c))) _ (HV6.out.ext (In.h _)) HKL.out hk20 hvc HCC.out) (congrArg (Value.int .u32) HSI2.out)) | (go_at_call 8; with_reducible refine stay_call (law15known _))))
        refine wpQuiet_nil ?_
        intro w7 hb7
        clear hIq hF0 hF1
        have HD7 := Lib.hid (ext_trans HD6.out hb7)
        clear hb7
        go_wp2
        go_ret
        exact ⟨rfl, HD7.out⟩
  · skip
    have HNO := Lib.hid (show n < 0 ∨ (N : Int) < n ∨ n < (N : Int) - 16 from by omega)
    clear hy
    go_wp2_with fail
    refine (feedDeltaNo sb rb ks.length n 20 es (lastK ks ks.length) _ HP2.out.1 HP2.out.2.1 HAS.out hn HC.out (by rw [HN.out]; omega) (by rw [HN.out]; exact HNO.out)).mono ?_
    rintro e w3 ⟨da, dk, dc, rfl, hdk, hdc, hdm, -, hb⟩
    rw [HN.out, HSM.out]
    have HDK := Lib.hid hdk
    have HF3 := Lib.hid (blk_ext hb HF2.out)
    have HP3 := Lib.hid (HP2.out.ext hb)
    have HV3 := Lib.hid (HV2.out.ext hb)
    have HD3 := Lib.hid (ext_trans HD2.out hb)
    have E4 := Lib.hid (show Below w3.heap.size w3 (w3.alloc (.cells #[.int .i64 2, .int .i64 5, .int .i64 0, .int .i64 0, .int .i64 0, .int .i64 0, .int .i64 (N : Int), .string ⟨#[]⟩, .string ⟨#[]⟩, .bool true, .int .u32 S, .slice da dk dc, .slice none 0 0] 38)) from (Below.refl _ _).alloc (Nat.le_refl _) _)
    have HG4 := Lib.hid (blk_new w3 #[.int .i64 2, .int .i64 5, .int .i64 0, .int .i64 0, .int .i64 0, .int .i64 0, .int .i64 (N : Int), .string ⟨#[]⟩, .string ⟨#[]⟩, .bool true, .int .u32 S, .slice da dk dc, .slice none 0 0] 38)
    have hl3 := blk_lt HF3.out
    clear hb hdk HF2 HP2 HV2 HD2
    go_upto_region 7 with (fail)
    obtain ⟨d, hd⟩ : ∃ d, w3.heap.size = d := ⟨_, rfl⟩
    rw [hd] at HG4 hl3
    try rw [hd]
    have hfd : f ≠ d := by omega
    have HF4 := Lib.hid (blk_ext E4.out HF3.out)
    have HP4 := Lib.hid (HP3.out.ext E4.out)
    have HV4 := Lib.hid (HV3.out.ext E4.out)
    have HD4 := Lib.hid (ext_trans HD3.out E4.out)
    clear hd hl3 E4 HF3 HP3 HV3 HD3
    generalize (w3.alloc (.cells #[.int .i64 2, .int .i64 5, .int .i64 0, .int .i64 0, .int .i64 0, .int .i64 0, .int .i64 (N : Int), .string ⟨#[]⟩, .string ⟨#[]⟩, .bool true, .int .u32 S, .slice da dk dc, .slice none 0 0] 38)) = w4 at *
    have hk4 := blk_cell HF4.out
    have hl4 := blk_lt HF4.out
    go_wp2_with fail
    go_loopw [41] (fun j wr => ∃ J : Nat, J ≤ k ∧ j = .int .i64 (J : Int) ∧ Below w4.heap.size w4 wr) (fun j _ => k - (intOf j).toNat)
    case atStart => exact ⟨0, by omega, rfl, Below.refl _ _⟩
    case round =>
      obtain ⟨w5, rfl⟩ : ∃ y : World, y = wr := ⟨_, rfl⟩
      obtain ⟨J, hJ, rfl, hb5⟩ := hrel
      have HB5 := Lib.hid hb5
      clear hk4 hl4 hb5
      by_cases hlt : J < k
      · obtain ⟨c, hcx⟩ : ∃ c, (seenL (es.map (·.c)))[J]? = some c := ⟨_, List.getElem?_eq_getElem (by rw [HKL.out]; exact hlt)⟩
        have hcg : c.g = false := (seenL_mem (List.mem_of_getElem? hcx)).2
        obtain ⟨vb, vo, rfl⟩ : ∃ b o, va = some ⟨b, o, none⟩ := by
          rcases HV4.out with h | ⟨b, o, e, _⟩
          · rw [h] at hcx; simp at hcx
          · exact ⟨b, o, e⟩
        obtain ⟨y0, y1, y2, y3, y4, y5, y6, y7, y8⟩ := (HV4.out.ext HB5.out).at hcx
        rw [hcg] at y8
        have hJn : (J : Int) < (k : Int) := by omega
        have HB6 := Lib.hid (show Below w4.heap.size w4 (w5.alloc (.cells #[.string c.a, .string c.i, .int .i64 c.s, .int .i64 c.o, .int .i64 c.l, .int .i64 c.t, .int .i64 c.k, .int .i64 c.n, .bool false] 43)) from HB5.out.alloc HB5.out.size _)
        clear hcx hcg
        go_wp2_with fail
        go_roundw
        case rel => exact ⟨J + 1, by omega, by go_num, HB6.out⟩
        case measure => simp [intOf]; omega
      · obtain rfl : J = k := by omega
        have hlt2 : decide ((J : Int) < (J : Int)) = false := by simp
        have HP5 := Lib.hid (HP4.out.ext HB5.out)
        go_wp2_with fail
        refine (recentSince_no rb ks.length (lastK ks ks.length) n _ HP5.out.2.1 (by rw [HN.out]; omega) (by rw [HN.out]; exact HNO.out)).mono ?_
        rintro e w6 ⟨rfl, hw6⟩
        have hb : Below w5.heap.size w5 w6 := by rw [← hw6]; exact Below.refl _ _
        clear hw6
        have HF6 := Lib.hid (blk_ext (ext_trans HB5.out hb) HF4.out)
        have HG6 := Lib.hid (blk_ext (ext_trans HB5.out hb) HG4.out)
        have HP6 := Lib.hid (HP5.out.ext hb)
        have HSH6 := Lib.hid (show ShP w6 sb 20 es from HP6.out.1)
        have HR6 := Lib.hid (show RecAt w6 rb N (lastK ks ks.length) from by rw [← HN.out]; exact HP6.out.2.1)
        have HV6 := Lib.hid (HV4.out.ext (ext_trans HB5.out hb))
        have HD6 := Lib.hid (ext_trans HD4.out (ext_trans HB5.out hb))
        clear hb HP4 HP5 HF4 HG4 HV4 HD4 HB5
        go_upto_region 14 with (fail)
        haveI hIq : Nonempty (Of w6) := of_some _
        have hF0 := blk_of HF6.out
        have hF1 := blk_of HG6.out
        skip
        skip
        first | (refine wp_region_stay w6 (by kernel_rfl) (by kernel_rfl) (by go_grown) ?_) | (refine wp_region_stay_seq w6 (by go_grown) ?_)
        repeat (go_big_quiet_step (first | (go_at_call 20; with_reducible refine stay_as (shLive sb 20 es _ (HSH6.out.ext (In.h _)) hn9) (congrArg (Value.int .i64) HLV.out)) | (go_at_call 11; with_reducible refine stay_same (recentSeq rb N (lastK ks ks.length) _ (HR6.out.ext (In.h _)))) | (go_at_call 17; with_reducible refine stay_as (sealOf va J vc (seenL (es.map (·.c))) _ (HV6.out.ext (In.h _)) HKL.out hk20 hvc HCC.out) (congrArg (Value.int .u32) HSI2.out)) | (go_at_call 8; with_reducible refine stay_call (law15known _))))
        refine wpQuiet_nil ?_
        intro w7 hb7
        clear hIq hF0 hF1
        have HD7 := Lib.hid (ext_trans HD6.out hb7)
        clear hb7
        go_wp2
        go_ret
        exact ⟨rfl, HD7.out⟩

end Go.Proofs.Ytgnmlkomgokimaa
