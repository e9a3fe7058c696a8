/- FaultNumbers. -/
import Derived.Test.YtllmkokloebomaaDoorFauT
namespace Go.Proofs.YtllmkokloebomaaDoor
open Go.RowKit Go.Extern.Stop Go.Stop Go.Extern
set_option linter.unusedVariables false
set_option linter.unusedSimpArgs false

theorem letters (I : Nat) (h : I < 20) : ∃ S : ByteArray, S.size ≤ 4 ∧ (∀ w : World, (convert 3 21 (.int .i64 (97 + (I : Int)))).run Tryd.prog w = .ok (.int .i32 (97 + (I : Int))) w) ∧ ∀ w : World, (convert 21 9 (.int .i32 (97 + (I : Int)))).run Tryd.prog w = .ok (.string S) w := by
  have h9 : I = 0 ∨ I = 1 ∨ I = 2 ∨ I = 3 ∨ I = 4 ∨ I = 5 ∨ I = 6 ∨ I = 7 ∨ I = 8 ∨ I = 9 ∨ I = 10 ∨ I = 11 ∨ I = 12 ∨ I = 13 ∨ I = 14 ∨ I = 15 ∨ I = 16 ∨ I = 17 ∨ I = 18 ∨ I = 19 := by omega
  rcases h9 with rfl | rfl | rfl | rfl | rfl | rfl | rfl | rfl | rfl | rfl | rfl | rfl | rfl | rfl | rfl | rfl | rfl | rfl | rfl | rfl
  · exact ⟨⟨#[97]⟩, by decide, fun _ => by kernel_rfl, fun _ => by kernel_rfl⟩
  · exact ⟨⟨#[98]⟩, by decide, fun _ => by kernel_rfl, fun _ => by kernel_rfl⟩
  · exact ⟨⟨#[99]⟩, by decide, fun _ => by kernel_rfl, fun _ => by kernel_rfl⟩
  · exact ⟨⟨#[100]⟩, by decide, fun _ => by kernel_rfl, fun _ => by kernel_rfl⟩
  · exact ⟨⟨#[101]⟩, by decide, fun _ => by kernel_rfl, fun _ => by kernel_rfl⟩
  · exact ⟨⟨#[102]⟩, by decide, fun _ => by kernel_rfl, fun _ => by kernel_rfl⟩
  · exact ⟨⟨#[103]⟩, by decide, fun _ => by kernel_rfl, fun _ => by kernel_rfl⟩
  · exact ⟨⟨#[104]⟩, by decide, fun _ => by kernel_rfl, fun _ => by kernel_rfl⟩
  · exact ⟨⟨#[105]⟩, by decide, fun _ => by kernel_rfl, fun _ => by kernel_rfl⟩
  · exact ⟨⟨#[106]⟩, by decide, fun _ => by kernel_rfl, fun _ => by kernel_rfl⟩
  · exact ⟨⟨#[107]⟩, by decide, fun _ => by kernel_rfl, fun _ => by kernel_rfl⟩
  · exact ⟨⟨#[108]⟩, by decide, fun _ => by kernel_rfl, fun _ => by kernel_rfl⟩
  · exact ⟨⟨#[109]⟩, by decide, fun _ => by kernel_rfl, fun _ => by kernel_rfl⟩
  · exact ⟨⟨#[110]⟩, by decide, fun _ => by kernel_rfl, fun _ => by kernel_rfl⟩
  · exact ⟨⟨#[111]⟩, by decide, fun _ => by kernel_rfl, fun _ => by kernel_rfl⟩
  · exact ⟨⟨#[112]⟩, by decide, fun _ => by kernel_rfl, fun _ => by kernel_rfl⟩
  · exact ⟨⟨#[113]⟩, by decide, fun _ => by kernel_rfl, fun _ => by kernel_rfl⟩
  · exact ⟨⟨#[114]⟩, by decide, fun _ => by kernel_rfl, fun _ => by kernel_rfl⟩
  · exact ⟨⟨#[115]⟩, by decide, fun _ => by kernel_rfl, fun _ => by kernel_rfl⟩
  · exact ⟨⟨#[116]⟩, by decide, fun _ => by kernel_rfl, fun _ => by kernel_rfl⟩

set_option maxRecDepth 100000 in
set_option maxHeartbeats 8000000 in
theorem numbers (w : World) (hG : EG w) :
    Calls Tryd.prog 3 #[] w fun r w' => r = .returned (.bool true) ∧ Below w.heap.size w w' := by
  obtain ⟨i0, hi, hz0, hz1, hz2⟩ := info_parts2 info_str2
  have HG := Lib.hid hG
  clear hG
  go_enter Tryd.func3, Tryd.ntmps3
  go_wp2_with fail
  go_loopw [1, 2] (fun l i wr => ∃ (I : Nat) (ls : List ByteArray), I ≤ 20 ∧ i = .int .i64 (I : Int) ∧ ls.length = I ∧ (ls.map ByteArray.size).sum ≤ 10 * I ∧ OwnT w.heap.size wr l ls ∧ Below w.heap.size w wr) (fun _ i _ => 20 - (intOf i).toNat)
  case atStart => exact ⟨0, [], by omega, rfl, rfl, by simp, OwnR.nil _ _, Below.refl _ _⟩
  case round =>
    obtain ⟨w2, rfl⟩ : ∃ y : World, y = wr := ⟨_, rfl⟩
    obtain ⟨I, ls, hI, rfl, hl, hsum, ho, hb2⟩ := hrel
    obtain ⟨ga, gc, rfl, hgc, hgm, -⟩ := OwnR.form ho
    rw [hl] at hgc ⊢
    have HX2 := Lib.hid (show TxAt w2 (.slice ga I gc) ls from by have := OwnT.tx ho; rw [hl] at this; exact this)
    have HO2 := Lib.hid (show w2.ownsRow w.heap.size 9 1 (.slice ga I gc) I (flat eb ls) from by have := ho; unfold OwnT OwnR at this; rw [hl] at this; exact this)
    have HB2 := Lib.hid hb2
    have HL := Lib.hid hl
    have HSUM := Lib.hid hsum
    have HGC := Lib.hid hgm
    have Z2 := hb2.size
    clear ho hb2 hl hsum hgm
    by_cases hlt : I < 20
    · obtain ⟨S, hS4, hcv1, hcv2⟩ := letters I hlt
      have hd20 : decide ((I : Int) < 20) = true := decide_eq_true (by omega)
      obtain ⟨X, hX⟩ : ∃ X, ⟨#[111, 112]⟩ ++ S = X := ⟨_, rfl⟩
      have hXs : X.size ≤ 8 := by
        rw [← hX, ByteArray.size_append]
        have : (⟨#[111, 112]⟩ : ByteArray).size = 2 := rfl
        omega
      have hop2 : (⟨#[111, 112]⟩ : ByteArray).size = 2 := rfl
      have hadd : ∀ u : World, (Op.stringOp .add ⟨#[111, 112]⟩ S).run Tryd.prog u = .ok (.string X) u := fun u => by rw [← hX]; exact run_string_add_sum u _ _ (by rw [hop2]; omega)
      have HXS := Lib.hid hXs
      clear hX hXs hS4 hop2
      go_wp2_with fail
      go_loopw [3] (fun c wr => ∃ C : Int, c = .int .i64 C ∧ -1 ≤ C ∧ C ≤ 30 ∧ Below w2.heap.size w2 wr) (fun c _ => (30 - intOf c).toNat)
      case atStart => exact ⟨-1, rfl, by omega, by omega, Below.refl _ _⟩
      case round =>
        obtain ⟨w3, rfl⟩ : ∃ y : World, y = wr := ⟨_, rfl⟩
        obtain ⟨C, rfl, hC0, hC1, hb3⟩ := hrel
        have HB3 := Lib.hid hb3
        clear hb3
        by_cases hC : C < 30
        · have hd30 : decide (C < 30) = true := decide_eq_true hC
          have HSZ := Lib.hid (show (fT ls (errT C)).size ≤ 8000000 from by
            rw [fT_size]
            have h1 := errT_size C (wf_of _ (by omega))
            have h2 := HSUM.out
            have h3 := HL.out
            omega)
          go_wp2_with fail
          refine (lawSame ga I gc ls C w3 (HG.out.ext (ext_trans HB2.out HB3.out)) (HX2.out.ext HB3.out) (wf_of _ (by omega)) (by omega) HSZ.out).mono ?_
          rintro r w4 ⟨rfl, hb4⟩
          have HB4 := Lib.hid (ext_trans HB3.out hb4)
          clear hb4
          go_wp2_with fail
          go_roundw
          case rel =>
            exact ⟨C + 1, by first | rfl | (rw [w64 _ (by omega)]), by omega, by omega, HB4.out⟩
          case measure => first | (simp [intOf]; omega) | (show (30 - (wrap64 (C + 1))).toNat < (30 - C).toNat; rw [w64 _ (by omega)]; omega)
        · obtain rfl : C = 30 := by omega
          have HO3 := Lib.hid (ownsRow_ext HO2.out HB3.out)
          have HB5 := Lib.hid (ext_trans HB2.out HB3.out)
          have Z3 := HB5.out.size
          have HGM := Lib.hid hgc
          go_wp2_with (at_builtin; refine wpList_append_texts _ rfl _ _ 22 rfl (w.heap.size) 9 i0 Tryd.underlying22 hi hz0 hz1 hz2 _ I ls rfl (ownsRow_ext HO3.out ((Below.refl _ _).alloc (Nat.le_refl _) _)) (some ⟨w3.heap.size, 0, none⟩) 1 1 [X] rfl (tx_one _ _ _) (by unfold maxLen; omega) (by omega) (Nat.le_trans Z3 (by simp)) ?_)
          intro v4 w4 ho4 hg4
          have HB4 := Lib.hid ((HB5.out.alloc Z3 (.cells #[.string X] 9)).grown hg4 (Nat.le_trans Z3 (by simp)) (fun q hq => own_ge HO3.out hq))
          have HO4 := Lib.hid ho4
          clear ho4 hg4
          go_wp2_with fail
          go_roundw
          case rel => exact ⟨I + 1, ls ++ [X], by omega, by go_num, by rw [List.length_append, HL.out]; rfl, by
            have h1 := HSUM.out
            have h2 := HXS.out
            simp only [List.map_append, List.map_cons, List.map_nil, List.sum_append, List.sum_cons, List.sum_nil]
            omega, by unfold OwnT OwnR; rw [List.length_append, HL.out]; exact HO4.out, HB4.out⟩
          case measure => simp [intOf]; omega
    · obtain rfl : I = 20 := by omega
      have DU0 := Lib.hid (Below.refl w2.heap.size w2)
      have GU0 := Lib.hid (HG.out.ext HB2.out)
      have HBW2 := Lib.hid HB2.out
      have e0 := run_nil_nil
      have e1 := neqF0
      go_wp2_with fail
      refine (errNew ⟨#[111, 116, 104, 101, 114]⟩ w2).mono ?_
      rintro r u1 ⟨rfl, hu⟩
      obtain ⟨s, hx⟩ : ∃ x, w2.heap.size = x := ⟨_, rfl⟩
      have KS1 := Lib.hid (show u1.heap[s]? = some (.cells #[.string ⟨#[111, 116, 104, 101, 114]⟩] 53 (0, 0)) from by rw [hu, ← hx]; exact blk_new _ _ _)
      have hb : Below w2.heap.size w2 u1 := by rw [hu]; exact (Below.refl _ _).alloc (Nat.le_refl _) _
      try rw [hx]
      clear hu hx
      have DU1 := Lib.hid (ext_trans DU0.out hb)
      have GU1 := Lib.hid (GU0.out.ext hb)
      clear hb DU0 GU0 
      go_wp2_with fail
      refine (wrapS ⟨#[121]⟩ ⟨s, 0, none⟩ u1).mono ?_
      rintro r u2 ⟨rfl, hu⟩
      obtain ⟨a, hx⟩ : ∃ x, u1.heap.size = x := ⟨_, rfl⟩
      have KA2 := Lib.hid (show u2.heap[a]? = some (.cells #[.string ⟨#[121]⟩, .iface 51 (.pointer (some ⟨s, 0, none⟩))] 31 (0, 0)) from by rw [hu, ← hx]; exact blk_new _ _ _)
      have hb : Below u1.heap.size u1 u2 := by rw [hu]; exact (Below.refl _ _).alloc (Nat.le_refl _) _
      try rw [hx]
      clear hu hx
      have DU2 := Lib.hid (ext_trans DU1.out hb)
      have GU2 := Lib.hid (GU1.out.ext hb)
      have KS2 := Lib.hid (blk_ext hb KS1.out)
      clear hb DU1 GU1 KS1
      go_wp2_with fail
      refine (wrapF ⟨#[120]⟩ ⟨a, 0, none⟩ u2).mono ?_
      rintro r u3 ⟨rfl, hu⟩
      obtain ⟨b, hx⟩ : ∃ x, u2.heap.size = x := ⟨_, rfl⟩
      have KB3 := Lib.hid (show u3.heap[b]? = some (.cells #[.string ⟨#[120]⟩, .iface 29 (.pointer (some ⟨a, 0, none⟩))] 31 (0, 0)) from by rw [hu, ← hx]; exact blk_new _ _ _)
      have hb : Below u2.heap.size u2 u3 := by rw [hu]; exact (Below.refl _ _).alloc (Nat.le_refl _) _
      try rw [hx]
      clear hu hx
      have DU3 := Lib.hid (ext_trans DU2.out hb)
      have GU3 := Lib.hid (GU2.out.ext hb)
      have KS3 := Lib.hid (blk_ext hb KS2.out)
      have KA3 := Lib.hid (blk_ext hb KA2.out)
      clear hb DU2 GU2 KS2 KA2
      go_wp2_with fail
      obtain ⟨n, hx⟩ : ∃ x, u3.heap.size = x := ⟨_, rfl⟩
      have KN4 := Lib.hid (show (u3.alloc (.cells #[.string ⟨#[97, 108, 111, 110, 101]⟩, .nilIface] 31)).heap[n]? = some (.cells #[.string ⟨#[97, 108, 111, 110, 101]⟩, .nilIface] 31 (0, 0)) from by rw [← hx]; exact blk_new _ _ _)
      have hb : Below u3.heap.size u3 (u3.alloc (.cells #[.string ⟨#[97, 108, 111, 110, 101]⟩, .nilIface] 31)) := (Below.refl _ _).alloc (Nat.le_refl _) _
      try rw [hx]
      generalize (u3.alloc (.cells #[.string ⟨#[97, 108, 111, 110, 101]⟩, .nilIface] 31)) = u4 at *
      clear hx
      have DU4 := Lib.hid (ext_trans DU3.out hb)
      have GU4 := Lib.hid (GU3.out.ext hb)
      have KS4 := Lib.hid (blk_ext hb KS3.out)
      have KA4 := Lib.hid (blk_ext hb KA3.out)
      have KB4 := Lib.hid (blk_ext hb KB3.out)
      clear hb DU3 GU3 KS3 KA3 KB3
      refine (newE ⟨#[105, 110]⟩ 26 u4 (by decide)).mono ?_
      rintro r u5 ⟨rfl, hu⟩
      obtain ⟨p, hx⟩ : ∃ x, u4.heap.size = x := ⟨_, rfl⟩
      have KP5 := Lib.hid (show u5.heap[p]? = some (.cells #[.string ⟨#[105, 110]⟩, .iface 23 (.int .i64 26)] 31 (0, 0)) from by rw [hu, ← hx]; exact blk_new _ _ _)
      have hb : Below u4.heap.size u4 u5 := by rw [hu]; exact (Below.refl _ _).alloc (Nat.le_refl _) _
      try rw [hx]
      clear hu hx
      have DU5 := Lib.hid (ext_trans DU4.out hb)
      have GU5 := Lib.hid (GU4.out.ext hb)
      have KS5 := Lib.hid (blk_ext hb KS4.out)
      have KA5 := Lib.hid (blk_ext hb KA4.out)
      have KB5 := Lib.hid (blk_ext hb KB4.out)
      have KN5 := Lib.hid (blk_ext hb KN4.out)
      clear hb DU4 GU4 KS4 KA4 KB4 KN4
      go_wp2_with fail
      obtain ⟨ab, hx⟩ : ∃ x, u5.heap.size = x := ⟨_, rfl⟩
      have KR6 := Lib.hid (show (u5.alloc (.cells #[.iface 51 (.pointer (some ⟨s, 0, none⟩)), .iface 29 (.pointer (some ⟨p, 0, none⟩))] 26)).heap[ab]? = some (.cells #[.iface 51 (.pointer (some ⟨s, 0, none⟩)), .iface 29 (.pointer (some ⟨p, 0, none⟩))] 26 (0, 0)) from by rw [← hx]; exact blk_new _ _ _)
      have hb : Below u5.heap.size u5 (u5.alloc (.cells #[.iface 51 (.pointer (some ⟨s, 0, none⟩)), .iface 29 (.pointer (some ⟨p, 0, none⟩))] 26)) := (Below.refl _ _).alloc (Nat.le_refl _) _
      try rw [hx]
      generalize (u5.alloc (.cells #[.iface 51 (.pointer (some ⟨s, 0, none⟩)), .iface 29 (.pointer (some ⟨p, 0, none⟩))] 26)) = u6 at *
      clear hx
      have DU6 := Lib.hid (ext_trans DU5.out hb)
      have GU6 := Lib.hid (GU5.out.ext hb)
      have KS6 := Lib.hid (blk_ext hb KS5.out)
      have KA6 := Lib.hid (blk_ext hb KA5.out)
      have KB6 := Lib.hid (blk_ext hb KB5.out)
      have KN6 := Lib.hid (blk_ext hb KN5.out)
      have KP6 := Lib.hid (blk_ext hb KP5.out)
      clear hb DU5 GU5 KS5 KA5 KB5 KN5 KP5
      refine (joinTwo ab s p u6 KR6.out).mono ?_
      rintro r u7 ⟨j, rfl, hj, hb⟩
      have KJ7 := Lib.hid hj
      clear hj
      have DU7 := Lib.hid (ext_trans DU6.out hb)
      have GU7 := Lib.hid (GU6.out.ext hb)
      have KS7 := Lib.hid (blk_ext hb KS6.out)
      have KA7 := Lib.hid (blk_ext hb KA6.out)
      have KB7 := Lib.hid (blk_ext hb KB6.out)
      have KN7 := Lib.hid (blk_ext hb KN6.out)
      have KP7 := Lib.hid (blk_ext hb KP6.out)
      have KR7 := Lib.hid (blk_ext hb KR6.out)
      clear hb DU6 GU6 KS6 KA6 KB6 KN6 KP6 KR6
      go_wp2_with fail
      refine (wrapJ ⟨#[122]⟩ ⟨j, 0, none⟩ u7).mono ?_
      rintro r u8 ⟨rfl, hu⟩
      obtain ⟨z, hx⟩ : ∃ x, u7.heap.size = x := ⟨_, rfl⟩
      have KZ8 := Lib.hid (show u8.heap[z]? = some (.cells #[.string ⟨#[122]⟩, .iface 55 (.pointer (some ⟨j, 0, none⟩))] 31 (0, 0)) from by rw [hu, ← hx]; exact blk_new _ _ _)
      have hb : Below u7.heap.size u7 u8 := by rw [hu]; exact (Below.refl _ _).alloc (Nat.le_refl _) _
      try rw [hx]
      clear hu hx
      have DU8 := Lib.hid (ext_trans DU7.out hb)
      have GU8 := Lib.hid (GU7.out.ext hb)
      have KS8 := Lib.hid (blk_ext hb KS7.out)
      have KA8 := Lib.hid (blk_ext hb KA7.out)
      have KB8 := Lib.hid (blk_ext hb KB7.out)
      have KN8 := Lib.hid (blk_ext hb KN7.out)
      have KP8 := Lib.hid (blk_ext hb KP7.out)
      have KR8 := Lib.hid (blk_ext hb KR7.out)
      have KJ8 := Lib.hid (KJ7.out.ext hb)
      clear hb DU7 GU7 KS7 KA7 KB7 KN7 KP7 KR7 KJ7
      obtain ⟨v, rfl⟩ : ∃ y : World, y = u8 := ⟨_, rfl⟩
      have HFW := Lib.hid (show FC v (.iface 51 (.pointer (some ⟨s, 0, none⟩))) [⟨#[120]⟩, ⟨#[121]⟩] (.iface 29 (.pointer (some ⟨b, 0, none⟩))) from ⟨b, _, rfl, KB8.out, a, _, rfl, KA8.out, rfl⟩)
      have HFN := Lib.hid (show FC v .nilIface [⟨#[97, 108, 111, 110, 101]⟩] (.iface 29 (.pointer (some ⟨n, 0, none⟩))) from ⟨n, _, rfl, KN8.out, rfl⟩)
      go_wp2_with fail
      refine (faultCode_miss [⟨#[120]⟩, ⟨#[121]⟩] (.iface 51 (.pointer (some ⟨s, 0, none⟩))) _ v (GU8.out.ext (Below.refl v.heap.size v)) (HFW.out.ext (Below.refl v.heap.size v)) (.str s ⟨#[111, 116, 104, 101, 114]⟩ (blk_ext (Below.refl v.heap.size v) KS8.out)) (fun c => by simp) (by simp) (by simp)).mono ?_
      rintro r w1 ⟨rfl, hb⟩
      have HB1 := Lib.hid (ext_trans (Below.refl v.heap.size v) hb)
      clear hb
      go_wp2_with fail
      refine (faultPath [⟨#[120]⟩, ⟨#[121]⟩] (.iface 51 (.pointer (some ⟨s, 0, none⟩))) _ w1 (GU8.out.ext HB1.out) (HFW.out.ext HB1.out) (.str s ⟨#[111, 116, 104, 101, 114]⟩ (blk_ext HB1.out KS8.out)) (by simp)).mono ?_
      rintro r w2 ⟨pv, rfl, ho, hb⟩
      have HB2 := Lib.hid (ext_trans HB1.out hb)
      clear hb
      have HP := Lib.hid (OwnT.tx ho)
      clear ho
      go_wp2_with fail
      refine (sameTexts pv (.slice (some ⟨w2.heap.size, 0, none⟩) 2 2) [⟨#[120]⟩, ⟨#[121]⟩] (w2.alloc (.cells #[.string ⟨#[120]⟩, .string ⟨#[121]⟩] 9)) (HP.out.ext ((Below.refl _ _).alloc (Nat.le_refl _) _)) (tx_two _ _ _ _)).mono ?_
      rintro r w3 ⟨rfl, hb⟩
      have HB3 := Lib.hid (ext_trans (HB2.out.alloc HB2.out.size _) hb)
      clear hb
      go_wp2_with fail
      refine (errIsS s ⟨#[111, 116, 104, 101, 114]⟩ [⟨#[120]⟩, ⟨#[121]⟩] _ w3 (blk_ext HB3.out KS8.out) (HFW.out.ext HB3.out)).mono ?_
      rintro r wx ⟨rfl, hw⟩
      obtain rfl := hw.symm
      go_wp2_with fail
      refine (faultError [⟨#[97, 108, 111, 110, 101]⟩] .nilIface ⟨#[]⟩ ⟨#[97, 108, 111, 110, 101, 58, 32]⟩ n w3 (GU8.out.ext HB3.out) (HFN.out.ext HB3.out) .nil (by simp) (by decide) (by decide) (fun w' _ => faultWords0 w')).mono ?_
      rintro r w4 ⟨rfl, hb⟩
      have HB4 := Lib.hid (ext_trans HB3.out hb)
      clear hb
      go_wp2_with fail
      refine (faultUnwrap n ⟨#[97, 108, 111, 110, 101]⟩ _ w4 (blk_ext HB4.out KN8.out)).mono ?_
      rintro r wx ⟨rfl, hw⟩
      obtain rfl := hw.symm
      go_wp2_with fail
      refine (faultCode_miss [⟨#[97, 108, 111, 110, 101]⟩] .nilIface _ w4 (GU8.out.ext HB4.out) (HFN.out.ext HB4.out) .nil (fun c => by simp) (by simp) (by simp)).mono ?_
      rintro r w5 ⟨rfl, hb⟩
      have HB5 := Lib.hid (ext_trans HB4.out hb)
      clear hb
      go_wp2_with fail
      refine (faultPath [⟨#[97, 108, 111, 110, 101]⟩] .nilIface _ w5 (GU8.out.ext HB5.out) (HFN.out.ext HB5.out) .nil (by simp)).mono ?_
      rintro r w6 ⟨pv2, rfl, ho, hb⟩
      have HB6 := Lib.hid (ext_trans HB5.out hb)
      clear hb
      have HP2 := Lib.hid (OwnT.tx ho)
      clear ho
      go_wp2_with fail
      refine (sameTexts pv2 (.slice (some ⟨w6.heap.size, 0, none⟩) 1 1) [⟨#[97, 108, 111, 110, 101]⟩] (w6.alloc (.cells #[.string ⟨#[97, 108, 111, 110, 101]⟩] 9)) (HP2.out.ext ((Below.refl _ _).alloc (Nat.le_refl _) _)) (tx_one _ _ _)).mono ?_
      rintro r w7 ⟨rfl, hb⟩
      have HB7 := Lib.hid (ext_trans (HB6.out.alloc HB6.out.size _) hb)
      clear hb
      go_wp2_with fail
      refine (code_zjoin z ⟨#[122]⟩ j s p ⟨#[111, 116, 104, 101, 114]⟩ ⟨#[105, 110]⟩ 26 w7 (GU8.out.ext HB7.out) (KJ8.out.ext HB7.out) (blk_ext HB7.out KS8.out) (blk_ext HB7.out KP8.out) (blk_ext HB7.out KZ8.out)).mono ?_
      rintro r w8 ⟨rfl, hb⟩
      have HB8 := Lib.hid (ext_trans HB7.out hb)
      clear hb
      go_wp2_with fail
      refine (path_zjoin z ⟨#[122]⟩ j s p ⟨#[111, 116, 104, 101, 114]⟩ ⟨#[105, 110]⟩ 26 w8 (GU8.out.ext HB8.out) (KJ8.out.ext HB8.out) (blk_ext HB8.out KS8.out) (blk_ext HB8.out KP8.out) (blk_ext HB8.out KZ8.out)).mono ?_
      rintro r w9 ⟨pv3, rfl, ho, hb⟩
      have HB9 := Lib.hid (ext_trans HB8.out hb)
      clear hb
      have HP3 := Lib.hid (OwnT.tx ho)
      clear ho
      go_wp2_with fail
      refine (sameTexts pv3 (.slice (some ⟨w9.heap.size, 0, none⟩) 2 2) [⟨#[122]⟩, ⟨#[105, 110]⟩] (w9.alloc (.cells #[.string ⟨#[122]⟩, .string ⟨#[105, 110]⟩] 9)) (HP3.out.ext ((Below.refl _ _).alloc (Nat.le_refl _) _)) (tx_two _ _ _ _)).mono ?_
      rintro r w10 ⟨rfl, hb⟩
      have HB10 := Lib.hid (ext_trans (HB9.out.alloc HB9.out.size _) hb)
      clear hb
      go_wp2_with fail
      refine (faultCode_hit [] 24 _ w10 (GU8.out.ext HB10.out) rfl (by simp)).mono ?_
      rintro r w11 ⟨rfl, hb⟩
      have HB11 := Lib.hid (ext_trans HB10.out hb)
      clear hb
      go_wp2_with fail
      refine (known1 w11 (GU8.out.ext HB11.out)).mono ?_
      rintro r w12 ⟨rfl, hb⟩
      have HB12 := Lib.hid (ext_trans HB11.out hb)
      clear hb
      go_wp2
      go_ret
      exact ⟨rfl, ext_trans HBW2.out (ext_trans DU8.out HB12.out)⟩
end Go.Proofs.YtllmkokloebomaaDoor
