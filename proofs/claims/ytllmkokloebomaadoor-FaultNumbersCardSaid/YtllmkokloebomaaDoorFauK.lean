/- FaultOthers. -/
import Derived.Test.YtllmkokloebomaaDoorFauJ
namespace Go.Proofs.YtllmkokloebomaaDoor
open Go.RowKit Go.Extern.Stop Go.Stop Go.Extern
set_option linter.unusedVariables false
set_option linter.unusedSimpArgs false

theorem neqF0 (v : Value) (w : World) : (binOp .neq 26 (.iface 29 v) .nilIface).run Tryd.prog w = .ok (.bool true) w := by kernel_rfl
theorem neqS0 (v : Value) (w : World) : (binOp .neq 26 (.iface 51 v) .nilIface).run Tryd.prog w = .ok (.bool true) w := by kernel_rfl
theorem TxAt.take {w : World} {a : Option Addr} {n c m : Nat} {ls : List ByteArray} (h : TxAt w (.slice a n c) ls) (hm : m ≤ n) : TxAt w (.slice a m c) (ls.take m) := by
  obtain ⟨a', c', h1, h2, h3, h4⟩ := h
  simp only [Value.slice.injEq] at h1
  obtain ⟨rfl, rfl, rfl⟩ := h1
  refine ⟨a, c, by rw [List.length_take, Nat.min_eq_left hm], by rw [List.length_take]; omega, h3, ?_⟩
  rcases h4 with h4 | ⟨b, o, h5, h6⟩
  · subst h4; exact .inl (by simp)
  · refine .inr ⟨b, o, h5, fun i s hi => h6 i s ?_⟩
    rw [List.getElem?_take] at hi
    split at hi
    · exact hi
    · cases hi
theorem FC.not_nilS {w : World} {a : Addr} {l : List ByteArray} {e : Value} (h : FC w (.iface 51 (.pointer (some a))) l e) : e ≠ .nilIface := by
  rintro rfl
  exact absurd (FC.base_nil h) (by simp)
theorem FC.not_noS {w : World} {a : Addr} {l : List ByteArray} {c : Int} (h : FC w (.iface 51 (.pointer (some a))) l (.iface 23 (.int .i64 c))) : False := by
  cases l with
  | nil => have : (Value.iface 23 (.int .i64 c)) = .iface 51 (.pointer (some a)) := h; simp at this
  | cons x l => obtain ⟨q, e', h1, -⟩ := h; simp at h1

set_option maxRecDepth 100000 in
set_option maxHeartbeats 4000000 in
theorem others_small (a : Option Addr) (n c : Nat) (ls : List ByteArray) (x : ByteArray) (w : World) (hG : EG w) (hx : TxAt w (.slice a n c) ls) (hn9 : n ≤ 9) :
    Calls Tryd.prog 6 #[.slice a n c, .string x] w fun r w' => r = .returned (.bool true) ∧ Below w.heap.size w w' := by

  obtain ⟨hl, hx⟩ : ls.length = n ∧ TxAt w (.slice a n c) ls := ⟨by obtain ⟨a', c', h1, -⟩ := hx; simp only [Value.slice.injEq] at h1; exact h1.2.1.symm, hx⟩

  have hn9 : n ≤ 9 := by omega
  have HG := Lib.hid hG
  have HX := Lib.hid hx
  have HL := Lib.hid hl
  have D1 := Lib.hid ((Below.refl w.heap.size w).alloc (Nat.le_refl _) (.cells #[.string x] 53))
  have HS1 := Lib.hid (blk_new w #[.string x] 53)
  obtain ⟨b, o, hxa⟩ : ∃ b o, n = 0 ∨ a = some ⟨b, o, none⟩ ∧ ∀ i s, ls[i]? = some s → w.cell? ⟨b, o + i, none⟩ = some (.string s) := by
    obtain ⟨a', c', h1, h2, h3, h4⟩ := hx
    simp only [Value.slice.injEq] at h1
    obtain ⟨rfl, h5, rfl⟩ := h1
    rcases h4 with h4 | ⟨b, o, h6, h7⟩
    · subst h4; exact ⟨0, 0, .inl (by simpa using hl.symm)⟩
    · exact ⟨b, o, .inr ⟨h6, h7⟩⟩
  have HXA := Lib.hid hxa
  clear hG hx hl hxa
  go_enter Tryd.func6, Tryd.ntmps6
  go_wp2_with fail
  refine (errNew x w).mono ?_
  rintro r w1 ⟨rfl, rfl⟩
  obtain ⟨sb, hsb⟩ : ∃ sb, w.heap.size = sb := ⟨_, rfl⟩
  rw [hsb] at HS1
  try rw [hsb]
  generalize (w.alloc (.cells #[.string x] 53)) = w1 at *
  go_wp2_with fail
  go_loopw [6, 7] (fun ev i wr => ∃ J : Nat, J ≤ n ∧ i = .int .i64 ((J : Int) - 1) ∧ FC wr (.iface 51 (.pointer (some ⟨sb, 0, none⟩))) (ls.drop J) ev ∧ Below w.heap.size w wr ∧ w1.heap.size ≤ wr.heap.size ∧ wr.heap[sb]? = some (.cells #[.string x] 53 (0, 0))) (fun _ i _ => (intOf i + 1).toNat)
  case atStart => exact ⟨n, by omega, rfl, by rw [List.drop_of_length_le (by rw [HL.out]; omega)]; rfl, D1.out, Nat.le_refl _, HS1.out⟩
  case round =>
    obtain ⟨v, rfl⟩ : ∃ y : World, y = wr := ⟨_, rfl⟩
    obtain ⟨J, hJ, rfl, hf, hb, hsz, hs⟩ := hrel
    have HF := Lib.hid hf
    have HW := Lib.hid hb
    have HS := Lib.hid hs
    have HSZ := Lib.hid hsz
    clear hf hb hs hsz
    have HL9 := Lib.hid (show ls.length ≤ 100 from by have := HL.out; omega)
    cases J with
    | succ K =>
      have hd0 : (0 ≤ ((K + 1 : Nat) : Int) - 1) = True := by simp
      obtain ⟨q, hq⟩ : ∃ q : Int, ((K + 1 : Nat) : Int) - 1 = q := ⟨_, rfl⟩
      have hqK : q = (K : Int) := by omega
      subst hqK
      rw [hq] at hd0 ⊢
      clear hq
      obtain ⟨s, hs⟩ : ∃ s, ls[K]? = some s := ⟨_, List.getElem?_eq_getElem (by rw [HL.out]; omega)⟩
      obtain ⟨rfl, hxx⟩ := HXA.out.resolve_left (by omega)
      have hxc := ext_cell HW.out (hxx K s hs)
      have hxl := cell_lt hxc
      have hdr : ls.drop K = s :: ls.drop (K + 1) := by
        rw [List.drop_eq_getElem_cons (by rw [HL.out]; omega)]
        rw [List.getElem?_eq_getElem (by rw [HL.out]; omega)] at hs
        cases hs; rfl
      have HDR := Lib.hid hdr
      have hne := FC.not_nilS HF.out
      clear hxx hs hdr
      go_wp2_with fail
      refine (faultWrap s (ls.drop (K + 1)) (.iface 51 (.pointer (some ⟨sb, 0, none⟩))) _ v (.str sb x HS.out) HF.out hne).mono ?_
      rintro r v2 ⟨e2, rfl, hf2, hb2⟩
      go_wp2_with fail
      go_roundw
      case rel => exact ⟨K, by omega, rfl, by rw [HDR.out]; exact hf2, ext_trans HW.out hb2, Nat.le_trans HSZ.out hb2.size, blk_ext hb2 HS.out⟩
      case measure => first | (simp [intOf]; done) | (simp [intOf]; omega)
    | zero =>
      have HG := Lib.hid (HG.out.ext HW.out)
      have HX := Lib.hid (HX.out.ext HW.out)
      rw [List.drop_zero] at HF
      rcases FC.shape (.str sb x HS.out) HF.out with rfl | ⟨p, rfl⟩ | ⟨p, rfl⟩ | ⟨p, rfl⟩
      · exact absurd (FC.base_nil HF.out) (by simp)
      · skip
        have hz := neqF0 (.pointer (some p))
        go_wp2_with fail
        refine (errIsS sb x ls (.iface 29 (.pointer (some p))) v (blk_ext (Below.refl v.heap.size v) HS.out) (HF.out.ext (Below.refl v.heap.size v))).mono ?_
        rintro r wx ⟨rfl, hw⟩
        obtain rfl := hw.symm
        go_wp2_with fail
        refine (faultCode_miss ls (.iface 51 (.pointer (some ⟨sb, 0, none⟩))) (.iface 29 (.pointer (some p))) v (HG.out.ext (Below.refl v.heap.size v)) (HF.out.ext (Below.refl v.heap.size v)) (.str _ _ (blk_ext (Below.refl v.heap.size v) HS.out)) (fun c => by simp) (by simp) HL9.out).mono ?_
        rintro r w1 ⟨rfl, hb⟩
        have HB1 := Lib.hid (ext_trans (Below.refl v.heap.size v) hb)
        clear hb
        go_wp2_with fail
        refine (faultPath ls (.iface 51 (.pointer (some ⟨sb, 0, none⟩))) (.iface 29 (.pointer (some p))) w1 (HG.out.ext HB1.out) (HF.out.ext HB1.out) (.str _ _ (blk_ext HB1.out HS.out)) HL9.out).mono ?_
        rintro r w2 ⟨pv, rfl, ho, hb⟩
        have HB2 := Lib.hid (ext_trans HB1.out hb)
        clear hb
        have HP := Lib.hid (OwnT.tx ho)
        clear ho
        go_wp2_with fail
        refine (sameTexts pv (.slice a n c) ls w2 HP.out (HX.out.ext HB2.out)).mono ?_
        rintro r w3 ⟨rfl, hb⟩
        have HB3 := Lib.hid (ext_trans HB2.out hb)
        clear hb
        go_wp2_with fail
        refine (faultHas 14 false ls (.iface 51 (.pointer (some ⟨sb, 0, none⟩))) (.iface 29 (.pointer (some p))) w3 (HF.out.ext HB3.out) (.str _ _ (blk_ext HB3.out HS.out)) HL9.out (.inr ⟨fun d => by simp, rfl⟩)).mono ?_
        rintro r w4 ⟨rfl, hb⟩
        have HB4 := Lib.hid (ext_trans HB3.out hb)
        clear hb
        go_wp2_with fail
        refine (known1 w4 (HG.out.ext HB4.out)).mono ?_
        rintro r w5 ⟨rfl, hb⟩
        have HB5 := Lib.hid (ext_trans HB4.out hb)
        clear hb
        go_wp2_with fail
        go_ret
        exact ⟨rfl, ext_trans HW.out HB5.out⟩
      · exfalso
        exact FC.not_noS HF.out
      · skip
        have hz := neqS0 (.pointer (some p))
        go_wp2_with fail
        refine (errIsS sb x ls (.iface 51 (.pointer (some p))) v (blk_ext (Below.refl v.heap.size v) HS.out) (HF.out.ext (Below.refl v.heap.size v))).mono ?_
        rintro r wx ⟨rfl, hw⟩
        obtain rfl := hw.symm
        go_wp2_with fail
        refine (faultCode_miss ls (.iface 51 (.pointer (some ⟨sb, 0, none⟩))) (.iface 51 (.pointer (some p))) v (HG.out.ext (Below.refl v.heap.size v)) (HF.out.ext (Below.refl v.heap.size v)) (.str _ _ (blk_ext (Below.refl v.heap.size v) HS.out)) (fun c => by simp) (by simp) HL9.out).mono ?_
        rintro r w1 ⟨rfl, hb⟩
        have HB1 := Lib.hid (ext_trans (Below.refl v.heap.size v) hb)
        clear hb
        go_wp2_with fail
        refine (faultPath ls (.iface 51 (.pointer (some ⟨sb, 0, none⟩))) (.iface 51 (.pointer (some p))) w1 (HG.out.ext HB1.out) (HF.out.ext HB1.out) (.str _ _ (blk_ext HB1.out HS.out)) HL9.out).mono ?_
        rintro r w2 ⟨pv, rfl, ho, hb⟩
        have HB2 := Lib.hid (ext_trans HB1.out hb)
        clear hb
        have HP := Lib.hid (OwnT.tx ho)
        clear ho
        go_wp2_with fail
        refine (sameTexts pv (.slice a n c) ls w2 HP.out (HX.out.ext HB2.out)).mono ?_
        rintro r w3 ⟨rfl, hb⟩
        have HB3 := Lib.hid (ext_trans HB2.out hb)
        clear hb
        go_wp2_with fail
        refine (faultHas 14 false ls (.iface 51 (.pointer (some ⟨sb, 0, none⟩))) (.iface 51 (.pointer (some p))) w3 (HF.out.ext HB3.out) (.str _ _ (blk_ext HB3.out HS.out)) HL9.out (.inr ⟨fun d => by simp, rfl⟩)).mono ?_
        rintro r w4 ⟨rfl, hb⟩
        have HB4 := Lib.hid (ext_trans HB3.out hb)
        clear hb
        go_wp2_with fail
        refine (known1 w4 (HG.out.ext HB4.out)).mono ?_
        rintro r w5 ⟨rfl, hb⟩
        have HB5 := Lib.hid (ext_trans HB4.out hb)
        clear hb
        go_wp2_with fail
        go_ret
        exact ⟨rfl, ext_trans HW.out HB5.out⟩


set_option maxRecDepth 100000 in
set_option maxHeartbeats 4000000 in
theorem others_cut (a : Option Addr) (m c : Nat) (ls : List ByteArray) (x : ByteArray) (w : World) (hG : EG w) (hx : TxAt w (.slice a 9 c) ls) (hm : 9 < m) (hmc : m ≤ c) (hcm : c ≤ 9223372036854775807) :
    Calls Tryd.prog 6 #[.slice a m c, .string x] w fun r w' => r = .returned (.bool true) ∧ Below w.heap.size w w' := by
  have hmd : ((m : Int) ≤ 9) = False := by simp; omega
  obtain ⟨h9, hx⟩ : ls.length = 9 ∧ TxAt w (.slice a 9 c) ls := ⟨by obtain ⟨a', c', h1, -⟩ := hx; simp only [Value.slice.injEq] at h1; exact h1.2.1.symm, hx⟩
  obtain ⟨n, hl, hn99⟩ : ∃ n, ls.length = n ∧ RowKit.Hid (9 = n) := ⟨9, h9, Lib.hid rfl⟩
  have hn9 : n ≤ 9 := by have := hn99.out; omega
  have HG := Lib.hid hG
  have HX := Lib.hid hx
  have HL := Lib.hid hl
  have D1 := Lib.hid ((Below.refl w.heap.size w).alloc (Nat.le_refl _) (.cells #[.string x] 53))
  have HS1 := Lib.hid (blk_new w #[.string x] 53)
  obtain ⟨b, o, hxa⟩ : ∃ b o, n = 0 ∨ a = some ⟨b, o, none⟩ ∧ ∀ i s, ls[i]? = some s → w.cell? ⟨b, o + i, none⟩ = some (.string s) := by
    obtain ⟨a', c', h1, h2, h3, h4⟩ := hx
    simp only [Value.slice.injEq] at h1
    obtain ⟨rfl, h5, rfl⟩ := h1
    rcases h4 with h4 | ⟨b, o, h6, h7⟩
    · subst h4; exact ⟨0, 0, .inl (by simpa using hl.symm)⟩
    · exact ⟨b, o, .inr ⟨h6, h7⟩⟩
  have HXA := Lib.hid hxa
  clear hG hx hl hxa
  go_enter Tryd.func6, Tryd.ntmps6
  go_wp2_with fail
  refine (errNew x w).mono ?_
  rintro r w1 ⟨rfl, rfl⟩
  obtain ⟨sb, hsb⟩ : ∃ sb, w.heap.size = sb := ⟨_, rfl⟩
  rw [hsb] at HS1
  try rw [hsb]
  generalize (w.alloc (.cells #[.string x] 53)) = w1 at *
  go_wp2_with fail
  go_loopw [6, 7] (fun ev i wr => ∃ J : Nat, J ≤ n ∧ i = .int .i64 ((J : Int) - 1) ∧ FC wr (.iface 51 (.pointer (some ⟨sb, 0, none⟩))) (ls.drop J) ev ∧ Below w.heap.size w wr ∧ w1.heap.size ≤ wr.heap.size ∧ wr.heap[sb]? = some (.cells #[.string x] 53 (0, 0))) (fun _ i _ => (intOf i + 1).toNat)
  case atStart => exact ⟨n, by omega, by rw [← hn99.out]; rfl, by rw [List.drop_of_length_le (by rw [HL.out]; omega)]; rfl, D1.out, Nat.le_refl _, HS1.out⟩
  case round =>
    obtain ⟨v, rfl⟩ : ∃ y : World, y = wr := ⟨_, rfl⟩
    obtain ⟨J, hJ, rfl, hf, hb, hsz, hs⟩ := hrel
    have HF := Lib.hid hf
    have HW := Lib.hid hb
    have HS := Lib.hid hs
    have HSZ := Lib.hid hsz
    clear hf hb hs hsz
    have HL9 := Lib.hid (show ls.length ≤ 100 from by have := HL.out; omega)
    cases J with
    | succ K =>
      have hd0 : (0 ≤ ((K + 1 : Nat) : Int) - 1) = True := by simp
      obtain ⟨q, hq⟩ : ∃ q : Int, ((K + 1 : Nat) : Int) - 1 = q := ⟨_, rfl⟩
      have hqK : q = (K : Int) := by omega
      subst hqK
      rw [hq] at hd0 ⊢
      clear hq
      obtain ⟨s, hs⟩ : ∃ s, ls[K]? = some s := ⟨_, List.getElem?_eq_getElem (by rw [HL.out]; omega)⟩
      obtain ⟨rfl, hxx⟩ := HXA.out.resolve_left (by omega)
      have hxc := ext_cell HW.out (hxx K s hs)
      have hxl := cell_lt hxc
      have hdr : ls.drop K = s :: ls.drop (K + 1) := by
        rw [List.drop_eq_getElem_cons (by rw [HL.out]; omega)]
        rw [List.getElem?_eq_getElem (by rw [HL.out]; omega)] at hs
        cases hs; rfl
      have HDR := Lib.hid hdr
      have hne := FC.not_nilS HF.out
      clear hxx hs hdr
      go_wp2_with fail
      refine (faultWrap s (ls.drop (K + 1)) (.iface 51 (.pointer (some ⟨sb, 0, none⟩))) _ v (.str sb x HS.out) HF.out hne).mono ?_
      rintro r v2 ⟨e2, rfl, hf2, hb2⟩
      go_wp2_with fail
      go_roundw
      case rel => exact ⟨K, by omega, rfl, by rw [HDR.out]; exact hf2, ext_trans HW.out hb2, Nat.le_trans HSZ.out hb2.size, blk_ext hb2 HS.out⟩
      case measure => first | (simp [intOf]; done) | (simp [intOf]; omega)
    | zero =>
      have HG := Lib.hid (HG.out.ext HW.out)
      have HX := Lib.hid (HX.out.ext HW.out)
      rw [List.drop_zero] at HF
      rcases FC.shape (.str sb x HS.out) HF.out with rfl | ⟨p, rfl⟩ | ⟨p, rfl⟩ | ⟨p, rfl⟩
      · exact absurd (FC.base_nil HF.out) (by simp)
      · skip
        have hz := neqF0 (.pointer (some p))
        go_wp2_with fail
        refine (errIsS sb x ls (.iface 29 (.pointer (some p))) v (blk_ext (Below.refl v.heap.size v) HS.out) (HF.out.ext (Below.refl v.heap.size v))).mono ?_
        rintro r wx ⟨rfl, hw⟩
        obtain rfl := hw.symm
        go_wp2_with fail
        refine (faultCode_miss ls (.iface 51 (.pointer (some ⟨sb, 0, none⟩))) (.iface 29 (.pointer (some p))) v (HG.out.ext (Below.refl v.heap.size v)) (HF.out.ext (Below.refl v.heap.size v)) (.str _ _ (blk_ext (Below.refl v.heap.size v) HS.out)) (fun c => by simp) (by simp) HL9.out).mono ?_
        rintro r w1 ⟨rfl, hb⟩
        have HB1 := Lib.hid (ext_trans (Below.refl v.heap.size v) hb)
        clear hb
        go_wp2_with fail
        refine (faultPath ls (.iface 51 (.pointer (some ⟨sb, 0, none⟩))) (.iface 29 (.pointer (some p))) w1 (HG.out.ext HB1.out) (HF.out.ext HB1.out) (.str _ _ (blk_ext HB1.out HS.out)) HL9.out).mono ?_
        rintro r w2 ⟨pv, rfl, ho, hb⟩
        have HB2 := Lib.hid (ext_trans HB1.out hb)
        clear hb
        have HP := Lib.hid (OwnT.tx ho)
        clear ho
        go_wp2_with fail
        refine (sameTexts pv (.slice a 9 c) ls w2 HP.out (HX.out.ext HB2.out)).mono ?_
        rintro r w3 ⟨rfl, hb⟩
        have HB3 := Lib.hid (ext_trans HB2.out hb)
        clear hb
        go_wp2_with fail
        refine (faultHas 14 false ls (.iface 51 (.pointer (some ⟨sb, 0, none⟩))) (.iface 29 (.pointer (some p))) w3 (HF.out.ext HB3.out) (.str _ _ (blk_ext HB3.out HS.out)) HL9.out (.inr ⟨fun d => by simp, rfl⟩)).mono ?_
        rintro r w4 ⟨rfl, hb⟩
        have HB4 := Lib.hid (ext_trans HB3.out hb)
        clear hb
        go_wp2_with fail
        refine (known1 w4 (HG.out.ext HB4.out)).mono ?_
        rintro r w5 ⟨rfl, hb⟩
        have HB5 := Lib.hid (ext_trans HB4.out hb)
        clear hb
        go_wp2_with fail
        go_ret
        exact ⟨rfl, ext_trans HW.out HB5.out⟩
      · exfalso
        exact FC.not_noS HF.out
      · skip
        have hz := neqS0 (.pointer (some p))
        go_wp2_with fail
        refine (errIsS sb x ls (.iface 51 (.pointer (some p))) v (blk_ext (Below.refl v.heap.size v) HS.out) (HF.out.ext (Below.refl v.heap.size v))).mono ?_
        rintro r wx ⟨rfl, hw⟩
        obtain rfl := hw.symm
        go_wp2_with fail
        refine (faultCode_miss ls (.iface 51 (.pointer (some ⟨sb, 0, none⟩))) (.iface 51 (.pointer (some p))) v (HG.out.ext (Below.refl v.heap.size v)) (HF.out.ext (Below.refl v.heap.size v)) (.str _ _ (blk_ext (Below.refl v.heap.size v) HS.out)) (fun c => by simp) (by simp) HL9.out).mono ?_
        rintro r w1 ⟨rfl, hb⟩
        have HB1 := Lib.hid (ext_trans (Below.refl v.heap.size v) hb)
        clear hb
        go_wp2_with fail
        refine (faultPath ls (.iface 51 (.pointer (some ⟨sb, 0, none⟩))) (.iface 51 (.pointer (some p))) w1 (HG.out.ext HB1.out) (HF.out.ext HB1.out) (.str _ _ (blk_ext HB1.out HS.out)) HL9.out).mono ?_
        rintro r w2 ⟨pv, rfl, ho, hb⟩
        have HB2 := Lib.hid (ext_trans HB1.out hb)
        clear hb
        have HP := Lib.hid (OwnT.tx ho)
        clear ho
        go_wp2_with fail
        refine (sameTexts pv (.slice a 9 c) ls w2 HP.out (HX.out.ext HB2.out)).mono ?_
        rintro r w3 ⟨rfl, hb⟩
        have HB3 := Lib.hid (ext_trans HB2.out hb)
        clear hb
        go_wp2_with fail
        refine (faultHas 14 false ls (.iface 51 (.pointer (some ⟨sb, 0, none⟩))) (.iface 51 (.pointer (some p))) w3 (HF.out.ext HB3.out) (.str _ _ (blk_ext HB3.out HS.out)) HL9.out (.inr ⟨fun d => by simp, rfl⟩)).mono ?_
        rintro r w4 ⟨rfl, hb⟩
        have HB4 := Lib.hid (ext_trans HB3.out hb)
        clear hb
        go_wp2_with fail
        refine (known1 w4 (HG.out.ext HB4.out)).mono ?_
        rintro r w5 ⟨rfl, hb⟩
        have HB5 := Lib.hid (ext_trans HB4.out hb)
        clear hb
        go_wp2_with fail
        go_ret
        exact ⟨rfl, ext_trans HW.out HB5.out⟩

end Go.Proofs.YtllmkokloebomaaDoor
