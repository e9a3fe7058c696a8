/- script.Text: acts as text. -/
import Derived.Test.YtcgembfdejjliaaGreatDoorScW
import Derived.Test.YtcgembfdejjliaaGreatDoorScB
import Derived.Test.YtcgembfdejjliaaGreatDoorScLib
namespace Go.Proofs.YtcgembfdejjliaaGreatDoor
open Go.RowKit
set_option linter.unusedVariables false
set_option linter.unusedSimpArgs false

def acEq (a b : Ac) : Bool := a.k == b.k && a.a == b.a && a.b == b.b && a.op == b.op && a.st == b.st && a.n == b.n && a.app.data.toList == b.app.data.toList
/-- what of an act stands in a text -/
def txA (a : Ac) : List UInt8 := match lineM (wrM a shs) with
  | some b => if acEq b a then (wrM a shs).data.toList ++ [10] else []
  | none => []
def txM (ls : List Ac) : List UInt8 := ls.flatMap txA
theorem kn4 : txM [⟨9, 1, 0, 0, 0, 0, ⟨#[120]⟩⟩, ⟨3, 0, 0, 0, 0, 3, ⟨#[]⟩⟩] = [108, 111, 111, 107, 32, 49, 32, 120, 10, 100, 114, 111, 112, 32, 51, 10] := by kernel_rfl
theorem tx_miss {ls : List Ac} {I : Nat} {a r : Ac} (ha : ls[I]? = some a) (hr : lineM (wrM a shs) = some r) (h : acEq r a = false) : txM (ls.take (I + 1)) = txM (ls.take I) := by
  unfold txM
  rw [List.take_add_one, ha, List.flatMap_append]
  simp [txA, hr, h]
theorem tx_hit {ls : List Ac} {I : Nat} {a r : Ac} (ha : ls[I]? = some a) (hr : lineM (wrM a shs) = some r) (h : acEq r a = true) : txM (ls.take (I + 1)) = txM (ls.take I) ++ ((wrM a shs).data.toList ++ [10]) := by
  unfold txM
  rw [List.take_add_one, ha, List.flatMap_append]
  simp [txA, hr, h]
/-- a row of acts as they lie -/
def ActsAt (w : World) (ad : Option Addr) (ls : List Ac) : Prop := ls = [] ∨ ∃ b o, ad = some ⟨b, o, none⟩ ∧ ∀ i a, ls[i]? = some a → ∀ q u, (aE a)[q]? = some u → w.cell? ⟨b, o + i * 7 + q, none⟩ = some u
theorem ActsAt.ext {w w' : World} {ad : Option Addr} {ls : List Ac} (h : ActsAt w ad ls) (hb : Below w.heap.size w w') : ActsAt w' ad ls := by
  rcases h with h | ⟨b, o, h1, h2⟩
  · exact .inl h
  · exact .inr ⟨b, o, h1, fun i a hi q u hq => ext_cell hb (h2 i a hi q u hq)⟩
theorem wrM_len (a : Ac) (ha : AcOk a) (hap : a.app.size ≤ 1000) : (wrM a shs).size ≤ 1048576 := by
  have h : ∀ l : List Sh, (∀ s ∈ l, s ∈ shs) → (wrM a l).size ≤ 1048576 := by
    intro l
    induction l with
    | nil => intro _; show 0 ≤ _; omega
    | cons s r ih =>
      intro hs
      unfold wrM
      split
      · have := join_len [32] 1000 ((s.w :: s.fs.data.toList.map (getM a)).map (·.data.toList)) (by
          intro x hx
          simp only [List.map_cons, List.map_map, List.mem_cons, List.mem_map, Function.comp] at hx
          rcases hx with rfl | ⟨f, _, rfl⟩
          · have := shs_wz s (hs s (by simp)); show s.w.size ≤ _; omega
          · have h1 := ito_len _ ha.1
            have h2 := ito_len _ ha.2.1
            have h3 := ito_len _ ha.2.2.1
            have h4 := ito_len _ ha.2.2.2
            show (getM a f).size ≤ _
            unfold getM
            repeat' split
            all_goals omega)
        have hz := shs_sz s (hs s (by simp))
        have hz2 : s.fs.data.toList.length = s.fs.size := rfl
        show (Lib.join _ _).toArray.size ≤ _
        simp only [List.length_map, List.length_cons, List.length_nil, List.size_toArray] at this ⊢
        rw [hz2] at this
        have h5 : (s.fs.size + 1) * (1000 + (0 + 1)) ≤ 4 * 1001 := Nat.mul_le_mul (by omega) (by omega)
        omega
      · exact ih fun z hz => hs z (List.mem_cons_of_mem _ hz)
  exact h shs fun s hs => hs

set_option maxRecDepth 100000 in
set_option maxHeartbeats 4000000 in
theorem textP (ls : List Ac) (hok : ∀ a ∈ ls, AcOk a ∧ a.app.size ≤ 1000) (hn : ls.length ≤ 1000) (ad : Option Addr) (c : Nat) (w : World) (hw : SW w) (hA : ActsAt w ad ls) :
    Calls Tryz.prog 10 #[.slice ad ls.length c] w fun e w' => e = .returned (.string ⟨(txM ls).toArray⟩) ∧ Below w.heap.size w w' := by
  obtain ⟨n, hnn⟩ : ∃ n, ls.length = n := ⟨_, rfl⟩
  have H := Lib.hid (show _ ∧ _ ∧ _ ∧ _ from ⟨hok, hA, hw, hnn⟩)
  rw [hnn] at hn ⊢
  clear hok hA hw hnn
  have hb1 : Below w.heap.size w (w.alloc (.cells #[.pointer none, .slice none 0 0] 53)) := (Below.refl _ _).alloc (Nat.le_refl _) _
  have hbd : Bd w.heap.size w.heap.size [] (w.alloc (.cells #[.pointer none, .slice none 0 0] 53)) := ⟨Nat.le_refl _, _, _, .inl rfl, blk_new _ _ _, rfl, .inl ⟨rfl, rfl⟩⟩
  have HB := Lib.hid (show _ ∧ _ from ⟨hb1, hbd⟩)
  clear hb1 hbd
  obtain ⟨q, hq⟩ : ∃ q, w.heap.size = q := ⟨_, rfl⟩
  go_enter Tryz.func10, Tryz.ntmps10
  go_wp2_with fail
  rw [hq] at HB
  have HQ := Lib.hid hq
  clear hq
  go_loopw [11] (fun i wr => ∃ I : Nat, I ≤ n ∧ i = .int .i64 (I : Int) ∧ Bd q q (txM (ls.take I)) wr ∧ Below q w wr ∧ (txM (ls.take I)).length ≤ I * 1048577) (fun i _ => n - (RowKit.intOf i).toNat)
  case atStart => exact ⟨0, by omega, rfl, HB.out.2, HB.out.1, by simp [txM]⟩
  case round =>
    obtain ⟨w2, rfl⟩ : ∃ y : World, y = wr := ⟨_, rfl⟩
    obtain ⟨I, hI, rfl, hbd, hb2, hlen⟩ := hrel
    have H2 := Lib.hid (show _ ∧ _ ∧ _ from ⟨hbd, hb2, hlen⟩)
    clear hbd hb2 hlen
    by_cases hlt : I < n
    · obtain ⟨a, ha⟩ : ∃ a, ls[I]? = some a := ⟨_, List.getElem?_eq_getElem (by have := H.out.2.2.2; omega)⟩
      have hne : ls ≠ [] := by rintro rfl; simp at ha
      obtain ⟨b, o, rfl, hxx⟩ := H.out.2.1.resolve_left hne
      have hq' : w.heap.size ≤ q := Nat.le_of_eq HQ.out
      have hx : ∀ i u, (aE a)[i]? = some u → w2.cell? ⟨b, o + I * 7 + i, none⟩ = some u := fun i u hu => ext_cell (H2.out.2.1.mono hq') (hxx I a ha i u hu)
      have x0 := hx 0 _ rfl
      have x1 := hx 1 _ rfl
      have x2 := hx 2 _ rfl
      have x3 := hx 3 _ rfl
      have x4 := hx 4 _ rfl
      have x5 := hx 5 _ rfl
      have x6 := hx 6 _ rfl
      rw [Nat.add_zero] at x0
      have lx := cell_lt x0
      have hok := H.out.1 a (List.mem_of_getElem? ha)
      have HA := Lib.hid (show _ ∧ _ from ⟨ha, hok⟩)
      clear hx hxx ha hne hok
      go_upto_region 5 with (fail)
      clear x0 x1 x2 x3 x4 x5 x6 lx
      have hb3 : Below w2.heap.size w2 (w2.alloc (.cells #[.int .i64 a.k, .int .i64 a.a, .int .i64 a.b, .int .i64 a.op, .int .i64 a.st, .int .i64 a.n, .string a.app] 29)) := (Below.refl _ _).alloc (Nat.le_refl _) _
      have hx3 := blk_new w2 #[.int .i64 a.k, .int .i64 a.a, .int .i64 a.b, .int .i64 a.op, .int .i64 a.st, .int .i64 a.n, .string a.app] 29
      have H3 := Lib.hid (show _ ∧ _ ∧ _ from ⟨H2.out.1.ext hb3, H2.out.2.1.trans (hb3.mono (by have := H2.out.2.1.size; have := HQ.out; omega)), hx3⟩)
      generalize (w2.alloc (.cells #[.int .i64 a.k, .int .i64 a.a, .int .i64 a.b, .int .i64 a.op, .int .i64 a.st, .int .i64 a.n, .string a.app] 29)) = w3 at *
      generalize w2.heap.size = t5 at *
      have c3 := blk_cell hx3
      have l3 := blk_lt hx3
      clear hb3 hx3
      go_wp2_with fail
      refine (writeP a HA.out.2.1 (by have := HA.out.2.2; omega) w3 (H.out.2.2.1.ext (H3.out.2.1.mono hq'))).mono ?_
      rintro e w4 ⟨rfl, hb4⟩
      have H4 := Lib.hid (show _ ∧ _ ∧ _ from ⟨H3.out.1.ext hb4, H3.out.2.1.trans (hb4.mono (by have := H3.out.2.1.size; have := HQ.out; omega)), blk_ext hb4 H3.out.2.2⟩)
      have hll := wrM_len a HA.out.2.1 HA.out.2.2
      clear hb4 H3 c3 l3
      go_wp2_with fail
      refine (lineP (wrM a shs) hll w4 (H.out.2.2.1.ext (H4.out.2.1.mono hq'))).mono ?_
      rintro e w5 ⟨ev, rfl, hb5, hsome, hnone⟩
      have H5 := Lib.hid (show _ ∧ _ ∧ _ from ⟨H4.out.1.ext hb5, H4.out.2.1.trans (hb5.mono (by have := H4.out.2.1.size; have := HQ.out; omega)), blk_ext hb5 H4.out.2.2⟩)
      clear hb5 H4
      cases hL : lineM (wrM a shs) with
      | some r =>
        rw [hL] at hsome
        obtain rfl : ev = .nilIface := hsome rfl
        clear hsome hnone
        simp only [Option.getD_some, acC]
        have hb6 : Below w5.heap.size w5 (w5.alloc (.cells #[.int .i64 r.k, .int .i64 r.a, .int .i64 r.b, .int .i64 r.op, .int .i64 r.st, .int .i64 r.n, .string r.app] 29)) := (Below.refl _ _).alloc (Nat.le_refl _) _
        have hx6 := blk_new w5 #[.int .i64 r.k, .int .i64 r.a, .int .i64 r.b, .int .i64 r.op, .int .i64 r.st, .int .i64 r.n, .string r.app] 29
        have H6 := Lib.hid (show _ ∧ _ ∧ _ ∧ _ from ⟨H5.out.1.ext hb6, H5.out.2.1.trans (hb6.mono (by have := H5.out.2.1.size; have := HQ.out; omega)), hx6, blk_ext hb6 H5.out.2.2⟩)
        clear hx6
        go_upto_region 7 with (fail)
        generalize (w5.alloc (.cells #[.int .i64 r.k, .int .i64 r.a, .int .i64 r.b, .int .i64 r.op, .int .i64 r.st, .int .i64 r.n, .string r.app] 29)) = w6 at *
        generalize w5.heap.size = t7 at *
        clear hb6 H5
        go_wp2_with fail
        refine (faultHas 12 false [] .nilIface .nilIface w6 rfl .nil (by simp) (.inr ⟨(fun d h => by cases h), rfl⟩)).mono ?_
        rintro e w7 ⟨rfl, hb7⟩
        have H7 := Lib.hid (show _ ∧ _ ∧ _ ∧ _ from ⟨H6.out.1.ext hb7, H6.out.2.1.trans (hb7.mono (by have := H6.out.2.1.size; have := HQ.out; omega)), blk_ext hb7 H6.out.2.2.1, blk_ext hb7 H6.out.2.2.2⟩)
        have c7 := blk_cell H7.out.2.2.1
        have l7 := blk_lt H7.out.2.2.1
        have c5 := blk_cell H7.out.2.2.2
        have l5 := blk_lt H7.out.2.2.2
        clear hb7 H6
        go_wp2_with fail
        case roundEnd => exact ⟨⟨I + 1, by omega, by go_num, by rw [tx_miss HA.out.1 hL (by simp_all [acEq, ByteArray.toList_eq])]; exact H7.out.1, H7.out.2.1, by rw [tx_miss HA.out.1 hL (by simp_all [acEq, ByteArray.toList_eq])]; exact Nat.le_trans H2.out.2.2 (Nat.mul_le_mul_right _ (Nat.le_succ _))⟩, by simp [RowKit.intOf]; omega⟩
        case roundEnd => exact ⟨⟨I + 1, by omega, by go_num, by rw [tx_miss HA.out.1 hL (by simp_all [acEq, ByteArray.toList_eq])]; exact H7.out.1, H7.out.2.1, by rw [tx_miss HA.out.1 hL (by simp_all [acEq, ByteArray.toList_eq])]; exact Nat.le_trans H2.out.2.2 (Nat.mul_le_mul_right _ (Nat.le_succ _))⟩, by simp [RowKit.intOf]; omega⟩
        case roundEnd => exact ⟨⟨I + 1, by omega, by go_num, by rw [tx_miss HA.out.1 hL (by simp_all [acEq, ByteArray.toList_eq])]; exact H7.out.1, H7.out.2.1, by rw [tx_miss HA.out.1 hL (by simp_all [acEq, ByteArray.toList_eq])]; exact Nat.le_trans H2.out.2.2 (Nat.mul_le_mul_right _ (Nat.le_succ _))⟩, by simp [RowKit.intOf]; omega⟩
        case roundEnd => exact ⟨⟨I + 1, by omega, by go_num, by rw [tx_miss HA.out.1 hL (by simp_all [acEq, ByteArray.toList_eq])]; exact H7.out.1, H7.out.2.1, by rw [tx_miss HA.out.1 hL (by simp_all [acEq, ByteArray.toList_eq])]; exact Nat.le_trans H2.out.2.2 (Nat.mul_le_mul_right _ (Nat.le_succ _))⟩, by simp [RowKit.intOf]; omega⟩
        case roundEnd => exact ⟨⟨I + 1, by omega, by go_num, by rw [tx_miss HA.out.1 hL (by simp_all [acEq, ByteArray.toList_eq])]; exact H7.out.1, H7.out.2.1, by rw [tx_miss HA.out.1 hL (by simp_all [acEq, ByteArray.toList_eq])]; exact Nat.le_trans H2.out.2.2 (Nat.mul_le_mul_right _ (Nat.le_succ _))⟩, by simp [RowKit.intOf]; omega⟩
        case roundEnd => exact ⟨⟨I + 1, by omega, by go_num, by rw [tx_miss HA.out.1 hL (by simp_all [acEq, ByteArray.toList_eq])]; exact H7.out.1, H7.out.2.1, by rw [tx_miss HA.out.1 hL (by simp_all [acEq, ByteArray.toList_eq])]; exact Nat.le_trans H2.out.2.2 (Nat.mul_le_mul_right _ (Nat.le_succ _))⟩, by simp [RowKit.intOf]; omega⟩
        case roundEnd => exact ⟨⟨I + 1, by omega, by go_num, by rw [tx_miss HA.out.1 hL (by simp_all [acEq, ByteArray.toList_eq])]; exact H7.out.1, H7.out.2.1, by rw [tx_miss HA.out.1 hL (by simp_all [acEq, ByteArray.toList_eq])]; exact Nat.le_trans H2.out.2.2 (Nat.mul_le_mul_right _ (Nat.le_succ _))⟩, by simp [RowKit.intOf]; omega⟩
        have hT := tx_hit HA.out.1 hL (by simp_all [acEq, ByteArray.toList_eq])
        have HT := Lib.hid hT
        have hlb := Nat.le_trans H2.out.2.2 (Nat.mul_le_mul_right 1048577 (show I ≤ 1000 by omega))
        have hqs := Nat.le_trans (Nat.le_of_eq HQ.out.symm) H7.out.2.1.size
        refine (bdStr q q (txM (ls.take I)) (wrM a shs) w7 H7.out.1 (Nat.le_trans (Nat.add_le_add hlb hll) (by decide)) hqs).mono ?_
        rintro e w8 ⟨rfl, hd8, hb8⟩
        have H8 := Lib.hid (show _ ∧ Below q w w8 from ⟨hd8, H7.out.2.1.trans hb8⟩)
        clear hd8 hb8 c7 l7 c5 l5 hT
        go_wp2_with fail
        have hl9 : (txM (ls.take I) ++ (wrM a shs).data.toList).length + 1 ≤ 140737488355328 := by
          rw [List.length_append]
          exact Nat.le_trans (Nat.add_le_add_right (Nat.add_le_add hlb hll) 1) (by decide)
        refine (bdByte q q _ 10 w8 H8.out.1 hl9 (Nat.le_trans (Nat.le_of_eq HQ.out.symm) H8.out.2.size)).mono ?_
        rintro e w9 ⟨rfl, hd9, hb9⟩
        have H9 := Lib.hid (show _ ∧ Below q w w9 from ⟨hd9, H8.out.2.trans hb9⟩)
        clear hd9 hb9 H8
        go_wp2_with fail
        exact ⟨⟨I + 1, by omega, by go_num, by rw [HT.out, ← List.append_assoc]; exact H9.out.1, H9.out.2, by
          rw [HT.out, List.length_append, List.length_append, Nat.add_mul, Nat.one_mul]
          exact Nat.add_le_add H2.out.2.2 (Nat.add_le_add_right hll 1)⟩, by simp [RowKit.intOf]; omega⟩
      | none =>
        have hf5 := hnone hL
        have hT : txM (ls.take (I + 1)) = txM (ls.take I) := by
          unfold txM
          rw [List.take_add_one, HA.out.1, List.flatMap_append]
          simp [txA, hL]
        have HT := Lib.hid hT
        clear hsome hnone hT hL
        simp only [Option.getD_none, acC, acZ]
        have hb6 : Below w5.heap.size w5 (w5.alloc (.cells #[.int .i64 0, .int .i64 0, .int .i64 0, .int .i64 0, .int .i64 0, .int .i64 0, .string ⟨#[]⟩] 29)) := (Below.refl _ _).alloc (Nat.le_refl _) _
        have H6 := Lib.hid (show _ ∧ _ ∧ _ from ⟨H5.out.1.ext hb6, H5.out.2.1.trans (hb6.mono (by have := H5.out.2.1.size; have := HQ.out; omega)), hf5.ext hb6⟩)
        go_upto_region 7 with (fail)
        generalize (w5.alloc (.cells #[.int .i64 0, .int .i64 0, .int .i64 0, .int .i64 0, .int .i64 0, .int .i64 0, .string ⟨#[]⟩] 29)) = w6 at *
        generalize w5.heap.size = t7 at *
        clear hb6 H5 hf5
        go_wp2_with fail
        refine (faultHas 12 true [hdw (wrM a shs)] (.iface 39 (.int .i64 12)) ev w6 H6.out.2.2 (.no 12) (by simp) (.inl ⟨12, rfl, rfl⟩)).mono ?_
        rintro e w7 ⟨rfl, hb7⟩
        have H7 := Lib.hid (show _ ∧ _ from ⟨H6.out.1.ext hb7, H6.out.2.1.trans (hb7.mono (by have := H6.out.2.1.size; have := HQ.out; omega))⟩)
        clear hb7 H6
        go_wp2_with fail
        exact ⟨⟨I + 1, by omega, by go_num, by rw [HT.out]; exact H7.out.1, H7.out.2, by rw [HT.out]; exact Nat.le_trans H2.out.2.2 (Nat.mul_le_mul_right _ (Nat.le_succ _))⟩, by simp [RowKit.intOf]; omega⟩
    · obtain rfl : I = n := by omega
      have he : ls.take I = ls := List.take_of_length_le (by have := H.out.2.2.2; omega)
      have HE := Lib.hid he
      clear he
      go_wp2_with fail
      refine (Tryz.Builder_String_any_k q q (txM (ls.take I)) w2 (Lib.IsBuilderF.of H2.out.1.is) (by have := H2.out.2.1.size; have := HQ.out; omega)).mono ?_
      rintro e w3 ⟨rfl, -, hb3, -⟩
      have H3 := Lib.hid (H2.out.2.1.trans hb3)
      clear hb3
      go_wp2_with fail
      go_ret
      exact ⟨by rw [HE.out]; rfl, by rw [HQ.out]; exact H3.out⟩
end Go.Proofs.YtcgembfdejjliaaGreatDoor
