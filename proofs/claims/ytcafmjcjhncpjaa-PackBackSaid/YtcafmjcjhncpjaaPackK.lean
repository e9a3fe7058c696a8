/- Layer 2's laws, walked: PackBack. -/
import Derived.Test.YtcafmjcjhncpjaaPackT
import Derived.Test.YtcafmjcjhncpjaaStrs
import Derived.Test.YtcafmjcjhncpjaaChain
namespace Go.Proofs.Ytcafmjcjhncpjaa
open Go.RowKit
set_option linter.unusedVariables false

noncomputable def c100 (s : ByteArray) : ByteArray := if 100 < s.size then s.extract 0 100 else s
theorem c100_le (s : ByteArray) : (c100 s).size ≤ 100 := by
  unfold c100
  split
  · simp only [ByteArray.size_extract]; omega
  · omega
/-- what is packed of a number and a text -/
def one (z : Int) (s : ByteArray) (i : Nat) : List Int := be z ++ (txt s ++ [(i : Int) % 256])
noncomputable def backs (zs : List Int) (ss : Nat → ByteArray) : Nat → List Int
  | 0 => []
  | p + 1 => backs zs ss p ++ one (zs.getD p 0) (c100 (ss p)) p
noncomputable def rest (zs : List Int) (ss : Nat → ByteArray) : Nat → Nat → List Int
  | _, 0 => []
  | q, n + 1 => one (zs.getD q 0) (c100 (ss q)) q ++ rest zs ss (q + 1) n
theorem backs_rest (zs : List Int) (ss : Nat → ByteArray) (q n : Nat) : backs zs ss (q + n) = backs zs ss q ++ rest zs ss q n := by
  induction n generalizing q with
  | zero => simp [rest]
  | succ n ih =>
    rw [show q + (n + 1) = q + 1 + n from by omega, ih (q + 1)]
    simp [backs, rest]
theorem one_len (z : Int) (s : ByteArray) (i : Nat) (h : s.size ≤ 100) : (one z s i).length ≤ 110 := by
  simp only [one, List.length_append, be_len, txt_len, cut255_len, List.length_cons, List.length_nil]; omega
theorem one_wb (z : Int) (s : ByteArray) (i : Nat) : Wb (one z s i) := (be_wb z).app ((txt_wb s).app (Wb.one (Int.emod_nonneg _ (by omega)) (Int.emod_lt_of_pos _ (by omega))))
theorem backs_len (zs : List Int) (ss : Nat → ByteArray) (p : Nat) : (backs zs ss p).length ≤ 110 * p := by
  induction p with
  | zero => simp [backs]
  | succ p ih => simp only [backs, List.length_append]; have := one_len (zs.getD p 0) (c100 (ss p)) p (c100_le _); omega
theorem backs_wb (zs : List Int) (ss : Nat → ByteArray) (p : Nat) : Wb (backs zs ss p) := by
  induction p with
  | zero => exact Wb.nil
  | succ p ih => exact ih.app (one_wb _ _ _)
theorem dn_one (z : Int) (s : ByteArray) (i : Nat) (ys : List Int) : dn' (one z s i ++ ys, false) = false := by simp [dn', one, be]
theorem one_int (z : Int) (s : ByteArray) (i : Nat) (ys : List Int) (h0 : -9223372036854775808 ≤ z) (h1 : z ≤ 9223372036854775807) : tInt (one z s i ++ ys, false) = (z, (txt s ++ ([(i : Int) % 256] ++ ys), false)) := by
  unfold tInt
  rw [tk_ok rfl (by simp only [one, List.length_append, be_len]; omega)]
  simp only [one, List.append_assoc]
  rw [List.take_append_of_le_length (by rw [be_len]; omega), List.take_of_length_le (by rw [be_len]; omega), rd_be z h0 h1, List.drop_append_of_le_length (by rw [be_len]; omega), List.drop_of_length_le (by rw [be_len]; omega)]
  rfl
theorem one_text (s : ByteArray) (i : Nat) (ys : List Int) (h : s.size ≤ 255) : tText (txt s ++ ([(i : Int) % 256] ++ ys), false) = (s, ([(i : Int) % 256] ++ ys, false)) := by
  have hc : cut255 s = sb s := by unfold cut255; exact List.take_of_length_le (by rw [sb_len]; omega)
  have e1 : tByte (txt s ++ ([(i : Int) % 256] ++ ys), false) = ((s.size : Int), (sb s ++ ([(i : Int) % 256] ++ ys), false)) := by
    unfold tByte
    rw [tk_ok rfl (by simp only [List.length_append, txt_len]; omega)]
    simp [txt, hc, sb_len]
  unfold tText
  rw [e1]
  simp only [Int.toNat_natCast]
  rw [tk_ok rfl (by simp [sb_len])]
  have e2 : (sb s ++ ([(i : Int) % 256] ++ ys)).take s.size = sb s := by rw [List.take_append_of_le_length (by rw [sb_len]; omega), List.take_of_length_le (by rw [sb_len]; omega)]
  have e3 : (sb s ++ ([(i : Int) % 256] ++ ys)).drop s.size = [(i : Int) % 256] ++ ys := by rw [List.drop_append_of_le_length (by rw [sb_len]; omega), List.drop_of_length_le (by rw [sb_len]; omega)]; rfl
  rw [e2, e3, str_sb]
theorem one_byte (i : Nat) (ys : List Int) (h : i < 256) : tByte ([(i : Int) % 256] ++ ys, false) = ((i : Int), (ys, false)) := by
  unfold tByte
  rw [tk_ok rfl (by simp)]
  simp; omega

theorem b1 : tByte ([], false) = (0, ([], true)) := by decide +kernel

set_option maxRecDepth 100000 in
set_option maxHeartbeats 4000000 in
theorem packBack_walk (a0 : Option Addr) (len cap : Nat) (zs : List Int) (sa : Option Addr) (lens caps : Nat) (ss : Nat → ByteArray) (w : World) (h0 : IsRow .i64 w a0 len cap zs) (hr0 : len * 8 ≤ 140737488351232) (h1 : IsTexts w sa lens caps ss) :
    Calls Try.prog 5 #[.slice a0 len cap, .slice sa lens caps] w fun e w' => e = .returned (.bool true) ∧ Below w.heap.size w w' := by
  have H0 := Lib.hid h0
  have H1 := Lib.hid h1
  have hcap := h0.1
  have hmx := h0.2.1
  have hcap1 := h1.1
  have hmx1 := h1.2.1
  unfold maxLen at hmx hmx1
  clear h0 h1
  go_enter Try.func5, Try.ntmps5
  go_wp2_with fail
  go_loopw [5, 6, 7] (fun v k i wr => ∃ (p : Nat) (a : Option Addr) (c : Nat), p ≤ len ∧ p ≤ lens ∧ p ≤ 20 ∧ i = .int .i64 (p : Int) ∧ k = .int .i64 (p : Int) ∧ v = .slice a (backs zs ss p).length c ∧ BAt wr a (backs zs ss p) ∧ Below w.heap.size w wr) (fun _ _ i _ => 20 - (intOf i).toNat)
  case atStart => exact ⟨0, none, 0, by omega, by omega, by omega, rfl, rfl, rfl, .inl rfl, Below.refl _ _⟩
  case round =>
    obtain ⟨w1, rfl⟩ : ∃ y : World, y = wr := ⟨_, rfl⟩
    obtain ⟨p, a, c, hp1, hp2, hp3, rfl, rfl, rfl, hA, B1⟩ := hrel
    have HA := Lib.hid hA
    have hbl := backs_len zs ss p
    clear hA
    by_cases hgo : p < len ∧ p < lens ∧ p < 20
    · obtain ⟨hg1, hg2, hg3⟩ := hgo
      obtain ⟨nb, no, rfl, hz⟩ := H0.out.2.2.2.2.resolve_left (by omega)
      obtain ⟨sbk, so, rfl, hss⟩ := H1.out.2.2.2.resolve_left (by omega)
      have hx := ext_cell B1 (hz p hg1)
      have hs := ext_cell B1 (hss p hg2)
      have hsz := H1.out.2.2.1 p hg2
      unfold maxLen at hsz
      obtain ⟨x, hxe⟩ : ∃ x, x = zs.getD p 0 := ⟨_, rfl⟩
      obtain ⟨s, hse⟩ : ∃ s, s = ss p := ⟨_, rfl⟩
      rw [← hxe] at hx
      rw [← hse] at hs hsz
      have HX := Lib.hid hxe
      have HSE := Lib.hid hse
      clear hz hss hxe hse
      have hd1 : decide ((p : Int) < len) = true := by simp; omega
      have hd2 : decide ((p : Int) < lens) = true := by simp; omega
      by_cases hg : 100 < s.size
      · obtain ⟨q, hq, hq1⟩ : ∃ q, s.extract 0 100 = q ∧ q.size ≤ 100 := ⟨_, rfl, by simp; omega⟩
        have HQ := Lib.hid (show c100 (ss p) = q by rw [← HSE.out]; unfold c100; rw [if_pos hg]; exact hq)
        go_wp2_with fail
        refine (packInt a _ c x (backs zs ss p) _ HA.out rfl (by omega)).mono ?_
        rintro e w2 ⟨v2, rfl, ho, hb⟩
        have B2 := ext_trans B1 hb
        obtain ⟨y2, hy2⟩ : ∃ y, y = backs zs ss p ++ be x := ⟨_, rfl⟩
        have L2 : y2.length ≤ 110 * p + 8 := by rw [hy2, List.length_append, be_len]; omega
        rw [← hy2] at ho
        obtain ⟨a2, c2, rfl, -, -, -, h4, -, -⟩ := own_read ho
        have H4 := Lib.hid h4
        have HY2 := Lib.hid hy2
        clear ho hb h4 hy2
        go_wp2_with fail
        refine (packText a2 _ c2 q y2 _ H4.out rfl (by omega) (by unfold maxLen; omega)).mono ?_
        rintro e w3 ⟨v3, rfl, ho, hb⟩
        have B3 := ext_trans B2 hb
        obtain ⟨y3, hy3⟩ : ∃ y, y = y2 ++ txt q := ⟨_, rfl⟩
        have L3 : y3.length ≤ 110 * p + 109 := by rw [hy3, List.length_append, txt_len, cut255_len]; omega
        rw [← hy3] at ho
        obtain ⟨a3, c3, rfl, -, -, -, h5, -, -⟩ := own_read ho
        have H5 := Lib.hid h5
        have HY3 := Lib.hid hy3
        clear ho hb h5 hy3
        go_wp2_with fail
        refine (packByte a3 _ c3 p y3 _ H5.out rfl (by omega)).mono ?_
        rintro e w4 ⟨v4, rfl, ho, hb⟩
        have B4 := ext_trans B3 hb
        have hy4 : y3 ++ [(p : Int) % 256] = backs zs ss (p + 1) := by rw [HY3.out, HY2.out, HX.out]; simp [backs, one, HQ.out]
        rw [hy4] at ho
        obtain ⟨a4, c4, rfl, -, -, -, h6, -, -⟩ := own_read ho
        have H6 := Lib.hid h6
        clear ho hb h6 hy4
        obtain ⟨n4, hn4⟩ : ∃ n, (backs zs ss (p + 1)).length = n := ⟨_, rfl⟩
        have HN4 := Lib.hid hn4
        rw [hn4]
        clear hn4 hx hs
        go_wp2
        go_roundw
        case rel => exact ⟨p + 1, a4, c4, by omega, by omega, by omega, by go_num, by go_num, by rw [HN4.out], H6.out, B4⟩
        case measure => simp [intOf]; omega
      · have hq1 : s.size ≤ 100 := by omega
        have HQ := Lib.hid (show c100 (ss p) = s by rw [← HSE.out]; unfold c100; rw [if_neg hg])
        go_wp2_with fail
        refine (packInt a _ c x (backs zs ss p) _ HA.out rfl (by omega)).mono ?_
        rintro e w2 ⟨v2, rfl, ho, hb⟩
        have B2 := ext_trans B1 hb
        obtain ⟨y2, hy2⟩ : ∃ y, y = backs zs ss p ++ be x := ⟨_, rfl⟩
        have L2 : y2.length ≤ 110 * p + 8 := by rw [hy2, List.length_append, be_len]; omega
        rw [← hy2] at ho
        obtain ⟨a2, c2, rfl, -, -, -, h4, -, -⟩ := own_read ho
        have H4 := Lib.hid h4
        have HY2 := Lib.hid hy2
        clear ho hb h4 hy2
        go_wp2_with fail
        refine (packText a2 _ c2 s y2 _ H4.out rfl (by omega) (by unfold maxLen; omega)).mono ?_
        rintro e w3 ⟨v3, rfl, ho, hb⟩
        have B3 := ext_trans B2 hb
        obtain ⟨y3, hy3⟩ : ∃ y, y = y2 ++ txt s := ⟨_, rfl⟩
        have L3 : y3.length ≤ 110 * p + 109 := by rw [hy3, List.length_append, txt_len, cut255_len]; omega
        rw [← hy3] at ho
        obtain ⟨a3, c3, rfl, -, -, -, h5, -, -⟩ := own_read ho
        have H5 := Lib.hid h5
        have HY3 := Lib.hid hy3
        clear ho hb h5 hy3
        go_wp2_with fail
        refine (packByte a3 _ c3 p y3 _ H5.out rfl (by omega)).mono ?_
        rintro e w4 ⟨v4, rfl, ho, hb⟩
        have B4 := ext_trans B3 hb
        have hy4 : y3 ++ [(p : Int) % 256] = backs zs ss (p + 1) := by rw [HY3.out, HY2.out, HX.out]; simp [backs, one, HQ.out]
        rw [hy4] at ho
        obtain ⟨a4, c4, rfl, -, -, -, h6, -, -⟩ := own_read ho
        have H6 := Lib.hid h6
        clear ho hb h6 hy4
        obtain ⟨n4, hn4⟩ : ∃ n, (backs zs ss (p + 1)).length = n := ⟨_, rfl⟩
        have HN4 := Lib.hid hn4
        rw [hn4]
        clear hn4 hx hs
        go_wp2
        go_roundw
        case rel => exact ⟨p + 1, a4, c4, by omega, by omega, by omega, by go_num, by go_num, by rw [HN4.out], H6.out, B4⟩
        case measure => simp [intOf]; omega
    · have hcases : (decide ((p : Int) < len) = false ∧ ¬ p < len) ∨ (decide ((p : Int) < len) = true ∧ p < len ∧ decide ((p : Int) < lens) = false ∧ ¬ p < lens) ∨ (decide ((p : Int) < len) = true ∧ p < len ∧ decide ((p : Int) < lens) = true ∧ p < lens ∧ decide ((p : Int) < 20) = false ∧ ¬ p < 20) := by
        simp; omega
      have hend : (Code.skip).wp Try.prog (fun _ _ _ => True) { tmps := #[], defers := [] } w1 ∨ True := .inr trivial
      clear hgo hend
      rcases hcases with ⟨hd1, hd1'⟩ | ⟨hd1, hd1', hd2, hd2'⟩ | ⟨hd1, hd1', hd2, hd2', hd3, hd3'⟩
      all_goals
        go_wp2_with fail
        refine (packNew a _ c (backs zs ss p) _ HA.out rfl (by omega) (backs_wb zs ss p)).mono ?_
        rintro e w2 ⟨rb, rfl, hrb, hP, hb⟩
        have D2 := ext_trans B1 hb
        have hrb1 : w.heap.size ≤ rb := by have := B1.size; omega
        have hbr : backs zs ss p = rest zs ss 0 p := by have := backs_rest zs ss 0 p; rw [Nat.zero_add] at this; rw [this]; rfl
        rw [hbr] at hP
        have P2 := Lib.hid hP
        clear hP hb hrb hbr
        go_wp2_with fail
        go_loopw [10] (fun i wr => ∃ q : Nat, q ≤ p ∧ i = .int .i64 (q : Int) ∧ RdAt 46 wr rb (rest zs ss q (p - q), false) ∧ Below w.heap.size w wr) (fun i _ => p - (intOf i).toNat)
        case atStart => exact ⟨0, by omega, rfl, P2.out, D2⟩
        case round =>
          obtain ⟨w3, rfl⟩ : ∃ y : World, y = wr := ⟨_, rfl⟩
          obtain ⟨q, hqp, rfl, hP, D3⟩ := hrel
          clear P2 D2
          by_cases hlt : q < p
          · obtain ⟨n, hn⟩ : ∃ n, p - q = n + 1 := ⟨p - q - 1, by omega⟩
            rw [hn] at hP
            simp only [rest] at hP
            obtain ⟨ys, hys⟩ : ∃ ys, rest zs ss (q + 1) n = ys := ⟨_, rfl⟩
            rw [hys] at hP
            have HYS := Lib.hid hys
            have hn' : n = p - (q + 1) := by omega
            have hnle : n + 1 + q = p := by omega
            clear hys hn hn'
            obtain ⟨nb, no, rfl, hz⟩ := H0.out.2.2.2.2.resolve_left (by omega)
            obtain ⟨sbk, so, rfl, hss⟩ := H1.out.2.2.2.resolve_left (by omega)
            have hx0 := hz q (by omega)
            have hs0 := hss q (by omega)
            have hsz := H1.out.2.2.1 q (by omega)
            unfold maxLen at hsz
            have hwx := bounds_i64 (getD_wf (j := q) H0.out.2.2.2.1)
            generalize zs.getD q 0 = x at hx0 hwx hP
            have P3 := Lib.hid hP
            have HX0 := Lib.hid hx0
            have hx := ext_cell D3 hx0
            have hs := ext_cell D3 hs0
            have HNL := Lib.hid hnle
            obtain ⟨hw1, hw2⟩ := hwx
            have hwx : -9223372036854775808 ≤ x ∧ x ≤ 9223372036854775807 := ⟨hw1, hw2⟩
            have HWX := Lib.hid hwx
            clear hz hss hP hx0 hs0 hnle hwx hw1 hw2
            by_cases hg : 100 < (ss q).size
            · obtain ⟨t, ht, ht1⟩ : ∃ t, (ss q).extract 0 100 = t ∧ t.size ≤ 100 := ⟨_, rfl, by simp; omega⟩
              have HQ := Lib.hid (show c100 (ss q) = t by unfold c100; rw [if_pos hg]; exact ht)
              go_wp2_with fail
              haveI hIc : Nonempty (In (fun W : World => W.cell? ⟨nb, no + q, none⟩ = some (.int .i64 x))) := ⟨⟨_, hx⟩⟩
              have hF0 : ∀ g : In (fun W : World => W.cell? ⟨nb, no + q, none⟩ = some (.int .i64 x)), g.w.cell? ⟨nb, no + q, none⟩ = some (.int .i64 x) := fun g => g.h
              refine wp_region_chain (fun w' => ∃ g : In (fun W : World => W.cell? ⟨nb, no + q, none⟩ = some (.int .i64 x)), w' = g.w) (by kernel_rfl) (by kernel_rfl) (by kernel_rfl) ?_
              refine wpG_letter (fun W => RdAt 46 W rb (one x (c100 (ss q)) q ++ ys, false) ∧ Below w.heap.size w W ∧ W.cell? ⟨nb, no + q, none⟩ = some (.int .i64 x)) ⟨P3.out.ext (Below.refl _ _).drew, D3.drew, hx⟩ ?_
              rintro x0 ⟨q0, d0, k0⟩
              repeat (refine wpG_plain (by rfl) (by rfl) (fun K hK => ?_); go_big_quiet_op; refine hK _ ?_; clear hK K)
              refine wpG_call (by rfl) (by rfl) ⟨⟨_, k0⟩, rfl⟩ (fun K hK => ?_)
              go_big_op
              refine (packRDone rb _ _ q0).mono ?_
              rintro e x1 ⟨rfl, rfl⟩
              rw [dn_one]
              refine hK _ _ ?_
              clear hK K
              repeat (refine wpG_plain (by rfl) (by rfl) (fun K hK => ?_); go_big_quiet_op; refine hK _ ?_; clear hK K)
              refine wpG_call (by rfl) (by rfl) ⟨⟨_, k0⟩, rfl⟩ (fun K hK => ?_)
              go_big_op
              refine (packRInt rb _ _ q0).mono ?_
              rintro e x1 ⟨rfl, hP, hK1⟩
              rw [one_int x (c100 (ss q)) q ys HWX.out.1 HWX.out.2] at hP ⊢
              have d1 := d0.trans (hK1.below hrb1)
              have k1 := ext_cell d1 HX0.out
              refine hK _ _ ?_
              clear hK K hK1 q0 d0 k0
              repeat (refine wpG_plain (by rfl) (by rfl) (fun K hK => ?_); go_big_quiet_op; refine hK _ ?_; clear hK K)
              refine wpG_call (by rfl) (by rfl) ⟨⟨_, k1⟩, rfl⟩ (fun K hK => ?_)
              go_big_op
              refine (packRText rb _ _ hP).mono ?_
              rintro e x2 ⟨rfl, hP2, hK1⟩
              rw [one_text (c100 (ss q)) q ys (Nat.le_trans (c100_le _) (by omega))] at hP2 ⊢
              rw [HQ.out] at *
              have d2 := d1.trans (hK1.below hrb1)
              have k2 := ext_cell d2 HX0.out
              refine hK _ _ ?_
              clear hK K hK1 hP d1 k1
              repeat (refine wpG_plain (by rfl) (by rfl) (fun K hK => ?_); go_big_quiet_op; refine hK _ ?_; clear hK K)
              refine wpG_call (by rfl) (by rfl) ⟨⟨_, k2⟩, rfl⟩ (fun K hK => ?_)
              go_big_op
              refine (packRByte rb _ _ hP2).mono ?_
              rintro e x3 ⟨rfl, hP3, hK1⟩
              rw [one_byte q ys (by omega)] at hP3 ⊢
              have d3 := d2.trans (hK1.below hrb1)
              have k3 := ext_cell d3 HX0.out
              refine hK _ _ ?_
              clear hK K hK1 hP2 d2 k2
              repeat (refine wpG_plain (by rfl) (by rfl) (fun K hK => ?_); go_big_quiet_op; refine hK _ ?_; clear hK K)
              refine wpG_call (by rfl) (by rfl) ⟨⟨_, k3⟩, rfl⟩ (fun K hK => ?_)
              go_big_op
              refine (packRBad rb _ _ hP3).mono ?_
              rintro e x4 ⟨rfl, rfl⟩
              refine hK _ _ ?_
              clear hK K
              repeat (refine wpG_plain (by rfl) (by rfl) (fun K hK => ?_); go_big_quiet_op; refine hK _ ?_; clear hK K)
              refine wpG_nil ⟨⟨_, k3⟩, rfl⟩ ?_
              clear hF0 hIc
              have P5 := Lib.hid hP3
              clear hP3 k3
              go_wp2
              go_roundw
              case rel => exact ⟨q + 1, by omega, by go_num, by rw [show p - (q + 1) = n from by have := HNL.out; omega, HYS.out]; exact P5.out, d3⟩
              case measure => simp [intOf]; omega
            · have HQ := Lib.hid (show c100 (ss q) = ss q by unfold c100; rw [if_neg hg])
              go_wp2_with fail
              haveI hIc : Nonempty (In (fun W : World => W.cell? ⟨nb, no + q, none⟩ = some (.int .i64 x))) := ⟨⟨_, hx⟩⟩
              have hF0 : ∀ g : In (fun W : World => W.cell? ⟨nb, no + q, none⟩ = some (.int .i64 x)), g.w.cell? ⟨nb, no + q, none⟩ = some (.int .i64 x) := fun g => g.h
              refine wp_region_chain (fun w' => ∃ g : In (fun W : World => W.cell? ⟨nb, no + q, none⟩ = some (.int .i64 x)), w' = g.w) (by kernel_rfl) (by kernel_rfl) (by kernel_rfl) ?_
              refine wpG_letter (fun W => RdAt 46 W rb (one x (c100 (ss q)) q ++ ys, false) ∧ Below w.heap.size w W ∧ W.cell? ⟨nb, no + q, none⟩ = some (.int .i64 x)) ⟨P3.out.ext (Below.refl _ _).drew, D3.drew, hx⟩ ?_
              rintro x0 ⟨q0, d0, k0⟩
              repeat (refine wpG_plain (by rfl) (by rfl) (fun K hK => ?_); go_big_quiet_op; refine hK _ ?_; clear hK K)
              refine wpG_call (by rfl) (by rfl) ⟨⟨_, k0⟩, rfl⟩ (fun K hK => ?_)
              go_big_op
              refine (packRDone rb _ _ q0).mono ?_
              rintro e x1 ⟨rfl, rfl⟩
              rw [dn_one]
              refine hK _ _ ?_
              clear hK K
              repeat (refine wpG_plain (by rfl) (by rfl) (fun K hK => ?_); go_big_quiet_op; refine hK _ ?_; clear hK K)
              refine wpG_call (by rfl) (by rfl) ⟨⟨_, k0⟩, rfl⟩ (fun K hK => ?_)
              go_big_op
              refine (packRInt rb _ _ q0).mono ?_
              rintro e x1 ⟨rfl, hP, hK1⟩
              rw [one_int x (c100 (ss q)) q ys HWX.out.1 HWX.out.2] at hP ⊢
              have d1 := d0.trans (hK1.below hrb1)
              have k1 := ext_cell d1 HX0.out
              refine hK _ _ ?_
              clear hK K hK1 q0 d0 k0
              repeat (refine wpG_plain (by rfl) (by rfl) (fun K hK => ?_); go_big_quiet_op; refine hK _ ?_; clear hK K)
              refine wpG_call (by rfl) (by rfl) ⟨⟨_, k1⟩, rfl⟩ (fun K hK => ?_)
              go_big_op
              refine (packRText rb _ _ hP).mono ?_
              rintro e x2 ⟨rfl, hP2, hK1⟩
              rw [one_text (c100 (ss q)) q ys (Nat.le_trans (c100_le _) (by omega))] at hP2 ⊢
              rw [HQ.out] at *
              have d2 := d1.trans (hK1.below hrb1)
              have k2 := ext_cell d2 HX0.out
              refine hK _ _ ?_
              clear hK K hK1 hP d1 k1
              repeat (refine wpG_plain (by rfl) (by rfl) (fun K hK => ?_); go_big_quiet_op; refine hK _ ?_; clear hK K)
              refine wpG_call (by rfl) (by rfl) ⟨⟨_, k2⟩, rfl⟩ (fun K hK => ?_)
              go_big_op
              refine (packRByte rb _ _ hP2).mono ?_
              rintro e x3 ⟨rfl, hP3, hK1⟩
              rw [one_byte q ys (by omega)] at hP3 ⊢
              have d3 := d2.trans (hK1.below hrb1)
              have k3 := ext_cell d3 HX0.out
              refine hK _ _ ?_
              clear hK K hK1 hP2 d2 k2
              repeat (refine wpG_plain (by rfl) (by rfl) (fun K hK => ?_); go_big_quiet_op; refine hK _ ?_; clear hK K)
              refine wpG_call (by rfl) (by rfl) ⟨⟨_, k3⟩, rfl⟩ (fun K hK => ?_)
              go_big_op
              refine (packRBad rb _ _ hP3).mono ?_
              rintro e x4 ⟨rfl, rfl⟩
              refine hK _ _ ?_
              clear hK K
              repeat (refine wpG_plain (by rfl) (by rfl) (fun K hK => ?_); go_big_quiet_op; refine hK _ ?_; clear hK K)
              refine wpG_nil ⟨⟨_, k3⟩, rfl⟩ ?_
              clear hF0 hIc
              have P5 := Lib.hid hP3
              clear hP3 k3
              go_wp2
              go_roundw
              case rel => exact ⟨q + 1, by omega, by go_num, by rw [show p - (q + 1) = n from by have := HNL.out; omega, HYS.out]; exact P5.out, d3⟩
              case measure => simp [intOf]; omega
          · obtain rfl : q = p := by omega
            rw [Nat.sub_self] at hP
            simp only [rest] at hP
            have P3 := Lib.hid hP
            clear hP
            go_wp2_with fail
            refine (packRDone rb _ _ P3.out).mono ?_
            rintro e w4 ⟨rfl, rfl⟩
            rw [show dn' ([], false) = true from rfl]
            go_wp2_with fail
            refine (packRByte rb _ _ P3.out).mono ?_
            rintro e w4 ⟨rfl, hP, hK⟩
            rw [b1] at hP ⊢
            have D4 := D3.trans (hK.below hrb1)
            have P4 := Lib.hid hP
            clear hP hK
            go_wp2_with fail
            refine (packRBad rb _ _ P4.out).mono ?_
            rintro e w5 ⟨rfl, rfl⟩
            go_wp2_with fail
            refine (packRDone rb _ _ P4.out).mono ?_
            rintro e w5 ⟨rfl, rfl⟩
            rw [show dn' ([], true) = false from rfl]
            go_wp2_with fail
            refine (law2known _).mono ?_
            rintro e w6 ⟨rfl, hb⟩
            have D6 := ext_trans D4 hb
            go_wp2
            go_ret
            exact ⟨rfl, D6⟩

end Go.Proofs.Ytcafmjcjhncpjaa
