/- Who renews within the lease: the law's known runs. -/
import Derived.Test.YtcjpemphdgndkaaGreatDkQY
namespace Go.Proofs.YtcjpemphdgndkaaGreat
open Go.RowKit
set_option linter.unusedVariables false
set_option linter.unusedSimpArgs false

theorem low_one (e : En) (k : Ky) (h : enK e = k) : low k [e] = 0 := by subst h; simp [low, elk, enK, kc_self]
theorem isIn_one (e : En) (k : Ky) (h : enK e = k) : isIn k [e] = true := by
  unfold isIn
  rw [low_one e k h]
  subst h
  simp [enK]
theorem ge_one (e : En) (k : Ky) (h : enK e = k) : ge [e] k = e := by
  unfold ge
  rw [if_pos (isIn_one e k h), low_one e k h]
  rfl
theorem put_one (e f : En) (h : enK e = enK f) : putE [e] f = [f] := by
  unfold putE
  rw [if_pos (isIn_one e _ h), low_one e _ h]
  rfl
theorem put_nil (f : En) : putE [] f = [f] := by
  unfold putE
  rw [if_neg (by simp [isIn, low])]
  rfl
theorem asc_nil : Asc [] := List.Pairwise.nil
theorem asc_one (e : En) : Asc [e] := List.pairwise_singleton _ _
theorem nm_a : NmOk ⟨#[97]⟩ := nm_of (by decide) (by decide) (by decide) (by decide) (by decide) (by decide) (by decide)
theorem nm_b : NmOk ⟨#[98]⟩ := nm_of (by decide) (by decide) (by decide) (by decide) (by decide) (by decide) (by decide)
theorem nm_x : NmOk ⟨#[120]⟩ := nm_of (by decide) (by decide) (by decide) (by decide) (by decide) (by decide) (by decide)
theorem nm_y : NmOk ⟨#[121]⟩ := nm_of (by decide) (by decide) (by decide) (by decide) (by decide) (by decide) (by decide)
theorem in_xy : isIn ((⟨#[120]⟩, ⟨#[121]⟩) : Ky) [(⟨⟨⟨#[97]⟩, ⟨#[98]⟩, 1, 0, 9, 5, 1, 1, false⟩, 5⟩ : En)] = false := by decide +kernel
theorem nxt_3 : nxt 5 1 1 [(⟨⟨⟨#[97]⟩, ⟨#[98]⟩, 1, 0, 9, 5, 1, 1, false⟩, 5⟩ : En)] ((⟨#[97]⟩, ⟨#[98]⟩) : Ky) 1 7 = (7, 1, 2) := by
  unfold nxt
  rw [isIn_one (⟨⟨⟨#[97]⟩, ⟨#[98]⟩, 1, 0, 9, 5, 1, 1, false⟩, 5⟩ : En) ((⟨#[97]⟩, ⟨#[98]⟩) : Ky) rfl, ge_one (⟨⟨⟨#[97]⟩, ⟨#[98]⟩, 1, 0, 9, 5, 1, 1, false⟩, 5⟩ : En) ((⟨#[97]⟩, ⟨#[98]⟩) : Ky) rfl]
  decide +kernel
theorem nxt_4 : nxt 7 1 2 [(⟨⟨⟨#[97]⟩, ⟨#[98]⟩, 1, 0, 9, 7, 1, 2, true⟩, 7⟩ : En)] ((⟨#[97]⟩, ⟨#[98]⟩) : Ky) 1 8 = (8, 1, 3) := by
  unfold nxt
  rw [isIn_one (⟨⟨⟨#[97]⟩, ⟨#[98]⟩, 1, 0, 9, 7, 1, 2, true⟩, 7⟩ : En) ((⟨#[97]⟩, ⟨#[98]⟩) : Ky) rfl, ge_one (⟨⟨⟨#[97]⟩, ⟨#[98]⟩, 1, 0, 9, 7, 1, 2, true⟩, 7⟩ : En) ((⟨#[97]⟩, ⟨#[98]⟩) : Ky) rfl]
  decide +kernel
theorem can_3 : canE (⟨⟨⟨#[97]⟩, ⟨#[98]⟩, 1, 0, 9, 5, 1, 1, false⟩, 5⟩ : En) (7, 1, 2) 7 = (⟨⟨⟨#[97]⟩, ⟨#[98]⟩, 1, 0, 9, 7, 1, 2, true⟩, 7⟩ : En) := rfl
theorem hN_3 : ∀ s : Int × Int × Int, s = (if isIn ((⟨#[97]⟩, ⟨#[98]⟩) : Ky) [(⟨⟨⟨#[97]⟩, ⟨#[98]⟩, 1, 0, 9, 5, 1, 1, false⟩, 5⟩ : En)] then sMax 5 1 1 (ge [(⟨⟨⟨#[97]⟩, ⟨#[98]⟩, 1, 0, 9, 5, 1, 1, false⟩, 5⟩ : En)] ((⟨#[97]⟩, ⟨#[98]⟩) : Ky)).c.t (ge [(⟨⟨⟨#[97]⟩, ⟨#[98]⟩, 1, 0, 9, 5, 1, 1, false⟩, 5⟩ : En)] ((⟨#[97]⟩, ⟨#[98]⟩) : Ky)).c.k (ge [(⟨⟨⟨#[97]⟩, ⟨#[98]⟩, 1, 0, 9, 5, 1, 1, false⟩, 5⟩ : En)] ((⟨#[97]⟩, ⟨#[98]⟩) : Ky)).c.n else (5, 1, 1)) → s.2.2 ≤ 9223372036854775807 ∧ -9223372036854775808 ≤ s.2.2 := by
  rw [isIn_one (⟨⟨⟨#[97]⟩, ⟨#[98]⟩, 1, 0, 9, 5, 1, 1, false⟩, 5⟩ : En) ((⟨#[97]⟩, ⟨#[98]⟩) : Ky) rfl, ge_one (⟨⟨⟨#[97]⟩, ⟨#[98]⟩, 1, 0, 9, 5, 1, 1, false⟩, 5⟩ : En) ((⟨#[97]⟩, ⟨#[98]⟩) : Ky) rfl]
  rintro _ rfl
  decide +kernel
theorem hN_4 : ∀ s : Int × Int × Int, s = (if isIn ((⟨#[97]⟩, ⟨#[98]⟩) : Ky) [(⟨⟨⟨#[97]⟩, ⟨#[98]⟩, 1, 0, 9, 7, 1, 2, true⟩, 7⟩ : En)] then sMax 7 1 2 (ge [(⟨⟨⟨#[97]⟩, ⟨#[98]⟩, 1, 0, 9, 7, 1, 2, true⟩, 7⟩ : En)] ((⟨#[97]⟩, ⟨#[98]⟩) : Ky)).c.t (ge [(⟨⟨⟨#[97]⟩, ⟨#[98]⟩, 1, 0, 9, 7, 1, 2, true⟩, 7⟩ : En)] ((⟨#[97]⟩, ⟨#[98]⟩) : Ky)).c.k (ge [(⟨⟨⟨#[97]⟩, ⟨#[98]⟩, 1, 0, 9, 7, 1, 2, true⟩, 7⟩ : En)] ((⟨#[97]⟩, ⟨#[98]⟩) : Ky)).c.n else (7, 1, 2)) → s.2.2 ≤ 9223372036854775807 ∧ -9223372036854775808 ≤ s.2.2 := by
  rw [isIn_one (⟨⟨⟨#[97]⟩, ⟨#[98]⟩, 1, 0, 9, 7, 1, 2, true⟩, 7⟩ : En) ((⟨#[97]⟩, ⟨#[98]⟩) : Ky) rfl, ge_one (⟨⟨⟨#[97]⟩, ⟨#[98]⟩, 1, 0, 9, 7, 1, 2, true⟩, 7⟩ : En) ((⟨#[97]⟩, ⟨#[98]⟩) : Ky) rfl]
  rintro _ rfl
  decide +kernel
theorem hN_nil (t0 k0 n0 : Int) (k : Ky) (h1 : n0 ≤ 9223372036854775807) (h2 : -9223372036854775808 ≤ n0) : ∀ s : Int × Int × Int, s = (if isIn k [] then sMax t0 k0 n0 (ge [] k).c.t (ge [] k).c.k (ge [] k).c.n else (t0, k0, n0)) → s.2.2 ≤ 9223372036854775807 ∧ -9223372036854775808 ≤ s.2.2 := by
  rintro s rfl
  exact ⟨h1, h2⟩
set_option maxHeartbeats 400000 in
theorem deskNewNo (nd now : Int) (w : World) (h : 6 ≤ nd) :
    Calls Tryz.prog 14 #[.int .i64 nd, .int .i64 now] w fun r w' => r = .returned (.pointer none) ∧ w = w' := by
  have d1 : decide (nd < 0) = false := decide_eq_false (by omega)
  have d2 : decide (6 ≤ nd) = true := decide_eq_true h
  go_enter Tryz.func14, Tryz.ntmps14
  go_wp2
  go_ret
  exact ⟨rfl, rfl⟩
theorem deskSeq (db : Nat) (nd t0 k0 n0 : Int) (es : List En) (g l tt : Int) (ks : List Ky) (w : World) (h : DkP w db nd t0 k0 n0 es g l tt ks) :
    Calls Tryz.prog 40 #[.pointer (some ⟨db, 9, none⟩)] w fun r w' => r = .returned (.int .i64 ks.length) ∧ Below w.heap.size w w' := by
  obtain ⟨Dq, h1, -⟩ := h.r
  exact (recentSeqD Dq db _ _ w h1).mono fun r w' ⟨h2, h3⟩ => ⟨h2, by subst h3; exact Below.refl _ _⟩
set_option maxRecDepth 100000 in
set_option maxHeartbeats 4000000 in
theorem law16known (w : World) :
    Calls Tryz.prog 12 #[] w fun r w' => r = .returned (.bool true) ∧ Below w.heap.size w w' := by
  go_enter Tryz.func12, Tryz.ntmps12
  go_wp2_with fail
  refine (deskNew 1 0 w (by omega) (by omega) (by omega) (by omega)).mono ?_
  rintro r w1 ⟨db, rfl, hdb, hp, hb⟩

  have HP1 := Lib.hid (hp)
  have HD1 := Lib.hid (hb)
  clear hp hb
  go_wp2_with fail
  refine (deskNewNo 6 0 w1 (by omega)).mono ?_
  rintro r x ⟨rfl, hx⟩
  first | obtain rfl := hx | obtain rfl := hx.symm
  have hE : Below w1.heap.size w1 (w1.alloc (.cells #[.string ⟨#[97]⟩, .string ⟨#[98]⟩] 28)) := (Below.refl _ _).alloc (Nat.le_refl _) _
  have hX := Lib.hid (blk_new w1 #[.string ⟨#[97]⟩, .string ⟨#[98]⟩] 28)
  have HE := Lib.hid hE
  clear hE
  go_upto_region 5 with (fail)
  obtain ⟨kb, hp⟩ : ∃ p, w1.heap.size = p := ⟨_, rfl⟩
  rw [hp] at hX
  try rw [hp]
  have hkd : kb ≠ db := by have := HD1.out.size; have := HP1.out.lt; omega
  clear hp
  have hE := HE.out
  clear HE
  have HP2 := Lib.hid (HP1.out.ext hE)
  have HD2 := Lib.hid (ext_trans HD1.out hE)
  clear HP1 HD1 hE
  have HK2 := Lib.hid (hX.out)
  clear hX
  generalize (w1.alloc (.cells #[.string ⟨#[97]⟩, .string ⟨#[98]⟩] 28)) = w2 at *
  have hkc := blk_cell HK2.out
  have hkl := blk_lt HK2.out
  go_wp2_with fail
  refine (handleRegister db 1 0 1 0 [] 0 0 0 [] 1 4 9 0 ((⟨#[97]⟩, ⟨#[98]⟩) : Ky) 5 w2 HP2.out asc_nil (by simp) (by simp) (hN_nil _ _ _ _ (by omega) (by omega)) (5, 1, 1) rfl (.inr (by simp)) (by omega) (by omega) (.inl rfl) nm_a nm_b (by omega) (by omega) (by omega) (by omega) (by omega)).mono ?_
  rintro r w3 ⟨a, c, rfl, ⟨rfl, b1, rfl, hx, hd⟩, hr⟩
  have hd : DkP w3 db 1 5 1 1 [(⟨⟨⟨#[97]⟩, ⟨#[98]⟩, 1, 0, 9, 5, 1, 1, false⟩, 5⟩ : En)] 0 0 0 [((⟨#[97]⟩, ⟨#[98]⟩) : Ky)] := by rw [put_nil] at hd; exact hd
  have HX1 := Lib.hid (show w3.heap[b1]? = some (.cells #[.string ⟨#[97]⟩, .string ⟨#[98]⟩, .int .i64 1, .int .i64 0, .int .i64 9, .int .i64 5, .int .i64 1, .int .i64 1, .bool false] 37 (0, 0)) from hx)
  clear hx
  have HP3 := Lib.hid (hd)
  have HD3 := Lib.hid (HD2.out.trans (hr.below (by omega) HD2.out.size))
  have HK3 := Lib.hid ((hr.block kb (by omega) (blk_lt HK2.out)).trans HK2.out)
  clear HP2 HD2 HK2 hkc hkl hd
  have HXA3 := Lib.hid (HX1.out)
  clear HX1 hr
  have hb1d : b1 ≠ db := by rintro rfl; obtain ⟨_, _, _, _, h9, _⟩ := HP3.out; have h8 := HXA3.out; rw [h9] at h8; simp at h8
  have hE : Below w3.heap.size w3 (w3.alloc (.cells #[.int .i64 2, .int .i64 1, .int .i64 0, .int .i64 0, .int .i64 4, .int .i64 0, .int .i64 0, .string ⟨#[97]⟩, .string ⟨#[98]⟩, .bool false, .int .u32 0, .slice none 0 0, .slice none 0 0] 33)) := (Below.refl _ _).alloc (Nat.le_refl _) _
  have hX := Lib.hid (blk_new w3 #[.int .i64 2, .int .i64 1, .int .i64 0, .int .i64 0, .int .i64 4, .int .i64 0, .int .i64 0, .string ⟨#[97]⟩, .string ⟨#[98]⟩, .bool false, .int .u32 0, .slice none 0 0, .slice none 0 0] 33)
  have HE := Lib.hid hE
  clear hE
  go_upto_region 6 with (fail)
  obtain ⟨m1, hp⟩ : ∃ p, w3.heap.size = p := ⟨_, rfl⟩
  rw [hp] at hX
  try rw [hp]
  have hm1d : m1 ≠ db := by have := HD3.out.size; have := HP3.out.lt; omega
  clear hp
  have hE := HE.out
  clear HE
  have HP4 := Lib.hid (HP3.out.ext hE)
  have HD4 := Lib.hid (ext_trans HD3.out hE)
  have HK4 := Lib.hid (blk_ext hE HK3.out)
  have HXA4 := Lib.hid (blk_ext hE HXA3.out)
  clear HP3 HD3 HK3 HXA3 hE
  have HM14 := Lib.hid (hX.out)
  clear hX
  generalize (w3.alloc (.cells #[.int .i64 2, .int .i64 1, .int .i64 0, .int .i64 0, .int .i64 4, .int .i64 0, .int .i64 0, .string ⟨#[97]⟩, .string ⟨#[98]⟩, .bool false, .int .u32 0, .slice none 0 0, .slice none 0 0] 33)) = w4 at *
  go_wp2_with fail
  refine (handleRenew db 1 5 1 1 [(⟨⟨⟨#[97]⟩, ⟨#[98]⟩, 1, 0, 9, 5, 1, 1, false⟩, 5⟩ : En)] 0 0 0 [((⟨#[97]⟩, ⟨#[98]⟩) : Ky)] 0 0 0 0 ((⟨#[120]⟩, ⟨#[121]⟩) : Ky) 6 w4 HP4.out (asc_one _) (by simp) (by omega) (by omega) nm_x nm_y (by omega) (by omega) (by omega) (by omega) (by omega)).mono ?_
  rintro r w5 ⟨a2, c2, rfl, ⟨rfl, hq⟩, hr⟩
  obtain ⟨rfl, hd⟩ : c2 = 22 ∧ DkP w5 db 1 5 1 1 [(⟨⟨⟨#[97]⟩, ⟨#[98]⟩, 1, 0, 9, 5, 1, 1, false⟩, 5⟩ : En)] 0 0 0 [((⟨#[97]⟩, ⟨#[98]⟩) : Ky)] := by
    rcases hq with ⟨h1, -⟩ | ⟨-, h1, h2⟩
    · rw [in_xy] at h1; cases h1
    · exact ⟨h1, h2⟩
  clear hq
  have HP5 := Lib.hid (hd)
  have HD5 := Lib.hid (HD4.out.trans (hr.below (by omega) HD4.out.size))
  have HK5 := Lib.hid ((hr.block kb (by omega) (blk_lt HK4.out)).trans HK4.out)
  have HXA5 := Lib.hid ((hr.block b1 (by omega) (blk_lt HXA4.out)).trans HXA4.out)
  have HM15 := Lib.hid ((hr.block m1 (by omega) (blk_lt HM14.out)).trans HM14.out)
  clear HP4 HD4 HK4 HXA4 HM14 hd
  clear hr
  have hE : Below w5.heap.size w5 (w5.alloc (.cells #[.int .i64 2, .int .i64 2, .int .i64 0, .int .i64 22, .int .i64 0, .int .i64 0, .int .i64 0, .string ⟨#[120]⟩, .string ⟨#[121]⟩, .bool false, .int .u32 0, .slice none 0 0, .slice none 0 0] 33)) := (Below.refl _ _).alloc (Nat.le_refl _) _
  have hX := Lib.hid (blk_new w5 #[.int .i64 2, .int .i64 2, .int .i64 0, .int .i64 22, .int .i64 0, .int .i64 0, .int .i64 0, .string ⟨#[120]⟩, .string ⟨#[121]⟩, .bool false, .int .u32 0, .slice none 0 0, .slice none 0 0] 33)
  have HE := Lib.hid hE
  clear hE
  go_upto_region 7 with (fail)
  obtain ⟨m2, hp⟩ : ∃ p, w5.heap.size = p := ⟨_, rfl⟩
  rw [hp] at hX
  try rw [hp]
  have hm2d : m2 ≠ db := by have := HD5.out.size; have := HP5.out.lt; omega
  clear hp
  have hE := HE.out
  clear HE
  have HP6 := Lib.hid (HP5.out.ext hE)
  have HD6 := Lib.hid (ext_trans HD5.out hE)
  have HK6 := Lib.hid (blk_ext hE HK5.out)
  have HXA6 := Lib.hid (blk_ext hE HXA5.out)
  have HM16 := Lib.hid (blk_ext hE HM15.out)
  clear HP5 HD5 HK5 HXA5 HM15 hE
  have HM26 := Lib.hid (hX.out)
  clear hX
  generalize (w5.alloc (.cells #[.int .i64 2, .int .i64 2, .int .i64 0, .int .i64 22, .int .i64 0, .int .i64 0, .int .i64 0, .string ⟨#[120]⟩, .string ⟨#[121]⟩, .bool false, .int .u32 0, .slice none 0 0, .slice none 0 0] 33)) = w6 at *
  have hkc := blk_cell HK6.out
  have hkl := blk_lt HK6.out
  go_wp2_with fail
  refine (handleCancel db 1 5 1 1 [(⟨⟨⟨#[97]⟩, ⟨#[98]⟩, 1, 0, 9, 5, 1, 1, false⟩, 5⟩ : En)] 0 0 0 [((⟨#[97]⟩, ⟨#[98]⟩) : Ky)] 0 0 0 0 ((⟨#[97]⟩, ⟨#[98]⟩) : Ky) 7 w6 HP6.out (asc_one _) (by simp) (by simp) hN_3 (7, 1, 2) nxt_3 nm_a nm_b (by omega) (by omega) (by omega) (by omega) (by omega)).mono ?_
  rintro r w7 ⟨a3, c3, rfl, hq, hr⟩
  obtain ⟨rfl, b3, rfl, hx, hd⟩ : c3 = 0 ∧ ∃ b3, a3 = .slice (some ⟨b3, 0, none⟩) 1 1 ∧ w7.heap[b3]? = some (.cells #[.string ⟨#[97]⟩, .string ⟨#[98]⟩, .int .i64 1, .int .i64 0, .int .i64 9, .int .i64 7, .int .i64 1, .int .i64 2, .bool true] 37 (0, 0)) ∧ DkP w7 db 1 7 1 2 [(⟨⟨⟨#[97]⟩, ⟨#[98]⟩, 1, 0, 9, 7, 1, 2, true⟩, 7⟩ : En)] 0 0 0 [((⟨#[97]⟩, ⟨#[98]⟩) : Ky), ((⟨#[97]⟩, ⟨#[98]⟩) : Ky)] := by
    rcases hq with ⟨-, -, h1, b3, h2, h3, h4⟩ | ⟨h1, -⟩
    · rw [ge_one (⟨⟨⟨#[97]⟩, ⟨#[98]⟩, 1, 0, 9, 5, 1, 1, false⟩, 5⟩ : En) ((⟨#[97]⟩, ⟨#[98]⟩) : Ky) rfl, can_3] at h3 h4
      rw [put_one (⟨⟨⟨#[97]⟩, ⟨#[98]⟩, 1, 0, 9, 5, 1, 1, false⟩, 5⟩ : En) (⟨⟨⟨#[97]⟩, ⟨#[98]⟩, 1, 0, 9, 7, 1, 2, true⟩, 7⟩ : En) rfl] at h4
      exact ⟨h1, b3, h2, h3, h4⟩
    · rw [isIn_one (⟨⟨⟨#[97]⟩, ⟨#[98]⟩, 1, 0, 9, 5, 1, 1, false⟩, 5⟩ : En) ((⟨#[97]⟩, ⟨#[98]⟩) : Ky) rfl, ge_one (⟨⟨⟨#[97]⟩, ⟨#[98]⟩, 1, 0, 9, 5, 1, 1, false⟩, 5⟩ : En) ((⟨#[97]⟩, ⟨#[98]⟩) : Ky) rfl] at h1
      rcases h1 with h1 | h1 <;> cases h1
  have HX3 := Lib.hid hx
  clear hx hq
  have HP7 := Lib.hid (hd)
  have HD7 := Lib.hid (HD6.out.trans (hr.below (by omega) HD6.out.size))
  have HK7 := Lib.hid ((hr.block kb (by omega) (blk_lt HK6.out)).trans HK6.out)
  have HXA7 := Lib.hid ((hr.block b1 (by omega) (blk_lt HXA6.out)).trans HXA6.out)
  have HM17 := Lib.hid ((hr.block m1 (by omega) (blk_lt HM16.out)).trans HM16.out)
  have HM27 := Lib.hid ((hr.block m2 (by omega) (blk_lt HM26.out)).trans HM26.out)
  clear HP6 HD6 HK6 HXA6 HM16 HM26 hkc hkl hd
  have HXB7 := Lib.hid (HX3.out)
  clear HX3 hr
  have hb3d : b3 ≠ db := by rintro rfl; obtain ⟨_, _, _, _, h9, _⟩ := HP7.out; have h8 := HXB7.out; rw [h9] at h8; simp at h8
  have hE : Below w7.heap.size w7 (w7.alloc (.cells #[.int .i64 2, .int .i64 3, .int .i64 0, .int .i64 0, .int .i64 0, .int .i64 0, .int .i64 0, .string ⟨#[97]⟩, .string ⟨#[98]⟩, .bool false, .int .u32 0, .slice none 0 0, .slice none 0 0] 33)) := (Below.refl _ _).alloc (Nat.le_refl _) _
  have hX := Lib.hid (blk_new w7 #[.int .i64 2, .int .i64 3, .int .i64 0, .int .i64 0, .int .i64 0, .int .i64 0, .int .i64 0, .string ⟨#[97]⟩, .string ⟨#[98]⟩, .bool false, .int .u32 0, .slice none 0 0, .slice none 0 0] 33)
  have HE := Lib.hid hE
  clear hE
  go_upto_region 8 with (fail)
  obtain ⟨m3, hp⟩ : ∃ p, w7.heap.size = p := ⟨_, rfl⟩
  rw [hp] at hX
  try rw [hp]
  have hm3d : m3 ≠ db := by have := HD7.out.size; have := HP7.out.lt; omega
  clear hp
  have hE := HE.out
  clear HE
  have HP8 := Lib.hid (HP7.out.ext hE)
  have HD8 := Lib.hid (ext_trans HD7.out hE)
  have HK8 := Lib.hid (blk_ext hE HK7.out)
  have HXA8 := Lib.hid (blk_ext hE HXA7.out)
  have HM18 := Lib.hid (blk_ext hE HM17.out)
  have HM28 := Lib.hid (blk_ext hE HM27.out)
  have HXB8 := Lib.hid (blk_ext hE HXB7.out)
  clear HP7 HD7 HK7 HXA7 HM17 HM27 HXB7 hE
  have HM38 := Lib.hid (hX.out)
  clear hX
  generalize (w7.alloc (.cells #[.int .i64 2, .int .i64 3, .int .i64 0, .int .i64 0, .int .i64 0, .int .i64 0, .int .i64 0, .string ⟨#[97]⟩, .string ⟨#[98]⟩, .bool false, .int .u32 0, .slice none 0 0, .slice none 0 0] 33)) = w8 at *
  have hkc := blk_cell HK8.out
  have hkl := blk_lt HK8.out
  go_wp2_with fail
  refine (handleCancel db 1 7 1 2 [(⟨⟨⟨#[97]⟩, ⟨#[98]⟩, 1, 0, 9, 7, 1, 2, true⟩, 7⟩ : En)] 0 0 0 [((⟨#[97]⟩, ⟨#[98]⟩) : Ky), ((⟨#[97]⟩, ⟨#[98]⟩) : Ky)] 0 0 0 0 ((⟨#[97]⟩, ⟨#[98]⟩) : Ky) 8 w8 HP8.out (asc_one _) (by simp) (by simp) hN_4 (8, 1, 3) nxt_4 nm_a nm_b (by omega) (by omega) (by omega) (by omega) (by omega)).mono ?_
  rintro r w9 ⟨a4, c4, rfl, hq, hr⟩
  obtain ⟨rfl, rfl, hd⟩ : c4 = 22 ∧ a4 = .slice none 0 0 ∧ DkP w9 db 1 7 1 2 [(⟨⟨⟨#[97]⟩, ⟨#[98]⟩, 1, 0, 9, 7, 1, 2, true⟩, 7⟩ : En)] 0 0 0 [((⟨#[97]⟩, ⟨#[98]⟩) : Ky), ((⟨#[97]⟩, ⟨#[98]⟩) : Ky)] := by
    rcases hq with ⟨-, h1, -⟩ | ⟨-, h1⟩
    · rw [ge_one (⟨⟨⟨#[97]⟩, ⟨#[98]⟩, 1, 0, 9, 7, 1, 2, true⟩, 7⟩ : En) ((⟨#[97]⟩, ⟨#[98]⟩) : Ky) rfl] at h1
      cases h1
    · exact h1
  clear hq
  have HP9 := Lib.hid (hd)
  have HD9 := Lib.hid (HD8.out.trans (hr.below (by omega) HD8.out.size))
  have HK9 := Lib.hid ((hr.block kb (by omega) (blk_lt HK8.out)).trans HK8.out)
  have HXA9 := Lib.hid ((hr.block b1 (by omega) (blk_lt HXA8.out)).trans HXA8.out)
  have HM19 := Lib.hid ((hr.block m1 (by omega) (blk_lt HM18.out)).trans HM18.out)
  have HM29 := Lib.hid ((hr.block m2 (by omega) (blk_lt HM28.out)).trans HM28.out)
  have HXB9 := Lib.hid ((hr.block b3 (by omega) (blk_lt HXB8.out)).trans HXB8.out)
  have HM39 := Lib.hid ((hr.block m3 (by omega) (blk_lt HM38.out)).trans HM38.out)
  clear HP8 HD8 HK8 HXA8 HM18 HM28 HXB8 HM38 hkc hkl hd
  clear hr
  have hE : Below w9.heap.size w9 (w9.alloc (.cells #[.int .i64 2, .int .i64 3, .int .i64 0, .int .i64 22, .int .i64 0, .int .i64 0, .int .i64 0, .string ⟨#[97]⟩, .string ⟨#[98]⟩, .bool false, .int .u32 0, .slice none 0 0, .slice none 0 0] 33)) := (Below.refl _ _).alloc (Nat.le_refl _) _
  have hX := Lib.hid (blk_new w9 #[.int .i64 2, .int .i64 3, .int .i64 0, .int .i64 22, .int .i64 0, .int .i64 0, .int .i64 0, .string ⟨#[97]⟩, .string ⟨#[98]⟩, .bool false, .int .u32 0, .slice none 0 0, .slice none 0 0] 33)
  have HE := Lib.hid hE
  clear hE
  go_upto_region 9 with (fail)
  obtain ⟨m4, hp⟩ : ∃ p, w9.heap.size = p := ⟨_, rfl⟩
  rw [hp] at hX
  try rw [hp]
  have hm4d : m4 ≠ db := by have := HD9.out.size; have := HP9.out.lt; omega
  clear hp
  have hE := HE.out
  clear HE
  have HP10 := Lib.hid (HP9.out.ext hE)
  have HD10 := Lib.hid (ext_trans HD9.out hE)
  have HK10 := Lib.hid (blk_ext hE HK9.out)
  have HXA10 := Lib.hid (blk_ext hE HXA9.out)
  have HM110 := Lib.hid (blk_ext hE HM19.out)
  have HM210 := Lib.hid (blk_ext hE HM29.out)
  have HXB10 := Lib.hid (blk_ext hE HXB9.out)
  have HM310 := Lib.hid (blk_ext hE HM39.out)
  clear HP9 HD9 HK9 HXA9 HM19 HM29 HXB9 HM39 hE
  have HM410 := Lib.hid (hX.out)
  clear hX
  generalize (w9.alloc (.cells #[.int .i64 2, .int .i64 3, .int .i64 0, .int .i64 22, .int .i64 0, .int .i64 0, .int .i64 0, .string ⟨#[97]⟩, .string ⟨#[98]⟩, .bool false, .int .u32 0, .slice none 0 0, .slice none 0 0] 33)) = w10 at *
  have cHM1 := blk_cell HM110.out
  have lHM1 := blk_lt HM110.out
  have cHM2 := blk_cell HM210.out
  have lHM2 := blk_lt HM210.out
  have cHM3 := blk_cell HM310.out
  have lHM3 := blk_lt HM310.out
  have cHM4 := blk_cell HM410.out
  have lHM4 := blk_lt HM410.out
  have cHXA := blk_cell HXA10.out
  have lHXA := blk_lt HXA10.out
  have cHXB := blk_cell HXB10.out
  have lHXB := blk_lt HXB10.out
  go_wp2_with fail
  refine (deskRecent db 1 7 1 2 [(⟨⟨⟨#[97]⟩, ⟨#[98]⟩, 1, 0, 9, 7, 1, 2, true⟩, 7⟩ : En)] 0 0 0 [((⟨#[97]⟩, ⟨#[98]⟩) : Ky), ((⟨#[97]⟩, ⟨#[98]⟩) : Ky)] w10 HP10.out).mono ?_
  rintro r w11 ⟨rfl, hb⟩
  have HP11 := Lib.hid (HP10.out.ext hb)
  have HD11 := Lib.hid (ext_trans HD10.out hb)
  have HK11 := Lib.hid (blk_ext hb HK10.out)
  have HXA11 := Lib.hid (blk_ext hb HXA10.out)
  have HM111 := Lib.hid (blk_ext hb HM110.out)
  have HM211 := Lib.hid (blk_ext hb HM210.out)
  have HXB11 := Lib.hid (blk_ext hb HXB10.out)
  have HM311 := Lib.hid (blk_ext hb HM310.out)
  have HM411 := Lib.hid (blk_ext hb HM410.out)
  clear HP10 HD10 HK10 HXA10 HM110 HM210 HXB10 HM310 HM410 hb cHM1 lHM1 cHM2 lHM2 cHM3 lHM3 cHM4 lHM4 cHXA lHXA cHXB lHXB
  go_wp2_with fail
  refine (deskSeq db 1 7 1 2 [(⟨⟨⟨#[97]⟩, ⟨#[98]⟩, 1, 0, 9, 7, 1, 2, true⟩, 7⟩ : En)] 0 0 0 [((⟨#[97]⟩, ⟨#[98]⟩) : Ky), ((⟨#[97]⟩, ⟨#[98]⟩) : Ky)] w11 HP11.out).mono ?_
  rintro r w12 ⟨rfl, hb⟩
  have HP12 := Lib.hid (HP11.out.ext hb)
  have HD12 := Lib.hid (ext_trans HD11.out hb)
  have HK12 := Lib.hid (blk_ext hb HK11.out)
  have HXA12 := Lib.hid (blk_ext hb HXA11.out)
  have HM112 := Lib.hid (blk_ext hb HM111.out)
  have HM212 := Lib.hid (blk_ext hb HM211.out)
  have HXB12 := Lib.hid (blk_ext hb HXB11.out)
  have HM312 := Lib.hid (blk_ext hb HM311.out)
  have HM412 := Lib.hid (blk_ext hb HM411.out)
  clear HP11 HD11 HK11 HXA11 HM111 HM211 HXB11 HM311 HM411 hb
  go_wp2
  go_ret
  exact ⟨rfl, HD12.out⟩


end Go.Proofs.YtcjpemphdgndkaaGreat
