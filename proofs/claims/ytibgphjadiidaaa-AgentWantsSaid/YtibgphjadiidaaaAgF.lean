/- Package agent: next, where there are wants. -/
import Derived.Test.YtibgphjadiidaaaAgE
namespace Go.Proofs.Ytibgphjadiidaaa
open Go.RowKit
set_option linter.unusedVariables false
set_option linter.unusedSimpArgs false

set_option maxRecDepth 100000 in
set_option maxHeartbeats 1000000 in
theorem agNextA (ab : Nat) (k : ByteArray × ByteArray) (zs : List Int) (s : Ag) (w : World) (h : AgP w ab k zs s) (t : Ag × Ms × Bool) (ht : nextM k s = t) (x : Wt) (rr : List Wt) (hws0 : s.ws = x :: rr) :
    Calls Try.prog 22 #[.pointer (some ⟨ab, 0, none⟩)] w fun r w' => r = .returned (.tuple #[.agg #[.int .i64 0, .int .i64 t.2.1.op, .int .i64 t.2.1.st, .int .i64 0, .int .i64 0, .int .i64 t.2.1.N, .int .i64 t.2.1.sq, .string t.2.1.a, .string t.2.1.i, .bool false, .int .u32 0, .slice none 0 0, .slice none 0 0], .bool t.2.2]) ∧ AgP w' ab k zs t.1 ∧ Rim ab w w' := by
  obtain ⟨i, now, ws, q, tag, op, asked, wt, wi, tm, st, kn, br, bl, fr, fl⟩ := s
  obtain ⟨sb, sc, wa, wc, h1, hsv, hws⟩ := h
  dsimp only at h1 hws
  obtain ⟨n, hn⟩ : ∃ n, ws.length = n := ⟨_, rfl⟩
  obtain ⟨m, hm⟩ : ∃ m, zs.length = m := ⟨_, rfl⟩
  rw [hn, hm] at h1
  have H1 := Lib.hid h1
  have HSV := Lib.hid hsv
  have HWS := Lib.hid hws
  have HN := Lib.hid hn
  have HM := Lib.hid hm
  clear h1 hsv hws hn hm
  unfold nextM at ht
  dsimp only at hws0
  subst hws0
  dsimp only at ht
  have HTT := Lib.hid ht
  clear ht
  obtain ⟨b, o, rfl⟩ : ∃ b o, wa = some ⟨b, o, none⟩ := by
    rcases HWS.out.2.2.1 with h | ⟨b, o, e, _⟩
    · cases h
    · exact ⟨b, o, e⟩
  have hbl : b < w.heap.size := by
    rcases HWS.out.2.2.1 with h | ⟨b', o', e, ⟨cur, hc⟩, _⟩
    · cases h
    · simp only [Option.some.injEq, Addr.mk.injEq] at e
      obtain ⟨rfl, -⟩ := e
      exact blk_lt hc
  have hx0 := HWS.out.2.2.1.get wec_len (i := 0) rfl 0 _ rfl
  have hx1 := HWS.out.2.2.1.get wec_len (i := 0) rfl 1 _ rfl
  have hx2 := HWS.out.2.2.1.get wec_len (i := 0) rfl 2 _ rfl
  simp only [Nat.zero_mul, Nat.add_zero] at hx0 hx1 hx2
  have HX0 := Lib.hid (And.intro hx0 (And.intro hx1 (And.intro hx2 hbl)))
  clear hx0 hx1 hx2 hbl
  obtain ⟨n', hn'⟩ : ∃ n', rr.length = n' := ⟨_, rfl⟩
  have HNN := Lib.hid (show n = n' + 1 from by rw [← HN.out, List.length_cons, hn'])
  have HN' := Lib.hid hn'
  have hnw : n ≤ wc := by rw [← HN.out]; exact HWS.out.1
  have hwm : wc ≤ maxLen := HWS.out.2.1
  unfold maxLen at hwm
  clear hn'
  by_cases hwc : wc = 1
  · subst hwc
    have hn0 : n = 1 := by have := HNN.out; omega
    have hn9 : n' = 0 := by have := HNN.out; omega
    subst hn0
    subst hn9
    clear hnw hwm HNN
    have HMZ := HM
    clear HM
    have D0 := Lib.hid (show Below w.heap.size w (w.alloc (.cells #[.int .i64 0, .int .i64 0, .int .i64 0, .int .i64 0, .int .i64 0, .int .i64 0, .int .i64 0, .string ⟨#[]⟩, .string ⟨#[]⟩, .bool false, .int .u32 0, .slice none 0 0, .slice none 0 0] 37)) from (Below.refl _ _).alloc (Nat.le_refl _) _)
    have HR1 := Lib.hid (blk_new w #[.int .i64 0, .int .i64 0, .int .i64 0, .int .i64 0, .int .i64 0, .int .i64 0, .int .i64 0, .string ⟨#[]⟩, .string ⟨#[]⟩, .bool false, .int .u32 0, .slice none 0 0, .slice none 0 0] 37)
    have HA1 := Lib.hid (blk_ext D0.out H1.out)
    have hlt := blk_lt H1.out
    go_enter Try.func22, Try.ntmps22
    go_upto_region 1 with (fail)
    obtain ⟨r, hr⟩ : ∃ r, w.heap.size = r := ⟨_, rfl⟩
    have HRW := Lib.hid (show w.heap.size ≤ r from by omega)
    rw [hr] at HR1
    try rw [hr]
    clear hr hlt
    generalize (w.alloc (.cells #[.int .i64 0, .int .i64 0, .int .i64 0, .int .i64 0, .int .i64 0, .int .i64 0, .int .i64 0, .string ⟨#[]⟩, .string ⟨#[]⟩, .bool false, .int .u32 0, .slice none 0 0, .slice none 0 0] 37)) = w1 at *
    have HM1 := Lib.hid (Rim.of (b := ab) D0.out)
    have HW9 := Lib.hid (show w1.cell? ⟨b, o, none⟩ = some (.int .i64 x.o) ∧ w1.cell? ⟨b, o + 1, none⟩ = some (.int .i64 x.n) ∧ w1.cell? ⟨b, o + 2, none⟩ = some (.int .i64 x.s) ∧ b < w1.heap.size from ⟨ext_cell D0.out HX0.out.1, ext_cell D0.out HX0.out.2.1, ext_cell D0.out HX0.out.2.2.1, Nat.lt_of_lt_of_le HX0.out.2.2.2 D0.out.size⟩)
    clear D0 HX0
    obtain ⟨hy0, hy1, hy2, hyl⟩ := HW9.out
    have hk := blk_cell HA1.out
    have hl := blk_lt HA1.out
    have hf := blk_free HA1.out
    have hn1 : (0 : Int) < (1 : Nat) := by omega
    go_upto_region 3 with (fail)
    have E2 := Lib.hid (show Below w1.heap.size w1 (w1.alloc (.cells #[.int .i64 x.o, .int .i64 x.n, .int .i64 x.s] 61)) from (Below.refl _ _).alloc (Nat.le_refl _) _)
    have HK2 := Lib.hid (blk_new w1 #[.int .i64 x.o, .int .i64 x.n, .int .i64 x.s] 61)
    have HA2 := Lib.hid (blk_ext E2.out HA1.out)
    have HR2 := Lib.hid (blk_ext E2.out HR1.out)
    have HM2 := Lib.hid (HM1.out.trans (Rim.of E2.out))
    obtain ⟨p, hp⟩ : ∃ p, w1.heap.size = p := ⟨_, rfl⟩
    rw [hp] at HK2
    try rw [hp]
    clear hp E2 HA1 HR1 HM1 hk hl hf hy0 hy1 hy2 hyl HW9
    generalize (w1.alloc (.cells #[.int .i64 x.o, .int .i64 x.n, .int .i64 x.s] 61)) = w2 at *
    have hk := blk_cell HA2.out
    have hl := blk_lt HA2.out
    have hf := blk_free HA2.out
    go_upto_region 4 with (fail)
    have HA3 := Lib.hid (show (w2.setCell ⟨ab, 5, none⟩ (.slice (some ⟨b, o, none⟩) 0 0)).heap[ab]? = some (.cells #[.string k.1, .string k.2, .slice (some ⟨sb, 0, none⟩) m sc, .int .i64 (i : Nat), .int .i64 now, .slice (some ⟨b, o, none⟩) 0 0, .slice none 0 0, .int .i64 q, .int .i64 tag, .int .i64 op, .int .i64 asked, .bool wt, .bool wi, .int .i64 tm, .int .i64 st, .bool kn, .bool br, .int .i64 bl, .bool fr, .int .i64 fl] 57 (0, 0)) from blk_set (n := 5) HA2.out (by first | rfl | simp))
    have hr : Rim ab w2 (w2.setCell ⟨ab, 5, none⟩ (.slice (some ⟨b, o, none⟩) 0 0)) := rim_set (Rim.of (Below.refl _ _))
    have HR3 := Lib.hid (hr.rimT HA2.out HR2.out (by decide))
    have HK3 := Lib.hid (hr.rimT HA2.out HK2.out (by decide))
    have HM3 := Lib.hid (HM2.out.trans hr)
    clear hr hk hl hf HA2 HR2 HK2 HM2
    generalize (w2.setCell ⟨ab, 5, none⟩ (.slice (some ⟨b, o, none⟩) 0 0)) = w3 at *
    have HQ3 := Lib.hid (show AgP w3 ab k zs (⟨i, now, rr, q, tag, op, asked, wt, wi, tm, st, kn, br, bl, fr, fl⟩ : Ag) from by
      have h9 := AgP.own H1.out HSV.out HWS.out HM3.out
      have h8 := h9.2.2.2.1
      exact ⟨sb, sc, _, _, by dsimp only; rw [HN'.out, HMZ.out]; exact HA3.out, h9.1, ⟨by simp [List.eq_nil_of_length_eq_zero (show rr.length = 0 from by have := HN.out; simp at this; exact List.length_eq_zero_iff.2 this)], by unfold maxLen; omega, .inl (by have := HN.out; simp at this; exact this), .inr ⟨b, o, rfl⟩⟩⟩)
    have hk := blk_cell HK3.out
    have hl := blk_lt HK3.out
    go_wp2_with fail
    refine (agWanted ab k zs _ x w3 HQ3.out t HTT.out).mono ?_
    rintro e w4 ⟨rfl, hq, hr⟩
    have HR4 := Lib.hid (hr.rimT HA3.out HR3.out (by decide))
    have HM4 := Lib.hid (HM3.out.trans hr)
    have HQ4 := Lib.hid hq
    clear hq hr HA3 HR3 HM3 HQ3 hk hl HK3
    have hkr := blk_cell HR4.out
    have hlr := blk_lt HR4.out
    have hfr := blk_free HR4.out
    go_wp2_with fail
    have ht9 : t.2.2 = true := by
      have := HTT.out
      rw [← this]
      unfold wantedM
      split
      · rfl
      · split <;> rfl
    rw [ht9]
    refine bodyPost_ret (v := .tuple #[.agg #[.int .i64 0, .int .i64 t.2.1.op, .int .i64 t.2.1.st, .int .i64 0, .int .i64 0, .int .i64 t.2.1.N, .int .i64 t.2.1.sq, .string t.2.1.a, .string t.2.1.i, .bool false, .int .u32 0, .slice none 0 0, .slice none 0 0], .bool true]) (by have hk2 := blk_cell (blk_fill13 (v0 := .int .i64 0) (v1 := .int .i64 t.2.1.op) (v2 := .int .i64 t.2.1.st) (v3 := .int .i64 0) (v4 := .int .i64 0) (v5 := .int .i64 t.2.1.N) (v6 := .int .i64 t.2.1.sq) (v7 := .string t.2.1.a) (v8 := .string t.2.1.i) (v9 := .bool false) (v10 := .int .u32 0) (v11 := .slice none 0 0) (v12 := .slice none 0 0) HR4.out rfl); simp [results, Try.results22, go_sem, hk2]) rfl ⟨rfl, ?_, ?_⟩
    · exact (HQ4.out).rimO (Rim13 (Rim.of (Below.refl _ _))) HR4.out (by decide) (by decide) (by decide)
    · exact rim_newL HM4.out HRW.out HR4.out (Rim13 (Rim.of (Below.refl _ _)))
  · obtain ⟨c', rfl⟩ : ∃ c', wc = c' + 2 := ⟨wc - 2, by have := HNN.out; omega⟩
    obtain rfl : n' + 1 = n := HNN.out.symm
    clear hnw hwm HNN
    have HMZ := HM
    clear HM
    have D0 := Lib.hid (show Below w.heap.size w (w.alloc (.cells #[.int .i64 0, .int .i64 0, .int .i64 0, .int .i64 0, .int .i64 0, .int .i64 0, .int .i64 0, .string ⟨#[]⟩, .string ⟨#[]⟩, .bool false, .int .u32 0, .slice none 0 0, .slice none 0 0] 37)) from (Below.refl _ _).alloc (Nat.le_refl _) _)
    have HR1 := Lib.hid (blk_new w #[.int .i64 0, .int .i64 0, .int .i64 0, .int .i64 0, .int .i64 0, .int .i64 0, .int .i64 0, .string ⟨#[]⟩, .string ⟨#[]⟩, .bool false, .int .u32 0, .slice none 0 0, .slice none 0 0] 37)
    have HA1 := Lib.hid (blk_ext D0.out H1.out)
    have hlt := blk_lt H1.out
    go_enter Try.func22, Try.ntmps22
    go_upto_region 1 with (fail)
    obtain ⟨r, hr⟩ : ∃ r, w.heap.size = r := ⟨_, rfl⟩
    have HRW := Lib.hid (show w.heap.size ≤ r from by omega)
    rw [hr] at HR1
    try rw [hr]
    clear hr hlt
    generalize (w.alloc (.cells #[.int .i64 0, .int .i64 0, .int .i64 0, .int .i64 0, .int .i64 0, .int .i64 0, .int .i64 0, .string ⟨#[]⟩, .string ⟨#[]⟩, .bool false, .int .u32 0, .slice none 0 0, .slice none 0 0] 37)) = w1 at *
    have HM1 := Lib.hid (Rim.of (b := ab) D0.out)
    have HW9 := Lib.hid (show w1.cell? ⟨b, o, none⟩ = some (.int .i64 x.o) ∧ w1.cell? ⟨b, o + 1, none⟩ = some (.int .i64 x.n) ∧ w1.cell? ⟨b, o + 2, none⟩ = some (.int .i64 x.s) ∧ b < w1.heap.size from ⟨ext_cell D0.out HX0.out.1, ext_cell D0.out HX0.out.2.1, ext_cell D0.out HX0.out.2.2.1, Nat.lt_of_lt_of_le HX0.out.2.2.2 D0.out.size⟩)
    clear D0 HX0
    obtain ⟨hy0, hy1, hy2, hyl⟩ := HW9.out
    have hk := blk_cell HA1.out
    have hl := blk_lt HA1.out
    have hf := blk_free HA1.out
    have hn1 : (0 : Int) < ((n' + 1) : Nat) := by omega
    go_upto_region 3 with (fail)
    have E2 := Lib.hid (show Below w1.heap.size w1 (w1.alloc (.cells #[.int .i64 x.o, .int .i64 x.n, .int .i64 x.s] 61)) from (Below.refl _ _).alloc (Nat.le_refl _) _)
    have HK2 := Lib.hid (blk_new w1 #[.int .i64 x.o, .int .i64 x.n, .int .i64 x.s] 61)
    have HA2 := Lib.hid (blk_ext E2.out HA1.out)
    have HR2 := Lib.hid (blk_ext E2.out HR1.out)
    have HM2 := Lib.hid (HM1.out.trans (Rim.of E2.out))
    obtain ⟨p, hp⟩ : ∃ p, w1.heap.size = p := ⟨_, rfl⟩
    rw [hp] at HK2
    try rw [hp]
    clear hp E2 HA1 HR1 HM1 hk hl hf hy0 hy1 hy2 hyl HW9
    generalize (w1.alloc (.cells #[.int .i64 x.o, .int .i64 x.n, .int .i64 x.s] 61)) = w2 at *
    have hk := blk_cell HA2.out
    have hl := blk_lt HA2.out
    have hf := blk_free HA2.out
    go_upto_region 4 with (fail)
    have HA3 := Lib.hid (show (w2.setCell ⟨ab, 5, none⟩ (.slice (some ⟨b, o + 3, none⟩) n' (c' + 1))).heap[ab]? = some (.cells #[.string k.1, .string k.2, .slice (some ⟨sb, 0, none⟩) m sc, .int .i64 (i : Nat), .int .i64 now, .slice (some ⟨b, o + 3, none⟩) n' (c' + 1), .slice none 0 0, .int .i64 q, .int .i64 tag, .int .i64 op, .int .i64 asked, .bool wt, .bool wi, .int .i64 tm, .int .i64 st, .bool kn, .bool br, .int .i64 bl, .bool fr, .int .i64 fl] 57 (0, 0)) from blk_set (n := 5) HA2.out (by first | rfl | simp))
    have hr : Rim ab w2 (w2.setCell ⟨ab, 5, none⟩ (.slice (some ⟨b, o + 3, none⟩) n' (c' + 1))) := rim_set (Rim.of (Below.refl _ _))
    have HR3 := Lib.hid (hr.rimT HA2.out HR2.out (by decide))
    have HK3 := Lib.hid (hr.rimT HA2.out HK2.out (by decide))
    have HM3 := Lib.hid (HM2.out.trans hr)
    clear hr hk hl hf HA2 HR2 HK2 HM2
    generalize (w2.setCell ⟨ab, 5, none⟩ (.slice (some ⟨b, o + 3, none⟩) n' (c' + 1))) = w3 at *
    have HQ3 := Lib.hid (show AgP w3 ab k zs (⟨i, now, rr, q, tag, op, asked, wt, wi, tm, st, kn, br, bl, fr, fl⟩ : Ag) from by
      have h9 := AgP.own H1.out HSV.out HWS.out HM3.out
      have h8 := h9.2.2.2.1
      exact ⟨sb, sc, _, _, by dsimp only; rw [HN'.out, HMZ.out]; exact HA3.out, h9.1, ⟨by rw [HN'.out]; have := h9.2.1; simp only [List.length_cons] at this; rw [HN'.out] at this; omega, by have := h9.2.2.1; unfold maxLen at *; omega, by have := h9.2.2.2.1.drop wec_len 1; simpa using this, .inr ⟨b, o + 3, rfl⟩⟩⟩)
    have hk := blk_cell HK3.out
    have hl := blk_lt HK3.out
    go_wp2_with fail
    refine (agWanted ab k zs _ x w3 HQ3.out t HTT.out).mono ?_
    rintro e w4 ⟨rfl, hq, hr⟩
    have HR4 := Lib.hid (hr.rimT HA3.out HR3.out (by decide))
    have HM4 := Lib.hid (HM3.out.trans hr)
    have HQ4 := Lib.hid hq
    clear hq hr HA3 HR3 HM3 HQ3 hk hl HK3
    have hkr := blk_cell HR4.out
    have hlr := blk_lt HR4.out
    have hfr := blk_free HR4.out
    go_wp2_with fail
    have ht9 : t.2.2 = true := by
      have := HTT.out
      rw [← this]
      unfold wantedM
      split
      · rfl
      · split <;> rfl
    rw [ht9]
    refine bodyPost_ret (v := .tuple #[.agg #[.int .i64 0, .int .i64 t.2.1.op, .int .i64 t.2.1.st, .int .i64 0, .int .i64 0, .int .i64 t.2.1.N, .int .i64 t.2.1.sq, .string t.2.1.a, .string t.2.1.i, .bool false, .int .u32 0, .slice none 0 0, .slice none 0 0], .bool true]) (by have hk2 := blk_cell (blk_fill13 (v0 := .int .i64 0) (v1 := .int .i64 t.2.1.op) (v2 := .int .i64 t.2.1.st) (v3 := .int .i64 0) (v4 := .int .i64 0) (v5 := .int .i64 t.2.1.N) (v6 := .int .i64 t.2.1.sq) (v7 := .string t.2.1.a) (v8 := .string t.2.1.i) (v9 := .bool false) (v10 := .int .u32 0) (v11 := .slice none 0 0) (v12 := .slice none 0 0) HR4.out rfl); simp [results, Try.results22, go_sem, hk2]) rfl ⟨rfl, ?_, ?_⟩
    · exact (HQ4.out).rimO (Rim13 (Rim.of (Below.refl _ _))) HR4.out (by decide) (by decide) (by decide)
    · exact rim_newL HM4.out HRW.out HR4.out (Rim13 (Rim.of (Below.refl _ _)))

set_option maxRecDepth 100000 in
set_option maxHeartbeats 1000000 in
theorem agNext (ab : Nat) (k : ByteArray × ByteArray) (zs : List Int) (s : Ag) (w : World) (h : AgP w ab k zs s) (hb : 0 ≤ s.now ∧ s.now ≤ 1000000 ∧ 0 ≤ s.bl ∧ s.bl ≤ 1000000 ∧ 0 ≤ s.fl ∧ s.fl ≤ 1000000) (t : Ag × Ms × Bool) (ht : nextM k s = t) :
    Calls Try.prog 22 #[.pointer (some ⟨ab, 0, none⟩)] w fun r w' => r = .returned (.tuple #[.agg #[.int .i64 0, .int .i64 t.2.1.op, .int .i64 t.2.1.st, .int .i64 0, .int .i64 0, .int .i64 t.2.1.N, .int .i64 t.2.1.sq, .string t.2.1.a, .string t.2.1.i, .bool false, .int .u32 0, .slice none 0 0, .slice none 0 0], .bool t.2.2]) ∧ AgP w' ab k zs t.1 ∧ Rim ab w w' := by
  rcases hws : s.ws with _ | ⟨x, rr⟩
  · rcases hwi : s.wi with _ | _
    · rcases he : du s.fr s.fl s.now 25 with _ | _
      · exact agNextD2 ab k zs s w h hb t ht hws hwi he
      · exact agNextD1 ab k zs s w h hb t ht hws hwi he
    · rcases hd : du s.br s.bl s.now 10 with _ | _
      · rcases he : du s.fr s.fl s.now 25 with _ | _
        · exact agNextC2 ab k zs s w h hb t ht hws hwi hd he
        · exact agNextC1 ab k zs s w h hb t ht hws hwi hd he
      · rcases hkn : s.kn with _ | _
        · exact agNextB2 ab k zs s w h hb t ht hws hwi hd hkn
        · exact agNextB1 ab k zs s w h hb t ht hws hwi hd hkn
  · exact agNextA ab k zs s w h t ht x rr hws

end Go.Proofs.Ytibgphjadiidaaa
