/- Package agent: Want, New. -/
import Derived.Test.YtibgphjadiidaaaAgG
import Derived.Test.YtibgphjadiidaaaCacM
namespace Go.Proofs.Ytibgphjadiidaaa
open Go.RowKit
set_option linter.unusedVariables false
set_option linter.unusedSimpArgs false

def iec (x : Int) : List Value := [.int .i64 x]
theorem iec_len (x : Int) : (iec x).length = 1 := rfl
theorem iec_one (x : Int) : ∀ u ∈ iec x, u.oneCell' = true := by
  intro u hu
  simp [iec] at hu
  subst hu; rfl
theorem info_i : (Try.prog.info? 3).map (fun i => (i.zero, i.size, i.bytes)) = some (some (.int .i64 0), 1, 8) := by kernel_rfl
theorem info_wt : (Try.prog.info? 61).map (fun i => (i.zero, i.size, i.bytes)) = some (some (.agg #[.int .i64 0, .int .i64 0, .int .i64 0]), 3, 24) := by kernel_rfl
set_option maxRecDepth 100000 in
set_option maxHeartbeats 1000000 in
theorem cloneI (a : Option Addr) (n c : Nat) (ls : List Int) (w : World) (h : SAt iec 1 3 w a ls) (hl : ls.length = n) (hn : n ≤ 1000) (hf : (a = none ∧ c = 0) ∨ ∃ b o, a = some ⟨b, o, none⟩) :
    Calls Try.prog 17 #[.slice a n c] w fun e w' => ∃ v', e = .returned v' ∧ OwnR iec 1 3 w.heap.size w' v' ls ∧ Below w.heap.size w w' := by
  obtain ⟨i0, hi, hz0, hz1, hz2⟩ := info_parts' info_i
  rcases hf with ⟨rfl, rfl⟩ | ⟨b, o, rfl⟩
  · have h0 : ls = [] := by
      rcases h with h | ⟨b, o, e, _⟩
      · exact h
      · cases e
    subst h0
    have hn0 : n = 0 := by simpa using hl.symm
    subst hn0
    have hq := (fun w : World => Lib.run_eql_slice_nil (P := Try.prog) w 43 3 none 0 0 0 0 Try.underlying43)
    clear h hl
    go_enter Try.func17, Try.ntmps17
    go_wp2
    go_ret
    exact ⟨_, rfl, OwnR.nil _ _, Below.refl _ _⟩
  · have HN := Lib.hid hl
    have hq := (fun w : World => Lib.run_eql_slice_nil (P := Try.prog) w 43 3 (some ⟨b, o, none⟩) n c 0 0 Try.underlying43)
    have O0 := (OwnR.made (enc := iec) (k := 1) (T := 3) w.heap.size w (Nat.le_refl _))
    have B0 : Below w.heap.size w (w.alloc (.cells #[] 3)) := (Below.refl _ _).alloc (Nat.le_refl _) _
    have hcells := Lib.hid (show ∀ j u, (flat iec ls)[j]? = some u → (w.alloc (.cells #[] 3)).cell? ((⟨b, o, none⟩ : Addr).add j) = some u from fun j u hj => by
      rw [add_off]
      rcases h with h | ⟨b', o', e, _, h⟩
      · rw [h] at hj; simp [flat] at hj
      · simp at e
        obtain ⟨rfl, rfl⟩ := e
        exact ext_cell B0 (h j u hj))
    clear h hl
    go_enter Try.func17, Try.ntmps17
    go_wp2_with (at_builtin; refine wpList_append_own _ rfl _ _ 43 rfl (w.heap.size) 3 i0 (.int .i64 0) 1 8 Try.underlying43 hi hz0 hz1 hz2 rfl (by decide) (.slice (some ⟨w.heap.size, 0, none⟩) 0 0) 0 (flat iec []) rfl O0 ⟨b, o, none⟩ n c (flat iec ls) rfl ?c0 ?c1 ?c2 ?c3 ?c4 ?c5 ?_)
    case c0 => rw [flat_len iec_len, HN.out]
    case c1 => exact hcells.out
    case c2 => exact flat_one iec_one ls
    case c3 => unfold maxLen; omega
    case c4 => omega
    case c5 => exact B0.size
    intro v' w1 ho hg _
    have B1 := B0.grown hg B0.size (fun q hq => own_ge O0 hq)
    have ho' := Lib.hid (show OwnR iec 1 3 w.heap.size w1 v' ls by unfold OwnR; rw [HN.out]; simpa [flat_nil] using ho)
    clear ho hg O0 B0 hq
    go_wp2
    go_ret
    exact ⟨_, rfl, ho'.out, B1⟩

set_option maxRecDepth 100000 in
set_option maxHeartbeats 1000000 in
theorem cloneW (a : Option Addr) (n c : Nat) (ls : List Wt) (w : World) (h : SAt wec 3 61 w a ls) (hl : ls.length = n) (hn : n ≤ 1000) (hf : (a = none ∧ c = 0) ∨ ∃ b o, a = some ⟨b, o, none⟩) :
    Calls Try.prog 20 #[.slice a n c] w fun e w' => ∃ v', e = .returned v' ∧ OwnR wec 3 61 w.heap.size w' v' ls ∧ Below w.heap.size w w' := by
  obtain ⟨i0, hi, hz0, hz1, hz2⟩ := info_parts' info_wt
  rcases hf with ⟨rfl, rfl⟩ | ⟨b, o, rfl⟩
  · have h0 : ls = [] := by
      rcases h with h | ⟨b, o, e, _⟩
      · exact h
      · cases e
    subst h0
    have hn0 : n = 0 := by simpa using hl.symm
    subst hn0
    have hq := (fun w : World => Lib.run_eql_slice_nil (P := Try.prog) w 53 61 none 0 0 0 0 Try.underlying53)
    clear h hl
    go_enter Try.func20, Try.ntmps20
    go_wp2
    go_ret
    exact ⟨_, rfl, OwnR.nil _ _, Below.refl _ _⟩
  · have HN := Lib.hid hl
    have hq := (fun w : World => Lib.run_eql_slice_nil (P := Try.prog) w 53 61 (some ⟨b, o, none⟩) n c 0 0 Try.underlying53)
    have O0 := (OwnR.made (enc := wec) (k := 3) (T := 61) w.heap.size w (Nat.le_refl _))
    have B0 : Below w.heap.size w (w.alloc (.cells #[] 61)) := (Below.refl _ _).alloc (Nat.le_refl _) _
    have hcells := Lib.hid (show ∀ j u, (flat wec ls)[j]? = some u → (w.alloc (.cells #[] 61)).cell? ((⟨b, o, none⟩ : Addr).add j) = some u from fun j u hj => by
      rw [add_off]
      rcases h with h | ⟨b', o', e, _, h⟩
      · rw [h] at hj; simp [flat] at hj
      · simp at e
        obtain ⟨rfl, rfl⟩ := e
        exact ext_cell B0 (h j u hj))
    clear h hl
    go_enter Try.func20, Try.ntmps20
    go_wp2_with (at_builtin; refine wpList_append_own _ rfl _ _ 53 rfl (w.heap.size) 61 i0 (.agg #[.int .i64 0, .int .i64 0, .int .i64 0]) 3 24 Try.underlying53 hi hz0 hz1 hz2 rfl (by decide) (.slice (some ⟨w.heap.size, 0, none⟩) 0 0) 0 (flat wec []) rfl O0 ⟨b, o, none⟩ n c (flat wec ls) rfl ?c0 ?c1 ?c2 ?c3 ?c4 ?c5 ?_)
    case c0 => rw [flat_len wec_len, HN.out]
    case c1 => exact hcells.out
    case c2 => exact flat_one wec_one ls
    case c3 => unfold maxLen; omega
    case c4 => omega
    case c5 => exact B0.size
    intro v' w1 ho hg _
    have B1 := B0.grown hg B0.size (fun q hq => own_ge O0 hq)
    have ho' := Lib.hid (show OwnR wec 3 61 w.heap.size w1 v' ls by unfold OwnR; rw [HN.out]; simpa [flat_nil] using ho)
    clear ho hg O0 B0 hq
    go_wp2
    go_ret
    exact ⟨_, rfl, ho'.out, B1⟩

set_option maxRecDepth 100000 in
set_option maxHeartbeats 1000000 in
theorem mayYes (op n : Int) (w : World) (h : op = 1 ∨ op = 3 ∨ op = 4) (h1 : 1 ≤ n) (h2 : n ≤ 1048576) :
    Calls Try.prog 19 #[.int .i64 op, .int .i64 n, .int .i64 1] w fun r w' => r = .returned (.bool true) ∧ w = w' := by
  have d1 : decide (1 ≤ n) = true := decide_eq_true h1
  have d2 : decide (n ≤ 1048576) = true := decide_eq_true h2
  rcases h with rfl | rfl | rfl
  all_goals
    go_enter Try.func19, Try.ntmps19
    go_wp2
    go_ret
    exact ⟨rfl, rfl⟩

set_option maxRecDepth 100000 in
set_option maxHeartbeats 1000000 in
theorem mayNo (n : Int) (w : World) :
    Calls Try.prog 19 #[.int .i64 2, .int .i64 n, .int .i64 1] w fun r w' => r = .returned (.bool false) ∧ w = w' := by
  go_enter Try.func19, Try.ntmps19
  go_wp2
  go_ret
  exact ⟨rfl, rfl⟩

set_option maxRecDepth 100000 in
set_option maxHeartbeats 1000000 in
theorem agWantNo (ab : Nat) (k : ByteArray × ByteArray) (zs : List Int) (s : Ag) (nn : Int) (w : World) (h : AgP w ab k zs s) :
    Calls Try.prog 8 #[.pointer (some ⟨ab, 0, none⟩), .int .i64 2, .int .i64 nn, .int .i64 1] w fun r w' => r = .returned (.int .i64 1) ∧ w = w' := by
  go_enter Try.func8, Try.ntmps8
  go_wp2_with fail
  refine (mayNo nn _).mono ?_
  rintro e w1 ⟨rfl, rfl⟩
  go_wp2
  go_ret
  exact ⟨rfl, rfl⟩

set_option maxRecDepth 100000 in
set_option maxHeartbeats 1000000 in
theorem agWantFull (ab : Nat) (k : ByteArray × ByteArray) (zs : List Int) (s : Ag) (wop nn : Int) (w : World) (h : AgP w ab k zs s) (hop : wop = 1 ∨ wop = 3 ∨ wop = 4) (hn1 : 1 ≤ nn) (hn2 : nn ≤ 1048576) (h8 : 8 ≤ s.ws.length) :
    Calls Try.prog 8 #[.pointer (some ⟨ab, 0, none⟩), .int .i64 wop, .int .i64 nn, .int .i64 1] w fun r w' => r = .returned (.int .i64 24) ∧ w = w' := by
  obtain ⟨i, now, ws, q, tag, op, asked, wt, wi, tm, st, kn, br, bl, fr, fl⟩ := s
  obtain ⟨sb, sc, wa, wc, h1, hsv, hws⟩ := h
  dsimp only at *
  obtain ⟨n, hn⟩ : ∃ n, ws.length = n := ⟨_, rfl⟩
  obtain ⟨m, hm⟩ : ∃ m, zs.length = m := ⟨_, rfl⟩
  rw [hn, hm] at h1
  have H1 := Lib.hid h1
  have HSV := Lib.hid hsv
  have HWS := Lib.hid hws
  have HN := Lib.hid hn
  have HM := Lib.hid hm
  clear h1 hsv hws hn hm
  have h8' : (8 : Int) ≤ (n : Int) := by rw [← HN.out]; omega
  have h9' : decide ((8 : Int) ≤ (n : Int)) = true := decide_eq_true h8'
  have h9'' : decide (8 ≤ n) = true := decide_eq_true (by omega)
  clear h8
  have hk := blk_cell H1.out
  have hl := blk_lt H1.out
  go_enter Try.func8, Try.ntmps8
  go_wp2_with fail
  refine (mayYes wop nn _ hop hn1 hn2).mono ?_
  rintro e w1 ⟨rfl, rfl⟩
  go_wp2
  go_ret
  exact ⟨rfl, rfl⟩

set_option maxRecDepth 100000 in
set_option maxHeartbeats 1000000 in
theorem agWant (ab : Nat) (k : ByteArray × ByteArray) (zs : List Int) (s : Ag) (wop nn : Int) (w : World) (h : AgP w ab k zs s) (hop : wop = 1 ∨ wop = 3 ∨ wop = 4) (hn1 : 1 ≤ nn) (hn2 : nn ≤ 1048576) (h8 : s.ws.length < 8) :
    Calls Try.prog 8 #[.pointer (some ⟨ab, 0, none⟩), .int .i64 wop, .int .i64 nn, .int .i64 1] w fun r w' => r = .returned (.int .i64 0) ∧ AgP w' ab k zs { s with ws := s.ws ++ [⟨wop, nn, 1⟩] } ∧ Rim ab w w' := by
  obtain ⟨i, now, ws, q, tag, op, asked, wt, wi, tm, st, kn, br, bl, fr, fl⟩ := s
  obtain ⟨sb, sc, wa, wc, h1, hsv, hws⟩ := h
  dsimp only at *
  obtain ⟨n, hn⟩ : ∃ n, ws.length = n := ⟨_, rfl⟩
  obtain ⟨m, hm⟩ : ∃ m, zs.length = m := ⟨_, rfl⟩
  rw [hn, hm] at h1
  have H1 := Lib.hid h1
  have HSV := Lib.hid hsv
  have HWS := Lib.hid hws
  have HN := Lib.hid hn
  have HM := Lib.hid hm
  clear h1 hsv hws hn hm
  have h8' : (n : Int) < 8 := by rw [← HN.out]; omega
  have h88 : n < 8 := by omega
  have h9' : decide ((8 : Int) ≤ (n : Int)) = false := decide_eq_false (by omega)
  have h9'' : decide (8 ≤ n) = false := decide_eq_false (by omega)
  clear h8
  obtain ⟨i0, hi, hz0, hz1, hz2⟩ := info_parts' info_wt
  have hk := blk_cell H1.out
  have hl := blk_lt H1.out
  have hf := blk_free H1.out
  go_enter Try.func8, Try.ntmps8
  go_wp2_with fail
  refine (mayYes wop nn _ hop hn1 hn2).mono ?_
  rintro e w1 ⟨rfl, rfl⟩
  go_wp2_with fail
  refine (cloneW wa n wc ws _ HWS.out.2.2.1 HN.out (by omega) HWS.out.2.2.2).mono ?_
  rintro e w2 ⟨v2, rfl, ho, hb⟩
  have HO2 := Lib.hid ho
  have HB2 := Lib.hid hb
  have HA2 := Lib.hid (blk_ext hb H1.out)
  clear ho hb hk hl hf
  have E3 := Lib.hid (show Below w2.heap.size w2 (w2.alloc (.cells #[.int .i64 wop, .int .i64 nn, .int .i64 1] 61)) from (Below.refl _ _).alloc (Nat.le_refl _) _)
  go_wp2_with (at_builtin; refine wpList_append_own _ rfl _ _ 53 rfl (w.heap.size) 61 i0 (.agg #[.int .i64 0, .int .i64 0, .int .i64 0]) 3 24 Try.underlying53 hi hz0 hz1 hz2 rfl (by decide) v2 n (flat wec ws) rfl (by have := (OwnR.ext HO2.out E3.out); unfold OwnR at this; rwa [HN.out] at this) ⟨w2.heap.size, 0, none⟩ 1 1 (wec ⟨wop, nn, 1⟩) rfl rfl ?c1 ?c2 ?c3 ?c4 ?c5 ?_)
  case c1 =>
    intro j u hj
    rw [add_off, Nat.zero_add, blk_cell (blk_new w2 #[.int .i64 wop, .int .i64 nn, .int .i64 1] 61)]
    simpa [wec] using hj
  case c2 => exact wec_one _
  case c3 => unfold maxLen; omega
  case c4 => omega
  case c5 => have := HB2.out.size; simp; omega
  intro v3 w3 ho3 hg3 _
  have HO3 := Lib.hid (show OwnR wec 3 61 w.heap.size w3 v3 (ws ++ [⟨wop, nn, 1⟩]) from by unfold OwnR; rw [flat_snoc, List.length_append, HN.out]; exact ho3)
  have HB3 := Lib.hid (show Below w.heap.size w w3 from Below.grown (ext_trans HB2.out E3.out) hg3 (Nat.le_trans HB2.out.size E3.out.size) (fun q hq => own_ge (OwnR.ext HO2.out E3.out) hq))
  have HA3 := Lib.hid (blk_ext HB3.out H1.out)
  obtain ⟨a3, c3, e3, hc3, hm3, hs3, hg, hf3⟩ := HO3.out.read wec_len
  have hlen : (ws ++ [(⟨wop, nn, 1⟩ : Wt)]).length = n + 1 := by rw [List.length_append, HN.out]; rfl
  rw [hlen] at e3 hc3
  subst e3
  have HF3 := Lib.hid (And.intro hc3 (And.intro hm3 (And.intro hs3 hf3)))
  have hb3 := HB3.out.size
  have HSV3 := Lib.hid (HSV.out.keep fun b cur hc => HB3.out.block b (blk_lt hc))
  clear ho3 hg3 hc3 hm3 hs3 hg hf3 E3 HO3 HO2 HA2
  have hk := blk_cell HA3.out
  have hl := blk_lt HA3.out
  have hf := blk_free HA3.out
  go_wp2
  go_ret
  have hr : Rim ab w3 (w3.setCell ⟨ab, 5, none⟩ (.slice a3 (n + 1) c3)) := rim_set (Rim.of (Below.refl _ _))
  refine ⟨rfl, ⟨sb, sc, a3, c3, ?_, ?_, ?_⟩, (Rim.of HB3.out).trans hr⟩
  · dsimp only
    rw [hlen, HM.out]
    exact blk_set (n := 5) HA3.out (by first | rfl | simp)
  · exact HSV3.out.keep fun b cur hc => hr.block b (fun e => by subst e; have h9 := HA3.out.symm.trans hc; simp at h9) (blk_lt hc)
  · dsimp only
    refine ⟨by rw [hlen]; exact HF3.out.1, HF3.out.2.1, HF3.out.2.2.1.keep fun b cur hc _ => hr.block b (fun e => by subst e; have h9 := HA3.out.symm.trans hc; simp at h9) (blk_lt hc), ?_⟩
    rcases HF3.out.2.2.2 with ⟨e1, e2, -⟩ | ⟨g, e1⟩
    · exact .inl ⟨e1, e2⟩
    · exact .inr ⟨g, 0, e1⟩

set_option maxRecDepth 100000 in
set_option maxHeartbeats 1000000 in
theorem cacheNew (w : World) :
    Calls Try.prog 18 #[] w fun r w' => r = .returned (.pointer (some ⟨w.heap.size, 0, none⟩)) ∧ w'.heap[w.heap.size]? = some (.cells #[.slice none 0 0, .int .i64 (-1)] 52 (0, 0)) ∧ Below w.heap.size w w' := by
  go_enter Try.func18, Try.ntmps18
  go_wp2
  go_ret
  exact ⟨rfl, blk_new _ _ _, (Below.refl _ _).alloc (Nat.le_refl _) _⟩

set_option maxRecDepth 100000 in
set_option maxHeartbeats 2000000 in
theorem agNew (k : ByteArray × ByteArray) (zs : List Int) (a : Option Addr) (m c : Nat) (w : World) (h1 : NmOk k.1) (h2 : NmOk k.2) (ha : SAt iec 1 3 w a zs) (hl : zs.length = m) (hm : 1 ≤ m) (hm6 : m ≤ 6) :
    Calls Try.prog 6 #[.agg #[.string k.1, .string k.2], .slice a m c] w fun r w' => ∃ ab, r = .returned (.pointer (some ⟨ab, 0, none⟩)) ∧ w.heap.size ≤ ab ∧ AgP w' ab k zs (⟨0, 0, [], -1, 0, 0, 0, false, false, 0, 0, false, false, 0, false, 0⟩ : Ag) ∧ Below w.heap.size w w' := by
  have D0 := Lib.hid (show Below w.heap.size w (w.alloc (.cells #[.string k.1, .string k.2] 23)) from (Below.refl _ _).alloc (Nat.le_refl _) _)
  have HX := Lib.hid (blk_new w #[.string k.1, .string k.2] 23)
  have HA := Lib.hid (ha.ext D0.out)
  have HL := Lib.hid hl
  have HN1 := Lib.hid h1
  have HN2 := Lib.hid h2
  have haa : ∃ b o, a = some ⟨b, o, none⟩ := by
    rcases ha with h | ⟨b, o, e, _⟩
    · rw [h] at hl; simp at hl; omega
    · exact ⟨b, o, e⟩
  have d1 : decide (m < 1) = false := decide_eq_false (by omega)
  have d2 : decide (6 < m) = false := decide_eq_false (by omega)
  have d3 : decide ((m : Int) < 1) = false := decide_eq_false (by omega)
  have d4 : decide (6 < (m : Int)) = false := decide_eq_false (by omega)
  clear h1 h2 ha hl
  go_enter Try.func6, Try.ntmps6
  go_upto_region 1 with (fail)
  obtain ⟨p, hp⟩ : ∃ p, w.heap.size = p := ⟨_, rfl⟩
  rw [hp] at HX
  try rw [hp]
  clear hp
  generalize (w.alloc (.cells #[.string k.1, .string k.2] 23)) = w1 at *
  have hk := blk_cell HX.out
  have hl := blk_lt HX.out
  go_wp2_with fail
  refine (nameOk k.1 _ HN1.out).mono ?_
  rintro e w2 ⟨rfl, hb⟩
  have HX2 := Lib.hid (blk_ext hb HX.out)
  have D2 := Lib.hid (ext_trans D0.out hb)
  have HA2 := Lib.hid (HA.out.ext hb)
  clear hk hl hb HX D0 HA
  have hk := blk_cell HX2.out
  have hl := blk_lt HX2.out
  go_wp2_with fail
  refine (nameOk k.2 _ HN2.out).mono ?_
  rintro e w3 ⟨rfl, hb⟩
  have HX3 := Lib.hid (blk_ext hb HX2.out)
  have D3 := Lib.hid (ext_trans D2.out hb)
  have HA3 := Lib.hid (HA2.out.ext hb)
  clear hk hl hb HX2 D2 HA2
  go_upto_region 3 with (fail)
  haveI hI0 : Nonempty (In (fun W : World => W.heap[p]? = some (.cells #[.string k.1, .string k.2] 23 (0, 0)))) := ⟨⟨_, HX3.out⟩⟩
  have hL0 : ∀ g : In (fun W : World => W.heap[p]? = some (.cells #[.string k.1, .string k.2] 23 (0, 0))), p < g.w.heap.size := fun g => blk_lt g.h
  have hB0 : ∀ g : In (fun W : World => W.heap[p]? = some (.cells #[.string k.1, .string k.2] 23 (0, 0))), ∀ n, g.w.cell? ⟨p, n, none⟩ = (#[.string k.1, .string k.2] : Array Value)[n]? := fun g => blk_cell g.h
  refine Hist.wp_region_hist (fun W : World => W.heap[p]? = some (.cells #[.string k.1, .string k.2] 23 (0, 0))) (by kernel_rfl) (by kernel_rfl) (by kernel_rfl) (show (fun W : World => W.heap[p]? = some (.cells #[.string k.1, .string k.2] 23 (0, 0))) w3.drew from blk_drew HX3.out) ?_
  have HX4 := Lib.hid (blk_drew HX3.out)
  have D4 := Lib.hid (ext_trans D3.out (Below.refl w3.heap.size w3).drew)
  have HA4 := Lib.hid (HA3.out.ext (Below.refl w3.heap.size w3).drew)
  clear HX3 D3 HA3
  generalize w3.drew = x0 at *
  repeat (first | (refine Hist.wpG_plain 0 _ (by decide +kernel) rfl (by rfl) (by rfl) (fun K hK => ?_); go_big_quiet_op; refine hK _ ?_; clear hK K))
  refine Hist.wpG_call (by rfl) (by rfl) (fun K hK => ?_)
  go_big_op
  refine (cloneI a m c zs _ HA4.out HL.out (by omega) (.inr haa)).mono ?_
  rintro e x1 ⟨v1, rfl, ho, hb⟩
  have HX5 := Lib.hid (blk_ext hb HX4.out)
  have D5 := Lib.hid (ext_trans D4.out hb)
  have HO5 := Lib.hid ho
  refine hK _ _ ⟨(fun _ : World => True), (by simp only [List.cons_append, List.nil_append, List.forall_mem_cons]; repeat' (first | exact HX5.out | (intro _ h; cases h; done) | (exact trivial) | constructor)), ?_⟩
  clear hK K ho hb HX4 D4 HA4
  repeat (first | (refine Hist.wpG_plain 1 _ (by decide +kernel) rfl (by rfl) (by rfl) (fun K hK => ?_); go_big_quiet_op; refine hK _ ?_; clear hK K) | (refine Hist.wpG_plain 0 _ (by decide +kernel) rfl (by rfl) (by rfl) (fun K hK => ?_); go_big_quiet_op; refine hK _ ?_; clear hK K))
  refine Hist.wpG_call (by rfl) (by rfl) (fun K hK => ?_)
  go_big_op
  refine (cacheNew _).mono ?_
  rintro e x2 ⟨rfl, hc, hb⟩
  obtain ⟨cb, hcb⟩ : ∃ cb, x1.heap.size = cb := ⟨_, rfl⟩
  rw [hcb] at hc
  try rw [hcb]
  have HC6 := Lib.hid hc
  have HX6 := Lib.hid (blk_ext hb HX5.out)
  have D6 := Lib.hid (ext_trans D5.out hb)
  have HO6 := Lib.hid (OwnR.ext HO5.out hb)
  haveI hI2 : Nonempty (In (fun W : World => W.heap[cb]? = some (.cells #[.slice none 0 0, .int .i64 (-1)] 52 (0, 0)))) := ⟨⟨_, HC6.out⟩⟩
  have hL2 : ∀ g : In (fun W : World => W.heap[cb]? = some (.cells #[.slice none 0 0, .int .i64 (-1)] 52 (0, 0))), cb < g.w.heap.size := fun g => blk_lt g.h
  have hB2 : ∀ g : In (fun W : World => W.heap[cb]? = some (.cells #[.slice none 0 0, .int .i64 (-1)] 52 (0, 0))), ∀ n, g.w.cell? ⟨cb, n, none⟩ = (#[.slice none 0 0, .int .i64 (-1)] : Array Value)[n]? := fun g => blk_cell g.h
  refine hK _ _ ⟨(fun W : World => W.heap[cb]? = some (.cells #[.slice none 0 0, .int .i64 (-1)] 52 (0, 0))), (by simp only [List.cons_append, List.nil_append, List.forall_mem_cons]; repeat' (first | exact HX6.out | exact HC6.out | (intro _ h; cases h; done) | (exact trivial) | constructor)), ?_⟩
  clear hK K hc hb hcb HX5 D5 HO5
  obtain ⟨sa, sc, e1, hs1, hs2, hs3, hs4, hs5⟩ := HO6.out.read iec_len
  rw [HL.out] at e1 hs1
  obtain ⟨sb, rfl⟩ : ∃ sb, sa = some ⟨sb, 0, none⟩ := by
    rcases hs5 with ⟨-, -, e⟩ | ⟨g, e⟩
    · have := HL.out; rw [e] at this; simp at this; omega
    · exact ⟨g, e⟩
  subst e1
  have HSV := Lib.hid (show SvP x2 sb sc zs from by
    refine ⟨by rw [HL.out]; exact hs1, hs2, ?_⟩
    rcases hs3 with h | ⟨b', o', e, ⟨cur, hc⟩, h⟩
    · have := HL.out; rw [h] at this; simp at this; omega
    · simp only [Option.some.injEq, Addr.mk.injEq] at e
      obtain ⟨rfl, rfl, -⟩ := e
      refine ⟨cur, hc, fun j z hj => ?_⟩
      have hq := h j (.int .i64 z) (by
        have := flat_at iec_len zs j z hj 0 (by decide)
        simpa [iec] using this)
      rw [blk_cell hc] at hq
      simpa using hq)
  clear hs1 hs2 hs3 hs4 hs5 HO6
  repeat (first | (refine Hist.wpG_plain 2 _ (by decide +kernel) rfl (by rfl) (by rfl) (fun K hK => ?_); go_big_quiet_op; refine hK _ ?_; clear hK K) | (refine Hist.wpG_plain 1 _ (by decide +kernel) rfl (by rfl) (by rfl) (fun K hK => ?_); go_big_quiet_op; refine hK _ ?_; clear hK K) | (refine Hist.wpG_plain 0 _ (by decide +kernel) rfl (by rfl) (by rfl) (fun K hK => ?_); go_big_quiet_op; refine hK _ ?_; clear hK K))
  refine Hist.wpG_call (by rfl) (by rfl) (fun K hK => ?_)
  go_big_op
  have E7 := (Below.refl x2.heap.size x2).alloc (Nat.le_refl _) (.cells #[.string k.1, .string k.2, .slice (some ⟨sb, 0, none⟩) m sc, .int .i64 0, .int .i64 0, .slice none 0 0, .slice none 0 0, .int .i64 (-1), .int .i64 0, .int .i64 0, .int .i64 0, .bool false, .bool false, .int .i64 0, .int .i64 0, .bool false, .bool false, .int .i64 0, .bool false, .int .i64 0] 57)
  have HA7 := Lib.hid (blk_new x2 #[.string k.1, .string k.2, .slice (some ⟨sb, 0, none⟩) m sc, .int .i64 0, .int .i64 0, .slice none 0 0, .slice none 0 0, .int .i64 (-1), .int .i64 0, .int .i64 0, .int .i64 0, .bool false, .bool false, .int .i64 0, .int .i64 0, .bool false, .bool false, .int .i64 0, .bool false, .int .i64 0] 57)
  have HX7 := Lib.hid (blk_ext E7 HX6.out)
  have HC7 := Lib.hid (blk_ext E7 HC6.out)
  have D7 := Lib.hid (ext_trans D6.out E7)
  have HSV7 := Lib.hid (HSV.out.keep fun b cur hc => E7.block b (blk_lt hc))
  have hab := D6.out.size
  refine hK _ _ ⟨(fun _ : World => True), (by simp only [List.cons_append, List.nil_append, List.forall_mem_cons]; repeat' (first | exact HX7.out | exact HC7.out | (intro _ h; cases h; done) | (exact trivial) | constructor)), ?_⟩
  clear hK K E7
  try simp only [Act.put, List.setIfInBounds_toArray, List.set_cons_succ, List.set_cons_zero]
  repeat (first | (refine Hist.wpG_plain 3 _ (by decide +kernel) rfl (by rfl) (by rfl) (fun K hK => ?_); go_big_quiet_op; refine hK _ ?_; clear hK K) | (refine Hist.wpG_plain 2 _ (by decide +kernel) rfl (by rfl) (by rfl) (fun K hK => ?_); go_big_quiet_op; refine hK _ ?_; clear hK K) | (refine Hist.wpG_plain 1 _ (by decide +kernel) rfl (by rfl) (by rfl) (fun K hK => ?_); go_big_quiet_op; refine hK _ ?_; clear hK K) | (refine Hist.wpG_plain 0 _ (by decide +kernel) rfl (by rfl) (by rfl) (fun K hK => ?_); go_big_quiet_op; refine hK _ ?_; clear hK K))
  refine Hist.wpG_nil ?_
  clear hI0 hI2 hL0 hL2 hB0 hB2
  go_wp2
  go_ret
  refine ⟨x2.heap.size, rfl, hab, ⟨sb, sc, none, 0, ?_, HSV7.out, ⟨Nat.le_refl _, Nat.zero_le _, .inl rfl, .inl ⟨rfl, rfl⟩⟩⟩, D7.out⟩
  dsimp only [List.length_nil]
  rw [HL.out]
  exact HA7.out

set_option maxRecDepth 100000 in
set_option maxHeartbeats 1000000 in
theorem agNewNone (k : ByteArray × ByteArray) (w : World) (h1 : NmOk k.1) (h2 : NmOk k.2) :
    Calls Try.prog 6 #[.agg #[.string k.1, .string k.2], .slice none 0 0] w fun r w' => r = .returned (.pointer none) ∧ Below w.heap.size w w' := by
  have D0 := Lib.hid (show Below w.heap.size w (w.alloc (.cells #[.string k.1, .string k.2] 23)) from (Below.refl _ _).alloc (Nat.le_refl _) _)
  have HX := Lib.hid (blk_new w #[.string k.1, .string k.2] 23)
  have HN1 := Lib.hid h1
  have HN2 := Lib.hid h2
  clear h1 h2
  go_enter Try.func6, Try.ntmps6
  go_upto_region 1 with (fail)
  obtain ⟨p, hp⟩ : ∃ p, w.heap.size = p := ⟨_, rfl⟩
  rw [hp] at HX
  try rw [hp]
  clear hp
  generalize (w.alloc (.cells #[.string k.1, .string k.2] 23)) = w1 at *
  have hk := blk_cell HX.out
  have hl := blk_lt HX.out
  go_wp2_with fail
  refine (nameOk k.1 _ HN1.out).mono ?_
  rintro e w2 ⟨rfl, hb⟩
  have HX2 := Lib.hid (blk_ext hb HX.out)
  have D2 := Lib.hid (ext_trans D0.out hb)
  clear hk hl hb HX D0
  have hk := blk_cell HX2.out
  have hl := blk_lt HX2.out
  go_wp2_with fail
  refine (nameOk k.2 _ HN2.out).mono ?_
  rintro e w3 ⟨rfl, hb⟩
  have D3 := Lib.hid (ext_trans D2.out hb)
  clear hk hl hb HX2 D2
  go_wp2
  go_ret
  exact ⟨rfl, D3.out⟩

set_option maxRecDepth 100000 in
set_option maxHeartbeats 1000000 in
theorem nameEmpty (w : World) :
    Calls Try.prog 16 #[.string ⟨#[]⟩] w fun r w' => r = .returned (.bool false) ∧ w = w' := by
  go_enter Try.func16, Try.ntmps16
  go_wp2
  go_ret
  exact ⟨rfl, rfl⟩

set_option maxRecDepth 100000 in
set_option maxHeartbeats 1000000 in
theorem agNewEmpty (a : Option Addr) (m c : Nat) (w : World) :
    Calls Try.prog 6 #[.agg #[.string ⟨#[]⟩, .string ⟨#[]⟩], .slice a m c] w fun r w' => r = .returned (.pointer none) ∧ Below w.heap.size w w' := by
  have D0 := Lib.hid (show Below w.heap.size w (w.alloc (.cells #[.string ⟨#[]⟩, .string ⟨#[]⟩] 23)) from (Below.refl _ _).alloc (Nat.le_refl _) _)
  have HX := Lib.hid (blk_new w #[.string ⟨#[]⟩, .string ⟨#[]⟩] 23)
  go_enter Try.func6, Try.ntmps6
  go_upto_region 1 with (fail)
  obtain ⟨p, hp⟩ : ∃ p, w.heap.size = p := ⟨_, rfl⟩
  rw [hp] at HX
  try rw [hp]
  clear hp
  generalize (w.alloc (.cells #[.string ⟨#[]⟩, .string ⟨#[]⟩] 23)) = w1 at *
  have hk := blk_cell HX.out
  have hl := blk_lt HX.out
  go_wp2_with fail
  refine (nameEmpty _).mono ?_
  rintro e w2 ⟨rfl, rfl⟩
  go_wp2
  go_ret
  exact ⟨rfl, D0.out⟩

end Go.Proofs.Ytibgphjadiidaaa
