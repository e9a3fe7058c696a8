/- 'SweepParts': the walk. -/
import Derived.Test.YtohiimfojlcomaaSweepF
import Derived.Test.YtohiimfojlcomaaMask
namespace Go.Proofs.Ytohiimfojlcomaa
open Go.RowKit
set_option linter.unusedVariables false
set_option linter.unusedSimpArgs false

def cntK (ks : List Ky) (k : Ky) : Nat := (ks.filter (fun y => decide (y = k))).length
theorem cnt_yes {ks : List Ky} {y k : Ky} (h : y = k) : cntK (ks ++ [y]) k = cntK ks k + 1 := by unfold cntK; simp [h]
theorem cnt_no {ks : List Ky} {y k : Ky} (h : y ≠ k) : cntK (ks ++ [y]) k = cntK ks k := by unfold cntK; simp [h]
theorem cnt_one {ks : List Ky} (h : ks.Pairwise (fun x y => x ≠ y)) (k : Ky) : cntK ks k ≤ 1 := by
  induction ks with
  | nil => simp [cntK]
  | cons y ys ih =>
    obtain ⟨h1, h2⟩ := List.pairwise_cons.1 h
    by_cases e : y = k
    · subst e
      have h3 : ys.filter (fun z => decide (z = y)) = [] := by
        rw [List.filter_eq_nil_iff]
        intro z hz
        have := h1 z hz
        simp
        exact fun e => this e.symm
      unfold cntK
      rw [List.filter_cons_of_pos (by simp), h3]
      simp
    · unfold cntK
      rw [List.filter_cons_of_neg (by simpa using e)]
      exact ih h2
theorem cnt_mem {ks : List Ky} {k : Ky} (h : 0 < cntK ks k) : k ∈ ks := by
  obtain ⟨y, hy⟩ := List.exists_mem_of_length_pos h
  obtain ⟨h1, h2⟩ := List.mem_filter.1 hy
  have := of_decide_eq_true h2
  subst this
  exact h1
theorem put_out {es : List En} {N K : Int} {x : En} (h : Apart es) (hx : x ∈ es) (hk : key x ∈ pickL es N K) : K < late x N := by
  obtain ⟨e, h1, h2, h3⟩ := pick_mem hk
  rw [← key_inj h e h1 x hx h3]
  exact h2
theorem late_gt {x : En} {N K : Int} (hs : EnS x) (h0 : 0 ≤ N) (h1 : N < 4096) (hK : 0 ≤ K) (h : K < late x N) : x.c.g = false ∧ K < N - x.seen - x.c.l := by
  have hg := late_live (show 0 < late x N by omega)
  rw [late_is hs h0 h1 hg] at h
  refine ⟨hg, ?_⟩
  split at h <;> omega

set_option maxRecDepth 100000 in
set_option maxHeartbeats 4000000 in
theorem sweepParts_walk (ra : Option Addr) (rlen rcap : Nat) (rz : List Int) (now lt : Int) (w : World) (hr : IsRow .i64 w ra rlen rcap rz) (hr8 : rlen * 8 ≤ 140737488351232) (hw1 : (Lit.int .i64 now).wf = true) (hw2 : (Lit.int .i64 lt).wf = true) :
    Calls Try.prog 5 #[.slice ra rlen rcap, .int .i64 now, .int .i64 lt] w fun e w' => e = .returned (.bool true) ∧ Below w.heap.size w w' := by
  obtain ⟨N, hN⟩ : ∃ N, bits BinOp.and IntKind.i64 now 255 = N := ⟨_, rfl⟩
  have hN0 : 0 ≤ N := by rw [← hN, and_255]; omega
  have hN1 : N < 256 := by rw [← hN, and_255]; omega
  obtain ⟨K, hK⟩ : ∃ K, bits BinOp.and IntKind.i64 lt 15 = K := ⟨_, rfl⟩
  have hK0 : 0 ≤ K := by rw [← hK, and_15]; omega
  have hK1 : K < 16 := by rw [← hK, and_15]; omega
  clear hr8 hw1 hw2
  go_enter Try.func5, Try.ntmps5
  go_wp2_with fail
  refine (law12made ra rlen rcap rz _ hr).mono ?_
  rintro e w1 ⟨lv, es, cs, rfl, ho, hmap, hl19, hes, hb1⟩
  have HAP := Lib.hid (keys_apart hmap)
  obtain ⟨ea, ec_, rfl, hec, hem, heat, -, -⟩ := ho.read ec_len
  obtain ⟨n, hn⟩ : ∃ n, es.length = n := ⟨_, rfl⟩
  have HN := Lib.hid hn
  rw [hn] at hec hl19 ⊢
  have HEA := Lib.hid heat
  have HES := Lib.hid hes
  have HB1 := Lib.hid hb1
  unfold maxLen at hem
  clear ho hmap hes hb1 heat hn hr
  go_wp2_with fail
  refine (sweepPick0 ea n ec_ es N K _ HEA.out HN.out hl19 hec hK0).mono ?_
  rintro e w2 ⟨pv, rfl, hop, hbp⟩
  obtain ⟨pa, pc, rfl, hpc, hpm, hpat, -, hpf⟩ := hop.read ky_len
  obtain ⟨P, hP⟩ : ∃ P, (pickL es N K).length = P := ⟨_, rfl⟩
  have HPL := Lib.hid hP
  rw [hP] at hpc ⊢
  have hPM : P ≤ mostN (lives es) := by rw [← hP, pick_len]; omega
  have hP19 : P ≤ 19 := by rw [← hP, pick_len]; have := tars_len es N K; have := HN.out; omega
  have HPM := Lib.hid hPM
  have HPA := Lib.hid hpat
  have HB12 := Lib.hid hbp
  have HB2 := Lib.hid (ext_trans HB1.out hbp)
  unfold maxLen at hpm
  clear hop hbp hpat hP hPM
  go_wp2_with fail
  go_loopw [11, 29] (fun lv i wr => ∃ J : Nat, J ≤ n ∧ i = .int .i64 (J : Int) ∧ lv = .int .i64 ((lives (es.take J) : Nat) : Int) ∧ Below w2.heap.size w2 wr) (fun lv i _ => n - (intOf i).toNat)
  case atStart => exact ⟨0, by omega, rfl, rfl, Below.refl _ _⟩
  case round =>
    obtain ⟨w4, rfl⟩ : ∃ y : World, y = wr := ⟨_, rfl⟩
    obtain ⟨J, hJ, rfl, rfl, hb4⟩ := hrel
    obtain ⟨LV, hLV⟩ : ∃ q, lives (es.take J) = q := ⟨_, rfl⟩
    have HLV := Lib.hid hLV
    have hlv : LV ≤ 19 := by rw [← hLV]; have := lives_len (es.take J); rw [List.length_take] at this; omega
    rw [hLV]
    clear hLV
    by_cases hlt : J < n
    · obtain ⟨x, hx⟩ : ∃ x, es[J]? = some x := ⟨_, List.getElem?_eq_getElem (by have := HN.out; omega)⟩
      have HST := Lib.hid (take_snoc hx)
      have HXM := Lib.hid (List.mem_of_getElem? hx)
      have HXS := Lib.hid (HES.out x HXM.out)
      obtain ⟨tb, tof, rfl⟩ : ∃ b o, ea = some ⟨b, o, none⟩ := by
        rcases HEA.out with h | ⟨b, o, e, _⟩
        · rw [h] at hx; simp at hx
        · exact ⟨b, o, e⟩
      obtain ⟨x0, x1, x2, x3, x4, x5, x6, x7, x8, x9⟩ := EAt.at ((HEA.out.ext HB12.out).ext hb4) hx
      have D0 : Below w4.heap.size w4 (w4.alloc (.cells #[.string x.c.a, .string x.c.i, .int .i64 x.c.s, .int .i64 x.c.o, .int .i64 x.c.l, .int .i64 x.c.t, .int .i64 x.c.k, .int .i64 x.c.n, .bool x.c.g, .int .i64 x.seen] 36)) := (Below.refl _ _).alloc (Nat.le_refl _) _
      have HX := Lib.hid (blk_new w4 #[.string x.c.a, .string x.c.i, .int .i64 x.c.s, .int .i64 x.c.o, .int .i64 x.c.l, .int .i64 x.c.t, .int .i64 x.c.k, .int .i64 x.c.n, .bool x.c.g, .int .i64 x.seen] 36)
      have HB5 := Lib.hid (ext_trans hb4 D0)
      clear hb4 D0 hx
      go_upto_region 8 with (fail)
      obtain ⟨r, hrr⟩ : ∃ r, w4.heap.size = r := ⟨_, rfl⟩
      rw [hrr] at HX ⊢
      clear hrr
      generalize (w4.alloc (.cells #[.string x.c.a, .string x.c.i, .int .i64 x.c.s, .int .i64 x.c.o, .int .i64 x.c.l, .int .i64 x.c.t, .int .i64 x.c.k, .int .i64 x.c.n, .bool x.c.g, .int .i64 x.seen] 36)) = w5 at *
      clear x0 x1 x2 x3 x4 x5 x6 x7 x8 x9
      have hs0 : 0 ≤ x.seen := HXS.out.1
      have hs1 : x.seen < 120 := HXS.out.2.1
      have hs2 : 1 ≤ x.c.l := HXS.out.2.2.1
      have hs3 : x.c.l ≤ 60 := HXS.out.2.2.2
      go_wp2_with fail
      go_loopw [14, 35] (fun c i wr => ∃ I : Nat, I ≤ P ∧ i = .int .i64 (I : Int) ∧ c = .int .i64 ((cntK ((pickL es N K).take I) (key x) : Nat) : Int) ∧ Below w5.heap.size w5 wr) (fun c i _ => P - (intOf i).toNat)
      case atStart => exact ⟨0, by omega, rfl, rfl, Below.refl _ _⟩
      case round =>
        obtain ⟨w6, rfl⟩ : ∃ y : World, y = wr := ⟨_, rfl⟩
        obtain ⟨I, hI, rfl, rfl, hb6⟩ := hrel
        obtain ⟨c, hc⟩ : ∃ c, cntK ((pickL es N K).take I) (key x) = c := ⟨_, rfl⟩
        have HCC := Lib.hid hc
        have hc1 : c ≤ 1 := by rw [← hc]; exact cnt_one ((pick_apart HAP.out N K).sublist (List.take_sublist _ _)) _
        rw [hc]
        clear hc
        by_cases hlt3 : I < P
        · have hlt3' : I < (pickL es N K).length := by rw [HPL.out]; exact hlt3
          obtain ⟨u, hu⟩ : ∃ u, (pickL es N K)[I]? = some u := ⟨_, List.getElem?_eq_getElem hlt3'⟩
          have HSU := Lib.hid (take_snoc hu)
          obtain ⟨pb, rfl⟩ : ∃ g, pa = some ⟨g, 0, none⟩ := by
            rcases hpf with ⟨_, _, e⟩ | ⟨g, e⟩
            · rw [e] at hu; simp at hu
            · exact ⟨g, e⟩
          obtain ⟨y0, y1⟩ := KyAt.at ((HPA.out.ext HB5.out).ext hb6) hu
          simp only [Nat.zero_add] at y0 y1
          have HX7 := Lib.hid (blk_ext hb6 HX.out)
          have hk7 := blk_cell HX7.out
          have hl7 := blk_lt HX7.out
          have HB7 := Lib.hid hb6
          clear hb6 hu
          by_cases h1 : u.1 = x.c.a
          · by_cases h2 : u.2 = x.c.i
            · have HCN := Lib.hid (show cntK ((pickL es N K).take (I + 1)) (key x) = c + 1 from by rw [HSU.out, cnt_yes (Prod.ext h1 h2), HCC.out])
              rw [h1] at y0
              rw [h2] at y1
              clear h1 h2
              go_wp2
              go_roundw
              case rel => exact ⟨I + 1, by omega, by go_num, by rw [HCN.out]; go_num, HB7.out.alloc HB7.out.size _⟩
              case measure => simp [intOf]; omega
            · have HCN := Lib.hid (show cntK ((pickL es N K).take (I + 1)) (key x) = c from by rw [HSU.out, cnt_no (fun e => h2 (congrArg Prod.snd e)), HCC.out])
              have h3 : ¬ u.2.toList = x.c.i.toList := fun e => h2 (str_inj e)
              rw [h1] at y0
              clear h1 h2
              go_wp2
              go_roundw
              case rel => exact ⟨I + 1, by omega, by go_num, by rw [HCN.out], HB7.out.alloc HB7.out.size _⟩
              case measure => simp [intOf]; omega
          · have HCN := Lib.hid (show cntK ((pickL es N K).take (I + 1)) (key x) = c from by rw [HSU.out, cnt_no (fun e => h1 (congrArg Prod.fst e)), HCC.out])
            have h3 : ¬ u.1.toList = x.c.a.toList := fun e => h1 (str_inj e)
            clear h1
            go_wp2
            go_roundw
            case rel => exact ⟨I + 1, by omega, by go_num, by rw [HCN.out], HB7.out.alloc HB7.out.size _⟩
            case measure => simp [intOf]; omega
        · obtain rfl : I = P := by omega
          have HX6 := Lib.hid (blk_ext hb6 HX.out)
          have HB6 := Lib.hid (ext_trans HB5.out hb6)
          have HC0 := Lib.hid (show cntK (pickL es N K) (key x) = c from by rw [← HCC.out, List.take_of_length_le (by have := HPL.out; omega)])
          clear hb6
          rcases (show c = 0 ∨ c = 1 by omega) with h0 | h0
          · cases hg : x.c.g
            · have HXg := Lib.hid (show w6.heap[r]? = some (.cells #[.string x.c.a, .string x.c.i, .int .i64 x.c.s, .int .i64 x.c.o, .int .i64 x.c.l, .int .i64 x.c.t, .int .i64 x.c.k, .int .i64 x.c.n, .bool false, .int .i64 x.seen] 36 (0, 0)) from by have := HX6.out; rw [hg] at this; exact this)
              have hk6 := blk_cell HXg.out
              have HLN := Lib.hid (show lives (es.take (J + 1)) = LV + 1 from by rw [HST.out, lives_yes hg, HLV.out])
              have hdc := decide_eq_false (show ¬ ((1 : Int) < (c : Int)) by omega)
              have hde : ((c : Int) == 1) = false := by simp; omega
              clear hg HX6
              go_wp2
              go_roundw
              case rel => exact ⟨J + 1, by omega, by go_num, by rw [HLN.out]; go_num, HB6.out⟩
              case measure => simp [intOf]; omega
            · have HXg := Lib.hid (show w6.heap[r]? = some (.cells #[.string x.c.a, .string x.c.i, .int .i64 x.c.s, .int .i64 x.c.o, .int .i64 x.c.l, .int .i64 x.c.t, .int .i64 x.c.k, .int .i64 x.c.n, .bool true, .int .i64 x.seen] 36 (0, 0)) from by have := HX6.out; rw [hg] at this; exact this)
              have hk6 := blk_cell HXg.out
              have HLN := Lib.hid (show lives (es.take (J + 1)) = LV from by rw [HST.out, lives_no hg, HLV.out])
              have hdc := decide_eq_false (show ¬ ((1 : Int) < (c : Int)) by omega)
              have hde : ((c : Int) == 1) = false := by simp; omega
              clear hg HX6
              go_wp2
              go_roundw
              case rel => exact ⟨J + 1, by omega, by go_num, by rw [HLN.out], HB6.out⟩
              case measure => simp [intOf]; omega
          · obtain ⟨hg, hlg⟩ := late_gt HXS.out hN0 (show N < 4096 by omega) hK0 (put_out HAP.out HXM.out (cnt_mem (by rw [HC0.out]; omega)))
            have HXg := Lib.hid (show w6.heap[r]? = some (.cells #[.string x.c.a, .string x.c.i, .int .i64 x.c.s, .int .i64 x.c.o, .int .i64 x.c.l, .int .i64 x.c.t, .int .i64 x.c.k, .int .i64 x.c.n, .bool false, .int .i64 x.seen] 36 (0, 0)) from by have := HX6.out; rw [hg] at this; exact this)
            have hk6 := blk_cell HXg.out
            have HLN := Lib.hid (show lives (es.take (J + 1)) = LV + 1 from by rw [HST.out, lives_yes hg, HLV.out])
            have hdc := decide_eq_false (show ¬ ((1 : Int) < (c : Int)) by omega)
            have hde : ((c : Int) == 1) = true := by simp; omega
            have hdl : decide (N - x.seen ≤ x.c.l + K) = false := decide_eq_false (by omega)
            clear hg HX6
            go_wp2
            go_roundw
            case rel => exact ⟨J + 1, by omega, by go_num, by rw [HLN.out]; go_num, HB6.out⟩
            case measure => simp [intOf]; omega
    · obtain rfl : J = n := by omega
      have hLM : P * 100 < LV * 15 + 100 := by
        have h1 := HPM.out
        rw [show lives es = LV from by rw [← HLV.out, List.take_of_length_le (by have := HN.out; omega)]] at h1
        unfold mostN at h1
        omega
      have hd : decide ((P : Int) * 100 < (LV : Int) * 15 + 100) = true := decide_eq_true (by omega)
      have HB4 := Lib.hid (ext_trans HB2.out hb4)
      clear hb4
      go_wp2_with fail
      refine (law12known _).mono ?_
      rintro e w7 ⟨rfl, hb7⟩
      have HB8 := Lib.hid (ext_trans HB4.out hb7)
      clear hb7
      go_wp2
      go_ret
      exact ⟨rfl, HB8.out⟩

end Go.Proofs.Ytohiimfojlcomaa
