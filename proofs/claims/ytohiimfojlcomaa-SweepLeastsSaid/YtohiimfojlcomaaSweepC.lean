/- 'SweepLeasts': the walk. -/
import Derived.Test.YtohiimfojlcomaaSweepF
import Derived.Test.YtohiimfojlcomaaMask
namespace Go.Proofs.Ytohiimfojlcomaa
open Go.RowKit
set_option linter.unusedVariables false
set_option linter.unusedSimpArgs false

theorem filter_prefix (m : Int) (L : List Td) (h : L.Pairwise (fun x y => y.by_ ≤ x.by_)) : L.filter (fun t => decide (m < t.by_)) = L.take (L.filter (fun t => decide (m < t.by_))).length := by
  induction L with
  | nil => rfl
  | cons x xs ih =>
    obtain ⟨h1, h2⟩ := List.pairwise_cons.1 h
    by_cases hx : m < x.by_
    · rw [List.filter_cons_of_pos (by simp [hx]), List.length_cons, List.take_succ_cons, ← ih h2]
    · have h3 : xs.filter (fun t => decide (m < t.by_)) = [] := by
        rw [List.filter_eq_nil_iff]
        intro z hz
        have := h1 z hz
        simp
        omega
      rw [List.filter_cons_of_neg (by simpa using hx), h3]
      rfl
theorem tars_more (l : List En) (now k m : Int) (h : 0 ≤ m) : tars l now (k + m) = (tars l now k).filter (fun t => decide (k + m < t.by_)) := by
  unfold tars
  rw [List.filter_map, List.filter_filter]
  congr 1
  apply List.filter_congr
  intro e _
  simp only [Function.comp]
  by_cases h1 : k + m < late e now
  · simp [h1]; omega
  · simp [h1]
theorem srt_desc (l : List Td) : (srt tlt l).Pairwise (fun x y => y.by_ ≤ x.by_) := by
  refine (srt_is tlt tlt_weak l).imp (fun {x y} h => ?_)
  rcases (tlt_no y x).1 h with h | ⟨h, _⟩ <;> omega
theorem more_prefix (l : List En) (now k m : Int) (h : 0 ≤ m) : ∃ q, srt tlt (tars l now (k + m)) = (srt tlt (tars l now k)).take q := by
  rw [tars_more l now k m h, ← srt_filter tlt tlt_weak]
  exact ⟨_, filter_prefix _ _ (srt_desc _)⟩
theorem pick_more (l : List En) (now k m : Int) (h : 0 ≤ m) (i : Nat) (x : Ky) (hx : (pickL l now (k + m))[i]? = some x) : (pickL l now k)[i]? = some x := by
  obtain ⟨q, e⟩ := more_prefix l now k m h
  unfold pickL at hx ⊢
  rw [e, List.take_take, List.getElem?_map, List.getElem?_take] at hx
  rw [List.getElem?_map, List.getElem?_take]
  split at hx
  · rw [if_pos (by omega)]; exact hx
  · cases hx
theorem filter_mono {α : Type} (p q : α → Bool) (l : List α) (h : ∀ x ∈ l, p x = true → q x = true) : (l.filter p).length ≤ (l.filter q).length := by
  induction l with
  | nil => simp
  | cons x xs ih =>
    have h1 := ih (fun y hy => h y (by simp [hy]))
    cases hp : p x
    · rw [List.filter_cons_of_neg (by simp [hp])]
      cases hq : q x
      · rw [List.filter_cons_of_neg (by simp [hq])]; exact h1
      · rw [List.filter_cons_of_pos hq, List.length_cons]; omega
    · rw [List.filter_cons_of_pos hp, List.filter_cons_of_pos (h x (by simp) hp), List.length_cons, List.length_cons]; omega
theorem pick_more_len (l : List En) (now k m : Int) (h : 0 ≤ m) : (pickL l now (k + m)).length ≤ (pickL l now k).length := by
  rw [pick_len, pick_len]
  have h1 : (tars l now (k + m)).length ≤ (tars l now k).length := by
    unfold tars
    rw [List.length_map, List.length_map]
    refine filter_mono _ _ l (fun x _ hx => ?_)
    have := of_decide_eq_true hx
    exact decide_eq_true (by omega)
  omega
theorem late_mono {e : En} {now m : Int} (hs : EnS e) (h0 : 0 ≤ now) (h1 : now < 256) (h2 : 0 ≤ m) (h3 : m < 32) : late e now ≤ late e (now + m) := by
  cases hg : e.c.g
  · rw [late_is hs h0 (by omega) hg, late_is hs (by omega) (by omega) hg]
    split <;> split <;> omega
  · unfold late
    rw [if_pos hg, if_pos hg]
    omega
theorem pick_later (l : List En) (now k m : Int) (hs : ∀ e ∈ l, EnS e) (h0 : 0 ≤ now) (h1 : now < 256) (h2 : 0 ≤ m) (h3 : m < 32) : (pickL l now k).length ≤ (pickL l (now + m) k).length := by
  rw [pick_len, pick_len]
  have h4 : (tars l now k).length ≤ (tars l (now + m) k).length := by
    unfold tars
    rw [List.length_map, List.length_map]
    refine filter_mono _ _ l (fun x hx hp => ?_)
    have := of_decide_eq_true hp
    have := late_mono (hs x hx) h0 h1 h2 h3
    exact decide_eq_true (by omega)
  omega
theorem pick_most (l : List En) (now k : Int) : (pickL l now k).length ≤ mostN l.length := by
  rw [pick_len]
  have := lives_len l
  unfold mostN
  omega

set_option maxRecDepth 100000 in
set_option maxHeartbeats 4000000 in
theorem sweepLeasts_walk (ra : Option Addr) (rlen rcap : Nat) (rz : List Int) (now lt more : Int) (w : World) (hr : IsRow .i64 w ra rlen rcap rz) (hr8 : rlen * 8 ≤ 140737488351232) (hw1 : (Lit.int .i64 now).wf = true) (hw2 : (Lit.int .i64 lt).wf = true) (hw3 : (Lit.int .i64 more).wf = true) :
    Calls Try.prog 6 #[.slice ra rlen rcap, .int .i64 now, .int .i64 lt, .int .i64 more] w fun e w' => e = .returned (.bool true) ∧ Below w.heap.size w w' := by
  obtain ⟨N, hN⟩ : ∃ N, bits BinOp.and IntKind.i64 now 255 = N := ⟨_, rfl⟩
  have hN0 : 0 ≤ N := by rw [← hN, and_255]; omega
  have hN1 : N < 256 := by rw [← hN, and_255]; omega
  obtain ⟨K, hK⟩ : ∃ K, bits BinOp.and IntKind.i64 lt 15 = K := ⟨_, rfl⟩
  have hK0 : 0 ≤ K := by rw [← hK, and_15]; omega
  have hK1 : K < 16 := by rw [← hK, and_15]; omega
  obtain ⟨M, hM⟩ : ∃ M, bits BinOp.and IntKind.i64 more 31 = M := ⟨_, rfl⟩
  have hM0 : 0 ≤ M := by rw [← hM, and_31]; omega
  have hM1 : M < 32 := by rw [← hM, and_31]; omega
  clear hr8 hw1 hw2 hw3
  go_enter Try.func6, Try.ntmps6
  go_wp2_with fail
  refine (law12made ra rlen rcap rz _ hr).mono ?_
  rintro e w1 ⟨lv, es, cs, rfl, ho, hmap, hl19, hes, hb1⟩
  have HAP := Lib.hid (keys_apart hmap)
  obtain ⟨ea, ec_, rfl, hec, hem, heat, -, -⟩ := ho.read ec_len
  obtain ⟨n, hn⟩ : ∃ n, es.length = n := ⟨_, rfl⟩
  have HN := Lib.hid hn
  rw [hn] at hec hl19 ⊢
  have HEA := Lib.hid heat
  have HES := Lib.hid hes
  have HB1 := Lib.hid hb1
  unfold maxLen at hem
  clear ho hmap hes hb1 heat hn hr
  go_wp2_with fail
  refine (sweepPick0 ea n ec_ es N K _ (HEA.out) HN.out hl19 hec hK0).mono ?_
  rintro e w2 ⟨pv, rfl, hop, hbp⟩
  obtain ⟨pa, pc, rfl, hpc, hpm, hpat, -, hpf⟩ := hop.read ky_len
  obtain ⟨P, hP⟩ : ∃ P, (pickL es (N) (K)).length = P := ⟨_, rfl⟩
  have HPL := Lib.hid hP
  rw [hP] at hpc ⊢
  have hp19 : P ≤ 19 := by rw [← hP, pick_len]; have := tars_len es (N) (K); have := HN.out; omega
  have HPA := Lib.hid hpat
  have HB12 := Lib.hid hbp
  have HB2 := Lib.hid (ext_trans HB1.out hbp)
  unfold maxLen at hpm
  clear hop hbp hpat hP
  skip
  go_wp2_with fail
  refine (sweepPick0 ea n ec_ es N (K + M) _ (HEA.out.ext HB12.out) HN.out hl19 hec (by omega)).mono ?_
  rintro e w3 ⟨qv, rfl, hop, hbp⟩
  obtain ⟨qa, qc, rfl, hqc, hqm, hpat, -, hqf⟩ := hop.read ky_len
  obtain ⟨Q, hP⟩ : ∃ P, (pickL es (N) ((K + M))).length = P := ⟨_, rfl⟩
  have HQL := Lib.hid hP
  rw [hP] at hqc ⊢
  have hq19 : Q ≤ 19 := by rw [← hP, pick_len]; have := tars_len es (N) ((K + M)); have := HN.out; omega
  have HQA := Lib.hid hpat
  have HB23 := Lib.hid hbp
  have HB13 := Lib.hid (ext_trans HB12.out hbp)
  have HB3 := Lib.hid (ext_trans HB2.out hbp)
  unfold maxLen at hqm
  clear hop hbp hpat hP
  have hQP : Q ≤ P := by have := pick_more_len es N K M hM0; rw [HQL.out, HPL.out] at this; exact this
  have hdq : decide ((P : Int) < (Q : Int)) = false := decide_eq_false (by omega)
  go_wp2_with fail
  refine (sweepPick0 ea n ec_ es (N + M) K _ (HEA.out.ext HB13.out) HN.out hl19 hec hK0).mono ?_
  rintro e w4 ⟨sv, rfl, hop, hbp⟩
  obtain ⟨sa, sc, rfl, hsc, hsm, hpat, -, hsf⟩ := hop.read ky_len
  obtain ⟨S, hP⟩ : ∃ P, (pickL es ((N + M)) (K)).length = P := ⟨_, rfl⟩
  have HSL := Lib.hid hP
  rw [hP] at hsc ⊢
  have hs19 : S ≤ 19 := by rw [← hP, pick_len]; have := tars_len es ((N + M)) (K); have := HN.out; omega
  have HSA := Lib.hid hpat
  have HB34 := Lib.hid hbp
  have HB14 := Lib.hid (ext_trans HB13.out hbp)
  have HB4 := Lib.hid (ext_trans HB3.out hbp)
  unfold maxLen at hsm
  clear hop hbp hpat hP
  have hSP : P ≤ S := by have := pick_later es N K M HES.out hN0 hN1 hM0 hM1; rw [HSL.out, HPL.out] at this; exact this
  have hds : decide ((S : Int) < (P : Int)) = false := decide_eq_false (by omega)
  have HB24 := Lib.hid (ext_trans HB23.out HB34.out)
  go_wp2_with fail
  go_loopw [53] (fun i wr => ∃ I : Nat, I ≤ Q ∧ i = .int .i64 (I : Int) ∧ Below w4.heap.size w4 wr) (fun i _ => Q - (intOf i).toNat)
  case atStart => exact ⟨0, by omega, rfl, Below.refl _ _⟩
  case round =>
    obtain ⟨w5, rfl⟩ : ∃ y : World, y = wr := ⟨_, rfl⟩
    obtain ⟨I, hI, rfl, hb5⟩ := hrel
    by_cases hlt : I < Q
    · have hlt' : I < (pickL es N (K + M)).length := by rw [HQL.out]; exact hlt
      obtain ⟨u, hu⟩ : ∃ u, (pickL es N (K + M))[I]? = some u := ⟨_, List.getElem?_eq_getElem hlt'⟩
      have hv := pick_more es N K M hM0 I u hu
      obtain ⟨qb, rfl⟩ : ∃ g, qa = some ⟨g, 0, none⟩ := by
        rcases hqf with ⟨_, _, e⟩ | ⟨g, e⟩
        · rw [e] at hu; simp at hu
        · exact ⟨g, e⟩
      obtain ⟨pb, rfl⟩ : ∃ g, pa = some ⟨g, 0, none⟩ := by
        rcases hpf with ⟨_, _, e⟩ | ⟨g, e⟩
        · rw [e] at hv; simp at hv
        · exact ⟨g, e⟩
      obtain ⟨y0, y1⟩ := KyAt.at ((HQA.out.ext HB34.out).ext hb5) hu
      obtain ⟨z0, z1⟩ := KyAt.at ((HPA.out.ext HB24.out).ext hb5) hv
      simp only [Nat.zero_add] at y0 y1 z0 z1
      have hIP : I < P := by omega
      have HB5 := Lib.hid hb5
      clear hb5 hu hv
      go_wp2_with fail
      haveI hIq : Nonempty (Of w5) := of_some _
      have hF0 := of_cell y0
      have hF1 := of_cell y1
      have hF2 := of_cell z0
      have hF3 := of_cell z1
      first | (refine wp_region_stay w5 (by kernel_rfl) (by kernel_rfl) (by go_grown) ?_) | (refine wp_region_stay_seq w5 (by go_grown) ?_)
      repeat (go_big_quiet_step (fail))
      refine wpQuiet_nil ?_
      intro w6 hb6
      have HB6 := Lib.hid (ext_trans HB5.out hb6)
      clear hIq hF0 hF1 hF2 hF3 hb6
      go_wp2
      go_roundw
      case rel => exact ⟨I + 1, by omega, by go_num, HB6.out⟩
      case measure => simp [intOf]; omega
    · obtain rfl : I = Q := by omega
      have HB5 := Lib.hid (ext_trans HB4.out hb5)
      clear hb5
      go_wp2_with fail
      refine (sweepMost n _ (by omega)).mono ?_
      rintro e w6 ⟨rfl, rfl⟩
      obtain ⟨X, hX⟩ : ∃ X, mostN n = X := ⟨_, rfl⟩
      have hPX : P ≤ X := by have := pick_most es N K; rw [HPL.out, HN.out, hX] at this; exact this
      have hdX : decide ((P : Int) ≤ (X : Int)) = true := decide_eq_true (by omega)
      rw [hX]
      clear hX
      go_wp2_with fail
      refine (law12known _).mono ?_
      rintro e w7 ⟨rfl, hb7⟩
      have HB8 := Lib.hid (ext_trans HB5.out hb7)
      clear hb7
      go_wp2
      go_ret
      exact ⟨rfl, HB8.out⟩

end Go.Proofs.Ytohiimfojlcomaa
