/- Layer 3's laws, walked: FrameNumbers. -/
import Derived.Test.YtiblnonmlekjgaaFrameV
import Derived.Test.YtiblnonmlekjgaaFrameT
import Derived.Test.YtiblnonmlekjgaaSplit
namespace Go.Proofs.Ytiblnonmlekjgaa
open Go.RowKit
set_option linter.unusedVariables false

theorem wf_i64 {n : Int} (h : -9223372036854775808 ≤ n) (h1 : n ≤ 9223372036854775807) : (Lit.int .i64 n).wf = true := by
  simp [Lit.wf, IntKind.min, IntKind.max, IntKind.signed, IntKind.bits]
  omega
theorem isrow_new (w : World) (zs : List Int) (T : TypeId) (hz : ∀ n ∈ zs, (Lit.int .i64 n).wf = true) (hm : zs.length ≤ maxLen) : IsRow .i64 (w.alloc (.cells (zs.map fun n => Value.int .i64 n).toArray T)) (some ⟨w.heap.size, 0, none⟩) zs.length zs.length zs := by
  refine ⟨Nat.le_refl _, hm, rfl, hz, .inr ⟨_, _, rfl, fun i hi => ?_⟩⟩
  rw [blk_cell (blk_new w _ T)]
  simp [List.getD, hi]
theorem own_at {w : World} {base n : Nat} {e : TypeId} {v : Value} {vs : List Value} (h : w.ownsRow base e 1 v n vs) (hn : 0 < n) : ∃ g c, v = .slice (some ⟨g, 0, none⟩) n c ∧ base ≤ g := by
  rcases h.2 with ⟨e1, e2⟩ | ⟨g, cap', cur, e1, hg, _⟩
  · omega
  · exact ⟨g, cap', e1, hg⟩
theorem bat_at {w : World} {b p : Nat} {xs : List Int} {u : Int} (h : BAt w (some ⟨b, 0, none⟩) xs) (hu : xs[p]? = some u) : w.cell? ⟨b, p, none⟩ = some (.int .u8 u) := by
  rcases h with h | ⟨b', o, e, h⟩
  · rw [h] at hu; simp at hu
  · simp at e
    obtain ⟨rfl, rfl⟩ := e
    have := h p u hu
    rwa [Nat.zero_add] at this
theorem wb_set {xs : List Int} {p : Nat} {t : Int} (h : Wb xs) (h0 : 0 ≤ t) (h1 : t < 256) : Wb (xs.set p t) := fun n hn => by
  rcases List.mem_or_eq_of_mem_set hn with h' | h'
  · exact h n h'
  · subst h'; exact ⟨h0, h1⟩
def rA (s : Nat) (i : Nat) : Option Addr := [some ⟨s, 0, none⟩, none, some ⟨s + 1, 0, none⟩].getD i none
def rL (i : Nat) : Nat := [5, 0, 9].getD i 0
def rX (i : Nat) : List Int := [[102, 105, 114, 115, 116], [], [116, 104, 101, 32, 116, 104, 105, 114, 100]].getD i []
theorem rX_wb (i : Nat) : Wb (rX i) := by
  intro n hn
  match i with
  | 0 => simp [rX] at hn; omega
  | 1 => simp [rX] at hn
  | 2 => simp [rX] at hn; omega
  | k + 3 => simp [rX] at hn
theorem rows_new (w : World) : IsRows (((w.alloc (.cells #[.int .u8 102, .int .u8 105, .int .u8 114, .int .u8 115, .int .u8 116] 5 (5, 6))).alloc (.cells #[.int .u8 116, .int .u8 104, .int .u8 101, .int .u8 32, .int .u8 116, .int .u8 104, .int .u8 105, .int .u8 114, .int .u8 100] 5 (9, 10))).alloc (.cells #[.slice (some ⟨w.heap.size, 0, none⟩) 5 5, .slice none 0 0, .slice (some ⟨w.heap.size + 1, 0, none⟩) 9 9] 22)) (some ⟨w.heap.size + 1 + 1, 0, none⟩) 3 3 (rA w.heap.size) rL rL rX := by
  refine ⟨by omega, by unfold maxLen; omega, fun i hi => ⟨?_, ?_, Nat.le_refl _, ?_, rX_wb i⟩, .inr ⟨_, _, rfl, fun i hi => ?_⟩⟩
  · match i, hi with
    | 0, _ =>
      have h := bat_mark w [102, 105, 114, 115, 116] (5, 6)
      exact (h.ext ((Below.refl _ _).alloc (Nat.le_refl _) (.cells #[.int .u8 116, .int .u8 104, .int .u8 101, .int .u8 32, .int .u8 116, .int .u8 104, .int .u8 105, .int .u8 114, .int .u8 100] 5 (9, 10)))).ext ((Below.refl _ _).alloc (Nat.le_refl _) _)
    | 1, _ => exact .inl rfl
    | 2, _ =>
      have h := bat_mark (w.alloc (.cells #[.int .u8 102, .int .u8 105, .int .u8 114, .int .u8 115, .int .u8 116] 5 (5, 6))) [116, 104, 101, 32, 116, 104, 105, 114, 100] (9, 10)
      have e : (w.alloc (.cells #[.int .u8 102, .int .u8 105, .int .u8 114, .int .u8 115, .int .u8 116] 5 (5, 6))).heap.size = w.heap.size + 1 := by simp
      rw [e] at h
      exact h.ext ((Below.refl _ _).alloc (Nat.le_refl _) _)
  · match i, hi with
    | 0, _ => rfl
    | 1, _ => rfl
    | 2, _ => rfl
  · unfold maxLen
    match i, hi with
    | 0, _ => simp [rL]
    | 1, _ => simp [rL]
    | 2, _ => simp [rL]
  · have h := blk_new ((w.alloc (.cells #[.int .u8 102, .int .u8 105, .int .u8 114, .int .u8 115, .int .u8 116] 5 (5, 6))).alloc (.cells #[.int .u8 116, .int .u8 104, .int .u8 101, .int .u8 32, .int .u8 116, .int .u8 104, .int .u8 105, .int .u8 114, .int .u8 100] 5 (9, 10))) #[.slice (some ⟨w.heap.size, 0, none⟩) 5 5, .slice none 0 0, .slice (some ⟨w.heap.size + 1, 0, none⟩) 9 9] 22
    have e : ((w.alloc (.cells #[.int .u8 102, .int .u8 105, .int .u8 114, .int .u8 115, .int .u8 116] 5 (5, 6))).alloc (.cells #[.int .u8 116, .int .u8 104, .int .u8 101, .int .u8 32, .int .u8 116, .int .u8 104, .int .u8 105, .int .u8 114, .int .u8 100] 5 (9, 10))).heap.size = w.heap.size + 1 + 1 := by simp
    rw [e] at h
    rw [blk_cell h]
    match i, hi with
    | 0, _ => rfl
    | 1, _ => rfl
    | 2, _ => rfl

def nsz (j : Nat) : Nat := [0, 1, 8192, 8193].getD j 0
theorem nsz_le (j : Nat) : nsz j ≤ 8193 := by
  match j with
  | 0 => decide
  | 1 => decide
  | 2 => decide
  | 3 => decide
  | k + 4 => simp [nsz]
theorem nsz_cell (j : Nat) (h : j < 4) : #[Value.int .i64 0, .int .i64 1, .int .i64 8192, .int .i64 8193][j]? = some (.int .i64 (nsz j : Int)) := by
  match j, h with
  | 0, _ => rfl
  | 1, _ => rfl
  | 2, _ => rfl
  | 3, _ => rfl
set_option maxRecDepth 100000 in
set_option maxHeartbeats 4000000 in
theorem frameNumbers_walk (w : World) : Calls Try.prog 3 #[] w fun e w' => e = .returned (.bool true) ∧ Below w.heap.size w w' := by
  obtain ⟨i0, hi, hz0, hz1, hz2⟩ := info_parts info_u8
  have hcv0 := Lib.run_convert_bytes_const (P := Try.prog) w 22 5 #[.int .u8 102, .int .u8 105, .int .u8 114, .int .u8 115, .int .u8 116] 5 5 Try.underlying22 Try.underlying5
  have hcv1 : (convert 22 22 (.slice (some ⟨w.heap.size + 1, 0, none⟩) 9 9)).run Try.prog ((w.alloc (.cells #[.int .u8 102, .int .u8 105, .int .u8 114, .int .u8 115, .int .u8 116] 5 (5, 6))).alloc (.cells #[.int .u8 116, .int .u8 104, .int .u8 101, .int .u8 32, .int .u8 116, .int .u8 104, .int .u8 105, .int .u8 114, .int .u8 100] 5)) = .ok (.slice (some ⟨w.heap.size + 1, 0, none⟩) 9 9) ((w.alloc (.cells #[.int .u8 102, .int .u8 105, .int .u8 114, .int .u8 115, .int .u8 116] 5 (5, 6))).alloc (.cells #[.int .u8 116, .int .u8 104, .int .u8 101, .int .u8 32, .int .u8 116, .int .u8 104, .int .u8 105, .int .u8 114, .int .u8 100] 5 (9, 10))) := by
    have := Lib.run_convert_bytes_const (P := Try.prog) (w.alloc (.cells #[.int .u8 102, .int .u8 105, .int .u8 114, .int .u8 115, .int .u8 116] 5 (5, 6))) 22 5 #[.int .u8 116, .int .u8 104, .int .u8 101, .int .u8 32, .int .u8 116, .int .u8 104, .int .u8 105, .int .u8 114, .int .u8 100] 9 9 Try.underlying22 Try.underlying5
    simpa using this
  have h0 := rows_new w
  have B0 : Below w.heap.size w (((w.alloc (.cells #[.int .u8 102, .int .u8 105, .int .u8 114, .int .u8 115, .int .u8 116] 5 (5, 6))).alloc (.cells #[.int .u8 116, .int .u8 104, .int .u8 101, .int .u8 32, .int .u8 116, .int .u8 104, .int .u8 105, .int .u8 114, .int .u8 100] 5 (9, 10))).alloc (.cells #[.slice (some ⟨w.heap.size, 0, none⟩) 5 5, .slice none 0 0, .slice (some ⟨w.heap.size + 1, 0, none⟩) 9 9] 22)) := (((Below.refl _ _).alloc (Nat.le_refl _) _).alloc (by simp) _).alloc (by simp; omega) _
  have H0 := Lib.hid h0
  clear h0
  go_enter Try.func3, Try.ntmps3
  go_wp2_with fail
  refine (law3row (some ⟨w.heap.size + 1 + 1, 0, none⟩) 3 3 (rA w.heap.size) rL rL rX _ H0.out).mono ?_
  rintro e w1 ⟨vb, rfl, hob, hb⟩
  have B1 := ext_trans B0 hb
  obtain ⟨y0, hy0⟩ : ∃ y, y = rowF rX (min 3 5) := ⟨_, rfl⟩
  have hyl : y0.length ≤ 340 := by rw [hy0]; have := rowF_len rX (min 3 5); omega
  have hyn : 8 ≤ y0.length := by rw [hy0, show min 3 5 = 2 + 1 from rfl, rowF_succ, List.length_append, fr_len]; omega
  have HYW := Lib.hid (show Wb y0 by rw [hy0]; exact rowF_wb rX _ (fun i _ => rX_wb i))
  rw [← hy0] at hob
  obtain ⟨N, hN⟩ : ∃ N, y0.length = N := ⟨_, rfl⟩
  have HN := Lib.hid hN
  rw [hN] at hob hyl hyn
  obtain ⟨g1, c1, rfl, -⟩ := own_at hob (by omega)
  obtain ⟨a1, c1', he, -, hc1, hm1, hA1, -, -⟩ := own_read hob
  simp only [Value.slice.injEq] at he
  obtain ⟨rfl, -, rfl⟩ := he
  have HA1 := Lib.hid hA1
  have hm1' := hm1
  unfold maxLen at hm1'
  clear hob hb B0 H0 hcv0 hcv1 hy0 hN hA1
  go_wp2_with fail
  go_loopw [2] (fun i wr => ∃ p : Nat, p ≤ N + 1 ∧ i = .int .i64 (p : Int) ∧ Below w1.heap.size w1 wr) (fun i _ => N + 1 - (intOf i).toNat)
  case atStart => exact ⟨0, by omega, rfl, Below.refl _ _⟩
  case round =>
    obtain ⟨w2, rfl⟩ : ∃ y : World, y = wr := ⟨_, rfl⟩
    obtain ⟨p, hp, rfl, D2⟩ := hrel
    by_cases hpN : p ≤ N
    · have HTK := Lib.hid (show (y0.take p).length = p by rw [List.length_take, HN.out]; omega)
      have HDR := Lib.hid (show (y0.drop p).length = N - p by rw [List.length_drop, HN.out])
      have E0 := D2.alloc D2.size (.cells #[.int .i64 (p : Int)] 3)
      go_wp2_with fail
      refine (law3play (some ⟨g1, 0, none⟩) N c1 y0 (some ⟨w2.heap.size, 0, none⟩) 1 1 [(p : Int)] _ (HA1.out.ext E0) HN.out hc1 hm1 HYW.out (by omega) (isrow_new w2 [(p : Int)] 3 (by intro n hn; simp at hn; exact wf_i64 (by omega) (by omega)) (by unfold maxLen; simp))).mono ?_
      rintro e q1 ⟨rfl, hb⟩
      have E1 := ext_trans E0 hb
      clear hb
      have E1a := E1.alloc E1.size (.cells #[.int .i64 (p : Int), .int .i64 1, .int .i64 1] 3)
      go_wp2_with fail
      refine (law3play (some ⟨g1, 0, none⟩) N c1 y0 (some ⟨q1.heap.size, 0, none⟩) 3 3 [(p : Int), 1, 1] _ (HA1.out.ext E1a) HN.out hc1 hm1 HYW.out (by omega) (isrow_new q1 [(p : Int), 1, 1] 3 (by intro n hn; simp at hn; exact wf_i64 (by omega) (by omega)) (by unfold maxLen; simp))).mono ?_
      rintro e q2 ⟨rfl, hb⟩
      have E2 := ext_trans E1a hb
      clear hb
      go_wp2_with fail
      refine (lawOnes (some ⟨g1, 0, none⟩) p c1 (y0.take p) _ ((HA1.out.take p).ext E2) HTK.out (by omega) hm1 (HYW.out.take p)).mono ?_
      rintro e q3 ⟨rfl, hb⟩
      have E3 := ext_trans E2 hb
      clear hb
      by_cases hlt : p < N
      · have hne : ¬ c1 = p := by omega
        go_wp2_with fail
        refine (lawOnes (some ⟨g1, p, none⟩) (N - p) (c1 - p) (y0.drop p) _ (by have h := HA1.out.drop p; rw [Nat.zero_add] at h; exact h.ext E3) HDR.out (by omega) (by unfold maxLen; omega) (HYW.out.drop p)).mono ?_
        rintro e q4 ⟨rfl, hb⟩
        have E4 := ext_trans E3 hb
        clear hb
        have O0 : (q4.alloc (.cells #[] 5)).ownsRow q4.heap.size 5 1 (.slice (some ⟨q4.heap.size, 0, none⟩) 0 0) 0 (bc []) := World.ownsRow_made q4 #[] 0 (Nat.le_refl _) (by unfold maxLen; omega) rfl
        have F0 : Below q4.heap.size q4 (q4.alloc (.cells #[] 5)) := (Below.refl _ _).alloc (Nat.le_refl _) _
        have A0 := HA1.out.ext (ext_trans E4 F0)
        go_wp2_with (at_builtin; refine wpList_append_bytes _ rfl _ _ 22 rfl (q4.heap.size) 5 i0 Try.underlying22 hi hz0 hz1 hz2 (.slice (some ⟨q4.heap.size, 0, none⟩) 0 0) (0) ([]) rfl (O0) (some ⟨g1, 0, none⟩) (N) (c1) (y0) rfl (A0) (HN.out) ?c3 ?c4 ?c5 ?_)
        case c3 => unfold maxLen; omega
        case c4 => omega
        case c5 => exact F0.size
        intro v5 q5 ho5 hg5
        have F5 := F0.grown hg5 F0.size (fun q hq => own_ge O0 hq)
        have E5 := ext_trans E4 F5
        have ho5' : q5.ownsRow q4.heap.size 5 1 v5 N (bc y0) := by simpa using ho5
        obtain ⟨g5, c5, rfl, hgl5⟩ := own_at ho5' (by omega)
        obtain ⟨a5, c5', he5, -, hc5, hm5, hA5, -, -⟩ := own_read ho5'
        simp only [Value.slice.injEq] at he5
        obtain ⟨rfl, -, rfl⟩ := he5
        have HU5 := Lib.hid (own_uat ho5')
        have HA50 := Lib.hid hA5
        have hm5' := hm5
        unfold maxLen at hm5'
        clear ho5 hg5 ho5' hA5 O0 F0 A0
        obtain ⟨u, hu⟩ : ∃ u, y0[p]? = some u := ⟨_, List.getElem?_eq_getElem (by rw [HN.out]; omega)⟩
        have hub := HYW.out u (List.mem_of_getElem? hu)
        have hcell : q5.cell? ⟨g5, p, none⟩ = some (.int .u8 u) := bat_at HA50.out hu
        obtain ⟨cur, hcur⟩ := HU5.out g5 0 rfl
        have hfrz := blk_free hcur
        have hgl := blk_lt hcur
        have HCUR := Lib.hid hcur
        obtain ⟨t3, ht3⟩ : ∃ t3, bits .xor .u8 u 1 = t3 := ⟨_, rfl⟩
        have HT3 := Lib.hid (show 0 ≤ t3 ∧ t3 < 256 from by rw [← ht3]; exact xor_in u 1 hub.1 hub.2 (by omega) (by omega))
        have hkp : Kept g5 q5 (q5.setCell ⟨g5, p, none⟩ (.int .u8 t3)) := (Kept.refl _ _).setCell _ _
        have HA5 := Lib.hid (show BAt (q5.setCell ⟨g5, p, none⟩ (.int .u8 t3)) (some ⟨g5, 0, none⟩) (y0.set p t3) by have := HA50.out.set_ HCUR.out p t3; rwa [Nat.zero_add] at this)
        have E6 := E5.trans (hkp.below (by have := E4.size; omega))
        have HY1L := Lib.hid (show (y0.set p t3).length = N by rw [List.length_set]; exact HN.out)
        have HY1W := Lib.hid (show Wb (y0.set p t3) from wb_set HYW.out HT3.out.1 HT3.out.2)
        have hcv := (show ∀ q : World, (convert 22 22 (.slice (some ⟨q.heap.size + 1, 0, none⟩) 5 5)).run Try.prog ((q.alloc (.cells #[] 5)).alloc (.cells #[.int .u8 97, .int .u8 108, .int .u8 111, .int .u8 110, .int .u8 101] 5)) = .ok (.slice (some ⟨q.heap.size + 1, 0, none⟩) 5 5) ((q.alloc (.cells #[] 5)).alloc (.cells #[.int .u8 97, .int .u8 108, .int .u8 111, .int .u8 110, .int .u8 101] 5 (5, 6))) from fun q => by have := Lib.run_convert_bytes_const (P := Try.prog) (q.alloc (.cells #[] 5)) 22 5 #[.int .u8 97, .int .u8 108, .int .u8 111, .int .u8 110, .int .u8 101] 5 5 Try.underlying22 Try.underlying5; simpa using this)
        have HCV := Lib.hid hcv
        clear hcv hkp HCUR hu hub hcur HA50 HU5
        have hgl6 := (show g5 < (q5.setCell ⟨g5, p, none⟩ (.int .u8 t3)).heap.size from by first | (simp; exact hgl) | simpa using hgl)
        go_upto_region 10 with (fail)
        generalize (q5.setCell ⟨g5, p, none⟩ (.int .u8 t3)) = q6 at *
        have hcv6 := HCV.out q6
        clear HCV
        have hY := bat_mark (q6.alloc (.cells #[] 5)) [97, 108, 111, 110, 101] (5, 6)
        have O0 : (q6.alloc (.cells #[] 5)).ownsRow q6.heap.size 5 1 (.slice (some ⟨q6.heap.size, 0, none⟩) 0 0) 0 (bc []) := World.ownsRow_made q6 #[] 0 (Nat.le_refl _) (by unfold maxLen; omega) rfl
        have F0 : Below q6.heap.size q6 ((q6.alloc (.cells #[] 5)).alloc (.cells #[.int .u8 97, .int .u8 108, .int .u8 111, .int .u8 110, .int .u8 101] 5 (5, 6))) := ((Below.refl _ _).alloc (Nat.le_refl _) _).alloc (by simp) _
        have hsz : (q6.alloc (.cells #[] 5)).heap.size = q6.heap.size + 1 := by simp
        rw [hsz] at hY
        clear hsz
        go_wp2_with fail
        refine (refFrame (some ⟨q6.heap.size + 1, 0, none⟩) 5 5 [97, 108, 111, 110, 101] _ hY rfl (by omega) (by intro n hn; simp at hn; omega)).mono ?_
        rintro e q7 ⟨v7, rfl, ho7, hb7⟩
        obtain ⟨z, hz⟩ : ∃ z, z = fr [97, 108, 111, 110, 101] := ⟨_, rfl⟩
        have hzl : z.length = 13 := by rw [hz, fr_len]; rfl
        have hzw : Wb z := by rw [hz]; exact fr_wb _ (by intro n hn; simp at hn; omega)
        rw [← hz] at ho7
        obtain ⟨a7, c7, rfl, -, hc7, hm7, hA7, -, -⟩ := own_read ho7
        rw [hzl] at hc7 ⊢
        have HZL := Lib.hid hzl
        have HZW := Lib.hid hzw
        have F7 := ext_trans F0 hb7
        have O7 := ownsRow_ext (O0.alloc (.cells #[.int .u8 97, .int .u8 108, .int .u8 111, .int .u8 110, .int .u8 101] 5 (5, 6))) hb7
        clear hz hzl hzw ho7 hb7 hY hcv6 O0 F0
        go_wp2_with (at_builtin; refine wpList_append_bytes _ rfl _ _ 22 rfl (q6.heap.size) 5 i0 Try.underlying22 hi hz0 hz1 hz2 (.slice (some ⟨q6.heap.size, 0, none⟩) 0 0) (0) ([]) rfl (O7) (a7) (13) (c7) (z) rfl (hA7) (HZL.out) ?c3 ?c4 ?c5 ?_)
        case c3 => unfold maxLen; omega
        case c4 => omega
        case c5 => exact F7.size
        intro v8 q8 ho8 hg8
        have F8 := F7.grown hg8 F7.size (fun q hq => own_ge O7 hq)
        have E8 := ext_trans E6 F8
        have HA8x := Lib.hid (HA5.out.ext F8)
        have ho8' : q8.ownsRow q6.heap.size 5 1 v8 13 (bc z) := by simpa using ho8
        obtain ⟨g8, c8, rfl, hgl8⟩ := own_at ho8' (by omega)
        obtain ⟨a8, c8', he8, -, hc8, hm8, hA8, -, -⟩ := own_read ho8'
        simp only [Value.slice.injEq] at he8
        obtain ⟨rfl, -, rfl⟩ := he8
        have HU8 := Lib.hid (own_uat ho8')
        have HA80 := Lib.hid hA8
        have hm8' := hm8
        unfold maxLen at hm8'
        clear ho8 hg8 ho8' hA8 O7 F7 F8 hA7
        obtain ⟨r, hr⟩ : ∃ r, p % 13 = r := ⟨_, rfl⟩
        have hr13 : r < 13 := by omega
        have hrI : (p : Int) % 13 = (r : Int) := by omega
        obtain ⟨u, hu⟩ : ∃ u, z[r]? = some u := ⟨_, List.getElem?_eq_getElem (by rw [HZL.out]; omega)⟩
        have hub := HZW.out u (List.mem_of_getElem? hu)
        have hcell : q8.cell? ⟨g8, r, none⟩ = some (.int .u8 u) := bat_at HA80.out hu
        obtain ⟨cur, hcur⟩ := HU8.out g8 0 rfl
        have hfrz := blk_free hcur
        have hgl := blk_lt hcur
        have HCUR := Lib.hid hcur
        obtain ⟨t4, ht4⟩ : ∃ t4, bits .xor .u8 u 129 = t4 := ⟨_, rfl⟩
        have HT4 := Lib.hid (show 0 ≤ t4 ∧ t4 < 256 from by rw [← ht4]; exact xor_in u 129 hub.1 hub.2 (by omega) (by omega))
        have hkp : Kept g8 q8 (q8.setCell ⟨g8, r, none⟩ (.int .u8 t4)) := (Kept.refl _ _).setCell _ _
        have HA8 := Lib.hid (show BAt (q8.setCell ⟨g8, r, none⟩ (.int .u8 t4)) (some ⟨g8, 0, none⟩) (z.set r t4) by have := HA80.out.set_ HCUR.out r t4; rwa [Nat.zero_add] at this)
        have HA9 := Lib.hid (HA8x.out.keep (w' := q8.setCell ⟨g8, r, none⟩ (.int .u8 t4)) (fun b o e p v hc => by simp at e; obtain ⟨rfl, rfl⟩ := e; exact hkp.cell (by omega) hc))
        have E9 := E8.trans (hkp.below (by have := E6.size; omega))
        have HZ1L := Lib.hid (show (z.set r t4).length = 13 by rw [List.length_set]; exact HZL.out)
        have HZ1W := Lib.hid (show Wb (z.set r t4) from wb_set HZW.out HT4.out.1 HT4.out.2)
        clear hkp HCUR hu hub hcur HA80 HU8 HA8x hr
        go_upto_region 12 with (fail)
        generalize (q8.setCell ⟨g8, r, none⟩ (.int .u8 t4)) = q9 at *
        clear hcell hfrz ht4 ht3 hrI
        have E9a := E9.alloc E9.size (.cells #[.int .i64 7, .int .i64 9] 3)
        have X9 := HA9.out.ext ((Below.refl q9.heap.size q9).alloc (Nat.le_refl _) (.cells #[.int .i64 7, .int .i64 9] 3))
        have Y9 := HA8.out.ext ((Below.refl q9.heap.size q9).alloc (Nat.le_refl _) (.cells #[.int .i64 7, .int .i64 9] 3))
        go_wp2_with fail
        refine (law3play (some ⟨g5, 0, none⟩) N c5 (y0.set p t3) (some ⟨q9.heap.size, 0, none⟩) 2 2 [7, 9] _ (X9) HY1L.out hc5 hm5 HY1W.out (by omega) (isrow_new q9 [7, 9] 3 (by intro n hn; simp at hn; exact wf_i64 (by omega) (by omega)) (by unfold maxLen; simp))).mono ?_
        rintro e q10 ⟨rfl, hb⟩
        have Y10 := Y9.ext hb
        have E10 := ext_trans E9a hb
        clear hb
        go_wp2_with fail
        refine (lawOnes (some ⟨g8, 0, none⟩) 13 c8 (z.set r t4) _ Y10 HZ1L.out hc8 hm8 HZ1W.out).mono ?_
        rintro e q11 ⟨rfl, hb⟩
        have E11 := ext_trans E10 hb
        clear hb
        go_wp2
        go_roundw
        case rel => exact ⟨p + 1, by omega, by go_num, E11⟩
        case measure => first | (simp [intOf]; done) | (simp [intOf]; omega)
      · obtain rfl : p = N := by omega
        rcases Classical.propComplete (c1 = p) with hce | hce
        · go_wp2_with fail
          refine (lawOnes (some ⟨g1, 0, none⟩) 0 (c1 - p) (y0.drop p) _ (.inl (List.drop_eq_nil_of_le (by rw [HN.out]; omega))) (by have := HDR.out; omega) (by omega) (by unfold maxLen; omega) (HYW.out.drop p)).mono ?_
          rintro e q4 ⟨rfl, hb⟩
          have E4 := ext_trans E3 hb
          clear hb
          go_wp2
          go_roundw
          case rel => exact ⟨p + 1, by omega, by go_num, E4⟩
          case measure => first | (simp [intOf]; done) | (simp [intOf]; omega)
        · go_wp2_with fail
          refine (lawOnes (some ⟨g1, p, none⟩) 0 (c1 - p) (y0.drop p) _ (.inl (List.drop_eq_nil_of_le (by rw [HN.out]; omega))) (by have := HDR.out; omega) (by omega) (by unfold maxLen; omega) (HYW.out.drop p)).mono ?_
          rintro e q4 ⟨rfl, hb⟩
          have E4 := ext_trans E3 hb
          clear hb
          go_wp2
          go_roundw
          case rel => exact ⟨p + 1, by omega, by go_num, E4⟩
          case measure => first | (simp [intOf]; done) | (simp [intOf]; omega)
    · have hd1 : decide ((p : Int) ≤ (N : Int)) = false := by simp; omega
      go_wp2_with fail
      obtain ⟨nb, hnb⟩ : ∃ nb, w2.heap.size = nb := ⟨_, rfl⟩
      have hC := blk_new w2 #[.int .i64 0, .int .i64 1, .int .i64 8192, .int .i64 8193] 3
      have D3 := D2.alloc D2.size (.cells #[.int .i64 0, .int .i64 1, .int .i64 8192, .int .i64 8193] 3)
      rw [hnb] at hC ⊢
      have HC := Lib.hid hC
      generalize (w2.alloc (.cells #[.int .i64 0, .int .i64 1, .int .i64 8192, .int .i64 8193] 3)) = w3 at *
      clear hnb hd1 hC D2 HA1 HYW HN hc1 hm1 hm1' hyl hyn
      go_loopw [86] (fun i wr => ∃ j : Nat, j ≤ 4 ∧ i = .int .i64 (j : Int) ∧ Below w3.heap.size w3 wr) (fun i _ => 4 - (intOf i).toNat)
      case atStart => exact ⟨0, by omega, rfl, Below.refl _ _⟩
      case round =>
        obtain ⟨w4, rfl⟩ : ∃ y : World, y = wr := ⟨_, rfl⟩
        obtain ⟨j, hj, rfl, D4⟩ := hrel
        by_cases hj4 : j < 4
        · obtain ⟨n, hn⟩ : ∃ n, nsz j = n := ⟨_, rfl⟩
          have hnm : n ≤ 8193 := by rw [← hn]; exact nsz_le j
          have hcell : w4.cell? ⟨nb, j, none⟩ = some (.int .i64 (n : Int)) := ext_cell D4 (by rw [blk_cell HC.out, ← hn]; exact nsz_cell j hj4)
          obtain ⟨X, hX, hmk⟩ : ∃ X : Array Value, (∀ i, i < n → X[i]? = some (.int .u8 0)) ∧ (Instr.makeSlice 22 (.int .i64 (n : Int)) (.int .i64 (n : Int))).run Try.prog w4 = .ok (.slice (some ⟨w4.heap.size, 0, none⟩) n n) (w4.alloc (.cells X 5)) :=
            ⟨madeCells (Value.int .u8 0).cells (n * 1), fun i hi => by simp [madeCells, Value.cells, hi, Nat.mod_one], by
              have := run_make (P := Try.prog) w4 22 5 i0 (.int .u8 0) Try.underlying22 hi hz0 .i64 .i64 n n (by omega) (by omega) (by rw [hz2]; omega) (by omega)
              rw [hz1] at this
              exact this⟩
          obtain ⟨xs, hxs⟩ : ∃ xs : List Int, xs = List.replicate n 0 := ⟨_, rfl⟩
          have XL := Lib.hid (show xs.length = n by rw [hxs]; simp)
          have FL := Lib.hid (show (fr xs).length = n + 8 by rw [fr_len, XL.out])
          have XW := Lib.hid (show Wb xs by rw [hxs]; intro m hm; have := List.eq_of_mem_replicate hm; omega)
          have FW := Lib.hid (fr_wb xs XW.out)
          have hxa : BAt (w4.alloc (.cells X 5)) (some ⟨w4.heap.size, 0, none⟩) xs := by
            refine .inr ⟨_, _, rfl, fun i m hi => ?_⟩
            rw [hxs] at hi
            obtain ⟨hi1, hi2⟩ := List.getElem?_eq_some_iff.1 hi
            simp at hi1 hi2
            rw [Nat.zero_add, blk_cell (blk_new w4 X 5), ← hi2]
            exact hX i hi1
          have D5 := D4.alloc D4.size (.cells X 5)
          have hmk' := hmk
          clear hX hxs hn
          by_cases hsh : n ≤ 8192
          · have hd : decide ((n : Int) ≤ 8192) = true := by simp; omega
            go_wp2_with fail
            obtain ⟨xb, hxb⟩ : ∃ xb, w4.heap.size = xb := ⟨_, rfl⟩
            rw [hxb] at hxa ⊢
            have HXA := Lib.hid hxa
            generalize (w4.alloc (.cells X 5)) = w5 at *
            clear hmk hmk' hxb hxa
            refine (frameBytes (some ⟨xb, 0, none⟩) n n xs _ HXA.out XL.out (by omega) XW.out).mono ?_
            rintro e w6 ⟨v6, rfl, ho6, hb6⟩
            obtain ⟨af, cf, rfl, -, hcf, hmf, hAf, -, -⟩ := own_read ho6
            rw [FL.out] at hcf ⊢
            have XA := Lib.hid (HXA.out.ext hb6)
            have D6 := ext_trans D5 hb6
            have hcvf : ∀ g : In (fun W => Below w6.heap.size w6 W), (convert 22 9 (.slice af (n + 8) cf)).run Try.prog g.w = .ok (.string (strOfNums (fr xs))) g.w := fun g => run_text g.w 22 5 Try.underlying22 Try.underlying5 9 Try.underlying9 af (n + 8) cf (fr xs) FL.out (hAf.ext g.h)
            clear ho6 hb6 hAf HXA D5 hcell
            go_wp2_with fail
            haveI hI0 : Nonempty (In (fun W => Below w6.heap.size w6 W)) := ⟨⟨w6, Below.refl _ _⟩⟩
            refine wp_region_split 31 6 30 rfl rfl (by kernel_rfl) (by kernel_rfl) (by kernel_rfl) (by kernel_rfl) (by kernel_rfl) ?_
            simp only [List.take_succ_cons, List.take_zero]
            refine wpAny_hist (fun W => Below w6.heap.size w6 W) (by kernel_rfl) (by kernel_rfl) ((Below.refl _ _).drew) ?_
            refine Hist.wpG_letter (fun W => Below w6.heap.size w6 W) ((Below.refl _ _).drew) ?_
            rintro x0 b0
            repeat (first | (refine Hist.wpG_plain 5 _ (by decide +kernel) rfl (by rfl) (by rfl) (fun K hK => ?_); go_big_quiet_op; refine hK _ ?_; clear hK K) | (refine Hist.wpG_plain 4 _ (by decide +kernel) rfl (by rfl) (by rfl) (fun K hK => ?_); go_big_quiet_op; refine hK _ ?_; clear hK K) | (refine Hist.wpG_plain 3 _ (by decide +kernel) rfl (by rfl) (by rfl) (fun K hK => ?_); go_big_quiet_op; refine hK _ ?_; clear hK K) | (refine Hist.wpG_plain 2 _ (by decide +kernel) rfl (by rfl) (by rfl) (fun K hK => ?_); go_big_quiet_op; refine hK _ ?_; clear hK K) | (refine Hist.wpG_plain 1 _ (by decide +kernel) rfl (by rfl) (by rfl) (fun K hK => ?_); go_big_quiet_op; refine hK _ ?_; clear hK K) | (refine Hist.wpG_plain 0 _ (by decide +kernel) rfl (by rfl) (by rfl) (fun K hK => ?_); go_big_quiet_op; refine hK _ ?_; clear hK K))
            refine Hist.wpG_call (by rfl) (by rfl) (fun K hK => ?_)
            go_big_op
            refine (refFrame (some ⟨xb, 0, none⟩) n n xs _ (XA.out.ext b0) XL.out (by omega) XW.out).mono ?_
            rintro e y1 ⟨v9, rfl, ho, hb⟩
            obtain ⟨a1, c1, rfl, -, hca1, hma1, hAa1, -, -⟩ := own_read ho
            rw [FL.out] at hca1 ⊢
            have b1 := ext_trans b0 hb
            have hcv1 : ∀ g : In (fun W => Below y1.heap.size y1 W), (convert 22 9 (.slice a1 (n + 8) c1)).run Try.prog g.w = .ok (.string (strOfNums (fr xs))) g.w := fun g => run_text g.w 22 5 Try.underlying22 Try.underlying5 9 Try.underlying9 a1 (n + 8) c1 (fr xs) FL.out (hAa1.ext g.h)
            haveI hI1 : Nonempty (In (fun W => Below y1.heap.size y1 W)) := ⟨⟨y1, Below.refl _ _⟩⟩
            have k1 : Below y1.heap.size y1 y1 := Below.refl _ _
            refine hK _ _ ⟨(fun W => Below y1.heap.size y1 W), (by simp only [List.cons_append, List.nil_append, List.forall_mem_cons]; repeat' (first | exact b1 | exact k1 | (intro _ h; cases h; done) | constructor)), ?_⟩
            clear hK K
            clear ho hb hAa1
            repeat (first | (refine Hist.wpG_plain 5 _ (by decide +kernel) rfl (by rfl) (by rfl) (fun K hK => ?_); go_big_quiet_op; refine hK _ ?_; clear hK K) | (refine Hist.wpG_plain 4 _ (by decide +kernel) rfl (by rfl) (by rfl) (fun K hK => ?_); go_big_quiet_op; refine hK _ ?_; clear hK K) | (refine Hist.wpG_plain 3 _ (by decide +kernel) rfl (by rfl) (by rfl) (fun K hK => ?_); go_big_quiet_op; refine hK _ ?_; clear hK K) | (refine Hist.wpG_plain 2 _ (by decide +kernel) rfl (by rfl) (by rfl) (fun K hK => ?_); go_big_quiet_op; refine hK _ ?_; clear hK K) | (refine Hist.wpG_plain 1 _ (by decide +kernel) rfl (by rfl) (by rfl) (fun K hK => ?_); go_big_quiet_op; refine hK _ ?_; clear hK K) | (refine Hist.wpG_plain 0 _ (by decide +kernel) rfl (by rfl) (by rfl) (fun K hK => ?_); go_big_quiet_op; refine hK _ ?_; clear hK K))
            refine Hist.wpG_call (by rfl) (by rfl) (fun K hK => ?_)
            go_big_op
            refine (frameSum (some ⟨xb, 0, none⟩) n n xs _ (XA.out.ext b1) XL.out XW.out (by omega)).mono ?_
            rintro e y2 ⟨rfl, rfl⟩
            refine hK _ _ ⟨(fun W => Below y1.heap.size y1 W), (by simp only [List.cons_append, List.nil_append, List.forall_mem_cons]; repeat' (first | exact b1 | exact k1 | (intro _ h; cases h; done) | constructor)), ?_⟩
            clear hK K
            repeat (first | (refine Hist.wpG_plain 5 _ (by decide +kernel) rfl (by rfl) (by rfl) (fun K hK => ?_); go_big_quiet_op; refine hK _ ?_; clear hK K) | (refine Hist.wpG_plain 4 _ (by decide +kernel) rfl (by rfl) (by rfl) (fun K hK => ?_); go_big_quiet_op; refine hK _ ?_; clear hK K) | (refine Hist.wpG_plain 3 _ (by decide +kernel) rfl (by rfl) (by rfl) (fun K hK => ?_); go_big_quiet_op; refine hK _ ?_; clear hK K) | (refine Hist.wpG_plain 2 _ (by decide +kernel) rfl (by rfl) (by rfl) (fun K hK => ?_); go_big_quiet_op; refine hK _ ?_; clear hK K) | (refine Hist.wpG_plain 1 _ (by decide +kernel) rfl (by rfl) (by rfl) (fun K hK => ?_); go_big_quiet_op; refine hK _ ?_; clear hK K) | (refine Hist.wpG_plain 0 _ (by decide +kernel) rfl (by rfl) (by rfl) (fun K hK => ?_); go_big_quiet_op; refine hK _ ?_; clear hK K))
            refine Hist.wpG_call (by rfl) (by rfl) (fun K hK => ?_)
            go_big_op
            refine (refSum (some ⟨xb, 0, none⟩) n n xs _ (XA.out.ext b1) XL.out XW.out (by omega)).mono ?_
            rintro e y2 ⟨rfl, rfl⟩
            refine hK _ _ ⟨(fun W => Below y1.heap.size y1 W), (by simp only [List.cons_append, List.nil_append, List.forall_mem_cons]; repeat' (first | exact b1 | exact k1 | (intro _ h; cases h; done) | constructor)), ?_⟩
            clear hK K
            repeat (first | (refine Hist.wpG_plain 5 _ (by decide +kernel) rfl (by rfl) (by rfl) (fun K hK => ?_); go_big_quiet_op; refine hK _ ?_; clear hK K) | (refine Hist.wpG_plain 4 _ (by decide +kernel) rfl (by rfl) (by rfl) (fun K hK => ?_); go_big_quiet_op; refine hK _ ?_; clear hK K) | (refine Hist.wpG_plain 3 _ (by decide +kernel) rfl (by rfl) (by rfl) (fun K hK => ?_); go_big_quiet_op; refine hK _ ?_; clear hK K) | (refine Hist.wpG_plain 2 _ (by decide +kernel) rfl (by rfl) (by rfl) (fun K hK => ?_); go_big_quiet_op; refine hK _ ?_; clear hK K) | (refine Hist.wpG_plain 1 _ (by decide +kernel) rfl (by rfl) (by rfl) (fun K hK => ?_); go_big_quiet_op; refine hK _ ?_; clear hK K) | (refine Hist.wpG_plain 0 _ (by decide +kernel) rfl (by rfl) (by rfl) (fun K hK => ?_); go_big_quiet_op; refine hK _ ?_; clear hK K))
            refine Hist.wpG_call (by rfl) (by rfl) (fun K hK => ?_)
            go_big_op
            refine (refFrame (some ⟨xb, 0, none⟩) n n xs _ (XA.out.ext b1) XL.out (by omega) XW.out).mono ?_
            rintro e y3 ⟨v9, rfl, ho, hb⟩
            obtain ⟨a3, c3, rfl, -, hca3, hma3, hAa3, -, -⟩ := own_read ho
            rw [FL.out] at hca3 ⊢
            have b3 := ext_trans b1 hb
            have k3 := ext_trans k1 hb
            clear ho hb
            refine hK _ _ ⟨(fun W => Below y1.heap.size y1 W), (by simp only [List.cons_append, List.nil_append, List.forall_mem_cons]; repeat' (first | exact b3 | exact k3 | (intro _ h; cases h; done) | constructor)), ?_⟩
            clear hK K
            repeat (first | (refine Hist.wpG_plain 5 _ (by decide +kernel) rfl (by rfl) (by rfl) (fun K hK => ?_); go_big_quiet_op; refine hK _ ?_; clear hK K) | (refine Hist.wpG_plain 4 _ (by decide +kernel) rfl (by rfl) (by rfl) (fun K hK => ?_); go_big_quiet_op; refine hK _ ?_; clear hK K) | (refine Hist.wpG_plain 3 _ (by decide +kernel) rfl (by rfl) (by rfl) (fun K hK => ?_); go_big_quiet_op; refine hK _ ?_; clear hK K) | (refine Hist.wpG_plain 2 _ (by decide +kernel) rfl (by rfl) (by rfl) (fun K hK => ?_); go_big_quiet_op; refine hK _ ?_; clear hK K) | (refine Hist.wpG_plain 1 _ (by decide +kernel) rfl (by rfl) (by rfl) (fun K hK => ?_); go_big_quiet_op; refine hK _ ?_; clear hK K) | (refine Hist.wpG_plain 0 _ (by decide +kernel) rfl (by rfl) (by rfl) (fun K hK => ?_); go_big_quiet_op; refine hK _ ?_; clear hK K))
            refine Hist.wpG_call (by rfl) (by rfl) (fun K hK => ?_)
            go_big_op
            refine (lawOnes a3 (n + 8) c3 (fr xs) _ hAa3 FL.out hca3 hma3 FW.out).mono ?_
            rintro e y4 ⟨rfl, hb⟩
            have b4 := ext_trans b3 hb
            have k4 := ext_trans k3 hb
            clear hb hAa3
            refine hK _ _ ⟨(fun W => Below y1.heap.size y1 W), (by simp only [List.cons_append, List.nil_append, List.forall_mem_cons]; repeat' (first | exact b4 | exact k4 | (intro _ h; cases h; done) | constructor)), ?_⟩
            clear hK K
            repeat (first | (refine Hist.wpG_plain 5 _ (by decide +kernel) rfl (by rfl) (by rfl) (fun K hK => ?_); go_big_quiet_op; refine hK _ ?_; clear hK K) | (refine Hist.wpG_plain 4 _ (by decide +kernel) rfl (by rfl) (by rfl) (fun K hK => ?_); go_big_quiet_op; refine hK _ ?_; clear hK K) | (refine Hist.wpG_plain 3 _ (by decide +kernel) rfl (by rfl) (by rfl) (fun K hK => ?_); go_big_quiet_op; refine hK _ ?_; clear hK K) | (refine Hist.wpG_plain 2 _ (by decide +kernel) rfl (by rfl) (by rfl) (fun K hK => ?_); go_big_quiet_op; refine hK _ ?_; clear hK K) | (refine Hist.wpG_plain 1 _ (by decide +kernel) rfl (by rfl) (by rfl) (fun K hK => ?_); go_big_quiet_op; refine hK _ ?_; clear hK K) | (refine Hist.wpG_plain 0 _ (by decide +kernel) rfl (by rfl) (by rfl) (fun K hK => ?_); go_big_quiet_op; refine hK _ ?_; clear hK K))
            refine Hist.wpG_nil ?_
            show wpAny _ _ _ _ _ _ _ _
            clear b0 hI0 b1 k1 k3 k4 hI1 hcv1 b3
            refine wpAny_two 31 33 _ _ (by kernel_rfl) rfl rfl ?_ ?_
            · refine wpOp_do (by simp only [List.getElem?_toArray, List.getElem?_cons_succ, List.getElem?_cons_zero]; rfl) (by rfl) (fun K hK => ?_)
              go_big_op
              refine hK _ _ ?_
              clear hK K
              refine wpAny_two 32 33 _ _ (by kernel_rfl) rfl rfl ?_ ?_
              · refine wpOp_do (by simp only [List.getElem?_toArray, List.getElem?_cons_succ, List.getElem?_cons_zero]; rfl) (by rfl) (fun K hK => ?_)
                go_big_op
                refine (refFrame (some ⟨xb, 0, none⟩) n n xs _ (XA.out.ext b4) XL.out (by omega) XW.out).mono ?_
                rintro e y5 ⟨v9, rfl, ho, hb⟩
                obtain ⟨a5, c5, rfl, -, hca5, hma5, hAa5, -, -⟩ := own_read ho
                rw [FL.out] at hca5 ⊢
                have b5 := ext_trans b4 hb
                refine hK _ _ ?_
                clear hK K ho hb
                refine wpAny_one 33 _ (by kernel_rfl) rfl ?_
                have b6 := b5.alloc b5.size (.cells #[.int .i64 4, .int .i64 1] 3)
                have hA6 := hAa5.ext ((Below.refl y5.heap.size y5).alloc (Nat.le_refl _) (.cells #[.int .i64 4, .int .i64 1] 3))
                refine wpOp_do (by simp only [List.getElem?_toArray, List.getElem?_cons_succ, List.getElem?_cons_zero]; rfl) (by rfl) (fun K hK => ?_)
                go_big_op
                refine hK _ _ ?_
                clear hK K
                refine wpAny_one 34 _ (by kernel_rfl) rfl ?_
                refine wpOp_do (by simp only [List.getElem?_toArray, List.getElem?_cons_succ, List.getElem?_cons_zero]; rfl) (by rfl) (fun K hK => ?_)
                go_big_op
                refine (law3play a5 (n + 8) c5 (fr xs) (some ⟨y5.heap.size, 0, none⟩) 2 2 [4, 1] _ (hA6) FL.out hca5 hma5 FW.out (by omega) (isrow_new y5 [4, 1] 3 (by intro n hn; simp at hn; exact wf_i64 (by omega) (by omega)) (by unfold maxLen; simp))).mono ?_
                rintro e y6 ⟨rfl, hb⟩
                have b7 := ext_trans b6 hb
                refine hK _ _ ?_
                clear hK K hb
                refine wpAny_one 35 _ (by kernel_rfl) rfl ?_
                refine wpOp_do (by simp only [List.getElem?_toArray, List.getElem?_cons_succ, List.getElem?_cons_zero]; rfl) (by rfl) (fun K hK => ?_)
                go_big_op
                refine hK _ _ ?_
                clear hK K
                refine wpAny_one 36 _ (by kernel_rfl) rfl ?_
                refine wpOp_do (by simp only [List.getElem?_toArray, List.getElem?_cons_succ, List.getElem?_cons_zero]; rfl) (by rfl) (fun K hK => ?_)
                go_big_op
                refine hK _ _ ?_
                clear hK K
                refine wpAny_end (by kernel_rfl) ?_
                have D7 := ext_trans D6 b7
                clear b7
                go_wp2
                go_roundw
                case rel => exact ⟨j + 1, by omega, by go_num, D7⟩
                case measure => first | (simp [intOf]; done) | (simp [intOf]; omega)
              · have b4a := b4.alloc b4.size (.cells #[.int .i64 4, .int .i64 1] 3)
                refine wpOp_do (by simp only [List.getElem?_toArray, List.getElem?_cons_succ, List.getElem?_cons_zero]; rfl) (by rfl) (fun K hK => ?_)
                go_big_op
                refine hK _ _ ?_
                clear hK K
                refine wpAny_one 32 _ (by kernel_rfl) rfl ?_
                refine wpOp_do (by simp only [List.getElem?_toArray, List.getElem?_cons_succ, List.getElem?_cons_zero]; rfl) (by rfl) (fun K hK => ?_)
                go_big_op
                refine (refFrame (some ⟨xb, 0, none⟩) n n xs _ (XA.out.ext b4a) XL.out (by omega) XW.out).mono ?_
                rintro e y5 ⟨v9, rfl, ho, hb⟩
                obtain ⟨a5, c5, rfl, -, hca5, hma5, hAa5, -, -⟩ := own_read ho
                rw [FL.out] at hca5 ⊢
                have b5 := ext_trans b4a hb
                have HR5 := IsRow.ext (isrow_new y4 [4, 1] 3 (by intro n hn; simp at hn; exact wf_i64 (by omega) (by omega)) (by unfold maxLen; simp)) hb
                refine hK _ _ ?_
                clear hK K ho hb
                refine wpAny_one 34 _ (by kernel_rfl) rfl ?_
                refine wpOp_do (by simp only [List.getElem?_toArray, List.getElem?_cons_succ, List.getElem?_cons_zero]; rfl) (by rfl) (fun K hK => ?_)
                go_big_op
                refine (law3play a5 (n + 8) c5 (fr xs) (some ⟨y4.heap.size, 0, none⟩) 2 2 [4, 1] _ (hAa5) FL.out hca5 hma5 FW.out (by omega) HR5).mono ?_
                rintro e y6 ⟨rfl, hb⟩
                have b7 := ext_trans b5 hb
                refine hK _ _ ?_
                clear hK K hb
                refine wpAny_one 35 _ (by kernel_rfl) rfl ?_
                refine wpOp_do (by simp only [List.getElem?_toArray, List.getElem?_cons_succ, List.getElem?_cons_zero]; rfl) (by rfl) (fun K hK => ?_)
                go_big_op
                refine hK _ _ ?_
                clear hK K
                refine wpAny_one 36 _ (by kernel_rfl) rfl ?_
                refine wpOp_do (by simp only [List.getElem?_toArray, List.getElem?_cons_succ, List.getElem?_cons_zero]; rfl) (by rfl) (fun K hK => ?_)
                go_big_op
                refine hK _ _ ?_
                clear hK K
                refine wpAny_end (by kernel_rfl) ?_
                have D7 := ext_trans D6 b7
                clear b7
                go_wp2
                go_roundw
                case rel => exact ⟨j + 1, by omega, by go_num, D7⟩
                case measure => first | (simp [intOf]; done) | (simp [intOf]; omega)
            · have b4a := b4.alloc b4.size (.cells #[.int .i64 4, .int .i64 1] 3)
              refine wpOp_do (by simp only [List.getElem?_toArray, List.getElem?_cons_succ, List.getElem?_cons_zero]; rfl) (by rfl) (fun K hK => ?_)
              go_big_op
              refine hK _ _ ?_
              clear hK K
              refine wpAny_one 31 _ (by kernel_rfl) rfl ?_
              refine wpOp_do (by simp only [List.getElem?_toArray, List.getElem?_cons_succ, List.getElem?_cons_zero]; rfl) (by rfl) (fun K hK => ?_)
              go_big_op
              refine hK _ _ ?_
              clear hK K
              refine wpAny_one 32 _ (by kernel_rfl) rfl ?_
              refine wpOp_do (by simp only [List.getElem?_toArray, List.getElem?_cons_succ, List.getElem?_cons_zero]; rfl) (by rfl) (fun K hK => ?_)
              go_big_op
              refine (refFrame (some ⟨xb, 0, none⟩) n n xs _ (XA.out.ext b4a) XL.out (by omega) XW.out).mono ?_
              rintro e y5 ⟨v9, rfl, ho, hb⟩
              obtain ⟨a5, c5, rfl, -, hca5, hma5, hAa5, -, -⟩ := own_read ho
              rw [FL.out] at hca5 ⊢
              have b5 := ext_trans b4a hb
              have HR5 := IsRow.ext (isrow_new y4 [4, 1] 3 (by intro n hn; simp at hn; exact wf_i64 (by omega) (by omega)) (by unfold maxLen; simp)) hb
              refine hK _ _ ?_
              clear hK K ho hb
              refine wpAny_one 34 _ (by kernel_rfl) rfl ?_
              refine wpOp_do (by simp only [List.getElem?_toArray, List.getElem?_cons_succ, List.getElem?_cons_zero]; rfl) (by rfl) (fun K hK => ?_)
              go_big_op
              refine (law3play a5 (n + 8) c5 (fr xs) (some ⟨y4.heap.size, 0, none⟩) 2 2 [4, 1] _ (hAa5) FL.out hca5 hma5 FW.out (by omega) HR5).mono ?_
              rintro e y6 ⟨rfl, hb⟩
              have b7 := ext_trans b5 hb
              refine hK _ _ ?_
              clear hK K hb
              refine wpAny_one 35 _ (by kernel_rfl) rfl ?_
              refine wpOp_do (by simp only [List.getElem?_toArray, List.getElem?_cons_succ, List.getElem?_cons_zero]; rfl) (by rfl) (fun K hK => ?_)
              go_big_op
              refine hK _ _ ?_
              clear hK K
              refine wpAny_one 36 _ (by kernel_rfl) rfl ?_
              refine wpOp_do (by simp only [List.getElem?_toArray, List.getElem?_cons_succ, List.getElem?_cons_zero]; rfl) (by rfl) (fun K hK => ?_)
              go_big_op
              refine hK _ _ ?_
              clear hK K
              refine wpAny_end (by kernel_rfl) ?_
              have D7 := ext_trans D6 b7
              clear b7
              go_wp2
              go_roundw
              case rel => exact ⟨j + 1, by omega, by go_num, D7⟩
              case measure => first | (simp [intOf]; done) | (simp [intOf]; omega)
          · have hd : decide ((n : Int) ≤ 8192) = false := by simp; omega
            go_wp2_with fail
            obtain ⟨xb, hxb⟩ : ∃ xb, w4.heap.size = xb := ⟨_, rfl⟩
            rw [hxb] at hxa ⊢
            have XA := Lib.hid hxa
            generalize (w4.alloc (.cells X 5)) = w6 at *
            have D6 := D5
            clear hmk hmk' hxb hxa D5 hcell
            refine (frameBytes_long (some ⟨xb, 0, none⟩) n n _ (by omega) (by unfold maxLen; omega)).mono ?_
            rintro e w7 ⟨rfl, rfl⟩
            go_wp2_with fail
            haveI hI0 : Nonempty (In (fun W => Below w6.heap.size w6 W)) := ⟨⟨w6, Below.refl _ _⟩⟩
            refine wp_region_split 31 6 30 rfl rfl (by kernel_rfl) (by kernel_rfl) (by kernel_rfl) (by kernel_rfl) (by kernel_rfl) ?_
            simp only [List.take_succ_cons, List.take_zero]
            refine wpAny_hist (fun W => Below w6.heap.size w6 W) (by kernel_rfl) (by kernel_rfl) ((Below.refl _ _).drew) ?_
            refine Hist.wpG_letter (fun W => Below w6.heap.size w6 W) ((Below.refl _ _).drew) ?_
            rintro x0 b0
            iterate 9 (refine Hist.wpG_plain 0 _ (by decide +kernel) rfl (by rfl) (by rfl) (fun K hK => ?_); go_big_quiet_op; refine hK _ ?_; clear hK K)
            iterate 3 (refine Hist.wpG_skip (by rfl) (by rfl) ?_; simp only [Act.put, List.setIfInBounds_toArray, List.set_cons_succ, List.set_cons_zero])
            refine wpG_callskip (fun W => Below w6.heap.size w6 W) (by rfl) (by rfl) ((by simp only [List.cons_append, List.nil_append, List.forall_mem_cons]; repeat' (first | exact b0 | (intro _ h; cases h; done) | constructor))) ?_
            simp only [Act.put, List.setIfInBounds_toArray, List.set_cons_succ, List.set_cons_zero]
            iterate 2 (refine Hist.wpG_skip (by rfl) (by rfl) ?_; simp only [Act.put, List.setIfInBounds_toArray, List.set_cons_succ, List.set_cons_zero])
            repeat (first | (refine Hist.wpG_plain 5 _ (by decide +kernel) rfl (by rfl) (by rfl) (fun K hK => ?_); go_big_quiet_op; refine hK _ ?_; clear hK K) | (refine Hist.wpG_plain 4 _ (by decide +kernel) rfl (by rfl) (by rfl) (fun K hK => ?_); go_big_quiet_op; refine hK _ ?_; clear hK K) | (refine Hist.wpG_plain 3 _ (by decide +kernel) rfl (by rfl) (by rfl) (fun K hK => ?_); go_big_quiet_op; refine hK _ ?_; clear hK K) | (refine Hist.wpG_plain 2 _ (by decide +kernel) rfl (by rfl) (by rfl) (fun K hK => ?_); go_big_quiet_op; refine hK _ ?_; clear hK K) | (refine Hist.wpG_plain 1 _ (by decide +kernel) rfl (by rfl) (by rfl) (fun K hK => ?_); go_big_quiet_op; refine hK _ ?_; clear hK K) | (refine Hist.wpG_plain 0 _ (by decide +kernel) rfl (by rfl) (by rfl) (fun K hK => ?_); go_big_quiet_op; refine hK _ ?_; clear hK K))
            refine Hist.wpG_call (by rfl) (by rfl) (fun K hK => ?_)
            go_big_op
            refine (frameSum (some ⟨xb, 0, none⟩) n n xs _ (XA.out.ext b0) XL.out XW.out (by omega)).mono ?_
            rintro e y2 ⟨rfl, rfl⟩
            refine hK _ _ ⟨(fun W => Below w6.heap.size w6 W), (by simp only [List.cons_append, List.nil_append, List.forall_mem_cons]; repeat' (first | exact b0 | (intro _ h; cases h; done) | constructor)), ?_⟩
            clear hK K
            repeat (first | (refine Hist.wpG_plain 5 _ (by decide +kernel) rfl (by rfl) (by rfl) (fun K hK => ?_); go_big_quiet_op; refine hK _ ?_; clear hK K) | (refine Hist.wpG_plain 4 _ (by decide +kernel) rfl (by rfl) (by rfl) (fun K hK => ?_); go_big_quiet_op; refine hK _ ?_; clear hK K) | (refine Hist.wpG_plain 3 _ (by decide +kernel) rfl (by rfl) (by rfl) (fun K hK => ?_); go_big_quiet_op; refine hK _ ?_; clear hK K) | (refine Hist.wpG_plain 2 _ (by decide +kernel) rfl (by rfl) (by rfl) (fun K hK => ?_); go_big_quiet_op; refine hK _ ?_; clear hK K) | (refine Hist.wpG_plain 1 _ (by decide +kernel) rfl (by rfl) (by rfl) (fun K hK => ?_); go_big_quiet_op; refine hK _ ?_; clear hK K) | (refine Hist.wpG_plain 0 _ (by decide +kernel) rfl (by rfl) (by rfl) (fun K hK => ?_); go_big_quiet_op; refine hK _ ?_; clear hK K))
            refine Hist.wpG_call (by rfl) (by rfl) (fun K hK => ?_)
            go_big_op
            refine (refSum (some ⟨xb, 0, none⟩) n n xs _ (XA.out.ext b0) XL.out XW.out (by omega)).mono ?_
            rintro e y2 ⟨rfl, rfl⟩
            refine hK _ _ ⟨(fun W => Below w6.heap.size w6 W), (by simp only [List.cons_append, List.nil_append, List.forall_mem_cons]; repeat' (first | exact b0 | (intro _ h; cases h; done) | constructor)), ?_⟩
            clear hK K
            repeat (first | (refine Hist.wpG_plain 5 _ (by decide +kernel) rfl (by rfl) (by rfl) (fun K hK => ?_); go_big_quiet_op; refine hK _ ?_; clear hK K) | (refine Hist.wpG_plain 4 _ (by decide +kernel) rfl (by rfl) (by rfl) (fun K hK => ?_); go_big_quiet_op; refine hK _ ?_; clear hK K) | (refine Hist.wpG_plain 3 _ (by decide +kernel) rfl (by rfl) (by rfl) (fun K hK => ?_); go_big_quiet_op; refine hK _ ?_; clear hK K) | (refine Hist.wpG_plain 2 _ (by decide +kernel) rfl (by rfl) (by rfl) (fun K hK => ?_); go_big_quiet_op; refine hK _ ?_; clear hK K) | (refine Hist.wpG_plain 1 _ (by decide +kernel) rfl (by rfl) (by rfl) (fun K hK => ?_); go_big_quiet_op; refine hK _ ?_; clear hK K) | (refine Hist.wpG_plain 0 _ (by decide +kernel) rfl (by rfl) (by rfl) (fun K hK => ?_); go_big_quiet_op; refine hK _ ?_; clear hK K))
            refine Hist.wpG_call (by rfl) (by rfl) (fun K hK => ?_)
            go_big_op
            refine (refFrame (some ⟨xb, 0, none⟩) n n xs _ (XA.out.ext b0) XL.out (by omega) XW.out).mono ?_
            rintro e y3 ⟨v9, rfl, ho, hb⟩
            obtain ⟨a3, c3, rfl, -, hca3, hma3, hAa3, -, -⟩ := own_read ho
            rw [FL.out] at hca3 ⊢
            have b3 := ext_trans b0 hb
            clear ho hb
            refine hK _ _ ⟨(fun W => Below w6.heap.size w6 W), (by simp only [List.cons_append, List.nil_append, List.forall_mem_cons]; repeat' (first | exact b3 | (intro _ h; cases h; done) | constructor)), ?_⟩
            clear hK K
            repeat (first | (refine Hist.wpG_plain 5 _ (by decide +kernel) rfl (by rfl) (by rfl) (fun K hK => ?_); go_big_quiet_op; refine hK _ ?_; clear hK K) | (refine Hist.wpG_plain 4 _ (by decide +kernel) rfl (by rfl) (by rfl) (fun K hK => ?_); go_big_quiet_op; refine hK _ ?_; clear hK K) | (refine Hist.wpG_plain 3 _ (by decide +kernel) rfl (by rfl) (by rfl) (fun K hK => ?_); go_big_quiet_op; refine hK _ ?_; clear hK K) | (refine Hist.wpG_plain 2 _ (by decide +kernel) rfl (by rfl) (by rfl) (fun K hK => ?_); go_big_quiet_op; refine hK _ ?_; clear hK K) | (refine Hist.wpG_plain 1 _ (by decide +kernel) rfl (by rfl) (by rfl) (fun K hK => ?_); go_big_quiet_op; refine hK _ ?_; clear hK K) | (refine Hist.wpG_plain 0 _ (by decide +kernel) rfl (by rfl) (by rfl) (fun K hK => ?_); go_big_quiet_op; refine hK _ ?_; clear hK K))
            refine Hist.wpG_call (by rfl) (by rfl) (fun K hK => ?_)
            go_big_op
            refine (lawOnes a3 (n + 8) c3 (fr xs) _ hAa3 FL.out hca3 hma3 FW.out).mono ?_
            rintro e y4 ⟨rfl, hb⟩
            have b4 := ext_trans b3 hb
            clear hb hAa3
            refine hK _ _ ⟨(fun W => Below w6.heap.size w6 W), (by simp only [List.cons_append, List.nil_append, List.forall_mem_cons]; repeat' (first | exact b4 | (intro _ h; cases h; done) | constructor)), ?_⟩
            clear hK K
            repeat (first | (refine Hist.wpG_plain 5 _ (by decide +kernel) rfl (by rfl) (by rfl) (fun K hK => ?_); go_big_quiet_op; refine hK _ ?_; clear hK K) | (refine Hist.wpG_plain 4 _ (by decide +kernel) rfl (by rfl) (by rfl) (fun K hK => ?_); go_big_quiet_op; refine hK _ ?_; clear hK K) | (refine Hist.wpG_plain 3 _ (by decide +kernel) rfl (by rfl) (by rfl) (fun K hK => ?_); go_big_quiet_op; refine hK _ ?_; clear hK K) | (refine Hist.wpG_plain 2 _ (by decide +kernel) rfl (by rfl) (by rfl) (fun K hK => ?_); go_big_quiet_op; refine hK _ ?_; clear hK K) | (refine Hist.wpG_plain 1 _ (by decide +kernel) rfl (by rfl) (by rfl) (fun K hK => ?_); go_big_quiet_op; refine hK _ ?_; clear hK K) | (refine Hist.wpG_plain 0 _ (by decide +kernel) rfl (by rfl) (by rfl) (fun K hK => ?_); go_big_quiet_op; refine hK _ ?_; clear hK K))
            refine Hist.wpG_nil ?_
            show wpAny _ _ _ _ _ _ _ _
            clear b0 hI0 b3
            refine wpAny_two 31 33 _ _ (by kernel_rfl) rfl rfl ?_ ?_
            · refine wpOp_do (by simp only [List.getElem?_toArray, List.getElem?_cons_succ, List.getElem?_cons_zero]; rfl) (by rfl) (fun K hK => ?_)
              go_big_op
              refine hK _ _ ?_
              clear hK K
              refine wpAny_two 32 33 _ _ (by kernel_rfl) rfl rfl ?_ ?_
              · refine wpOp_do (by simp only [List.getElem?_toArray, List.getElem?_cons_succ, List.getElem?_cons_zero]; rfl) (by rfl) (fun K hK => ?_)
                go_big_op
                refine (refFrame (some ⟨xb, 0, none⟩) n n xs _ (XA.out.ext b4) XL.out (by omega) XW.out).mono ?_
                rintro e y5 ⟨v9, rfl, ho, hb⟩
                obtain ⟨a5, c5, rfl, -, hca5, hma5, hAa5, -, -⟩ := own_read ho
                rw [FL.out] at hca5 ⊢
                have b5 := ext_trans b4 hb
                refine hK _ _ ?_
                clear hK K ho hb
                refine wpAny_one 33 _ (by kernel_rfl) rfl ?_
                have b6 := b5.alloc b5.size (.cells #[.int .i64 4, .int .i64 1] 3)
                have hA6 := hAa5.ext ((Below.refl y5.heap.size y5).alloc (Nat.le_refl _) (.cells #[.int .i64 4, .int .i64 1] 3))
                refine wpOp_do (by simp only [List.getElem?_toArray, List.getElem?_cons_succ, List.getElem?_cons_zero]; rfl) (by rfl) (fun K hK => ?_)
                go_big_op
                refine hK _ _ ?_
                clear hK K
                refine wpAny_one 34 _ (by kernel_rfl) rfl ?_
                refine wpOp_do (by simp only [List.getElem?_toArray, List.getElem?_cons_succ, List.getElem?_cons_zero]; rfl) (by rfl) (fun K hK => ?_)
                go_big_op
                refine (law3play a5 (n + 8) c5 (fr xs) (some ⟨y5.heap.size, 0, none⟩) 2 2 [4, 1] _ (hA6) FL.out hca5 hma5 FW.out (by omega) (isrow_new y5 [4, 1] 3 (by intro n hn; simp at hn; exact wf_i64 (by omega) (by omega)) (by unfold maxLen; simp))).mono ?_
                rintro e y6 ⟨rfl, hb⟩
                have b7 := ext_trans b6 hb
                refine hK _ _ ?_
                clear hK K hb
                refine wpAny_one 35 _ (by kernel_rfl) rfl ?_
                refine wpOp_do (by simp only [List.getElem?_toArray, List.getElem?_cons_succ, List.getElem?_cons_zero]; rfl) (by rfl) (fun K hK => ?_)
                go_big_op
                refine hK _ _ ?_
                clear hK K
                refine wpAny_one 36 _ (by kernel_rfl) rfl ?_
                refine wpOp_do (by simp only [List.getElem?_toArray, List.getElem?_cons_succ, List.getElem?_cons_zero]; rfl) (by rfl) (fun K hK => ?_)
                go_big_op
                refine hK _ _ ?_
                clear hK K
                refine wpAny_end (by kernel_rfl) ?_
                have D7 := ext_trans D6 b7
                clear b7
                go_wp2
                go_roundw
                case rel => exact ⟨j + 1, by omega, by go_num, D7⟩
                case measure => first | (simp [intOf]; done) | (simp [intOf]; omega)
              · have b4a := b4.alloc b4.size (.cells #[.int .i64 4, .int .i64 1] 3)
                refine wpOp_do (by simp only [List.getElem?_toArray, List.getElem?_cons_succ, List.getElem?_cons_zero]; rfl) (by rfl) (fun K hK => ?_)
                go_big_op
                refine hK _ _ ?_
                clear hK K
                refine wpAny_one 32 _ (by kernel_rfl) rfl ?_
                refine wpOp_do (by simp only [List.getElem?_toArray, List.getElem?_cons_succ, List.getElem?_cons_zero]; rfl) (by rfl) (fun K hK => ?_)
                go_big_op
                refine (refFrame (some ⟨xb, 0, none⟩) n n xs _ (XA.out.ext b4a) XL.out (by omega) XW.out).mono ?_
                rintro e y5 ⟨v9, rfl, ho, hb⟩
                obtain ⟨a5, c5, rfl, -, hca5, hma5, hAa5, -, -⟩ := own_read ho
                rw [FL.out] at hca5 ⊢
                have b5 := ext_trans b4a hb
                have HR5 := IsRow.ext (isrow_new y4 [4, 1] 3 (by intro n hn; simp at hn; exact wf_i64 (by omega) (by omega)) (by unfold maxLen; simp)) hb
                refine hK _ _ ?_
                clear hK K ho hb
                refine wpAny_one 34 _ (by kernel_rfl) rfl ?_
                refine wpOp_do (by simp only [List.getElem?_toArray, List.getElem?_cons_succ, List.getElem?_cons_zero]; rfl) (by rfl) (fun K hK => ?_)
                go_big_op
                refine (law3play a5 (n + 8) c5 (fr xs) (some ⟨y4.heap.size, 0, none⟩) 2 2 [4, 1] _ (hAa5) FL.out hca5 hma5 FW.out (by omega) HR5).mono ?_
                rintro e y6 ⟨rfl, hb⟩
                have b7 := ext_trans b5 hb
                refine hK _ _ ?_
                clear hK K hb
                refine wpAny_one 35 _ (by kernel_rfl) rfl ?_
                refine wpOp_do (by simp only [List.getElem?_toArray, List.getElem?_cons_succ, List.getElem?_cons_zero]; rfl) (by rfl) (fun K hK => ?_)
                go_big_op
                refine hK _ _ ?_
                clear hK K
                refine wpAny_one 36 _ (by kernel_rfl) rfl ?_
                refine wpOp_do (by simp only [List.getElem?_toArray, List.getElem?_cons_succ, List.getElem?_cons_zero]; rfl) (by rfl) (fun K hK => ?_)
                go_big_op
                refine hK _ _ ?_
                clear hK K
                refine wpAny_end (by kernel_rfl) ?_
                have D7 := ext_trans D6 b7
                clear b7
                go_wp2
                go_roundw
                case rel => exact ⟨j + 1, by omega, by go_num, D7⟩
                case measure => first | (simp [intOf]; done) | (simp [intOf]; omega)
            · have b4a := b4.alloc b4.size (.cells #[.int .i64 4, .int .i64 1] 3)
              refine wpOp_do (by simp only [List.getElem?_toArray, List.getElem?_cons_succ, List.getElem?_cons_zero]; rfl) (by rfl) (fun K hK => ?_)
              go_big_op
              refine hK _ _ ?_
              clear hK K
              refine wpAny_one 31 _ (by kernel_rfl) rfl ?_
              refine wpOp_do (by simp only [List.getElem?_toArray, List.getElem?_cons_succ, List.getElem?_cons_zero]; rfl) (by rfl) (fun K hK => ?_)
              go_big_op
              refine hK _ _ ?_
              clear hK K
              refine wpAny_one 32 _ (by kernel_rfl) rfl ?_
              refine wpOp_do (by simp only [List.getElem?_toArray, List.getElem?_cons_succ, List.getElem?_cons_zero]; rfl) (by rfl) (fun K hK => ?_)
              go_big_op
              refine (refFrame (some ⟨xb, 0, none⟩) n n xs _ (XA.out.ext b4a) XL.out (by omega) XW.out).mono ?_
              rintro e y5 ⟨v9, rfl, ho, hb⟩
              obtain ⟨a5, c5, rfl, -, hca5, hma5, hAa5, -, -⟩ := own_read ho
              rw [FL.out] at hca5 ⊢
              have b5 := ext_trans b4a hb
              have HR5 := IsRow.ext (isrow_new y4 [4, 1] 3 (by intro n hn; simp at hn; exact wf_i64 (by omega) (by omega)) (by unfold maxLen; simp)) hb
              refine hK _ _ ?_
              clear hK K ho hb
              refine wpAny_one 34 _ (by kernel_rfl) rfl ?_
              refine wpOp_do (by simp only [List.getElem?_toArray, List.getElem?_cons_succ, List.getElem?_cons_zero]; rfl) (by rfl) (fun K hK => ?_)
              go_big_op
              refine (law3play a5 (n + 8) c5 (fr xs) (some ⟨y4.heap.size, 0, none⟩) 2 2 [4, 1] _ (hAa5) FL.out hca5 hma5 FW.out (by omega) HR5).mono ?_
              rintro e y6 ⟨rfl, hb⟩
              have b7 := ext_trans b5 hb
              refine hK _ _ ?_
              clear hK K hb
              refine wpAny_one 35 _ (by kernel_rfl) rfl ?_
              refine wpOp_do (by simp only [List.getElem?_toArray, List.getElem?_cons_succ, List.getElem?_cons_zero]; rfl) (by rfl) (fun K hK => ?_)
              go_big_op
              refine hK _ _ ?_
              clear hK K
              refine wpAny_one 36 _ (by kernel_rfl) rfl ?_
              refine wpOp_do (by simp only [List.getElem?_toArray, List.getElem?_cons_succ, List.getElem?_cons_zero]; rfl) (by rfl) (fun K hK => ?_)
              go_big_op
              refine hK _ _ ?_
              clear hK K
              refine wpAny_end (by kernel_rfl) ?_
              have D7 := ext_trans D6 b7
              clear b7
              go_wp2
              go_roundw
              case rel => exact ⟨j + 1, by omega, by go_num, D7⟩
              case measure => first | (simp [intOf]; done) | (simp [intOf]; omega)
        · obtain rfl : j = 4 := by omega
          have D5 := ext_trans B1 (ext_trans D3 D4)
          go_wp2_with fail
          refine (law3known _).mono ?_
          rintro e w5 ⟨rfl, hb⟩
          have D6 := ext_trans D5 hb
          go_wp2
          go_ret
          exact ⟨rfl, D6⟩

end Go.Proofs.Ytiblnonmlekjgaa
