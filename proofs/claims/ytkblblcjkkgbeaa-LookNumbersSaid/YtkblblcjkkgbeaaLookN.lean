/- 'LookCounts': the walk. -/
import Derived.Test.YtkblblcjkkgbeaaLookK
import Derived.Test.YtkblblcjkkgbeaaCompact
namespace Go.Proofs.Ytkblblcjkkgbeaa
open Go.RowKit
set_option linter.unusedVariables false
set_option linter.unusedSimpArgs false

theorem sortS_ord (ls : List (List UInt8)) : (sortS ls).Pairwise (fun a b => a ≤ b) := by
  have tr : ∀ a b c : List UInt8, decide (a ≤ b) = true → decide (b ≤ c) = true → decide (a ≤ c) = true := fun a b c h1 h2 => by simp only [decide_eq_true_eq] at *; exact List.le_trans h1 h2
  have tot : ∀ a b : List UInt8, (decide (a ≤ b) || decide (b ≤ a)) = true := fun a b => by simp only [Bool.or_eq_true, decide_eq_true_eq]; exact List.le_total a b
  have := List.pairwise_mergeSort tr tot ls
  refine List.Pairwise.imp ?_ this
  intro a b h
  simpa using h
theorem sortS_mem (ls : List (List UInt8)) (y : List UInt8) : y ∈ sortS ls ↔ y ∈ ls := (List.mergeSort_perm ls _).mem_iff
theorem appsL_nodup (ls : List Cd) : (appsL ls).Nodup := by
  unfold appsL
  rw [compact_is]
  exact cps_nodup (fun a b => a ≤ b) (fun a b h1 h2 => List.le_antisymm h1 h2) _ (sortS_ord _)
theorem appsL_mem (ls : List Cd) (y : List UInt8) : y ∈ appsL ls ↔ ∃ c ∈ ls, c.g = false ∧ c.a.data.toList = y := by
  unfold appsL
  rw [compact_is, cps_mem, sortS_mem]
  unfold aps
  simp only [List.mem_map, List.mem_filter]
  constructor
  · rintro ⟨c, ⟨h1, h2⟩, h3⟩; exact ⟨c, h1, by simpa using h2, h3⟩
  · rintro ⟨c, h1, h2, h3⟩; exact ⟨c, ⟨h1, by simpa using h2⟩, h3⟩
theorem appsL_len (ls : List Cd) : (appsL ls).length ≤ ls.length := by
  unfold appsL
  have h1 := compact_len (sortS (aps ls))
  rw [sortS_len] at h1
  exact Nat.le_trans h1 (aps_len ls)
def ups (ls : List Cd) : List Cd := ls.filter (fun c => decide (shw c = 1))
theorem ups_live {c : Cd} (h : shw c = 1) : c.g = false := by
  cases hg : c.g
  · rfl
  · simp [shw, hg] at h
theorem fnd_count (s : ByteArray) (ls : List Cd) : (fnd s ls).length = ((ups ls).filter (fun x => decide (x.a.data.toList = s.data.toList))).length := by
  unfold fnd ups
  rw [srt_len, List.filter_filter]
  congr 1
  apply List.filter_congr
  intro c _
  unfold upC
  by_cases h1 : shw c = 1
  · have hg := ups_live h1
    by_cases h2 : c.a = s
    · simp [h1, hg, h2]
    · have h3 : ¬ c.a.data.toList = s.data.toList := fun e => h2 (ba_eq e)
      simp only [h2, h3, decide_false, Bool.false_and]
  · simp [h1]
def cntA (ls : List Cd) (A : List (List UInt8)) : Nat := (A.map fun a => ((ups ls).filter (fun x => decide (x.a.data.toList = a))).length).sum
theorem cntA_snoc (ls : List Cd) (A : List (List UInt8)) (a : List UInt8) : cntA ls (A ++ [a]) = cntA ls A + ((ups ls).filter (fun x => decide (x.a.data.toList = a))).length := by simp [cntA]
theorem cntA_all (ls : List Cd) : ((cntA ls (appsL ls) : Nat) : Int) = cntI ls 1 := by
  unfold cntA cntI
  rw [sum_by (fun x : Cd => x.a.data.toList) (appsL ls) (appsL_nodup ls) (ups ls)]
  · rfl
  · intro x hx
    have h := List.mem_filter.1 hx
    exact (appsL_mem ls _).2 ⟨x, h.1, ups_live (by simpa using h.2), rfl⟩
theorem cntA_le (ls : List Cd) (A : List (List UInt8)) : cntA ls A ≤ A.length * ls.length := by
  induction A with
  | nil => simp [cntA]
  | cons a A ih =>
    have h1 : ((ups ls).filter (fun x => decide (x.a.data.toList = a))).length ≤ ls.length := Nat.le_trans (List.length_filter_le _ _) (List.length_filter_le _ _)
    have e : cntA ls (a :: A) = ((ups ls).filter (fun x => decide (x.a.data.toList = a))).length + cntA ls A := by simp [cntA]
    rw [e, List.length_cons, Nat.succ_mul]
    omega
theorem shw_ok {c : Cd} (h : CdOk c) : 0 ≤ shw c ∧ shw c ≤ 3 := by
  obtain ⟨-, -, h1, h2, h3, h4, -⟩ := h
  unfold shw
  split
  · omega
  · split <;> omega
theorem cnt_all (ls : List Cd) (h : ∀ c ∈ ls, CdOk c) : cntI ls 0 + cntI ls 1 + cntI ls 2 + cntI ls 3 = ls.length := by
  induction ls with
  | nil => rfl
  | cons x xs ih =>
    have h1 := ih (fun c hc => h c (List.mem_cons_of_mem _ hc))
    have h2 := shw_ok (h x (by simp))
    have e : ∀ k, cntI (x :: xs) k = cntI xs k + (if shw x = k then 1 else 0) := by
      intro k
      unfold cntI
      by_cases hk : shw x = k
      · simp [hk]
      · simp [hk]
    rw [e, e, e, e, List.length_cons]
    have h3 : shw x = 0 ∨ shw x = 1 ∨ shw x = 2 ∨ shw x = 3 := by omega
    rcases h3 with h3 | h3 | h3 | h3 <;> simp [h3] <;> omega

set_option maxRecDepth 100000 in
set_option maxHeartbeats 2000000 in
theorem lookCounts_walk (ra : Option Addr) (rlen rcap : Nat) (rz : List Int) (w : World) (hr : IsRow .i64 w ra rlen rcap rz) (hr8 : rlen * 8 ≤ 140737488351232) :
    Calls Try.prog 5 #[.slice ra rlen rcap] w fun e w' => e = .returned (.bool true) ∧ Below w.heap.size w w' := by
  have D0 : Below w.heap.size w (w.alloc (.cells #[.slice ra rlen rcap, .int .i64 0] 26)) := (Below.refl _ _).alloc (Nat.le_refl _) _
  have HT0 := Lib.hid (tapeK_new (a := ra) (len := rlen) (cap := rcap) w)
  have HR0 := Lib.hid (rowOk_new hr (.cells #[.slice ra rlen rcap, .int .i64 0] 26))
  have HD0 := Lib.hid D0
  clear hr D0
  go_enter Try.func5, Try.ntmps5
  go_wp2_with fail
  generalize (w.alloc (.cells #[.slice ra rlen rcap, .int .i64 0] 26)) = w0 at *
  refine (tapeCards ra rlen rcap rz w.heap.size 14 _ HT0.out HR0.out (by omega)).mono ?_
  rintro e w1 ⟨lv, cs, rfl, ho, hl, hok, -, hb⟩
  obtain ⟨ca, cc', rfl, hcc, hcm, hcat, -, -⟩ := ho.read
  have HCA := Lib.hid hcat
  have HB1 := Lib.hid (HD0.out.trans (hb.below (Nat.le_refl _) HD0.out.size))
  have HALL := Lib.hid (cnt_all cs hok)
  have HUP := Lib.hid (cntA_all cs)
  have b0 := cnt_bd cs 0
  have b1 := cnt_bd cs 1
  have b2 := cnt_bd cs 2
  have b3 := cnt_bd cs 3
  clear ho hok hb hcat HT0 HR0 HD0
  obtain ⟨n, hn⟩ : ∃ n, cs.length = n := ⟨_, rfl⟩
  have HN := Lib.hid hn
  rw [hn] at hl hcc b0 b1 b2 b3 ⊢
  unfold maxLen at hcm
  clear hn
  go_wp2_with fail
  refine (lookCount ca n cc' cs _ HCA.out HN.out (by omega) hcc).mono ?_
  rintro e w2 ⟨rfl, hb2⟩
  obtain ⟨c0, h0⟩ : ∃ v, cntI cs 0 = v := ⟨_, rfl⟩
  obtain ⟨c1, h1⟩ : ∃ v, cntI cs 1 = v := ⟨_, rfl⟩
  obtain ⟨c2, h2⟩ : ∃ v, cntI cs 2 = v := ⟨_, rfl⟩
  obtain ⟨c3, h3⟩ : ∃ v, cntI cs 3 = v := ⟨_, rfl⟩
  have HSUM := Lib.hid (show c0 + c1 + c2 + c3 = (n : Int) from by rw [← h0, ← h1, ← h2, ← h3, HALL.out, HN.out])
  have HU := Lib.hid (show ((cntA cs (appsL cs) : Nat) : Int) = c1 from by rw [← h1]; exact HUP.out)
  rw [show cnt4 cs = #[.int .i64 c0, .int .i64 c1, .int .i64 c2, .int .i64 c3] from by unfold cnt4; simp only [h0, h1, h2, h3]]
  rw [h0] at b0
  rw [h1] at b1
  rw [h2] at b2
  rw [h3] at b3
  have HB2 := Lib.hid (ext_trans HB1.out hb2)
  have D2 : Below w2.heap.size w2 (w2.alloc (.cells #[.int .i64 c0, .int .i64 c1, .int .i64 c2, .int .i64 c3] 45)) := (Below.refl _ _).alloc (Nat.le_refl _) _
  have HX3 := Lib.hid (blk_new w2 #[.int .i64 c0, .int .i64 c1, .int .i64 c2, .int .i64 c3] 45)
  have HB3 := Lib.hid (ext_trans HB2.out D2)
  have HC3 := Lib.hid (HCA.out.ext (ext_trans hb2 D2))
  clear hb2 D2 h0 h1 h2 h3 HALL HUP HCA HB1
  go_wp2_with fail
  obtain ⟨r, hr⟩ : ∃ r, w2.heap.size = r := ⟨_, rfl⟩
  rw [hr] at HX3 ⊢
  clear hr
  generalize (w2.alloc (.cells #[.int .i64 c0, .int .i64 c1, .int .i64 c2, .int .i64 c3] 45)) = w3 at *
  refine (lookApps ca n cc' cs _ HC3.out HN.out (by omega) hcc).mono ?_
  rintro e w4 ⟨v4, rfl, ho4, hb4⟩
  obtain ⟨sa, sc, rfl, hsc, hsm, hsat, -, -⟩ := OwnR.read es_len ho4
  obtain ⟨A, hA⟩ : ∃ A, appsL cs = A := ⟨_, rfl⟩
  obtain ⟨m, hm⟩ : ∃ m, A.length = m := ⟨_, rfl⟩
  have hm14 : m ≤ 14 := by have := appsL_len cs; rw [hA, hm, HN.out] at this; omega
  rw [hA] at hsat hsc ⊢
  rw [hm] at hsc ⊢
  have HM := Lib.hid hm
  have HAA := Lib.hid hA
  have HSA := Lib.hid hsat
  have HX4 := Lib.hid (blk_ext hb4 HX3.out)
  have HB4 := Lib.hid (ext_trans HB3.out hb4)
  have HC4 := Lib.hid (HC3.out.ext hb4)
  unfold maxLen at hsm
  clear ho4 hb4 hsat hA hm HX3 HB3 HC3
  go_wp2_with fail
  go_loopw [5, 17] (fun nn i wr => ∃ J : Nat, J ≤ m ∧ i = .int .i64 (J : Int) ∧ nn = .int .i64 ((cntA cs (A.take J) : Nat) : Int) ∧ Below w4.heap.size w4 wr) (fun nn i _ => m - (intOf i).toNat)
  case atStart => exact ⟨0, by omega, rfl, rfl, Below.refl _ _⟩
  case round =>
    obtain ⟨w5, rfl⟩ : ∃ y : World, y = wr := ⟨_, rfl⟩
    obtain ⟨J, hJ, rfl, rfl, hb5⟩ := hrel
    obtain ⟨N0, hN0⟩ : ∃ N0, cntA cs (A.take J) = N0 := ⟨_, rfl⟩
    have hNb : N0 ≤ 196 := by
      rw [← hN0]
      refine Nat.le_trans (cntA_le cs (A.take J)) ?_
      have h1 : (A.take J).length ≤ 14 := by rw [List.length_take]; omega
      have h2 : cs.length ≤ 14 := by rw [HN.out]; omega
      exact Nat.mul_le_mul h1 h2
    have HN0 := Lib.hid hN0
    rw [hN0]
    clear hN0
    have HB5 := Lib.hid (ext_trans HB4.out hb5)
    have HC5 := Lib.hid (HC4.out.ext hb5)
    by_cases hlt : J < m
    · obtain ⟨s, hs⟩ : ∃ s : ByteArray, A[J]? = some s.data.toList := ⟨⟨⟨A[J]'(by have := HM.out; omega)⟩⟩, List.getElem?_eq_getElem (by have := HM.out; omega)⟩
      obtain ⟨b, o, rfl⟩ : ∃ b o, sa = some ⟨b, o, none⟩ := by
        rcases HSA.out with h | ⟨b, o, e, _⟩
        · rw [h] at hs; simp at hs
        · exact ⟨b, o, e⟩
      have y0 := StAt.at (HSA.out.ext hb5) hs
      have HST := Lib.hid (show cntA cs (A.take (J + 1)) = N0 + (fnd s cs).length from by rw [List.take_add_one, hs]; show cntA cs (A.take J ++ [s.data.toList]) = _; rw [cntA_snoc, HN0.out, fnd_count])
      have hfl : (fnd s cs).length ≤ 14 := by have := fnd_len s cs; have := HN.out; omega
      have HBR := Lib.hid hb5
      clear hs hb5
      go_wp2_with fail
      refine (lookFind ca n cc' cs s _ HC5.out HN.out (by omega) hcc).mono ?_
      rintro e w6 ⟨v6, rfl, ho6, hb6⟩
      obtain ⟨a6, c6, rfl, -, -, -, -, -⟩ := ho6.read
      obtain ⟨q, hq⟩ : ∃ q, (fnd s cs).length = q := ⟨_, rfl⟩
      rw [hq] at hfl ⊢
      have HQ := Lib.hid hq
      have HB6 := Lib.hid (ext_trans HBR.out hb6)
      clear hq ho6 hb6
      go_wp2
      go_roundw
      case rel => exact ⟨J + 1, by omega, by go_num, by rw [HST.out, HQ.out]; go_num, HB6.out⟩
      case measure => simp [intOf]; omega
    · obtain rfl : J = m := by omega
      have HF := Lib.hid (show ((N0 : Nat) : Int) = c1 from by rw [← HU.out, ← HN0.out, List.take_of_length_le (by have := HM.out; omega), HAA.out])
      have HX5 := Lib.hid (blk_ext hb5 HX4.out)
      clear hb5
      have hk5 := blk_cell HX5.out
      have hl5 := blk_lt HX5.out
      have hd1 : c0 + c1 + c2 + c3 = (n : Int) := HSUM.out
      have hd1' : (c0 + c1 + c2 + c3 == (n : Int)) = true := by rw [hd1]; simp
      have hd2 : (((N0 : Nat) : Int) == c1) = true := by rw [HF.out]; simp
      clear hd1
      go_wp2_with fail
      refine (law23known _).mono ?_
      rintro e w7 ⟨rfl, hb7⟩
      have HB7 := Lib.hid (ext_trans HB5.out hb7)
      clear hb7
      go_wp2
      go_ret
      exact ⟨rfl, HB7.out⟩

end Go.Proofs.Ytkblblcjkkgbeaa
