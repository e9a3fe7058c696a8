/- A key read off a tape. -/
import Derived.Test.YtmgdhgaodjkifaaTape
namespace Go.Proofs.Ytmgdhgaodjkifaa
open Go.RowKit
set_option linter.unusedVariables false

set_option maxRecDepth 100000 in
set_option maxHeartbeats 400000 in
theorem tapeKeyK (a0 : Option Addr) (len cap : Nat) (zs : List Int) (tb : Nat) (w : World) (hTK : TapeK a0 len cap w tb) (hRow : RowOk a0 len cap zs w tb) :
    Calls Try.prog 23 #[.pointer (some ⟨tb, 0, none⟩)] w fun r w' => ∃ s s' : ByteArray, r = .returned (.agg #[.string s, .string s']) ∧ s.size ≤ 4 ∧ s'.size ≤ 4 ∧ TapeK a0 len cap w' tb ∧ Bar tb w w' := by
  have htb := hTK.lt
  go_enter Try.func23, Try.ntmps23
  go_wp2_with fail
  obtain ⟨rb, hrb⟩ : ∃ rb, rb = w.heap.size := ⟨_, rfl⟩
  rw [← hrb]
  have HR := Lib.hid hrb
  clear hrb
  refine wp_region_inv_at (J := fun A d a x => ∃ u3 u4 u5 u6 u7 u8 u9 u10 u11 u12 u13 : Value, a = ⟨#[A.tmps.getD 0 undef, A.tmps.getD 1 undef, A.tmps.getD 2 undef, u3, u4, u5, u6, u7, u8, u9, u10, u11, u12, u13], A.defers⟩ ∧ (d 0 = true → ∃ b : Nat, u3 = .slice (some ⟨b, 0, none⟩) 4 4 ∧ b ≠ tb ∧ b ≠ rb ∧ x.heap[b]? = some (.cells #[.string ⟨#[97, 112, 112]⟩, .string ⟨#[98]⟩, .string ⟨#[97, 112, 112, 49]⟩, .string ⟨#[122, 57]⟩] 9 (0, 0))) ∧ (d 1 = true → u4 = .pointer (some ⟨tb, 0, none⟩)) ∧ (d 2 = true → ∃ q : Nat, u5 = .int .i64 q ∧ q < 4) ∧ (d 3 = true → ∃ (b i : Nat) (s : ByteArray), u6 = .pointer (some ⟨b, i, none⟩) ∧ b ≠ tb ∧ b ≠ rb ∧ x.cell? ⟨b, i, none⟩ = some (.string s) ∧ s.size ≤ 4) ∧ (d 4 = true → ∃ s : ByteArray, u7 = .string s ∧ s.size ≤ 4) ∧ (d 5 = true → ∃ b : Nat, u8 = .slice (some ⟨b, 0, none⟩) 5 5 ∧ b ≠ tb ∧ b ≠ rb ∧ x.heap[b]? = some (.cells #[.string ⟨#[105, 100]⟩, .string ⟨#[97]⟩, .string ⟨#[105, 100, 50]⟩, .string ⟨#[120, 48]⟩, .string ⟨#[109]⟩] 9 (0, 0))) ∧ (d 6 = true → u9 = .pointer (some ⟨tb, 0, none⟩)) ∧ (d 7 = true → ∃ q : Nat, u10 = .int .i64 q ∧ q < 5) ∧ (d 8 = true → ∃ (b i : Nat) (s : ByteArray), u11 = .pointer (some ⟨b, i, none⟩) ∧ b ≠ tb ∧ b ≠ rb ∧ x.cell? ⟨b, i, none⟩ = some (.string s) ∧ s.size ≤ 4) ∧ (d 9 = true → ∃ s : ByteArray, u12 = .string s ∧ s.size ≤ 4) ∧ (d 10 = true → ∃ s s' : ByteArray, u13 = .agg #[.string s, .string s'] ∧ s.size ≤ 4 ∧ s'.size ≤ 4) ∧ (d 11 = true → ∃ s s' : ByteArray, x.heap[rb]? = some (.cells #[.string s, .string s'] 32 (0, 0)) ∧ s.size ≤ 4 ∧ s'.size ≤ 4) ∧ TapeK a0 len cap x tb ∧ Bar tb w x ∧ rb ≠ tb ∧ w.heap.size ≤ rb ∧ ∃ y y' : Value, x.heap[rb]? = some (.cells #[y, y'] 32 (0, 0))) (by kernel_rfl) (by kernel_rfl) ?_ ?_ ?_
  · refine ⟨_, _, _, _, _, _, _, _, _, _, _, rfl, ?_, ?_, ?_, ?_, ?_, ?_, ?_, ?_, ?_, ?_, ?_, ?_, ?_, ?_, ?_, ?_, ?_⟩
    · intro h; cases h
    · intro h; cases h
    · intro h; cases h
    · intro h; cases h
    · intro h; cases h
    · intro h; cases h
    · intro h; cases h
    · intro h; cases h
    · intro h; cases h
    · intro h; cases h
    · intro h; cases h
    · intro h; cases h
    · exact hTK.ext ((Below.refl _ _).alloc (Nat.le_refl _) _).drew
    · exact Bar.of ((Below.refl _ _).alloc (Nat.le_refl _) _).drew
    · exact by have := HR.out; omega
    · exact by have := HR.out; omega
    · exact ⟨_, _, blk_drew (blk_new_at HR.out.symm _ _)⟩
  · simp only [StepsOk, StepOk]
    refine ⟨?_, ?_, ?_, ?_, ?_, ?_, ?_, ?_, ?_, ?_, ?_, ?_, trivial⟩
    · rintro d a x ⟨u3, u4, u5, u6, u7, u8, u9, u10, u11, u12, u13, rfl, f0, f1, f2, f3, f4, f5, f6, f7, f8, f9, f10, f11, g0, g1, g2, g3, g4⟩ hd hdep K hK
      simp only [Array.getD_eq_getD_getElem?, List.getElem?_toArray, List.getElem?_cons_zero, List.getElem?_cons_succ, Option.getD_some]
      have hT1 := g0.lt
      have hT2 : rb < x.heap.size := by obtain ⟨y, y', e⟩ := g4; exact blk_lt e
      rw [if_pos (by rfl)]
      go_simp
      refine hK _ _ ⟨_, _, _, _, _, _, _, _, _, _, _, rfl, ?_, ?_, ?_, ?_, ?_, ?_, ?_, ?_, ?_, ?_, ?_, ?_, ?_, ?_, ?_, ?_, ?_⟩
      · exact (fun _ => ⟨_, rfl, by have := hT1; omega, by have := hT2; omega, blk_new _ _ _⟩)
      · exact (fun h => f1 (by simpa using h))
      · exact (fun h => f2 (by simpa using h))
      · exact (fun h => by have f := f3 (by simpa using h); (obtain ⟨b, i, s, e, e1, e2, e3, e4⟩ := f; exact ⟨b, i, s, e, e1, e2, (ext_cell ((Below.refl _ _).alloc (Nat.le_refl _) _) e3), e4⟩))
      · exact (fun h => f4 (by simpa using h))
      · exact (fun h => by have f := f5 (by simpa using h); (obtain ⟨b, e, e1, e2, e3⟩ := f; exact ⟨b, e, e1, e2, (blk_alloc e3 _)⟩))
      · exact (fun h => f6 (by simpa using h))
      · exact (fun h => f7 (by simpa using h))
      · exact (fun h => by have f := f8 (by simpa using h); (obtain ⟨b, i, s, e, e1, e2, e3, e4⟩ := f; exact ⟨b, i, s, e, e1, e2, (ext_cell ((Below.refl _ _).alloc (Nat.le_refl _) _) e3), e4⟩))
      · exact (fun h => f9 (by simpa using h))
      · exact (fun h => f10 (by simpa using h))
      · exact (fun h => by have f := f11 (by simpa using h); (obtain ⟨s, s', e, e4⟩ := f; exact ⟨s, s', (blk_alloc e _), e4⟩))
      · exact (g0.ext ((Below.refl _ _).alloc (Nat.le_refl _) _))
      · exact (g1.trans (Bar.of ((Below.refl _ _).alloc (Nat.le_refl _) _)))
      · exact g2
      · exact g3
      · exact (by obtain ⟨y, y', e⟩ := g4; exact ⟨y, y', blk_alloc e _⟩)
    · rintro d a x ⟨u3, u4, u5, u6, u7, u8, u9, u10, u11, u12, u13, rfl, f0, f1, f2, f3, f4, f5, f6, f7, f8, f9, f10, f11, g0, g1, g2, g3, g4⟩ hd hdep K hK
      simp only [Array.getD_eq_getD_getElem?, List.getElem?_toArray, List.getElem?_cons_zero, List.getElem?_cons_succ, Option.getD_some]
      rw [if_pos (by rfl)]
      go_simp
      refine hK _ _ ⟨_, _, _, _, _, _, _, _, _, _, _, rfl, ?_, ?_, ?_, ?_, ?_, ?_, ?_, ?_, ?_, ?_, ?_, ?_, ?_, ?_, ?_, ?_, ?_⟩
      · exact (fun h => f0 (by simpa using h))
      · exact (fun _ => rfl)
      · exact (fun h => f2 (by simpa using h))
      · exact (fun h => f3 (by simpa using h))
      · exact (fun h => f4 (by simpa using h))
      · exact (fun h => f5 (by simpa using h))
      · exact (fun h => f6 (by simpa using h))
      · exact (fun h => f7 (by simpa using h))
      · exact (fun h => f8 (by simpa using h))
      · exact (fun h => f9 (by simpa using h))
      · exact (fun h => f10 (by simpa using h))
      · exact (fun h => f11 (by simpa using h))
      · exact g0
      · exact g1
      · exact g2
      · exact g3
      · exact g4
    · rintro d a x ⟨u3, u4, u5, u6, u7, u8, u9, u10, u11, u12, u13, rfl, f0, f1, f2, f3, f4, f5, f6, f7, f8, f9, f10, f11, g0, g1, g2, g3, g4⟩ hd hdep K hK
      have hd1 : d 1 = true := hdep ⟨1, .data⟩ (by simp) rfl
      obtain rfl := f1 hd1
      simp only [Array.getD_eq_getD_getElem?, List.getElem?_toArray, List.getElem?_cons_zero, List.getElem?_cons_succ, Option.getD_some]
      rw [if_pos (by rfl)]
      go_simp
      refine (tapeNextK _ _ _ zs _ _ _ g0 (hRow.bar g1) (by omega) (by omega)).mono ?_
      rintro e x1 ⟨v, rfl, hv0, hv1, hT1, hbar⟩
      obtain ⟨q, rfl⟩ := Int.eq_ofNat_of_zero_le hv0
      refine hK _ _ ⟨_, _, _, _, _, _, _, _, _, _, _, rfl, ?_, ?_, ?_, ?_, ?_, ?_, ?_, ?_, ?_, ?_, ?_, ?_, ?_, ?_, ?_, ?_, ?_⟩
      · exact (fun h => by have f := f0 (by simpa using h); (obtain ⟨b, e, e1, e2, e3⟩ := f; exact ⟨b, e, e1, e2, (hbar.blk e1 e3)⟩))
      · exact (fun h => f1 (by simpa using h))
      · exact (fun _ => ⟨q, rfl, by omega⟩)
      · exact (fun h => by have f := f3 (by simpa using h); (obtain ⟨b, i, s, e, e1, e2, e3, e4⟩ := f; exact ⟨b, i, s, e, e1, e2, (hbar.cell e1 e3), e4⟩))
      · exact (fun h => f4 (by simpa using h))
      · exact (fun h => by have f := f5 (by simpa using h); (obtain ⟨b, e, e1, e2, e3⟩ := f; exact ⟨b, e, e1, e2, (hbar.blk e1 e3)⟩))
      · exact (fun h => f6 (by simpa using h))
      · exact (fun h => f7 (by simpa using h))
      · exact (fun h => by have f := f8 (by simpa using h); (obtain ⟨b, i, s, e, e1, e2, e3, e4⟩ := f; exact ⟨b, i, s, e, e1, e2, (hbar.cell e1 e3), e4⟩))
      · exact (fun h => f9 (by simpa using h))
      · exact (fun h => f10 (by simpa using h))
      · exact (fun h => by have f := f11 (by simpa using h); (obtain ⟨s, s', e, e4⟩ := f; exact ⟨s, s', (hbar.blk g2 e), e4⟩))
      · exact hT1
      · exact (g1.trans hbar)
      · exact g2
      · exact g3
      · exact (by obtain ⟨y, y', e⟩ := g4; exact ⟨y, y', hbar.blk g2 e⟩)
    · rintro d a x ⟨u3, u4, u5, u6, u7, u8, u9, u10, u11, u12, u13, rfl, f0, f1, f2, f3, f4, f5, f6, f7, f8, f9, f10, f11, g0, g1, g2, g3, g4⟩ hd hdep K hK
      have hd0 : d 0 = true := hdep ⟨0, .data⟩ (by simp) rfl
      have hd2 : d 2 = true := hdep ⟨2, .data⟩ (by simp) rfl
      obtain ⟨b0, rfl, n0, m0, c0⟩ := f0 hd0
      obtain ⟨q2, rfl, l2⟩ := f2 hd2
      simp only [Array.getD_eq_getD_getElem?, List.getElem?_toArray, List.getElem?_cons_zero, List.getElem?_cons_succ, Option.getD_some]
      obtain ⟨s, hs, hz⟩ : ∃ s : ByteArray, x.cell? ⟨b0, q2, none⟩ = some (.string s) ∧ s.size ≤ 4 := by
        have hk := blk_cell c0
        match q2, l2 with
        | 0, _ => exact ⟨_, hk 0, by decide⟩
        | 1, _ => exact ⟨_, hk 1, by decide⟩
        | 2, _ => exact ⟨_, hk 2, by decide⟩
        | 3, _ => exact ⟨_, hk 3, by decide⟩
      have hq : (q2 : Int) < 4 := by omega
      have hq0 : 0 ≤ (q2 : Int) := by omega
      rw [if_pos (by rfl)]
      go_simp
      refine hK _ _ ⟨_, _, _, _, _, _, _, _, _, _, _, rfl, ?_, ?_, ?_, ?_, ?_, ?_, ?_, ?_, ?_, ?_, ?_, ?_, ?_, ?_, ?_, ?_, ?_⟩
      · exact (fun h => f0 (by simpa using h))
      · exact (fun h => f1 (by simpa using h))
      · exact (fun h => f2 (by simpa using h))
      · exact (fun _ => ⟨_, _, s, by simp, n0, m0, hs, hz⟩)
      · exact (fun h => f4 (by simpa using h))
      · exact (fun h => f5 (by simpa using h))
      · exact (fun h => f6 (by simpa using h))
      · exact (fun h => f7 (by simpa using h))
      · exact (fun h => f8 (by simpa using h))
      · exact (fun h => f9 (by simpa using h))
      · exact (fun h => f10 (by simpa using h))
      · exact (fun h => f11 (by simpa using h))
      · exact g0
      · exact g1
      · exact g2
      · exact g3
      · exact g4
    · rintro d a x ⟨u3, u4, u5, u6, u7, u8, u9, u10, u11, u12, u13, rfl, f0, f1, f2, f3, f4, f5, f6, f7, f8, f9, f10, f11, g0, g1, g2, g3, g4⟩ hd hdep K hK
      have hd3 : d 3 = true := hdep ⟨3, .data⟩ (by simp) rfl
      obtain ⟨b3, i3, s3, rfl, n3, m3, c3, z3⟩ := f3 hd3
      simp only [Array.getD_eq_getD_getElem?, List.getElem?_toArray, List.getElem?_cons_zero, List.getElem?_cons_succ, Option.getD_some]
      rw [if_pos (by rfl)]
      go_simp
      refine hK _ _ ⟨_, _, _, _, _, _, _, _, _, _, _, rfl, ?_, ?_, ?_, ?_, ?_, ?_, ?_, ?_, ?_, ?_, ?_, ?_, ?_, ?_, ?_, ?_, ?_⟩
      · exact (fun h => f0 (by simpa using h))
      · exact (fun h => f1 (by simpa using h))
      · exact (fun h => f2 (by simpa using h))
      · exact (fun h => f3 (by simpa using h))
      · exact (fun _ => ⟨s3, rfl, z3⟩)
      · exact (fun h => f5 (by simpa using h))
      · exact (fun h => f6 (by simpa using h))
      · exact (fun h => f7 (by simpa using h))
      · exact (fun h => f8 (by simpa using h))
      · exact (fun h => f9 (by simpa using h))
      · exact (fun h => f10 (by simpa using h))
      · exact (fun h => f11 (by simpa using h))
      · exact g0
      · exact g1
      · exact g2
      · exact g3
      · exact g4
    · rintro d a x ⟨u3, u4, u5, u6, u7, u8, u9, u10, u11, u12, u13, rfl, f0, f1, f2, f3, f4, f5, f6, f7, f8, f9, f10, f11, g0, g1, g2, g3, g4⟩ hd hdep K hK
      simp only [Array.getD_eq_getD_getElem?, List.getElem?_toArray, List.getElem?_cons_zero, List.getElem?_cons_succ, Option.getD_some]
      have hT1 := g0.lt
      have hT2 : rb < x.heap.size := by obtain ⟨y, y', e⟩ := g4; exact blk_lt e
      rw [if_pos (by rfl)]
      go_simp
      refine hK _ _ ⟨_, _, _, _, _, _, _, _, _, _, _, rfl, ?_, ?_, ?_, ?_, ?_, ?_, ?_, ?_, ?_, ?_, ?_, ?_, ?_, ?_, ?_, ?_, ?_⟩
      · exact (fun h => by have f := f0 (by simpa using h); (obtain ⟨b, e, e1, e2, e3⟩ := f; exact ⟨b, e, e1, e2, (blk_alloc e3 _)⟩))
      · exact (fun h => f1 (by simpa using h))
      · exact (fun h => f2 (by simpa using h))
      · exact (fun h => by have f := f3 (by simpa using h); (obtain ⟨b, i, s, e, e1, e2, e3, e4⟩ := f; exact ⟨b, i, s, e, e1, e2, (ext_cell ((Below.refl _ _).alloc (Nat.le_refl _) _) e3), e4⟩))
      · exact (fun h => f4 (by simpa using h))
      · exact (fun _ => ⟨_, rfl, by have := hT1; omega, by have := hT2; omega, blk_new _ _ _⟩)
      · exact (fun h => f6 (by simpa using h))
      · exact (fun h => f7 (by simpa using h))
      · exact (fun h => by have f := f8 (by simpa using h); (obtain ⟨b, i, s, e, e1, e2, e3, e4⟩ := f; exact ⟨b, i, s, e, e1, e2, (ext_cell ((Below.refl _ _).alloc (Nat.le_refl _) _) e3), e4⟩))
      · exact (fun h => f9 (by simpa using h))
      · exact (fun h => f10 (by simpa using h))
      · exact (fun h => by have f := f11 (by simpa using h); (obtain ⟨s, s', e, e4⟩ := f; exact ⟨s, s', (blk_alloc e _), e4⟩))
      · exact (g0.ext ((Below.refl _ _).alloc (Nat.le_refl _) _))
      · exact (g1.trans (Bar.of ((Below.refl _ _).alloc (Nat.le_refl _) _)))
      · exact g2
      · exact g3
      · exact (by obtain ⟨y, y', e⟩ := g4; exact ⟨y, y', blk_alloc e _⟩)
    · rintro d a x ⟨u3, u4, u5, u6, u7, u8, u9, u10, u11, u12, u13, rfl, f0, f1, f2, f3, f4, f5, f6, f7, f8, f9, f10, f11, g0, g1, g2, g3, g4⟩ hd hdep K hK
      simp only [Array.getD_eq_getD_getElem?, List.getElem?_toArray, List.getElem?_cons_zero, List.getElem?_cons_succ, Option.getD_some]
      rw [if_pos (by rfl)]
      go_simp
      refine hK _ _ ⟨_, _, _, _, _, _, _, _, _, _, _, rfl, ?_, ?_, ?_, ?_, ?_, ?_, ?_, ?_, ?_, ?_, ?_, ?_, ?_, ?_, ?_, ?_, ?_⟩
      · exact (fun h => f0 (by simpa using h))
      · exact (fun h => f1 (by simpa using h))
      · exact (fun h => f2 (by simpa using h))
      · exact (fun h => f3 (by simpa using h))
      · exact (fun h => f4 (by simpa using h))
      · exact (fun h => f5 (by simpa using h))
      · exact (fun _ => rfl)
      · exact (fun h => f7 (by simpa using h))
      · exact (fun h => f8 (by simpa using h))
      · exact (fun h => f9 (by simpa using h))
      · exact (fun h => f10 (by simpa using h))
      · exact (fun h => f11 (by simpa using h))
      · exact g0
      · exact g1
      · exact g2
      · exact g3
      · exact g4
    · rintro d a x ⟨u3, u4, u5, u6, u7, u8, u9, u10, u11, u12, u13, rfl, f0, f1, f2, f3, f4, f5, f6, f7, f8, f9, f10, f11, g0, g1, g2, g3, g4⟩ hd hdep K hK
      have hd6 : d 6 = true := hdep ⟨6, .data⟩ (by simp) rfl
      obtain rfl := f6 hd6
      simp only [Array.getD_eq_getD_getElem?, List.getElem?_toArray, List.getElem?_cons_zero, List.getElem?_cons_succ, Option.getD_some]
      rw [if_pos (by rfl)]
      go_simp
      refine (tapeNextK _ _ _ zs _ _ _ g0 (hRow.bar g1) (by omega) (by omega)).mono ?_
      rintro e x1 ⟨v, rfl, hv0, hv1, hT1, hbar⟩
      obtain ⟨q, rfl⟩ := Int.eq_ofNat_of_zero_le hv0
      refine hK _ _ ⟨_, _, _, _, _, _, _, _, _, _, _, rfl, ?_, ?_, ?_, ?_, ?_, ?_, ?_, ?_, ?_, ?_, ?_, ?_, ?_, ?_, ?_, ?_, ?_⟩
      · exact (fun h => by have f := f0 (by simpa using h); (obtain ⟨b, e, e1, e2, e3⟩ := f; exact ⟨b, e, e1, e2, (hbar.blk e1 e3)⟩))
      · exact (fun h => f1 (by simpa using h))
      · exact (fun h => f2 (by simpa using h))
      · exact (fun h => by have f := f3 (by simpa using h); (obtain ⟨b, i, s, e, e1, e2, e3, e4⟩ := f; exact ⟨b, i, s, e, e1, e2, (hbar.cell e1 e3), e4⟩))
      · exact (fun h => f4 (by simpa using h))
      · exact (fun h => by have f := f5 (by simpa using h); (obtain ⟨b, e, e1, e2, e3⟩ := f; exact ⟨b, e, e1, e2, (hbar.blk e1 e3)⟩))
      · exact (fun h => f6 (by simpa using h))
      · exact (fun _ => ⟨q, rfl, by omega⟩)
      · exact (fun h => by have f := f8 (by simpa using h); (obtain ⟨b, i, s, e, e1, e2, e3, e4⟩ := f; exact ⟨b, i, s, e, e1, e2, (hbar.cell e1 e3), e4⟩))
      · exact (fun h => f9 (by simpa using h))
      · exact (fun h => f10 (by simpa using h))
      · exact (fun h => by have f := f11 (by simpa using h); (obtain ⟨s, s', e, e4⟩ := f; exact ⟨s, s', (hbar.blk g2 e), e4⟩))
      · exact hT1
      · exact (g1.trans hbar)
      · exact g2
      · exact g3
      · exact (by obtain ⟨y, y', e⟩ := g4; exact ⟨y, y', hbar.blk g2 e⟩)
    · rintro d a x ⟨u3, u4, u5, u6, u7, u8, u9, u10, u11, u12, u13, rfl, f0, f1, f2, f3, f4, f5, f6, f7, f8, f9, f10, f11, g0, g1, g2, g3, g4⟩ hd hdep K hK
      have hd5 : d 5 = true := hdep ⟨5, .data⟩ (by simp) rfl
      have hd7 : d 7 = true := hdep ⟨7, .data⟩ (by simp) rfl
      obtain ⟨b5, rfl, n5, m5, c5⟩ := f5 hd5
      obtain ⟨q7, rfl, l7⟩ := f7 hd7
      simp only [Array.getD_eq_getD_getElem?, List.getElem?_toArray, List.getElem?_cons_zero, List.getElem?_cons_succ, Option.getD_some]
      obtain ⟨s, hs, hz⟩ : ∃ s : ByteArray, x.cell? ⟨b5, q7, none⟩ = some (.string s) ∧ s.size ≤ 4 := by
        have hk := blk_cell c5
        match q7, l7 with
        | 0, _ => exact ⟨_, hk 0, by decide⟩
        | 1, _ => exact ⟨_, hk 1, by decide⟩
        | 2, _ => exact ⟨_, hk 2, by decide⟩
        | 3, _ => exact ⟨_, hk 3, by decide⟩
        | 4, _ => exact ⟨_, hk 4, by decide⟩
      have hq : (q7 : Int) < 5 := by omega
      have hq0 : 0 ≤ (q7 : Int) := by omega
      rw [if_pos (by rfl)]
      go_simp
      refine hK _ _ ⟨_, _, _, _, _, _, _, _, _, _, _, rfl, ?_, ?_, ?_, ?_, ?_, ?_, ?_, ?_, ?_, ?_, ?_, ?_, ?_, ?_, ?_, ?_, ?_⟩
      · exact (fun h => f0 (by simpa using h))
      · exact (fun h => f1 (by simpa using h))
      · exact (fun h => f2 (by simpa using h))
      · exact (fun h => f3 (by simpa using h))
      · exact (fun h => f4 (by simpa using h))
      · exact (fun h => f5 (by simpa using h))
      · exact (fun h => f6 (by simpa using h))
      · exact (fun h => f7 (by simpa using h))
      · exact (fun _ => ⟨_, _, s, by simp, n5, m5, hs, hz⟩)
      · exact (fun h => f9 (by simpa using h))
      · exact (fun h => f10 (by simpa using h))
      · exact (fun h => f11 (by simpa using h))
      · exact g0
      · exact g1
      · exact g2
      · exact g3
      · exact g4
    · rintro d a x ⟨u3, u4, u5, u6, u7, u8, u9, u10, u11, u12, u13, rfl, f0, f1, f2, f3, f4, f5, f6, f7, f8, f9, f10, f11, g0, g1, g2, g3, g4⟩ hd hdep K hK
      have hd8 : d 8 = true := hdep ⟨8, .data⟩ (by simp) rfl
      obtain ⟨b8, i8, s8, rfl, n8, m8, c8, z8⟩ := f8 hd8
      simp only [Array.getD_eq_getD_getElem?, List.getElem?_toArray, List.getElem?_cons_zero, List.getElem?_cons_succ, Option.getD_some]
      rw [if_pos (by rfl)]
      go_simp
      refine hK _ _ ⟨_, _, _, _, _, _, _, _, _, _, _, rfl, ?_, ?_, ?_, ?_, ?_, ?_, ?_, ?_, ?_, ?_, ?_, ?_, ?_, ?_, ?_, ?_, ?_⟩
      · exact (fun h => f0 (by simpa using h))
      · exact (fun h => f1 (by simpa using h))
      · exact (fun h => f2 (by simpa using h))
      · exact (fun h => f3 (by simpa using h))
      · exact (fun h => f4 (by simpa using h))
      · exact (fun h => f5 (by simpa using h))
      · exact (fun h => f6 (by simpa using h))
      · exact (fun h => f7 (by simpa using h))
      · exact (fun h => f8 (by simpa using h))
      · exact (fun _ => ⟨s8, rfl, z8⟩)
      · exact (fun h => f10 (by simpa using h))
      · exact (fun h => f11 (by simpa using h))
      · exact g0
      · exact g1
      · exact g2
      · exact g3
      · exact g4
    · rintro d a x ⟨u3, u4, u5, u6, u7, u8, u9, u10, u11, u12, u13, rfl, f0, f1, f2, f3, f4, f5, f6, f7, f8, f9, f10, f11, g0, g1, g2, g3, g4⟩ hd hdep K hK
      have hd4 : d 4 = true := hdep ⟨4, .data⟩ (by simp) rfl
      have hd9 : d 9 = true := hdep ⟨9, .data⟩ (by simp) rfl
      obtain ⟨s4, rfl, z4⟩ := f4 hd4
      obtain ⟨s9, rfl, z9⟩ := f9 hd9
      simp only [Array.getD_eq_getD_getElem?, List.getElem?_toArray, List.getElem?_cons_zero, List.getElem?_cons_succ, Option.getD_some]
      rw [if_pos (by rfl)]
      go_simp
      refine hK _ _ ⟨_, _, _, _, _, _, _, _, _, _, _, rfl, ?_, ?_, ?_, ?_, ?_, ?_, ?_, ?_, ?_, ?_, ?_, ?_, ?_, ?_, ?_, ?_, ?_⟩
      · exact (fun h => f0 (by simpa using h))
      · exact (fun h => f1 (by simpa using h))
      · exact (fun h => f2 (by simpa using h))
      · exact (fun h => f3 (by simpa using h))
      · exact (fun h => f4 (by simpa using h))
      · exact (fun h => f5 (by simpa using h))
      · exact (fun h => f6 (by simpa using h))
      · exact (fun h => f7 (by simpa using h))
      · exact (fun h => f8 (by simpa using h))
      · exact (fun h => f9 (by simpa using h))
      · exact (fun _ => ⟨s4, s9, rfl, z4, z9⟩)
      · exact (fun h => f11 (by simpa using h))
      · exact g0
      · exact g1
      · exact g2
      · exact g3
      · exact g4
    · rintro d a x ⟨u3, u4, u5, u6, u7, u8, u9, u10, u11, u12, u13, rfl, f0, f1, f2, f3, f4, f5, f6, f7, f8, f9, f10, f11, g0, g1, g2, g3, g4⟩ hd hdep K hK
      have hd10 : d 10 = true := hdep ⟨10, .data⟩ (by simp) rfl
      have hd10 : d 10 = true := hdep ⟨10, .phase⟩ (by simp) rfl
      obtain ⟨sa, sb, rfl, za, zb⟩ := f10 hd10
      simp only [Array.getD_eq_getD_getElem?, List.getElem?_toArray, List.getElem?_cons_zero, List.getElem?_cons_succ, Option.getD_some]
      obtain ⟨y, y', hr⟩ := g4
      have hr1 := blk_cell hr
      have hr2 := blk_free hr
      have hr3 := blk_lt hr
      rw [if_pos (by rfl)]
      go_simp
      have hkp : Kept rb x ((x.setCell ⟨rb, 0, none⟩ (.string sa)).setCell ⟨rb, 1, none⟩ (.string sb)) := ((Kept.refl rb x).setCell _ _).setCell _ _
      have RB : ((x.setCell ⟨rb, 0, none⟩ (.string sa)).setCell ⟨rb, 1, none⟩ (.string sb)).heap[rb]? = some (.cells #[.string sa, .string sb] 32 (0, 0)) := by repeat (first | (with_reducible assumption) | (with_reducible refine blk_new_at ?_ _ _; first | (with_reducible rfl) | (simp; done)) | (with_reducible refine blk_alloc ?_ _) | (with_reducible refine blk_drew ?_) | (with_reducible apply blk_set) | (show Array.setIfInBounds _ _ _ = _; rfl) | (with_reducible refine blk_set_other ?_ ?_; omega))
      generalize ((x.setCell ⟨rb, 0, none⟩ (.string sa)).setCell ⟨rb, 1, none⟩ (.string sb)) = X at *
      refine hK _ _ ⟨_, _, _, _, _, _, _, _, _, _, _, rfl, ?_, ?_, ?_, ?_, ?_, ?_, ?_, ?_, ?_, ?_, ?_, ?_, ?_, ?_, ?_, ?_, ?_⟩
      · exact (fun h => by have f := f0 (by simpa using h); (obtain ⟨b, e, e1, e2, e3⟩ := f; exact ⟨b, e, e1, e2, ((hkp.block b e2).trans e3)⟩))
      · exact (fun h => f1 (by simpa using h))
      · exact (fun h => f2 (by simpa using h))
      · exact (fun h => by have f := f3 (by simpa using h); (obtain ⟨b, i, s, e, e1, e2, e3, e4⟩ := f; exact ⟨b, i, s, e, e1, e2, (hkp.cell e2 e3), e4⟩))
      · exact (fun h => f4 (by simpa using h))
      · exact (fun h => by have f := f5 (by simpa using h); (obtain ⟨b, e, e1, e2, e3⟩ := f; exact ⟨b, e, e1, e2, ((hkp.block b e2).trans e3)⟩))
      · exact (fun h => f6 (by simpa using h))
      · exact (fun h => f7 (by simpa using h))
      · exact (fun h => by have f := f8 (by simpa using h); (obtain ⟨b, i, s, e, e1, e2, e3, e4⟩ := f; exact ⟨b, i, s, e, e1, e2, (hkp.cell e2 e3), e4⟩))
      · exact (fun h => f9 (by simpa using h))
      · exact (fun h => f10 (by simpa using h))
      · exact (fun _ => ⟨sa, sb, RB, za, zb⟩)
      · exact (by obtain ⟨k, e1, e2⟩ := g0; exact ⟨k, (hkp.block tb (Ne.symm g2)).trans e1, e2⟩)
      · exact ⟨hkp.os.trans g1.os, hkp.tape.trans g1.tape, hkp.output.trans g1.output, Nat.le_trans g1.size (Nat.le_of_eq hkp.size.symm), fun k hk hl => (hkp.block k (by omega)).trans (g1.block k hk hl)⟩
      · exact g2
      · exact g3
      · exact ⟨_, _, RB⟩
  · rintro d a x ⟨u3, u4, u5, u6, u7, u8, u9, u10, u11, u12, u13, rfl, f0, f1, f2, f3, f4, f5, f6, f7, f8, f9, f10, f11, g0, g1, g2, g3, g4⟩ hall
    simp only [Array.getD_eq_getD_getElem?, List.getElem?_toArray, List.getElem?_cons_zero, List.getElem?_cons_succ, Option.getD_some]
    obtain ⟨sa, sb, cr, za, zb⟩ := f11 (hall 11 (by decide))
    clear f0 f1 f2 f3 f4 f5 f6 f7 f8 f9 f10 f11 hall
    have hc := blk_cell cr
    go_wp2
    exact bodyPost_ret (v := .agg #[.string sa, .string sb]) (by simp [results, Try.results23, go_sem, hc]) rfl ⟨sa, sb, rfl, za, zb, g0, g1⟩

end Go.Proofs.Ytmgdhgaodjkifaa
