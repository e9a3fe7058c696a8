/- The few keys that a tape gives. -/
import Derived.Test.YtloeabdohgdmkaaBdZ
import Derived.Test.YtloeabdohgdmkaaMapDZ
namespace Go.Proofs.Ytloeabdohgdmkaa
open Go.RowKit
set_option linter.unusedVariables false
set_option linter.unusedSimpArgs false

def KA (s : ByteArray) : Prop := s = ⟨#[97, 112, 112]⟩ ∨ s = ⟨#[98]⟩ ∨ s = ⟨#[97, 112, 112, 49]⟩ ∨ s = ⟨#[122, 57]⟩
def KI (s : ByteArray) : Prop := s = ⟨#[105, 100]⟩ ∨ s = ⟨#[97]⟩ ∨ s = ⟨#[105, 100, 50]⟩ ∨ s = ⟨#[120, 48]⟩ ∨ s = ⟨#[109]⟩
theorem KA.size {s : ByteArray} (h : KA s) : s.size ≤ 4 := by rcases h with rfl | rfl | rfl | rfl <;> decide
theorem KI.size {s : ByteArray} (h : KI s) : s.size ≤ 4 := by rcases h with rfl | rfl | rfl | rfl | rfl <;> decide
def K20 : List Ky := [(⟨#[97, 112, 112]⟩, ⟨#[105, 100]⟩), (⟨#[97, 112, 112]⟩, ⟨#[97]⟩), (⟨#[97, 112, 112]⟩, ⟨#[105, 100, 50]⟩), (⟨#[97, 112, 112]⟩, ⟨#[120, 48]⟩), (⟨#[97, 112, 112]⟩, ⟨#[109]⟩), (⟨#[98]⟩, ⟨#[105, 100]⟩), (⟨#[98]⟩, ⟨#[97]⟩), (⟨#[98]⟩, ⟨#[105, 100, 50]⟩), (⟨#[98]⟩, ⟨#[120, 48]⟩), (⟨#[98]⟩, ⟨#[109]⟩), (⟨#[97, 112, 112, 49]⟩, ⟨#[105, 100]⟩), (⟨#[97, 112, 112, 49]⟩, ⟨#[97]⟩), (⟨#[97, 112, 112, 49]⟩, ⟨#[105, 100, 50]⟩), (⟨#[97, 112, 112, 49]⟩, ⟨#[120, 48]⟩), (⟨#[97, 112, 112, 49]⟩, ⟨#[109]⟩), (⟨#[122, 57]⟩, ⟨#[105, 100]⟩), (⟨#[122, 57]⟩, ⟨#[97]⟩), (⟨#[122, 57]⟩, ⟨#[105, 100, 50]⟩), (⟨#[122, 57]⟩, ⟨#[120, 48]⟩), (⟨#[122, 57]⟩, ⟨#[109]⟩)]
theorem k20_mem {k : Ky} (h1 : KA k.1) (h2 : KI k.2) : k ∈ K20 := by
  obtain ⟨a, i⟩ := k
  rcases h1 with h | h | h | h <;> rcases h2 with g | g | g | g | g <;> (simp only at h g; subst h; subst g; simp [K20])
theorem k20_nodup : K20.Nodup := by simp [K20]
open Classical in
theorem few {es : List En} (h : Asc es) (hk : ∀ e ∈ es, KA e.c.a ∧ KI e.c.i) : es.length ≤ 20 := by
  have h1 := asc_nodup h
  have h2 : (K20.filter (fun k => decide (k ∈ es.map enK))).Nodup := List.Pairwise.filter _ k20_nodup
  have hp := (List.perm_ext_iff_of_nodup h1 h2).2 (fun k => by
    constructor
    · intro hm
      refine List.mem_filter.2 ⟨?_, by simpa using hm⟩
      obtain ⟨e, he, rfl⟩ := List.mem_map.1 hm
      exact k20_mem (hk e he).1 (hk e he).2
    · intro hm
      simpa using (List.mem_filter.1 hm).2)
  have h3 := hp.length_eq
  have h4 := List.length_filter_le (fun k => decide (k ∈ es.map enK)) K20
  rw [List.length_map] at h3
  have h5 : K20.length = 20 := rfl
  omega

set_option maxRecDepth 100000 in
set_option maxHeartbeats 400000 in
theorem tapeKeyF (a0 : Option Addr) (len cap : Nat) (zs : List Int) (tb : Nat) (w : World) (hTK : TapeK a0 len cap w tb) (hRow : RowOk a0 len cap zs w tb) :
    Calls Try.prog 65 #[.pointer (some ⟨tb, 0, none⟩)] w fun r w' => ∃ s s' : ByteArray, r = .returned (.agg #[.string s, .string s']) ∧ KA s ∧ KI s' ∧ TapeK a0 len cap w' tb ∧ Bar tb w w' := by
  have htb := hTK.lt
  go_enter Try.func65, Try.ntmps65
  go_wp2_with fail
  obtain ⟨rb, hrb⟩ : ∃ rb, rb = w.heap.size := ⟨_, rfl⟩
  rw [← hrb]
  have HR := Lib.hid hrb
  clear hrb
  refine wp_region_inv_at (J := fun A d a x => ∃ u3 u4 u5 u6 u7 u8 u9 u10 u11 u12 u13 : Value, a = ⟨#[A.tmps.getD 0 undef, A.tmps.getD 1 undef, A.tmps.getD 2 undef, u3, u4, u5, u6, u7, u8, u9, u10, u11, u12, u13], A.defers⟩ ∧ (d 0 = true → ∃ b : Nat, u3 = .slice (some ⟨b, 0, none⟩) 4 4 ∧ b ≠ tb ∧ b ≠ rb ∧ x.heap[b]? = some (.cells #[.string ⟨#[97, 112, 112]⟩, .string ⟨#[98]⟩, .string ⟨#[97, 112, 112, 49]⟩, .string ⟨#[122, 57]⟩] 9 (0, 0))) ∧ (d 1 = true → u4 = .pointer (some ⟨tb, 0, none⟩)) ∧ (d 2 = true → ∃ q : Nat, u5 = .int .i64 q ∧ q < 4) ∧ (d 3 = true → ∃ (b i : Nat) (s : ByteArray), u6 = .pointer (some ⟨b, i, none⟩) ∧ b ≠ tb ∧ b ≠ rb ∧ x.cell? ⟨b, i, none⟩ = some (.string s) ∧ KA s) ∧ (d 4 = true → ∃ s : ByteArray, u7 = .string s ∧ KA s) ∧ (d 5 = true → ∃ b : Nat, u8 = .slice (some ⟨b, 0, none⟩) 5 5 ∧ b ≠ tb ∧ b ≠ rb ∧ x.heap[b]? = some (.cells #[.string ⟨#[105, 100]⟩, .string ⟨#[97]⟩, .string ⟨#[105, 100, 50]⟩, .string ⟨#[120, 48]⟩, .string ⟨#[109]⟩] 9 (0, 0))) ∧ (d 6 = true → u9 = .pointer (some ⟨tb, 0, none⟩)) ∧ (d 7 = true → ∃ q : Nat, u10 = .int .i64 q ∧ q < 5) ∧ (d 8 = true → ∃ (b i : Nat) (s : ByteArray), u11 = .pointer (some ⟨b, i, none⟩) ∧ b ≠ tb ∧ b ≠ rb ∧ x.cell? ⟨b, i, none⟩ = some (.string s) ∧ KI s) ∧ (d 9 = true → ∃ s : ByteArray, u12 = .string s ∧ KI s) ∧ (d 10 = true → ∃ s s' : ByteArray, u13 = .agg #[.string s, .string s'] ∧ KA s ∧ KI s') ∧ (d 11 = true → ∃ s s' : ByteArray, x.heap[rb]? = some (.cells #[.string s, .string s'] 30 (0, 0)) ∧ KA s ∧ KI s') ∧ TapeK a0 len cap x tb ∧ Bar tb w x ∧ rb ≠ tb ∧ w.heap.size ≤ rb ∧ ∃ y y' : Value, x.heap[rb]? = some (.cells #[y, y'] 30 (0, 0))) (by kernel_rfl) (by kernel_rfl) ?_ ?_ ?_
  · refine ⟨_, _, _, _, _, _, _, _, _, _, _, rfl, ?_, ?_, ?_, ?_, ?_, ?_, ?_, ?_, ?_, ?_, ?_, ?_, ?_, ?_, ?_, ?_, ?_⟩
    · intro h; cases h
    · intro h; cases h
    · intro h; cases h
    · intro h; cases h
    · intro h; cases h
    · intro h; cases h
    · intro h; cases h
    · intro h; cases h
    · intro h; cases h
    · intro h; cases h
    · intro h; cases h
    · intro h; cases h
    · exact hTK.ext ((Below.refl _ _).alloc (Nat.le_refl _) _).drew
    · exact Bar.of ((Below.refl _ _).alloc (Nat.le_refl _) _).drew
    · exact by have := HR.out; omega
    · exact by have := HR.out; omega
    · exact ⟨_, _, blk_drew (blk_new_at HR.out.symm _ _)⟩
  · simp only [StepsOk, StepOk]
    refine ⟨?_, ?_, ?_, ?_, ?_, ?_, ?_, ?_, ?_, ?_, ?_, ?_, trivial⟩
    · rintro d a x ⟨u3, u4, u5, u6, u7, u8, u9, u10, u11, u12, u13, rfl, f0, f1, f2, f3, f4, f5, f6, f7, f8, f9, f10, f11, g0, g1, g2, g3, g4⟩ hd hdep K hK
      simp only [Array.getD_eq_getD_getElem?, List.getElem?_toArray, List.getElem?_cons_zero, List.getElem?_cons_succ, Option.getD_some]
      have hT1 := g0.lt
      have hT2 : rb < x.heap.size := by obtain ⟨y, y', e⟩ := g4; exact blk_lt e
      rw [if_pos (by rfl)]
      go_simp
      refine hK _ _ ⟨_, _, _, _, _, _, _, _, _, _, _, rfl, ?_, ?_, ?_, ?_, ?_, ?_, ?_, ?_, ?_, ?_, ?_, ?_, ?_, ?_, ?_, ?_, ?_⟩
      · exact (fun _ => ⟨_, rfl, by have := hT1; omega, by have := hT2; omega, blk_new _ _ _⟩)
      · exact (fun h => f1 (by simpa using h))
      · exact (fun h => f2 (by simpa using h))
      · exact (fun h => by have f := f3 (by simpa using h); (obtain ⟨b, i, s, e, e1, e2, e3, e4⟩ := f; exact ⟨b, i, s, e, e1, e2, (ext_cell ((Below.refl _ _).alloc (Nat.le_refl _) _) e3), e4⟩))
      · exact (fun h => f4 (by simpa using h))
      · exact (fun h => by have f := f5 (by simpa using h); (obtain ⟨b, e, e1, e2, e3⟩ := f; exact ⟨b, e, e1, e2, (blk_alloc e3 _)⟩))
      · exact (fun h => f6 (by simpa using h))
      · exact (fun h => f7 (by simpa using h))
      · exact (fun h => by have f := f8 (by simpa using h); (obtain ⟨b, i, s, e, e1, e2, e3, e4⟩ := f; exact ⟨b, i, s, e, e1, e2, (ext_cell ((Below.refl _ _).alloc (Nat.le_refl _) _) e3), e4⟩))
      · exact (fun h => f9 (by simpa using h))
      · exact (fun h => f10 (by simpa using h))
      · exact (fun h => by have f := f11 (by simpa using h); (obtain ⟨s, s', e, e4⟩ := f; exact ⟨s, s', (blk_alloc e _), e4⟩))
      · exact (g0.ext ((Below.refl _ _).alloc (Nat.le_refl _) _))
      · exact (g1.trans (Bar.of ((Below.refl _ _).alloc (Nat.le_refl _) _)))
      · exact g2
      · exact g3
      · exact (by obtain ⟨y, y', e⟩ := g4; exact ⟨y, y', blk_alloc e _⟩)
    · rintro d a x ⟨u3, u4, u5, u6, u7, u8, u9, u10, u11, u12, u13, rfl, f0, f1, f2, f3, f4, f5, f6, f7, f8, f9, f10, f11, g0, g1, g2, g3, g4⟩ hd hdep K hK
      simp only [Array.getD_eq_getD_getElem?, List.getElem?_toArray, List.getElem?_cons_zero, List.getElem?_cons_succ, Option.getD_some]
      rw [if_pos (by rfl)]
      go_simp
      refine hK _ _ ⟨_, _, _, _, _, _, _, _, _, _, _, rfl, ?_, ?_, ?_, ?_, ?_, ?_, ?_, ?_, ?_, ?_, ?_, ?_, ?_, ?_, ?_, ?_, ?_⟩
      · exact (fun h => f0 (by simpa using h))
      · exact (fun _ => rfl)
      · exact (fun h => f2 (by simpa using h))
      · exact (fun h => f3 (by simpa using h))
      · exact (fun h => f4 (by simpa using h))
      · exact (fun h => f5 (by simpa using h))
      · exact (fun h => f6 (by simpa using h))
      · exact (fun h => f7 (by simpa using h))
      · exact (fun h => f8 (by simpa using h))
      · exact (fun h => f9 (by simpa using h))
      · exact (fun h => f10 (by simpa using h))
      · exact (fun h => f11 (by simpa using h))
      · exact g0
      · exact g1
      · exact g2
      · exact g3
      · exact g4
    · rintro d a x ⟨u3, u4, u5, u6, u7, u8, u9, u10, u11, u12, u13, rfl, f0, f1, f2, f3, f4, f5, f6, f7, f8, f9, f10, f11, g0, g1, g2, g3, g4⟩ hd hdep K hK
      have hd1 : d 1 = true := hdep ⟨1, .data⟩ (by simp) rfl
      obtain rfl := f1 hd1
      simp only [Array.getD_eq_getD_getElem?, List.getElem?_toArray, List.getElem?_cons_zero, List.getElem?_cons_succ, Option.getD_some]
      rw [if_pos (by rfl)]
      go_simp
      refine (tapeNextK _ _ _ zs _ _ _ g0 (hRow.bar g1) (by omega) (by omega)).mono ?_
      rintro e x1 ⟨v, rfl, hv0, hv1, hT1, hbar⟩
      obtain ⟨q, rfl⟩ := Int.eq_ofNat_of_zero_le hv0
      refine hK _ _ ⟨_, _, _, _, _, _, _, _, _, _, _, rfl, ?_, ?_, ?_, ?_, ?_, ?_, ?_, ?_, ?_, ?_, ?_, ?_, ?_, ?_, ?_, ?_, ?_⟩
      · exact (fun h => by have f := f0 (by simpa using h); (obtain ⟨b, e, e1, e2, e3⟩ := f; exact ⟨b, e, e1, e2, (hbar.blk e1 e3)⟩))
      · exact (fun h => f1 (by simpa using h))
      · exact (fun _ => ⟨q, rfl, by omega⟩)
      · exact (fun h => by have f := f3 (by simpa using h); (obtain ⟨b, i, s, e, e1, e2, e3, e4⟩ := f; exact ⟨b, i, s, e, e1, e2, (hbar.cell e1 e3), e4⟩))
      · exact (fun h => f4 (by simpa using h))
      · exact (fun h => by have f := f5 (by simpa using h); (obtain ⟨b, e, e1, e2, e3⟩ := f; exact ⟨b, e, e1, e2, (hbar.blk e1 e3)⟩))
      · exact (fun h => f6 (by simpa using h))
      · exact (fun h => f7 (by simpa using h))
      · exact (fun h => by have f := f8 (by simpa using h); (obtain ⟨b, i, s, e, e1, e2, e3, e4⟩ := f; exact ⟨b, i, s, e, e1, e2, (hbar.cell e1 e3), e4⟩))
      · exact (fun h => f9 (by simpa using h))
      · exact (fun h => f10 (by simpa using h))
      · exact (fun h => by have f := f11 (by simpa using h); (obtain ⟨s, s', e, e4⟩ := f; exact ⟨s, s', (hbar.blk g2 e), e4⟩))
      · exact hT1
      · exact (g1.trans hbar)
      · exact g2
      · exact g3
      · exact (by obtain ⟨y, y', e⟩ := g4; exact ⟨y, y', hbar.blk g2 e⟩)
    · rintro d a x ⟨u3, u4, u5, u6, u7, u8, u9, u10, u11, u12, u13, rfl, f0, f1, f2, f3, f4, f5, f6, f7, f8, f9, f10, f11, g0, g1, g2, g3, g4⟩ hd hdep K hK
      have hd0 : d 0 = true := hdep ⟨0, .data⟩ (by simp) rfl
      have hd2 : d 2 = true := hdep ⟨2, .data⟩ (by simp) rfl
      obtain ⟨b0, rfl, n0, m0, c0⟩ := f0 hd0
      obtain ⟨q2, rfl, l2⟩ := f2 hd2
      simp only [Array.getD_eq_getD_getElem?, List.getElem?_toArray, List.getElem?_cons_zero, List.getElem?_cons_succ, Option.getD_some]
      obtain ⟨s, hs, hz⟩ : ∃ s : ByteArray, x.cell? ⟨b0, q2, none⟩ = some (.string s) ∧ KA s := by
        have hk := blk_cell c0
        match q2, l2 with
        | 0, _ => exact ⟨_, hk 0, .inl rfl⟩
        | 1, _ => exact ⟨_, hk 1, .inr (.inl rfl)⟩
        | 2, _ => exact ⟨_, hk 2, .inr (.inr (.inl rfl))⟩
        | 3, _ => exact ⟨_, hk 3, .inr (.inr (.inr rfl))⟩
      have hq : (q2 : Int) < 4 := by omega
      have hq0 : 0 ≤ (q2 : Int) := by omega
      rw [if_pos (by rfl)]
      go_simp
      refine hK _ _ ⟨_, _, _, _, _, _, _, _, _, _, _, rfl, ?_, ?_, ?_, ?_, ?_, ?_, ?_, ?_, ?_, ?_, ?_, ?_, ?_, ?_, ?_, ?_, ?_⟩
      · exact (fun h => f0 (by simpa using h))
      · exact (fun h => f1 (by simpa using h))
      · exact (fun h => f2 (by simpa using h))
      · exact (fun _ => ⟨_, _, s, by simp, n0, m0, hs, hz⟩)
      · exact (fun h => f4 (by simpa using h))
      · exact (fun h => f5 (by simpa using h))
      · exact (fun h => f6 (by simpa using h))
      · exact (fun h => f7 (by simpa using h))
      · exact (fun h => f8 (by simpa using h))
      · exact (fun h => f9 (by simpa using h))
      · exact (fun h => f10 (by simpa using h))
      · exact (fun h => f11 (by simpa using h))
      · exact g0
      · exact g1
      · exact g2
      · exact g3
      · exact g4
    · rintro d a x ⟨u3, u4, u5, u6, u7, u8, u9, u10, u11, u12, u13, rfl, f0, f1, f2, f3, f4, f5, f6, f7, f8, f9, f10, f11, g0, g1, g2, g3, g4⟩ hd hdep K hK
      have hd3 : d 3 = true := hdep ⟨3, .data⟩ (by simp) rfl
      obtain ⟨b3, i3, s3, rfl, n3, m3, c3, z3⟩ := f3 hd3
      simp only [Array.getD_eq_getD_getElem?, List.getElem?_toArray, List.getElem?_cons_zero, List.getElem?_cons_succ, Option.getD_some]
      rw [if_pos (by rfl)]
      go_simp
      refine hK _ _ ⟨_, _, _, _, _, _, _, _, _, _, _, rfl, ?_, ?_, ?_, ?_, ?_, ?_, ?_, ?_, ?_, ?_, ?_, ?_, ?_, ?_, ?_, ?_, ?_⟩
      · exact (fun h => f0 (by simpa using h))
      · exact (fun h => f1 (by simpa using h))
      · exact (fun h => f2 (by simpa using h))
      · exact (fun h => f3 (by simpa using h))
      · exact (fun _ => ⟨s3, rfl, z3⟩)
      · exact (fun h => f5 (by simpa using h))
      · exact (fun h => f6 (by simpa using h))
      · exact (fun h => f7 (by simpa using h))
      · exact (fun h => f8 (by simpa using h))
      · exact (fun h => f9 (by simpa using h))
      · exact (fun h => f10 (by simpa using h))
      · exact (fun h => f11 (by simpa using h))
      · exact g0
      · exact g1
      · exact g2
      · exact g3
      · exact g4
    · rintro d a x ⟨u3, u4, u5, u6, u7, u8, u9, u10, u11, u12, u13, rfl, f0, f1, f2, f3, f4, f5, f6, f7, f8, f9, f10, f11, g0, g1, g2, g3, g4⟩ hd hdep K hK
      simp only [Array.getD_eq_getD_getElem?, List.getElem?_toArray, List.getElem?_cons_zero, List.getElem?_cons_succ, Option.getD_some]
      have hT1 := g0.lt
      have hT2 : rb < x.heap.size := by obtain ⟨y, y', e⟩ := g4; exact blk_lt e
      rw [if_pos (by rfl)]
      go_simp
      refine hK _ _ ⟨_, _, _, _, _, _, _, _, _, _, _, rfl, ?_, ?_, ?_, ?_, ?_, ?_, ?_, ?_, ?_, ?_, ?_, ?_, ?_, ?_, ?_, ?_, ?_⟩
      · exact (fun h => by have f := f0 (by simpa using h); (obtain ⟨b, e, e1, e2, e3⟩ := f; exact ⟨b, e, e1, e2, (blk_alloc e3 _)⟩))
      · exact (fun h => f1 (by simpa using h))
      · exact (fun h => f2 (by simpa using h))
      · exact (fun h => by have f := f3 (by simpa using h); (obtain ⟨b, i, s, e, e1, e2, e3, e4⟩ := f; exact ⟨b, i, s, e, e1, e2, (ext_cell ((Below.refl _ _).alloc (Nat.le_refl _) _) e3), e4⟩))
      · exact (fun h => f4 (by simpa using h))
      · exact (fun _ => ⟨_, rfl, by have := hT1; omega, by have := hT2; omega, blk_new _ _ _⟩)
      · exact (fun h => f6 (by simpa using h))
      · exact (fun h => f7 (by simpa using h))
      · exact (fun h => by have f := f8 (by simpa using h); (obtain ⟨b, i, s, e, e1, e2, e3, e4⟩ := f; exact ⟨b, i, s, e, e1, e2, (ext_cell ((Below.refl _ _).alloc (Nat.le_refl _) _) e3), e4⟩))
      · exact (fun h => f9 (by simpa using h))
      · exact (fun h => f10 (by simpa using h))
      · exact (fun h => by have f := f11 (by simpa using h); (obtain ⟨s, s', e, e4⟩ := f; exact ⟨s, s', (blk_alloc e _), e4⟩))
      · exact (g0.ext ((Below.refl _ _).alloc (Nat.le_refl _) _))
      · exact (g1.trans (Bar.of ((Below.refl _ _).alloc (Nat.le_refl _) _)))
      · exact g2
      · exact g3
      · exact (by obtain ⟨y, y', e⟩ := g4; exact ⟨y, y', blk_alloc e _⟩)
    · rintro d a x ⟨u3, u4, u5, u6, u7, u8, u9, u10, u11, u12, u13, rfl, f0, f1, f2, f3, f4, f5, f6, f7, f8, f9, f10, f11, g0, g1, g2, g3, g4⟩ hd hdep K hK
      simp only [Array.getD_eq_getD_getElem?, List.getElem?_toArray, List.getElem?_cons_zero, List.getElem?_cons_succ, Option.getD_some]
      rw [if_pos (by rfl)]
      go_simp
      refine hK _ _ ⟨_, _, _, _, _, _, _, _, _, _, _, rfl, ?_, ?_, ?_, ?_, ?_, ?_, ?_, ?_, ?_, ?_, ?_, ?_, ?_, ?_, ?_, ?_, ?_⟩
      · exact (fun h => f0 (by simpa using h))
      · exact (fun h => f1 (by simpa using h))
      · exact (fun h => f2 (by simpa using h))
      · exact (fun h => f3 (by simpa using h))
      · exact (fun h => f4 (by simpa using h))
      · exact (fun h => f5 (by simpa using h))
      · exact (fun _ => rfl)
      · exact (fun h => f7 (by simpa using h))
      · exact (fun h => f8 (by simpa using h))
      · exact (fun h => f9 (by simpa using h))
      · exact (fun h => f10 (by simpa using h))
      · exact (fun h => f11 (by simpa using h))
      · exact g0
      · exact g1
      · exact g2
      · exact g3
      · exact g4
    · rintro d a x ⟨u3, u4, u5, u6, u7, u8, u9, u10, u11, u12, u13, rfl, f0, f1, f2, f3, f4, f5, f6, f7, f8, f9, f10, f11, g0, g1, g2, g3, g4⟩ hd hdep K hK
      have hd6 : d 6 = true := hdep ⟨6, .data⟩ (by simp) rfl
      obtain rfl := f6 hd6
      simp only [Array.getD_eq_getD_getElem?, List.getElem?_toArray, List.getElem?_cons_zero, List.getElem?_cons_succ, Option.getD_some]
      rw [if_pos (by rfl)]
      go_simp
      refine (tapeNextK _ _ _ zs _ _ _ g0 (hRow.bar g1) (by omega) (by omega)).mono ?_
      rintro e x1 ⟨v, rfl, hv0, hv1, hT1, hbar⟩
      obtain ⟨q, rfl⟩ := Int.eq_ofNat_of_zero_le hv0
      refine hK _ _ ⟨_, _, _, _, _, _, _, _, _, _, _, rfl, ?_, ?_, ?_, ?_, ?_, ?_, ?_, ?_, ?_, ?_, ?_, ?_, ?_, ?_, ?_, ?_, ?_⟩
      · exact (fun h => by have f := f0 (by simpa using h); (obtain ⟨b, e, e1, e2, e3⟩ := f; exact ⟨b, e, e1, e2, (hbar.blk e1 e3)⟩))
      · exact (fun h => f1 (by simpa using h))
      · exact (fun h => f2 (by simpa using h))
      · exact (fun h => by have f := f3 (by simpa using h); (obtain ⟨b, i, s, e, e1, e2, e3, e4⟩ := f; exact ⟨b, i, s, e, e1, e2, (hbar.cell e1 e3), e4⟩))
      · exact (fun h => f4 (by simpa using h))
      · exact (fun h => by have f := f5 (by simpa using h); (obtain ⟨b, e, e1, e2, e3⟩ := f; exact ⟨b, e, e1, e2, (hbar.blk e1 e3)⟩))
      · exact (fun h => f6 (by simpa using h))
      · exact (fun _ => ⟨q, rfl, by omega⟩)
      · exact (fun h => by have f := f8 (by simpa using h); (obtain ⟨b, i, s, e, e1, e2, e3, e4⟩ := f; exact ⟨b, i, s, e, e1, e2, (hbar.cell e1 e3), e4⟩))
      · exact (fun h => f9 (by simpa using h))
      · exact (fun h => f10 (by simpa using h))
      · exact (fun h => by have f := f11 (by simpa using h); (obtain ⟨s, s', e, e4⟩ := f; exact ⟨s, s', (hbar.blk g2 e), e4⟩))
      · exact hT1
      · exact (g1.trans hbar)
      · exact g2
      · exact g3
      · exact (by obtain ⟨y, y', e⟩ := g4; exact ⟨y, y', hbar.blk g2 e⟩)
    · rintro d a x ⟨u3, u4, u5, u6, u7, u8, u9, u10, u11, u12, u13, rfl, f0, f1, f2, f3, f4, f5, f6, f7, f8, f9, f10, f11, g0, g1, g2, g3, g4⟩ hd hdep K hK
      have hd5 : d 5 = true := hdep ⟨5, .data⟩ (by simp) rfl
      have hd7 : d 7 = true := hdep ⟨7, .data⟩ (by simp) rfl
      obtain ⟨b5, rfl, n5, m5, c5⟩ := f5 hd5
      obtain ⟨q7, rfl, l7⟩ := f7 hd7
      simp only [Array.getD_eq_getD_getElem?, List.getElem?_toArray, List.getElem?_cons_zero, List.getElem?_cons_succ, Option.getD_some]
      obtain ⟨s, hs, hz⟩ : ∃ s : ByteArray, x.cell? ⟨b5, q7, none⟩ = some (.string s) ∧ KI s := by
        have hk := blk_cell c5
        match q7, l7 with
        | 0, _ => exact ⟨_, hk 0, .inl rfl⟩
        | 1, _ => exact ⟨_, hk 1, .inr (.inl rfl)⟩
        | 2, _ => exact ⟨_, hk 2, .inr (.inr (.inl rfl))⟩
        | 3, _ => exact ⟨_, hk 3, .inr (.inr (.inr (.inl rfl)))⟩
        | 4, _ => exact ⟨_, hk 4, .inr (.inr (.inr (.inr rfl)))⟩
      have hq : (q7 : Int) < 5 := by omega
      have hq0 : 0 ≤ (q7 : Int) := by omega
      rw [if_pos (by rfl)]
      go_simp
      refine hK _ _ ⟨_, _, _, _, _, _, _, _, _, _, _, rfl, ?_, ?_, ?_, ?_, ?_, ?_, ?_, ?_, ?_, ?_, ?_, ?_, ?_, ?_, ?_, ?_, ?_⟩
      · exact (fun h => f0 (by simpa using h))
      · exact (fun h => f1 (by simpa using h))
      · exact (fun h => f2 (by simpa using h))
      · exact (fun h => f3 (by simpa using h))
      · exact (fun h => f4 (by simpa using h))
      · exact (fun h => f5 (by simpa using h))
      · exact (fun h => f6 (by simpa using h))
      · exact (fun h => f7 (by simpa using h))
      · exact (fun _ => ⟨_, _, s, by simp, n5, m5, hs, hz⟩)
      · exact (fun h => f9 (by simpa using h))
      · exact (fun h => f10 (by simpa using h))
      · exact (fun h => f11 (by simpa using h))
      · exact g0
      · exact g1
      · exact g2
      · exact g3
      · exact g4
    · rintro d a x ⟨u3, u4, u5, u6, u7, u8, u9, u10, u11, u12, u13, rfl, f0, f1, f2, f3, f4, f5, f6, f7, f8, f9, f10, f11, g0, g1, g2, g3, g4⟩ hd hdep K hK
      have hd8 : d 8 = true := hdep ⟨8, .data⟩ (by simp) rfl
      obtain ⟨b8, i8, s8, rfl, n8, m8, c8, z8⟩ := f8 hd8
      simp only [Array.getD_eq_getD_getElem?, List.getElem?_toArray, List.getElem?_cons_zero, List.getElem?_cons_succ, Option.getD_some]
      rw [if_pos (by rfl)]
      go_simp
      refine hK _ _ ⟨_, _, _, _, _, _, _, _, _, _, _, rfl, ?_, ?_, ?_, ?_, ?_, ?_, ?_, ?_, ?_, ?_, ?_, ?_, ?_, ?_, ?_, ?_, ?_⟩
      · exact (fun h => f0 (by simpa using h))
      · exact (fun h => f1 (by simpa using h))
      · exact (fun h => f2 (by simpa using h))
      · exact (fun h => f3 (by simpa using h))
      · exact (fun h => f4 (by simpa using h))
      · exact (fun h => f5 (by simpa using h))
      · exact (fun h => f6 (by simpa using h))
      · exact (fun h => f7 (by simpa using h))
      · exact (fun h => f8 (by simpa using h))
      · exact (fun _ => ⟨s8, rfl, z8⟩)
      · exact (fun h => f10 (by simpa using h))
      · exact (fun h => f11 (by simpa using h))
      · exact g0
      · exact g1
      · exact g2
      · exact g3
      · exact g4
    · rintro d a x ⟨u3, u4, u5, u6, u7, u8, u9, u10, u11, u12, u13, rfl, f0, f1, f2, f3, f4, f5, f6, f7, f8, f9, f10, f11, g0, g1, g2, g3, g4⟩ hd hdep K hK
      have hd4 : d 4 = true := hdep ⟨4, .data⟩ (by simp) rfl
      have hd9 : d 9 = true := hdep ⟨9, .data⟩ (by simp) rfl
      obtain ⟨s4, rfl, z4⟩ := f4 hd4
      obtain ⟨s9, rfl, z9⟩ := f9 hd9
      simp only [Array.getD_eq_getD_getElem?, List.getElem?_toArray, List.getElem?_cons_zero, List.getElem?_cons_succ, Option.getD_some]
      rw [if_pos (by rfl)]
      go_simp
      refine hK _ _ ⟨_, _, _, _, _, _, _, _, _, _, _, rfl, ?_, ?_, ?_, ?_, ?_, ?_, ?_, ?_, ?_, ?_, ?_, ?_, ?_, ?_, ?_, ?_, ?_⟩
      · exact (fun h => f0 (by simpa using h))
      · exact (fun h => f1 (by simpa using h))
      · exact (fun h => f2 (by simpa using h))
      · exact (fun h => f3 (by simpa using h))
      · exact (fun h => f4 (by simpa using h))
      · exact (fun h => f5 (by simpa using h))
      · exact (fun h => f6 (by simpa using h))
      · exact (fun h => f7 (by simpa using h))
      · exact (fun h => f8 (by simpa using h))
      · exact (fun h => f9 (by simpa using h))
      · exact (fun _ => ⟨s4, s9, rfl, z4, z9⟩)
      · exact (fun h => f11 (by simpa using h))
      · exact g0
      · exact g1
      · exact g2
      · exact g3
      · exact g4
    · rintro d a x ⟨u3, u4, u5, u6, u7, u8, u9, u10, u11, u12, u13, rfl, f0, f1, f2, f3, f4, f5, f6, f7, f8, f9, f10, f11, g0, g1, g2, g3, g4⟩ hd hdep K hK
      have hd10 : d 10 = true := hdep ⟨10, .data⟩ (by simp) rfl
      have hd10 : d 10 = true := hdep ⟨10, .phase⟩ (by simp) rfl
      obtain ⟨sa, sb, rfl, za, zb⟩ := f10 hd10
      simp only [Array.getD_eq_getD_getElem?, List.getElem?_toArray, List.getElem?_cons_zero, List.getElem?_cons_succ, Option.getD_some]
      obtain ⟨y, y', hr⟩ := g4
      have hr1 := blk_cell hr
      have hr2 := blk_free hr
      have hr3 := blk_lt hr
      rw [if_pos (by rfl)]
      go_simp
      have hkp : Kept rb x ((x.setCell ⟨rb, 0, none⟩ (.string sa)).setCell ⟨rb, 1, none⟩ (.string sb)) := ((Kept.refl rb x).setCell _ _).setCell _ _
      have RB : ((x.setCell ⟨rb, 0, none⟩ (.string sa)).setCell ⟨rb, 1, none⟩ (.string sb)).heap[rb]? = some (.cells #[.string sa, .string sb] 30 (0, 0)) := by repeat (first | (with_reducible assumption) | (with_reducible refine blk_new_at ?_ _ _; first | (with_reducible rfl) | (simp; done)) | (with_reducible refine blk_alloc ?_ _) | (with_reducible refine blk_drew ?_) | (with_reducible apply blk_set) | (show Array.setIfInBounds _ _ _ = _; rfl) | (with_reducible refine blk_set_other ?_ ?_; omega))
      generalize ((x.setCell ⟨rb, 0, none⟩ (.string sa)).setCell ⟨rb, 1, none⟩ (.string sb)) = X at *
      refine hK _ _ ⟨_, _, _, _, _, _, _, _, _, _, _, rfl, ?_, ?_, ?_, ?_, ?_, ?_, ?_, ?_, ?_, ?_, ?_, ?_, ?_, ?_, ?_, ?_, ?_⟩
      · exact (fun h => by have f := f0 (by simpa using h); (obtain ⟨b, e, e1, e2, e3⟩ := f; exact ⟨b, e, e1, e2, ((hkp.block b e2).trans e3)⟩))
      · exact (fun h => f1 (by simpa using h))
      · exact (fun h => f2 (by simpa using h))
      · exact (fun h => by have f := f3 (by simpa using h); (obtain ⟨b, i, s, e, e1, e2, e3, e4⟩ := f; exact ⟨b, i, s, e, e1, e2, (hkp.cell e2 e3), e4⟩))
      · exact (fun h => f4 (by simpa using h))
      · exact (fun h => by have f := f5 (by simpa using h); (obtain ⟨b, e, e1, e2, e3⟩ := f; exact ⟨b, e, e1, e2, ((hkp.block b e2).trans e3)⟩))
      · exact (fun h => f6 (by simpa using h))
      · exact (fun h => f7 (by simpa using h))
      · exact (fun h => by have f := f8 (by simpa using h); (obtain ⟨b, i, s, e, e1, e2, e3, e4⟩ := f; exact ⟨b, i, s, e, e1, e2, (hkp.cell e2 e3), e4⟩))
      · exact (fun h => f9 (by simpa using h))
      · exact (fun h => f10 (by simpa using h))
      · exact (fun _ => ⟨sa, sb, RB, za, zb⟩)
      · exact (by obtain ⟨k, e1, e2⟩ := g0; exact ⟨k, (hkp.block tb (Ne.symm g2)).trans e1, e2⟩)
      · exact ⟨hkp.os.trans g1.os, hkp.tape.trans g1.tape, hkp.output.trans g1.output, Nat.le_trans g1.size (Nat.le_of_eq hkp.size.symm), fun k hk hl => (hkp.block k (by omega)).trans (g1.block k hk hl)⟩
      · exact g2
      · exact g3
      · exact ⟨_, _, RB⟩
  · rintro d a x ⟨u3, u4, u5, u6, u7, u8, u9, u10, u11, u12, u13, rfl, f0, f1, f2, f3, f4, f5, f6, f7, f8, f9, f10, f11, g0, g1, g2, g3, g4⟩ hall
    simp only [Array.getD_eq_getD_getElem?, List.getElem?_toArray, List.getElem?_cons_zero, List.getElem?_cons_succ, Option.getD_some]
    obtain ⟨sa, sb, cr, za, zb⟩ := f11 (hall 11 (by decide))
    clear f0 f1 f2 f3 f4 f5 f6 f7 f8 f9 f10 f11 hall
    have hc := blk_cell cr
    go_wp2
    exact bodyPost_ret (v := .agg #[.string sa, .string sb]) (by simp [results, Try.results65, go_sem, hc]) rfl ⟨sa, sb, rfl, za, zb, g0, g1⟩

set_option maxRecDepth 100000 in
set_option maxHeartbeats 1000000 in
theorem tapeCardF (a0 : Option Addr) (len cap : Nat) (zs : List Int) (b : Nat) (w : World) (hT : TapeK a0 len cap w b) (hRow : RowOk a0 len cap zs w b) :
    Calls Try.prog 39 #[.pointer (some ⟨b, 0, none⟩)] w fun r w' => ∃ c : Cd, r = .returned c.v ∧ CdOk c ∧ KA c.a ∧ KI c.i ∧ TapeK a0 len cap w' b ∧ Bar b w w' := by
  have htb := hT.lt
  go_enter Try.func39, Try.ntmps39
  go_wp2_with fail
  have hT0 : TapeK a0 len cap (w.alloc (.cells #[.string ⟨#[]⟩, .string ⟨#[]⟩, .int .i64 0, .int .i64 0, .int .i64 0, .int .i64 0, .int .i64 0, .int .i64 0, .bool false] 34)) b := hT.ext ((Below.refl _ _).alloc (Nat.le_refl _) _)
  have hb0 : Bar b w (w.alloc (.cells #[.string ⟨#[]⟩, .string ⟨#[]⟩, .int .i64 0, .int .i64 0, .int .i64 0, .int .i64 0, .int .i64 0, .int .i64 0, .bool false] 34)) := Bar.of ((Below.refl _ _).alloc (Nat.le_refl _) _)
  have hr0 : (w.alloc (.cells #[.string ⟨#[]⟩, .string ⟨#[]⟩, .int .i64 0, .int .i64 0, .int .i64 0, .int .i64 0, .int .i64 0, .int .i64 0, .bool false] 34)).heap[w.heap.size]? = some (.cells #[.string ⟨#[]⟩, .string ⟨#[]⟩, .int .i64 0, .int .i64 0, .int .i64 0, .int .i64 0, .int .i64 0, .int .i64 0, .bool false] 34 (0, 0)) := blk_new _ _ _
  have HR0 := Lib.hid hr0
  clear hr0
  refine (tapeKeyF _ _ _ zs _ _ hT0 (hRow.bar hb0)).mono ?_
  rintro e w1 ⟨s, s', rfl, ss, ss', hT1, hx⟩
  have hb1 := hb0.trans hx
  have HR1 := Lib.hid (hx.blk (c := w.heap.size) (by omega) HR0.out)
  clear hx HR0
  go_wp2_with fail
  refine (tapeNextK _ _ _ zs _ 2 _ hT1 (hRow.bar hb1) (by omega) (by omega)).mono ?_
  rintro e w2 ⟨q1, rfl, a1, b1, hT2, hx⟩
  have hb2 := hb1.trans hx
  have HR2 := Lib.hid (hx.blk (c := w.heap.size) (by omega) HR1.out)
  clear hx HR1
  go_wp2_with fail
  refine (tapeNextK _ _ _ zs _ 7 _ hT2 (hRow.bar hb2) (by omega) (by omega)).mono ?_
  rintro e w3 ⟨q2, rfl, a2, b2, hT3, hx⟩
  have hb3 := hb2.trans hx
  have HR3 := Lib.hid (hx.blk (c := w.heap.size) (by omega) HR2.out)
  clear hx HR2
  go_wp2_with fail
  refine (tapeNextK _ _ _ zs _ 60 _ hT3 (hRow.bar hb3) (by omega) (by omega)).mono ?_
  rintro e w4 ⟨q3, rfl, a3, b3, hT4, hx⟩
  have hb4 := hb3.trans hx
  have HR4 := Lib.hid (hx.blk (c := w.heap.size) (by omega) HR3.out)
  clear hx HR3
  go_wp2_with fail
  refine (tapeStampK _ _ _ zs _ _ hT4 (hRow.bar hb4)).mono ?_
  rintro e w5 ⟨t, k, n, rfl, t0, t1, k0, k1, n0, n1, hT5, hx⟩
  have hb5 := hb4.trans hx
  have HR5 := Lib.hid (hx.blk (c := w.heap.size) (by omega) HR4.out)
  clear hx HR4
  go_wp2_with fail
  refine (tapeNextK _ _ _ zs _ 4 _ hT5 (hRow.bar hb5) (by omega) (by omega)).mono ?_
  rintro e w6 ⟨q4, rfl, a4, b4, hT6, hx⟩
  have hb6 := hb5.trans hx
  have HR6 := Lib.hid (hx.blk (c := w.heap.size) (by omega) HR5.out)
  clear hx HR5
  have hr := HR6.out
  have hrc := blk_cell hr
  have hrf := blk_free hr
  have hrl := blk_lt hr
  clear hr
  go_upto_region 99 with fail
  have hr := HR6.out
  have hR : w.heap.size ≠ b := by omega
  obtain ⟨R, hRR⟩ : ∃ R, w.heap.size = R := ⟨_, rfl⟩
  have hRl : ∀ k, k < w.heap.size → k ≠ R := fun k hk => by omega
  rw [hRR] at hr hR hrc hrf hrl ⊢
  have hkp : Kept R w6 (((((((((w6.setCell ⟨R, 0, none⟩ (.string s)).setCell ⟨R, 1, none⟩ (.string s')).setCell ⟨R, 2, none⟩ (.int .i64 (1 + q1))).setCell ⟨R, 3, none⟩ (.int .i64 (q2 / 2))).setCell ⟨R, 4, none⟩ (.int .i64 (1 + q3))).setCell ⟨R, 5, none⟩ (.int .i64 t)).setCell ⟨R, 6, none⟩ (.int .i64 k)).setCell ⟨R, 7, none⟩ (.int .i64 n)).setCell ⟨R, 8, none⟩ (.bool (q4 == 0))) := ((((((((((Kept.refl R w6).setCell _ _).setCell _ _).setCell _ _).setCell _ _).setCell _ _).setCell _ _).setCell _ _).setCell _ _).setCell _ _)
  have RB : (((((((((w6.setCell ⟨R, 0, none⟩ (.string s)).setCell ⟨R, 1, none⟩ (.string s')).setCell ⟨R, 2, none⟩ (.int .i64 (1 + q1))).setCell ⟨R, 3, none⟩ (.int .i64 (q2 / 2))).setCell ⟨R, 4, none⟩ (.int .i64 (1 + q3))).setCell ⟨R, 5, none⟩ (.int .i64 t)).setCell ⟨R, 6, none⟩ (.int .i64 k)).setCell ⟨R, 7, none⟩ (.int .i64 n)).setCell ⟨R, 8, none⟩ (.bool (q4 == 0))).heap[R]? = some (.cells #[.string s, .string s', .int .i64 (1 + q1), .int .i64 (q2 / 2), .int .i64 (1 + q3), .int .i64 t, .int .i64 k, .int .i64 n, .bool (q4 == 0)] 34 (0, 0)) := by repeat (first | (with_reducible assumption) | (with_reducible refine blk_new_at ?_ _ _; first | (with_reducible rfl) | (simp; done)) | (with_reducible refine blk_alloc ?_ _) | (with_reducible refine blk_drew ?_) | (with_reducible apply blk_set) | (show Array.setIfInBounds _ _ _ = _; first | (simp; done) | (simp; rfl)) | (with_reducible refine blk_set_other ?_ ?_; omega))
  have hTn : TapeK a0 len cap (((((((((w6.setCell ⟨R, 0, none⟩ (.string s)).setCell ⟨R, 1, none⟩ (.string s')).setCell ⟨R, 2, none⟩ (.int .i64 (1 + q1))).setCell ⟨R, 3, none⟩ (.int .i64 (q2 / 2))).setCell ⟨R, 4, none⟩ (.int .i64 (1 + q3))).setCell ⟨R, 5, none⟩ (.int .i64 t)).setCell ⟨R, 6, none⟩ (.int .i64 k)).setCell ⟨R, 7, none⟩ (.int .i64 n)).setCell ⟨R, 8, none⟩ (.bool (q4 == 0))) b := by
    obtain ⟨q, e1, e2⟩ := hT6
    exact ⟨q, (hkp.block b (Ne.symm hR)).trans e1, e2⟩
  have hbn : Bar b w (((((((((w6.setCell ⟨R, 0, none⟩ (.string s)).setCell ⟨R, 1, none⟩ (.string s')).setCell ⟨R, 2, none⟩ (.int .i64 (1 + q1))).setCell ⟨R, 3, none⟩ (.int .i64 (q2 / 2))).setCell ⟨R, 4, none⟩ (.int .i64 (1 + q3))).setCell ⟨R, 5, none⟩ (.int .i64 t)).setCell ⟨R, 6, none⟩ (.int .i64 k)).setCell ⟨R, 7, none⟩ (.int .i64 n)).setCell ⟨R, 8, none⟩ (.bool (q4 == 0))) := ⟨hkp.os.trans hb6.os, hkp.tape.trans hb6.tape, hkp.output.trans hb6.output, Nat.le_trans hb6.size (Nat.le_of_eq hkp.size.symm), fun k hk hl => (hkp.block k (hRl k hl)).trans (hb6.block k hk hl)⟩
  have hc := blk_cell RB
  generalize (((((((((w6.setCell ⟨R, 0, none⟩ (.string s)).setCell ⟨R, 1, none⟩ (.string s')).setCell ⟨R, 2, none⟩ (.int .i64 (1 + q1))).setCell ⟨R, 3, none⟩ (.int .i64 (q2 / 2))).setCell ⟨R, 4, none⟩ (.int .i64 (1 + q3))).setCell ⟨R, 5, none⟩ (.int .i64 t)).setCell ⟨R, 6, none⟩ (.int .i64 k)).setCell ⟨R, 7, none⟩ (.int .i64 n)).setCell ⟨R, 8, none⟩ (.bool (q4 == 0))) = X at *
  exact bodyPost_ret (v := Cd.v ⟨s, s', 1 + q1, q2 / 2, 1 + q3, t, k, n, q4 == 0⟩) (by simp [results, Try.results39, go_sem, hc]) rfl ⟨⟨s, s', 1 + q1, q2 / 2, 1 + q3, t, k, n, q4 == 0⟩, rfl, ⟨ss.size, ss'.size, by simp; omega, by simp; omega, by simp; omega, by simp; omega, by simp; omega, by simp; omega, t0, t1, k0, k1, n0, n1⟩, ss, ss', hTn, hbn⟩

end Go.Proofs.Ytloeabdohgdmkaa
