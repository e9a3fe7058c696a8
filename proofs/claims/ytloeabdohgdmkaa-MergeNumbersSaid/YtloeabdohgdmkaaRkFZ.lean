/- The document's own row of changes. -/
import Derived.Test.YtloeabdohgdmkaaRecentWZ
import Derived.Test.YtloeabdohgdmkaaDkRZ
namespace Go.Proofs.Ytloeabdohgdmkaa
open Go.RowKit
set_option linter.unusedVariables false

/-- at block rb the reference's Row lies: all its keys -/
def RefAt (w : World) (rb : Nat) (ks : List KyR) : Prop := ∃ (a : Option Addr) (cap : Nat), w.heap[rb]? = some (.cells #[.slice a ks.length cap] 75 (0, 0)) ∧ ks.length ≤ cap ∧ cap ≤ maxLen ∧ KAt w a ks ∧ (∀ b o, a = some ⟨b, o, none⟩ → b ≠ rb) ∧ (ks = [] → a = none ∧ cap = 0) ∧ KBl w a
theorem RefAt.ext {w w' : World} {rb : Nat} {ks : List KyR} (h : RefAt w rb ks) (hb : Below w.heap.size w w') : RefAt w' rb ks := by
  obtain ⟨a, cap, h1, h2, h3, h4, h5, h6, h7⟩ := h
  exact ⟨a, cap, blk_ext hb h1, h2, h3, h4.ext hb, h5, h6, h7.ext hb⟩
theorem RefAt.lt {w : World} {rb : Nat} {ks : List KyR} (h : RefAt w rb ks) : rb < w.heap.size := by
  obtain ⟨a, cap, h1, _⟩ := h; exact blk_lt h1

def RefAdded (rb : Nat) (ks : List KyR) (w : World) (e : Ending) (w' : World) : Prop := e = .returned (.int .i64 ks.length) ∧ RefAt w' rb ks ∧ Bar rb w w'
theorem own_emptyR {w : World} {b base : Nat} (h : w.heap[b]? = some (.cells #[] 30 (0, 0))) (hb : base ≤ b) : w.ownsRow base 30 2 (.slice (some ⟨b, 0, none⟩) 0 0) 0 (kf []) :=
  ⟨rfl, .inr ⟨b, 0, #[], rfl, hb, h, Nat.le_refl _, by simp [maxLen], rfl, rfl⟩⟩
theorem blk_ne {w : World} {b b1 : Nat} {x y : Value} (h : w.heap[b]? = some (.cells #[x, y] 30 (0, 0))) (h1 : w.heap[b1]? = some (.cells #[] 30 (0, 0))) : b ≠ b1 := by
  rintro rfl
  rw [h] at h1
  simp at h1

set_option maxRecDepth 100000 in
set_option maxHeartbeats 4000000 in
theorem refAdd_nil  (rb : Nat) (k : KyR) (w : World) (hb0 : w.heap[rb]? = some (.cells #[.slice none 0 0] 75 (0, 0))) :
    Calls Try.prog 73 #[.pointer (some ⟨rb, 0, none⟩), .agg #[.string k.1, .string k.2]] w (RefAdded rb (([] : List KyR) ++ [k]) w) := by
  have hap : ∀ (b : Nat) (w : World), (Builtin.append_ #[73, 73] 73 #[.slice (some ⟨b, 0, none⟩) 0 0, .slice none 0 0]).run Try.prog w = .ok (.slice (some ⟨b, 0, none⟩) 0 0) w := fun _ _ => by kernel_rfl
  have hlt := blk_lt hb0
  have H0 := Lib.hid (blk_alloc hb0 (.cells #[.string k.1, .string k.2] 30))
  have A0 : (w.alloc (.cells #[.string k.1, .string k.2] 30)).heap[w.heap.size]? = some (.cells #[.string k.1, .string k.2] 30 (0, 0)) := blk_new _ _ _
  have D1 : Below w.heap.size w (w.alloc (.cells #[.string k.1, .string k.2] 30)) := (Below.refl _ _).alloc (Nat.le_refl _) _
  have A1 := Lib.hid A0
  obtain ⟨i0, hi, hz0, hz1, hz2⟩ := info_partsR info_key
  clear A0 hb0
  go_enter Try.func73, Try.ntmps73
  go_upto_region 1 with fail
  generalize (w.alloc (.cells #[.string k.1, .string k.2] 30)) = w1 at *
  have hz := D1.size
  have hal := blk_lt A1.out
  refine wp_region_inv_eq (J := fun A d act x => ∃ u5 u6 u7 u8 u9 u10 u11 u12 u13 u14 u15 u16 : Value, act = ((((((((((((A.put (some 5) u5).put (some 6) u6).put (some 7) u7).put (some 8) u8).put (some 9) u9).put (some 10) u10).put (some 11) u11).put (some 12) u12).put (some 13) u13).put (some 14) u14).put (some 15) u15).put (some 16) u16) ∧ (d 0 = true → u5 = .pointer (some ⟨rb, 0, none⟩)) ∧ (d 1 = true → (d 6 = false → ∃ b1 : Nat, u6 = .slice (some ⟨b1, 0, none⟩) 0 0 ∧ x.heap[b1]? = some (.cells #[] 30 (0, 0)) ∧ w1.heap.size ≤ b1)) ∧ (d 2 = true → u7 = .pointer (some ⟨rb, 0, none⟩)) ∧ (d 3 = true → u8 = .pointer (some ⟨rb, 0, none⟩)) ∧ (d 4 = true → u9 = .pointer (some ⟨rb, 0, none⟩)) ∧ (d 5 = true → u10 = .slice none 0 0) ∧ (d 6 = true → (d 9 = false → x.ownsRow w1.heap.size 30 2 u11 0 (kf ([] : List KyR)))) ∧ (d 7 = true → u12 = .agg #[.string k.1, .string k.2]) ∧ (d 8 = true → (d 9 = false → ∃ b : Nat, u13 = .slice (some ⟨b, 0, none⟩) 1 1 ∧ x.heap[b]? = some (.cells #[.string k.1, .string k.2] 30 (0, 0)))) ∧ (d 9 = true → x.ownsRow w1.heap.size 30 2 u14 (0 + 1) (kf (([] : List KyR) ++ [k]))) ∧ (d 10 = true → u15 = .pointer (some ⟨rb, 0, none⟩)) ∧ (d 11 = true → u16 = .pointer (some ⟨rb, 0, none⟩)) ∧ (d 12 = true → x.heap[rb]? = some (.cells #[u14] 75 (0, 0))) ∧ Bar rb w1 x ∧ (d 12 = false → x.heap[rb]? = some (.cells #[.slice none 0 0] 75 (0, 0))) ∧ (d 12 = true → d 9 = true) ∧ (d 9 = true → d 6 = true ∧ d 5 = true) ∧ (d 6 = true → d 5 = true)) (by simp only [Act.put, List.setIfInBounds_toArray, List.set_cons_succ, List.set_cons_zero]; rfl) (by kernel_rfl) (by kernel_rfl) ?_ ?_ ?_
  · refine ⟨_, _, _, _, _, _, _, _, _, _, _, _, rfl, ?_, ?_, ?_, ?_, ?_, ?_, ?_, ?_, ?_, ?_, ?_, ?_, ?_, ?_, ?_, ?_, ?_, ?_⟩
    · intro h; cases h
    · intro h; cases h
    · intro h; cases h
    · intro h; cases h
    · intro h; cases h
    · intro h; cases h
    · intro h; cases h
    · intro h; cases h
    · intro h; cases h
    · intro h; cases h
    · intro h; cases h
    · intro h; cases h
    · intro h; cases h
    · exact Bar.of ((Below.refl _ _).drew)
    · exact (fun _ => blk_drew H0.out)
    · exact (fun h => by cases h)
    · exact (fun h => by cases h)
    · exact (fun h => by cases h)
  · refine stepsOk_cons (k := 0) ?_ (stepsOk_cons (k := 1) ?_ (stepsOk_cons (k := 2) ?_ (stepsOk_cons (k := 3) ?_ (stepsOk_cons (k := 4) ?_ (stepsOk_cons (k := 5) ?_ (stepsOk_cons (k := 6) ?_ (stepsOk_cons (k := 7) ?_ (stepsOk_cons (k := 8) ?_ (stepsOk_cons (k := 9) ?_ (stepsOk_cons (k := 10) ?_ (stepsOk_cons (k := 11) ?_ (stepsOk_cons (k := 12) ?_ stepsOk_nil))))))))))))
    · unfold StepOk
      rintro d act x ⟨u5, u6, u7, u8, u9, u10, u11, u12, u13, u14, u15, u16, rfl, f0, f1, f2, f3, f4, f5, f6, f7, f8, f9, f10, f11, f12, g0, g1, g2, g3, g4⟩ hd hdep Kc hKc
      rw [if_pos (by rfl)]
      go_big_op
      refine hKc _ _ ⟨_, _, _, _, _, _, _, _, _, _, _, _, rfl, ?_, ?_, ?_, ?_, ?_, ?_, ?_, ?_, ?_, ?_, ?_, ?_, ?_, ?_, ?_, ?_, ?_, ?_⟩
      · exact (fun _ => rfl)
      · exact (fun h h5 => f1 (up h rfl) (dn h5))
      · exact (fun h => f2 (up h rfl))
      · exact (fun h => f3 (up h rfl))
      · exact (fun h => f4 (up h rfl))
      · exact (fun h => f5 (up h rfl))
      · exact (fun h h5 => f6 (up h rfl) (dn h5))
      · exact (fun h => f7 (up h rfl))
      · exact (fun h h5 => f8 (up h rfl) (dn h5))
      · exact (fun h => f9 (up h rfl))
      · exact (fun h => f10 (up h rfl))
      · exact (fun h => f11 (up h rfl))
      · exact (fun h => f12 (up h rfl))
      · exact g0
      · exact (fun h => g1 (dn h))
      · exact (fun h => upl (g2 (up h rfl)))
      · exact (fun h => ⟨upl (g3 (up h rfl)).1, upl (g3 (up h rfl)).2⟩)
      · exact (fun h => upl (g4 (up h rfl)))
    · unfold StepOk
      rintro d act x ⟨u5, u6, u7, u8, u9, u10, u11, u12, u13, u14, u15, u16, rfl, f0, f1, f2, f3, f4, f5, f6, f7, f8, f9, f10, f11, f12, g0, g1, g2, g3, g4⟩ hd hdep Kc hKc
      rw [if_pos (by rfl)]
      go_big_op
      refine hKc _ _ ⟨_, _, _, _, _, _, _, _, _, _, _, _, rfl, ?_, ?_, ?_, ?_, ?_, ?_, ?_, ?_, ?_, ?_, ?_, ?_, ?_, ?_, ?_, ?_, ?_, ?_⟩
      · exact (fun h => f0 (up h rfl))
      · exact (fun _ => (fun h5 => ⟨_, rfl, blk_new _ _ _, g0.size⟩))
      · exact (fun h => f2 (up h rfl))
      · exact (fun h => f3 (up h rfl))
      · exact (fun h => f4 (up h rfl))
      · exact (fun h => f5 (up h rfl))
      · exact (fun h h5 => (f6 (up h rfl) (dn h5)).alloc _)
      · exact (fun h => f7 (up h rfl))
      · exact (fun h h5 => by obtain ⟨b, e1, e2⟩ := f8 (up h rfl) (dn h5); exact ⟨b, e1, blk_alloc e2 _⟩)
      · exact (fun h => (f9 (up h rfl)).alloc _)
      · exact (fun h => f10 (up h rfl))
      · exact (fun h => f11 (up h rfl))
      · exact (fun h => blk_alloc (f12 (up h rfl)) _)
      · exact (g0.trans (Bar.of ((Below.refl _ _).alloc (Nat.le_refl _) _)))
      · exact (fun h => blk_alloc (g1 (dn h)) _)
      · exact (fun h => upl (g2 (up h rfl)))
      · exact (fun h => ⟨upl (g3 (up h rfl)).1, upl (g3 (up h rfl)).2⟩)
      · exact (fun h => upl (g4 (up h rfl)))
    · unfold StepOk
      rintro d act x ⟨u5, u6, u7, u8, u9, u10, u11, u12, u13, u14, u15, u16, rfl, f0, f1, f2, f3, f4, f5, f6, f7, f8, f9, f10, f11, f12, g0, g1, g2, g3, g4⟩ hd hdep Kc hKc
      rw [if_pos (by rfl)]
      go_big_op
      refine hKc _ _ ⟨_, _, _, _, _, _, _, _, _, _, _, _, rfl, ?_, ?_, ?_, ?_, ?_, ?_, ?_, ?_, ?_, ?_, ?_, ?_, ?_, ?_, ?_, ?_, ?_, ?_⟩
      · exact (fun h => f0 (up h rfl))
      · exact (fun h h5 => f1 (up h rfl) (dn h5))
      · exact (fun _ => rfl)
      · exact (fun h => f3 (up h rfl))
      · exact (fun h => f4 (up h rfl))
      · exact (fun h => f5 (up h rfl))
      · exact (fun h h5 => f6 (up h rfl) (dn h5))
      · exact (fun h => f7 (up h rfl))
      · exact (fun h h5 => f8 (up h rfl) (dn h5))
      · exact (fun h => f9 (up h rfl))
      · exact (fun h => f10 (up h rfl))
      · exact (fun h => f11 (up h rfl))
      · exact (fun h => f12 (up h rfl))
      · exact g0
      · exact (fun h => g1 (dn h))
      · exact (fun h => upl (g2 (up h rfl)))
      · exact (fun h => ⟨upl (g3 (up h rfl)).1, upl (g3 (up h rfl)).2⟩)
      · exact (fun h => upl (g4 (up h rfl)))
    · unfold StepOk
      rintro d act x ⟨u5, u6, u7, u8, u9, u10, u11, u12, u13, u14, u15, u16, rfl, f0, f1, f2, f3, f4, f5, f6, f7, f8, f9, f10, f11, f12, g0, g1, g2, g3, g4⟩ hd hdep Kc hKc
      have hd2 : d 2 = true := hdep ⟨2, .data⟩ (by simp) rfl
      obtain rfl := f2 hd2
      rw [if_pos (by rfl)]
      go_big_op
      refine hKc _ _ ⟨_, _, _, _, _, _, _, _, _, _, _, _, rfl, ?_, ?_, ?_, ?_, ?_, ?_, ?_, ?_, ?_, ?_, ?_, ?_, ?_, ?_, ?_, ?_, ?_, ?_⟩
      · exact (fun h => f0 (up h rfl))
      · exact (fun h h5 => f1 (up h rfl) (dn h5))
      · exact (fun h => f2 (up h rfl))
      · exact (fun _ => rfl)
      · exact (fun h => f4 (up h rfl))
      · exact (fun h => f5 (up h rfl))
      · exact (fun h h5 => f6 (up h rfl) (dn h5))
      · exact (fun h => f7 (up h rfl))
      · exact (fun h h5 => f8 (up h rfl) (dn h5))
      · exact (fun h => f9 (up h rfl))
      · exact (fun h => f10 (up h rfl))
      · exact (fun h => f11 (up h rfl))
      · exact (fun h => f12 (up h rfl))
      · exact g0
      · exact (fun h => g1 (dn h))
      · exact (fun h => upl (g2 (up h rfl)))
      · exact (fun h => ⟨upl (g3 (up h rfl)).1, upl (g3 (up h rfl)).2⟩)
      · exact (fun h => upl (g4 (up h rfl)))
    · unfold StepOk
      rintro d act x ⟨u5, u6, u7, u8, u9, u10, u11, u12, u13, u14, u15, u16, rfl, f0, f1, f2, f3, f4, f5, f6, f7, f8, f9, f10, f11, f12, g0, g1, g2, g3, g4⟩ hd hdep Kc hKc
      have hd3 : d 3 = true := hdep ⟨3, .data⟩ (by simp) rfl
      obtain rfl := f3 hd3
      rw [if_pos (by rfl)]
      go_big_op
      refine hKc _ _ ⟨_, _, _, _, _, _, _, _, _, _, _, _, rfl, ?_, ?_, ?_, ?_, ?_, ?_, ?_, ?_, ?_, ?_, ?_, ?_, ?_, ?_, ?_, ?_, ?_, ?_⟩
      · exact (fun h => f0 (up h rfl))
      · exact (fun h h5 => f1 (up h rfl) (dn h5))
      · exact (fun h => f2 (up h rfl))
      · exact (fun h => f3 (up h rfl))
      · exact (fun _ => rfl)
      · exact (fun h => f5 (up h rfl))
      · exact (fun h h5 => f6 (up h rfl) (dn h5))
      · exact (fun h => f7 (up h rfl))
      · exact (fun h h5 => f8 (up h rfl) (dn h5))
      · exact (fun h => f9 (up h rfl))
      · exact (fun h => f10 (up h rfl))
      · exact (fun h => f11 (up h rfl))
      · exact (fun h => f12 (up h rfl))
      · exact g0
      · exact (fun h => g1 (dn h))
      · exact (fun h => upl (g2 (up h rfl)))
      · exact (fun h => ⟨upl (g3 (up h rfl)).1, upl (g3 (up h rfl)).2⟩)
      · exact (fun h => upl (g4 (up h rfl)))
    · unfold StepOk
      rintro d act x ⟨u5, u6, u7, u8, u9, u10, u11, u12, u13, u14, u15, u16, rfl, f0, f1, f2, f3, f4, f5, f6, f7, f8, f9, f10, f11, f12, g0, g1, g2, g3, g4⟩ hd hdep Kc hKc
      have hd4 : d 4 = true := hdep ⟨4, .data⟩ (by simp) rfl
      obtain rfl := f4 hd4
      have h12 : d 12 = false := by
        cases h : d 12 with
        | false => rfl
        | true => have := (g3 (g2 h)).2; rw [hd] at this; cases this
      have hx := blk_cell (g1 h12)
      rw [if_pos (by rfl)]
      go_big_op
      refine hKc _ _ ⟨_, _, _, _, _, _, _, _, _, _, _, _, rfl, ?_, ?_, ?_, ?_, ?_, ?_, ?_, ?_, ?_, ?_, ?_, ?_, ?_, ?_, ?_, ?_, ?_, ?_⟩
      · exact (fun h => f0 (up h rfl))
      · exact (fun h h5 => f1 (up h rfl) (dn h5))
      · exact (fun h => f2 (up h rfl))
      · exact (fun h => f3 (up h rfl))
      · exact (fun h => f4 (up h rfl))
      · exact (fun _ => rfl)
      · exact (fun h h5 => f6 (up h rfl) (dn h5))
      · exact (fun h => f7 (up h rfl))
      · exact (fun h h5 => f8 (up h rfl) (dn h5))
      · exact (fun h => f9 (up h rfl))
      · exact (fun h => f10 (up h rfl))
      · exact (fun h => f11 (up h rfl))
      · exact (fun h => f12 (up h rfl))
      · exact g0
      · exact (fun h => g1 (dn h))
      · exact (fun h => upl (g2 (up h rfl)))
      · exact (fun h => ⟨upl (g3 (up h rfl)).1, upl (g3 (up h rfl)).2⟩)
      · exact (fun h => upl (g4 (up h rfl)))
    · unfold StepOk
      rintro d act x ⟨u5, u6, u7, u8, u9, u10, u11, u12, u13, u14, u15, u16, rfl, f0, f1, f2, f3, f4, f5, f6, f7, f8, f9, f10, f11, f12, g0, g1, g2, g3, g4⟩ hd hdep Kc hKc
      have hd5 : d 5 = true := hdep ⟨5, .data⟩ (by simp) rfl
      obtain rfl := f5 hd5
      have hd1 : d 1 = true := hdep ⟨1, .data⟩ (by simp) rfl
      have h9 : d 9 = false := by
        cases h : d 9 with
        | false => rfl
        | true => have := (g3 h).1; rw [hd] at this; cases this
      have h12 : d 12 = false := by
        cases h : d 12 with
        | false => rfl
        | true => have := g2 h; rw [h9] at this; cases this
      obtain ⟨b1, rfl, hb1, hge1⟩ := f1 hd1 hd
      have f6o := own_emptyR hb1 hge1
      have g0lt : rb < x.heap.size := by have := g0.size; omega
      rw [if_pos (by rfl)]
      go_big_op
      refine hKc _ _ ⟨_, _, _, _, _, _, _, _, _, _, _, _, rfl, ?_, ?_, ?_, ?_, ?_, ?_, ?_, ?_, ?_, ?_, ?_, ?_, ?_, ?_, ?_, ?_, ?_, ?_⟩
      · exact (fun h => f0 (up h rfl))
      · exact (fun h h5 => by simp at h5)
      · exact (fun h => f2 (up h rfl))
      · exact (fun h => f3 (up h rfl))
      · exact (fun h => f4 (up h rfl))
      · exact (fun h => f5 (up h rfl))
      · exact (fun _ => (fun h5 => f6o))
      · exact (fun h => f7 (up h rfl))
      · exact (fun h h5 => f8 (up h rfl) (dn h5))
      · exact (fun h => f9 (up h rfl))
      · exact (fun h => f10 (up h rfl))
      · exact (fun h => f11 (up h rfl))
      · exact (fun h => f12 (up h rfl))
      · exact g0
      · exact (fun h => g1 (dn h))
      · exact (fun h => upl (g2 (up h rfl)))
      · exact (fun h => ⟨by simp, upl (g3 (up h rfl)).2⟩)
      · exact (fun h => upl hd5)
    · unfold StepOk
      rintro d act x ⟨u5, u6, u7, u8, u9, u10, u11, u12, u13, u14, u15, u16, rfl, f0, f1, f2, f3, f4, f5, f6, f7, f8, f9, f10, f11, f12, g0, g1, g2, g3, g4⟩ hd hdep Kc hKc
      have hx := blk_cell (g0.blk (by omega) A1.out)
      rw [if_pos (by rfl)]
      go_big_op
      refine hKc _ _ ⟨_, _, _, _, _, _, _, _, _, _, _, _, rfl, ?_, ?_, ?_, ?_, ?_, ?_, ?_, ?_, ?_, ?_, ?_, ?_, ?_, ?_, ?_, ?_, ?_, ?_⟩
      · exact (fun h => f0 (up h rfl))
      · exact (fun h h5 => f1 (up h rfl) (dn h5))
      · exact (fun h => f2 (up h rfl))
      · exact (fun h => f3 (up h rfl))
      · exact (fun h => f4 (up h rfl))
      · exact (fun h => f5 (up h rfl))
      · exact (fun h h5 => f6 (up h rfl) (dn h5))
      · exact (fun _ => rfl)
      · exact (fun h h5 => f8 (up h rfl) (dn h5))
      · exact (fun h => f9 (up h rfl))
      · exact (fun h => f10 (up h rfl))
      · exact (fun h => f11 (up h rfl))
      · exact (fun h => f12 (up h rfl))
      · exact g0
      · exact (fun h => g1 (dn h))
      · exact (fun h => upl (g2 (up h rfl)))
      · exact (fun h => ⟨upl (g3 (up h rfl)).1, upl (g3 (up h rfl)).2⟩)
      · exact (fun h => upl (g4 (up h rfl)))
    · unfold StepOk
      rintro d act x ⟨u5, u6, u7, u8, u9, u10, u11, u12, u13, u14, u15, u16, rfl, f0, f1, f2, f3, f4, f5, f6, f7, f8, f9, f10, f11, f12, g0, g1, g2, g3, g4⟩ hd hdep Kc hKc
      have hd7 : d 7 = true := hdep ⟨7, .data⟩ (by simp) rfl
      obtain rfl := f7 hd7
      rw [if_pos (by rfl)]
      go_big_op
      refine hKc _ _ ⟨_, _, _, _, _, _, _, _, _, _, _, _, rfl, ?_, ?_, ?_, ?_, ?_, ?_, ?_, ?_, ?_, ?_, ?_, ?_, ?_, ?_, ?_, ?_, ?_, ?_⟩
      · exact (fun h => f0 (up h rfl))
      · exact (fun h h5 => by obtain ⟨b1, e1, e2, e3⟩ := f1 (up h rfl) (dn h5); exact ⟨b1, e1, blk_alloc e2 _, e3⟩)
      · exact (fun h => f2 (up h rfl))
      · exact (fun h => f3 (up h rfl))
      · exact (fun h => f4 (up h rfl))
      · exact (fun h => f5 (up h rfl))
      · exact (fun h h5 => (f6 (up h rfl) (dn h5)).alloc _)
      · exact (fun h => f7 (up h rfl))
      · exact (fun _ => (fun h5 => ⟨_, rfl, blk_new _ _ _⟩))
      · exact (fun h => (f9 (up h rfl)).alloc _)
      · exact (fun h => f10 (up h rfl))
      · exact (fun h => f11 (up h rfl))
      · exact (fun h => blk_alloc (f12 (up h rfl)) _)
      · exact (g0.trans (Bar.of ((Below.refl _ _).alloc (Nat.le_refl _) _)))
      · exact (fun h => blk_alloc (g1 (dn h)) _)
      · exact (fun h => upl (g2 (up h rfl)))
      · exact (fun h => ⟨upl (g3 (up h rfl)).1, upl (g3 (up h rfl)).2⟩)
      · exact (fun h => upl (g4 (up h rfl)))
    · unfold StepOk
      rintro d act x ⟨u5, u6, u7, u8, u9, u10, u11, u12, u13, u14, u15, u16, rfl, f0, f1, f2, f3, f4, f5, f6, f7, f8, f9, f10, f11, f12, g0, g1, g2, g3, g4⟩ hd hdep Kc hKc
      have hd6 : d 6 = true := hdep ⟨6, .data⟩ (by simp) rfl
      have hd8 : d 8 = true := hdep ⟨8, .data⟩ (by simp) rfl
      have hd5 := g4 hd6
      have f6' := f6 hd6 hd
      obtain ⟨b4, rfl, hb4⟩ := f8 hd8 hd
      have h12 : d 12 = false := by
        cases h : d 12 with
        | false => rfl
        | true => have := g2 h; rw [hd] at this; cases this
      have g0lt : rb < x.heap.size := by have := g0.size; omega
      rw [if_pos (by rfl)]
      refine wp_append_own _ _ _ 73 rfl (w1.heap.size) 30 i0 (.agg #[.string ⟨#[]⟩, .string ⟨#[]⟩]) 2 32 Try.underlying73 hi hz0 hz1 hz2 rfl (by decide) _ _ _ rfl f6' ⟨b4, 0, none⟩ 1 1 [.string k.1, .string k.2] rfl rfl ?c1 ?c2 ?c3 ?c4 ?c5 ?_
      case c1 =>
        intro j' u hj'
        match j', hj' with
        | 0, hj' => simp at hj'; subst hj'; simpa [Addr.add] using blk_cell hb4 0
        | 1, hj' => simp at hj'; subst hj'; simpa [Addr.add] using blk_cell hb4 1
      case c2 => intro u hu; simp at hu; rcases hu with rfl | rfl <;> rfl
      case c3 => unfold maxLen; omega
      case c4 => omega
      case c5 => exact g0.size
      intro v' x1 hown' hgrow _
      have hbar5 : Bar rb w1 x1 := ⟨hgrow.os.trans g0.os, hgrow.tape.trans g0.tape, hgrow.output.trans g0.output, Nat.le_trans g0.size hgrow.size, fun q hq hl => (hgrow.block q (Nat.lt_of_lt_of_le hl g0.size) (fun e => absurd (own_ge f6' e.symm) (by omega))).trans (g0.block q hq hl)⟩
      refine hKc _ _ ⟨_, _, _, _, _, _, _, _, _, _, _, _, rfl, ?_, ?_, ?_, ?_, ?_, ?_, ?_, ?_, ?_, ?_, ?_, ?_, ?_, ?_, ?_, ?_, ?_, ?_⟩
      · exact (fun h => f0 (up h rfl))
      · exact (fun h h5 => by have := dn h5; rw [hd6] at this; cases this)
      · exact (fun h => f2 (up h rfl))
      · exact (fun h => f3 (up h rfl))
      · exact (fun h => f4 (up h rfl))
      · exact (fun h => f5 (up h rfl))
      · exact (fun h h5 => by simp at h5)
      · exact (fun h => f7 (up h rfl))
      · exact (fun h h5 => by simp at h5)
      · exact (fun _ => (by rw [kf_snoc]; exact hown'))
      · exact (fun h => f10 (up h rfl))
      · exact (fun h => f11 (up h rfl))
      · exact (fun h => by have := up h rfl; rw [h12] at this; cases this)
      · exact hbar5
      · exact (fun h => (hgrow.block rb g0lt (own_neR f6' (g1 (dn h)) (by decide))).trans (g1 (dn h)))
      · exact (fun h => by simp)
      · exact (fun h => ⟨upl hd6, upl hd5⟩)
      · exact (fun h => upl (g4 (up h rfl)))
    · unfold StepOk
      rintro d act x ⟨u5, u6, u7, u8, u9, u10, u11, u12, u13, u14, u15, u16, rfl, f0, f1, f2, f3, f4, f5, f6, f7, f8, f9, f10, f11, f12, g0, g1, g2, g3, g4⟩ hd hdep Kc hKc
      have hd0 : d 0 = true := hdep ⟨0, .data⟩ (by simp) rfl
      have hd0 : d 0 = true := hdep ⟨0, .phase⟩ (by simp) rfl
      obtain rfl := f0 hd0
      rw [if_pos (by rfl)]
      go_big_op
      refine hKc _ _ ⟨_, _, _, _, _, _, _, _, _, _, _, _, rfl, ?_, ?_, ?_, ?_, ?_, ?_, ?_, ?_, ?_, ?_, ?_, ?_, ?_, ?_, ?_, ?_, ?_, ?_⟩
      · exact (fun h => f0 (up h rfl))
      · exact (fun h h5 => f1 (up h rfl) (dn h5))
      · exact (fun h => f2 (up h rfl))
      · exact (fun h => f3 (up h rfl))
      · exact (fun h => f4 (up h rfl))
      · exact (fun h => f5 (up h rfl))
      · exact (fun h h5 => f6 (up h rfl) (dn h5))
      · exact (fun h => f7 (up h rfl))
      · exact (fun h h5 => f8 (up h rfl) (dn h5))
      · exact (fun h => f9 (up h rfl))
      · exact (fun _ => rfl)
      · exact (fun h => f11 (up h rfl))
      · exact (fun h => f12 (up h rfl))
      · exact g0
      · exact (fun h => g1 (dn h))
      · exact (fun h => upl (g2 (up h rfl)))
      · exact (fun h => ⟨upl (g3 (up h rfl)).1, upl (g3 (up h rfl)).2⟩)
      · exact (fun h => upl (g4 (up h rfl)))
    · unfold StepOk
      rintro d act x ⟨u5, u6, u7, u8, u9, u10, u11, u12, u13, u14, u15, u16, rfl, f0, f1, f2, f3, f4, f5, f6, f7, f8, f9, f10, f11, f12, g0, g1, g2, g3, g4⟩ hd hdep Kc hKc
      have hd10 : d 10 = true := hdep ⟨10, .data⟩ (by simp) rfl
      obtain rfl := f10 hd10
      rw [if_pos (by rfl)]
      go_big_op
      refine hKc _ _ ⟨_, _, _, _, _, _, _, _, _, _, _, _, rfl, ?_, ?_, ?_, ?_, ?_, ?_, ?_, ?_, ?_, ?_, ?_, ?_, ?_, ?_, ?_, ?_, ?_, ?_⟩
      · exact (fun h => f0 (up h rfl))
      · exact (fun h h5 => f1 (up h rfl) (dn h5))
      · exact (fun h => f2 (up h rfl))
      · exact (fun h => f3 (up h rfl))
      · exact (fun h => f4 (up h rfl))
      · exact (fun h => f5 (up h rfl))
      · exact (fun h h5 => f6 (up h rfl) (dn h5))
      · exact (fun h => f7 (up h rfl))
      · exact (fun h h5 => f8 (up h rfl) (dn h5))
      · exact (fun h => f9 (up h rfl))
      · exact (fun h => f10 (up h rfl))
      · exact (fun _ => rfl)
      · exact (fun h => f12 (up h rfl))
      · exact g0
      · exact (fun h => g1 (dn h))
      · exact (fun h => upl (g2 (up h rfl)))
      · exact (fun h => ⟨upl (g3 (up h rfl)).1, upl (g3 (up h rfl)).2⟩)
      · exact (fun h => upl (g4 (up h rfl)))
    · unfold StepOk
      rintro d act x ⟨u5, u6, u7, u8, u9, u10, u11, u12, u13, u14, u15, u16, rfl, f0, f1, f2, f3, f4, f5, f6, f7, f8, f9, f10, f11, f12, g0, g1, g2, g3, g4⟩ hd hdep Kc hKc
      have hd11 : d 11 = true := hdep ⟨11, .data⟩ (by simp) rfl
      have hd9 : d 9 = true := hdep ⟨9, .data⟩ (by simp) rfl
      have hd9 : d 9 = true := hdep ⟨9, .chain⟩ (by simp) rfl
      have hd9 : d 9 = true := hdep ⟨9, .phase⟩ (by simp) rfl
      obtain rfl := f11 hd11
      obtain f9' := f9 hd9
      have f9' := f9 hd9
      have hd6 := (g3 hd9).1
      obtain ⟨aa, cc, e24, -, -, -, -, -⟩ := own_readR f9'
      obtain ⟨N, hN⟩ : ∃ N, (([] : List KyR) ++ [k]).length = N := ⟨_, rfl⟩
      rw [hN] at e24
      clear hN
      subst e24
      have hbc := blk_cell (g1 hd)
      have hbf := blk_free (g1 hd)
      have hbl2 := blk_lt (g1 hd)
      rw [if_pos (by rfl)]
      go_big_op
      have hkp : Kept rb x (x.setCell ⟨rb, 0, none⟩ (.slice aa N cc)) := (Kept.refl _ _).setCell _ _
      have RB : (x.setCell ⟨rb, 0, none⟩ (.slice aa N cc)).heap[rb]? = some (.cells #[.slice aa N cc] 75 (0, 0)) := by
        have h1 := g1 hd
        repeat (first | (with_reducible assumption) | (with_reducible refine blk_new_at ?_ _ _; first | (with_reducible rfl) | (simp; done)) | (with_reducible refine blk_alloc ?_ _) | (with_reducible refine blk_drew ?_) | (with_reducible apply blk_set) | (show Array.setIfInBounds _ _ _ = _; first | (simp; done) | (simp; rfl)) | (with_reducible refine blk_set_other ?_ ?_; omega))
      have F5 : (x.setCell ⟨rb, 0, none⟩ (.slice aa N cc)).ownsRow w1.heap.size 30 2 (.slice aa N cc) (0 + 1) (kf (([] : List KyR) ++ [k])) := ownsRow_keptR f9' hkp (by omega)
      generalize (x.setCell ⟨rb, 0, none⟩ (.slice aa N cc)) = X at *
      refine hKc _ _ ⟨_, _, _, _, _, _, _, _, _, _, _, _, rfl, ?_, ?_, ?_, ?_, ?_, ?_, ?_, ?_, ?_, ?_, ?_, ?_, ?_, ?_, ?_, ?_, ?_, ?_⟩
      · exact (fun h => f0 (up h rfl))
      · exact (fun h h5 => by have := dn h5; rw [hd6] at this; cases this)
      · exact (fun h => f2 (up h rfl))
      · exact (fun h => f3 (up h rfl))
      · exact (fun h => f4 (up h rfl))
      · exact (fun h => f5 (up h rfl))
      · exact (fun h h5 => by have := dn h5; rw [hd9] at this; cases this)
      · exact (fun h => f7 (up h rfl))
      · exact (fun h h5 => by have := dn h5; rw [hd9] at this; cases this)
      · exact (fun h => F5)
      · exact (fun h => f10 (up h rfl))
      · exact (fun h => f11 (up h rfl))
      · exact (fun _ => RB)
      · exact (g0.trans (Bar.kept hkp))
      · exact (fun h => by simp at h)
      · exact (fun h => upl hd9)
      · exact (fun h => ⟨upl (g3 (up h rfl)).1, upl (g3 (up h rfl)).2⟩)
      · exact (fun h => upl (g4 (up h rfl)))
  · rintro d act x ⟨u5, u6, u7, u8, u9, u10, u11, u12, u13, u14, u15, u16, rfl, f0, f1, f2, f3, f4, f5, f6, f7, f8, f9, f10, f11, f12, g0, g1, g2, g3, g4⟩ hall
    have f5' := f9 (hall 9 (by decide))
    have f8' := f12 (hall 12 (by decide))
    obtain ⟨aa, cc, e24, -, hcc, hcm, hka, hob⟩ := own_readR f5'
    have hge : ∀ b o, aa = some ⟨b, o, none⟩ → b ≠ rb := fun b o e => by have := own_ge f5' (hob b o e); omega
    obtain ⟨N, hN⟩ : ∃ N, (([] : List KyR) ++ [k]).length = N := ⟨_, rfl⟩
    rw [hN] at e24
    subst e24
    have HN := Lib.hid hN
    have HK := Lib.hid hka
    have HE := Lib.hid hge
    have HKB := Lib.hid (show KBl x aa from fun b o e => own_kb f5' (hob b o e))
    have HB := Lib.hid f8'
    have G0 := Lib.hid g0
    have HC := Lib.hid hcc
    have hbc := blk_cell f8'
    have hbl := blk_lt f8'
    clear f0 f1 f2 f3 f4 f5 f6 f7 f8 f9 f10 f11 f12 g0 g1 g2 g3 g4 hall f5' f8' hob hge hka hN hcc
    go_wp2
    go_ret
    have hb9 := HB.out
    have hl9 := HN.out
    rw [← hl9] at hb9
    exact ⟨by rw [← hl9]; first | rfl | simp, ⟨aa, cc, hb9, HC.out, hcm, HK.out, HE.out, fun h => by simp at h, HKB.out⟩, (Bar.of D1).trans G0.out⟩

set_option maxRecDepth 100000 in
set_option maxHeartbeats 4000000 in
theorem refAdd_some (b o cap : Nat) (ks : List KyR) (rb : Nat) (k : KyR) (w : World) (hb0 : w.heap[rb]? = some (.cells #[.slice (some ⟨b, o, none⟩) ks.length cap] 75 (0, 0))) (hks : KAt w (some ⟨b, o, none⟩) ks) (hne : b ≠ rb) (hl60 : ks.length ≤ 1000) :
    Calls Try.prog 73 #[.pointer (some ⟨rb, 0, none⟩), .agg #[.string k.1, .string k.2]] w (RefAdded rb (ks ++ [k]) w) := by
  have HKs := Lib.hid hks
  have hkl := kf_len ks
  have HL := Lib.hid hkl
  clear hks hkl
  have hlt := blk_lt hb0
  have H0 := Lib.hid (blk_alloc hb0 (.cells #[.string k.1, .string k.2] 30))
  have A0 : (w.alloc (.cells #[.string k.1, .string k.2] 30)).heap[w.heap.size]? = some (.cells #[.string k.1, .string k.2] 30 (0, 0)) := blk_new _ _ _
  have D1 : Below w.heap.size w (w.alloc (.cells #[.string k.1, .string k.2] 30)) := (Below.refl _ _).alloc (Nat.le_refl _) _
  have A1 := Lib.hid A0
  obtain ⟨i0, hi, hz0, hz1, hz2⟩ := info_partsR info_key
  clear A0 hb0
  go_enter Try.func73, Try.ntmps73
  go_upto_region 1 with fail
  generalize (w.alloc (.cells #[.string k.1, .string k.2] 30)) = w1 at *
  have hz := D1.size
  have hal := blk_lt A1.out
  refine wp_region_inv_eq (J := fun A d act x => ∃ u5 u6 u7 u8 u9 u10 u11 u12 u13 u14 u15 u16 : Value, act = ((((((((((((A.put (some 5) u5).put (some 6) u6).put (some 7) u7).put (some 8) u8).put (some 9) u9).put (some 10) u10).put (some 11) u11).put (some 12) u12).put (some 13) u13).put (some 14) u14).put (some 15) u15).put (some 16) u16) ∧ (d 0 = true → u5 = .pointer (some ⟨rb, 0, none⟩)) ∧ (d 1 = true → (d 6 = false → ∃ b1 : Nat, u6 = .slice (some ⟨b1, 0, none⟩) 0 0 ∧ x.heap[b1]? = some (.cells #[] 30 (0, 0)) ∧ w1.heap.size ≤ b1)) ∧ (d 2 = true → u7 = .pointer (some ⟨rb, 0, none⟩)) ∧ (d 3 = true → u8 = .pointer (some ⟨rb, 0, none⟩)) ∧ (d 4 = true → u9 = .pointer (some ⟨rb, 0, none⟩)) ∧ (d 5 = true → u10 = .slice (some ⟨b, o, none⟩) ks.length cap) ∧ (d 6 = true → (d 9 = false → x.ownsRow w1.heap.size 30 2 u11 ks.length (kf ks))) ∧ (d 7 = true → u12 = .agg #[.string k.1, .string k.2]) ∧ (d 8 = true → (d 9 = false → ∃ b : Nat, u13 = .slice (some ⟨b, 0, none⟩) 1 1 ∧ x.heap[b]? = some (.cells #[.string k.1, .string k.2] 30 (0, 0)))) ∧ (d 9 = true → x.ownsRow w1.heap.size 30 2 u14 (ks.length + 1) (kf (ks ++ [k]))) ∧ (d 10 = true → u15 = .pointer (some ⟨rb, 0, none⟩)) ∧ (d 11 = true → u16 = .pointer (some ⟨rb, 0, none⟩)) ∧ (d 12 = true → x.heap[rb]? = some (.cells #[u14] 75 (0, 0))) ∧ Bar rb w1 x ∧ (d 12 = false → x.heap[rb]? = some (.cells #[.slice (some ⟨b, o, none⟩) ks.length cap] 75 (0, 0))) ∧ (d 12 = true → d 9 = true) ∧ (d 9 = true → d 6 = true ∧ d 5 = true) ∧ (d 6 = true → d 5 = true)) (by simp only [Act.put, List.setIfInBounds_toArray, List.set_cons_succ, List.set_cons_zero]; rfl) (by kernel_rfl) (by kernel_rfl) ?_ ?_ ?_
  · refine ⟨_, _, _, _, _, _, _, _, _, _, _, _, rfl, ?_, ?_, ?_, ?_, ?_, ?_, ?_, ?_, ?_, ?_, ?_, ?_, ?_, ?_, ?_, ?_, ?_, ?_⟩
    · intro h; cases h
    · intro h; cases h
    · intro h; cases h
    · intro h; cases h
    · intro h; cases h
    · intro h; cases h
    · intro h; cases h
    · intro h; cases h
    · intro h; cases h
    · intro h; cases h
    · intro h; cases h
    · intro h; cases h
    · intro h; cases h
    · exact Bar.of ((Below.refl _ _).drew)
    · exact (fun _ => blk_drew H0.out)
    · exact (fun h => by cases h)
    · exact (fun h => by cases h)
    · exact (fun h => by cases h)
  · refine stepsOk_cons (k := 0) ?_ (stepsOk_cons (k := 1) ?_ (stepsOk_cons (k := 2) ?_ (stepsOk_cons (k := 3) ?_ (stepsOk_cons (k := 4) ?_ (stepsOk_cons (k := 5) ?_ (stepsOk_cons (k := 6) ?_ (stepsOk_cons (k := 7) ?_ (stepsOk_cons (k := 8) ?_ (stepsOk_cons (k := 9) ?_ (stepsOk_cons (k := 10) ?_ (stepsOk_cons (k := 11) ?_ (stepsOk_cons (k := 12) ?_ stepsOk_nil))))))))))))
    · unfold StepOk
      rintro d act x ⟨u5, u6, u7, u8, u9, u10, u11, u12, u13, u14, u15, u16, rfl, f0, f1, f2, f3, f4, f5, f6, f7, f8, f9, f10, f11, f12, g0, g1, g2, g3, g4⟩ hd hdep Kc hKc
      rw [if_pos (by rfl)]
      go_big_op
      refine hKc _ _ ⟨_, _, _, _, _, _, _, _, _, _, _, _, rfl, ?_, ?_, ?_, ?_, ?_, ?_, ?_, ?_, ?_, ?_, ?_, ?_, ?_, ?_, ?_, ?_, ?_, ?_⟩
      · exact (fun _ => rfl)
      · exact (fun h h5 => f1 (up h rfl) (dn h5))
      · exact (fun h => f2 (up h rfl))
      · exact (fun h => f3 (up h rfl))
      · exact (fun h => f4 (up h rfl))
      · exact (fun h => f5 (up h rfl))
      · exact (fun h h5 => f6 (up h rfl) (dn h5))
      · exact (fun h => f7 (up h rfl))
      · exact (fun h h5 => f8 (up h rfl) (dn h5))
      · exact (fun h => f9 (up h rfl))
      · exact (fun h => f10 (up h rfl))
      · exact (fun h => f11 (up h rfl))
      · exact (fun h => f12 (up h rfl))
      · exact g0
      · exact (fun h => g1 (dn h))
      · exact (fun h => upl (g2 (up h rfl)))
      · exact (fun h => ⟨upl (g3 (up h rfl)).1, upl (g3 (up h rfl)).2⟩)
      · exact (fun h => upl (g4 (up h rfl)))
    · unfold StepOk
      rintro d act x ⟨u5, u6, u7, u8, u9, u10, u11, u12, u13, u14, u15, u16, rfl, f0, f1, f2, f3, f4, f5, f6, f7, f8, f9, f10, f11, f12, g0, g1, g2, g3, g4⟩ hd hdep Kc hKc
      rw [if_pos (by rfl)]
      go_big_op
      refine hKc _ _ ⟨_, _, _, _, _, _, _, _, _, _, _, _, rfl, ?_, ?_, ?_, ?_, ?_, ?_, ?_, ?_, ?_, ?_, ?_, ?_, ?_, ?_, ?_, ?_, ?_, ?_⟩
      · exact (fun h => f0 (up h rfl))
      · exact (fun _ => (fun h5 => ⟨_, rfl, blk_new _ _ _, g0.size⟩))
      · exact (fun h => f2 (up h rfl))
      · exact (fun h => f3 (up h rfl))
      · exact (fun h => f4 (up h rfl))
      · exact (fun h => f5 (up h rfl))
      · exact (fun h h5 => (f6 (up h rfl) (dn h5)).alloc _)
      · exact (fun h => f7 (up h rfl))
      · exact (fun h h5 => by obtain ⟨b, e1, e2⟩ := f8 (up h rfl) (dn h5); exact ⟨b, e1, blk_alloc e2 _⟩)
      · exact (fun h => (f9 (up h rfl)).alloc _)
      · exact (fun h => f10 (up h rfl))
      · exact (fun h => f11 (up h rfl))
      · exact (fun h => blk_alloc (f12 (up h rfl)) _)
      · exact (g0.trans (Bar.of ((Below.refl _ _).alloc (Nat.le_refl _) _)))
      · exact (fun h => blk_alloc (g1 (dn h)) _)
      · exact (fun h => upl (g2 (up h rfl)))
      · exact (fun h => ⟨upl (g3 (up h rfl)).1, upl (g3 (up h rfl)).2⟩)
      · exact (fun h => upl (g4 (up h rfl)))
    · unfold StepOk
      rintro d act x ⟨u5, u6, u7, u8, u9, u10, u11, u12, u13, u14, u15, u16, rfl, f0, f1, f2, f3, f4, f5, f6, f7, f8, f9, f10, f11, f12, g0, g1, g2, g3, g4⟩ hd hdep Kc hKc
      rw [if_pos (by rfl)]
      go_big_op
      refine hKc _ _ ⟨_, _, _, _, _, _, _, _, _, _, _, _, rfl, ?_, ?_, ?_, ?_, ?_, ?_, ?_, ?_, ?_, ?_, ?_, ?_, ?_, ?_, ?_, ?_, ?_, ?_⟩
      · exact (fun h => f0 (up h rfl))
      · exact (fun h h5 => f1 (up h rfl) (dn h5))
      · exact (fun _ => rfl)
      · exact (fun h => f3 (up h rfl))
      · exact (fun h => f4 (up h rfl))
      · exact (fun h => f5 (up h rfl))
      · exact (fun h h5 => f6 (up h rfl) (dn h5))
      · exact (fun h => f7 (up h rfl))
      · exact (fun h h5 => f8 (up h rfl) (dn h5))
      · exact (fun h => f9 (up h rfl))
      · exact (fun h => f10 (up h rfl))
      · exact (fun h => f11 (up h rfl))
      · exact (fun h => f12 (up h rfl))
      · exact g0
      · exact (fun h => g1 (dn h))
      · exact (fun h => upl (g2 (up h rfl)))
      · exact (fun h => ⟨upl (g3 (up h rfl)).1, upl (g3 (up h rfl)).2⟩)
      · exact (fun h => upl (g4 (up h rfl)))
    · unfold StepOk
      rintro d act x ⟨u5, u6, u7, u8, u9, u10, u11, u12, u13, u14, u15, u16, rfl, f0, f1, f2, f3, f4, f5, f6, f7, f8, f9, f10, f11, f12, g0, g1, g2, g3, g4⟩ hd hdep Kc hKc
      have hd2 : d 2 = true := hdep ⟨2, .data⟩ (by simp) rfl
      obtain rfl := f2 hd2
      rw [if_pos (by rfl)]
      go_big_op
      refine hKc _ _ ⟨_, _, _, _, _, _, _, _, _, _, _, _, rfl, ?_, ?_, ?_, ?_, ?_, ?_, ?_, ?_, ?_, ?_, ?_, ?_, ?_, ?_, ?_, ?_, ?_, ?_⟩
      · exact (fun h => f0 (up h rfl))
      · exact (fun h h5 => f1 (up h rfl) (dn h5))
      · exact (fun h => f2 (up h rfl))
      · exact (fun _ => rfl)
      · exact (fun h => f4 (up h rfl))
      · exact (fun h => f5 (up h rfl))
      · exact (fun h h5 => f6 (up h rfl) (dn h5))
      · exact (fun h => f7 (up h rfl))
      · exact (fun h h5 => f8 (up h rfl) (dn h5))
      · exact (fun h => f9 (up h rfl))
      · exact (fun h => f10 (up h rfl))
      · exact (fun h => f11 (up h rfl))
      · exact (fun h => f12 (up h rfl))
      · exact g0
      · exact (fun h => g1 (dn h))
      · exact (fun h => upl (g2 (up h rfl)))
      · exact (fun h => ⟨upl (g3 (up h rfl)).1, upl (g3 (up h rfl)).2⟩)
      · exact (fun h => upl (g4 (up h rfl)))
    · unfold StepOk
      rintro d act x ⟨u5, u6, u7, u8, u9, u10, u11, u12, u13, u14, u15, u16, rfl, f0, f1, f2, f3, f4, f5, f6, f7, f8, f9, f10, f11, f12, g0, g1, g2, g3, g4⟩ hd hdep Kc hKc
      have hd3 : d 3 = true := hdep ⟨3, .data⟩ (by simp) rfl
      obtain rfl := f3 hd3
      rw [if_pos (by rfl)]
      go_big_op
      refine hKc _ _ ⟨_, _, _, _, _, _, _, _, _, _, _, _, rfl, ?_, ?_, ?_, ?_, ?_, ?_, ?_, ?_, ?_, ?_, ?_, ?_, ?_, ?_, ?_, ?_, ?_, ?_⟩
      · exact (fun h => f0 (up h rfl))
      · exact (fun h h5 => f1 (up h rfl) (dn h5))
      · exact (fun h => f2 (up h rfl))
      · exact (fun h => f3 (up h rfl))
      · exact (fun _ => rfl)
      · exact (fun h => f5 (up h rfl))
      · exact (fun h h5 => f6 (up h rfl) (dn h5))
      · exact (fun h => f7 (up h rfl))
      · exact (fun h h5 => f8 (up h rfl) (dn h5))
      · exact (fun h => f9 (up h rfl))
      · exact (fun h => f10 (up h rfl))
      · exact (fun h => f11 (up h rfl))
      · exact (fun h => f12 (up h rfl))
      · exact g0
      · exact (fun h => g1 (dn h))
      · exact (fun h => upl (g2 (up h rfl)))
      · exact (fun h => ⟨upl (g3 (up h rfl)).1, upl (g3 (up h rfl)).2⟩)
      · exact (fun h => upl (g4 (up h rfl)))
    · unfold StepOk
      rintro d act x ⟨u5, u6, u7, u8, u9, u10, u11, u12, u13, u14, u15, u16, rfl, f0, f1, f2, f3, f4, f5, f6, f7, f8, f9, f10, f11, f12, g0, g1, g2, g3, g4⟩ hd hdep Kc hKc
      have hd4 : d 4 = true := hdep ⟨4, .data⟩ (by simp) rfl
      obtain rfl := f4 hd4
      have h12 : d 12 = false := by
        cases h : d 12 with
        | false => rfl
        | true => have := (g3 (g2 h)).2; rw [hd] at this; cases this
      have hx := blk_cell (g1 h12)
      rw [if_pos (by rfl)]
      go_big_op
      refine hKc _ _ ⟨_, _, _, _, _, _, _, _, _, _, _, _, rfl, ?_, ?_, ?_, ?_, ?_, ?_, ?_, ?_, ?_, ?_, ?_, ?_, ?_, ?_, ?_, ?_, ?_, ?_⟩
      · exact (fun h => f0 (up h rfl))
      · exact (fun h h5 => f1 (up h rfl) (dn h5))
      · exact (fun h => f2 (up h rfl))
      · exact (fun h => f3 (up h rfl))
      · exact (fun h => f4 (up h rfl))
      · exact (fun _ => rfl)
      · exact (fun h h5 => f6 (up h rfl) (dn h5))
      · exact (fun h => f7 (up h rfl))
      · exact (fun h h5 => f8 (up h rfl) (dn h5))
      · exact (fun h => f9 (up h rfl))
      · exact (fun h => f10 (up h rfl))
      · exact (fun h => f11 (up h rfl))
      · exact (fun h => f12 (up h rfl))
      · exact g0
      · exact (fun h => g1 (dn h))
      · exact (fun h => upl (g2 (up h rfl)))
      · exact (fun h => ⟨upl (g3 (up h rfl)).1, upl (g3 (up h rfl)).2⟩)
      · exact (fun h => upl (g4 (up h rfl)))
    · unfold StepOk
      rintro d act x ⟨u5, u6, u7, u8, u9, u10, u11, u12, u13, u14, u15, u16, rfl, f0, f1, f2, f3, f4, f5, f6, f7, f8, f9, f10, f11, f12, g0, g1, g2, g3, g4⟩ hd hdep Kc hKc
      have hd5 : d 5 = true := hdep ⟨5, .data⟩ (by simp) rfl
      obtain rfl := f5 hd5
      have hd1 : d 1 = true := hdep ⟨1, .data⟩ (by simp) rfl
      have h9 : d 9 = false := by
        cases h : d 9 with
        | false => rfl
        | true => have := (g3 h).1; rw [hd] at this; cases this
      have h12 : d 12 = false := by
        cases h : d 12 with
        | false => rfl
        | true => have := g2 h; rw [h9] at this; cases this
      obtain ⟨b1, rfl, hb1, hge1⟩ := f1 hd1 hd
      have f6o := own_emptyR hb1 hge1
      have g0lt : rb < x.heap.size := by have := g0.size; omega
      rw [if_pos (by rfl)]
      refine wp_append_own _ _ _ 73 rfl (w1.heap.size) 30 i0 (.agg #[.string ⟨#[]⟩, .string ⟨#[]⟩]) 2 32 Try.underlying73 hi hz0 hz1 hz2 rfl (by decide) _ _ _ rfl f6o ⟨b, o, none⟩ ks.length cap (kf ks) rfl HL.out ?c1 ?c2 ?c3 ?c4 ?c5 ?_
      case c1 => exact fun j u hj => (HKs.out.keep (fun b' o' e p v hc => (Bar.of D1 |>.trans g0).cell (by cases e; exact hne) hc)).cells j u hj
      case c2 => exact kf_one _
      case c3 => unfold maxLen; omega
      case c4 => omega
      case c5 => exact g0.size
      intro v' x1 hown' hgrow _
      have hbar5 : Bar rb w1 x1 := ⟨hgrow.os.trans g0.os, hgrow.tape.trans g0.tape, hgrow.output.trans g0.output, Nat.le_trans g0.size hgrow.size, fun q hq hl => (hgrow.block q (Nat.lt_of_lt_of_le hl g0.size) (fun e => absurd (own_ge f6o e.symm) (by omega))).trans (g0.block q hq hl)⟩
      refine hKc _ _ ⟨_, _, _, _, _, _, _, _, _, _, _, _, rfl, ?_, ?_, ?_, ?_, ?_, ?_, ?_, ?_, ?_, ?_, ?_, ?_, ?_, ?_, ?_, ?_, ?_, ?_⟩
      · exact (fun h => f0 (up h rfl))
      · exact (fun h h5 => by simp at h5)
      · exact (fun h => f2 (up h rfl))
      · exact (fun h => f3 (up h rfl))
      · exact (fun h => f4 (up h rfl))
      · exact (fun h => f5 (up h rfl))
      · exact (fun _ => (fun h5 => by simpa [kf_nil] using hown'))
      · exact (fun h => f7 (up h rfl))
      · exact (fun h h5 => by obtain ⟨b, e1, e2⟩ := f8 (up h rfl) (dn h5); exact ⟨b, e1, (hgrow.block b (blk_lt e2) (by show some b ≠ some b1; simpa using blk_ne e2 hb1)).trans e2⟩)
      · exact (fun h => by have := up h rfl; rw [h9] at this; cases this)
      · exact (fun h => f10 (up h rfl))
      · exact (fun h => f11 (up h rfl))
      · exact (fun h => by have := up h rfl; rw [h12] at this; cases this)
      · exact hbar5
      · exact (fun h => (hgrow.block rb g0lt (own_neR f6o (g1 (dn h)) (by decide))).trans (g1 (dn h)))
      · exact (fun h => upl (g2 (up h rfl)))
      · exact (fun h => ⟨by simp, upl (g3 (up h rfl)).2⟩)
      · exact (fun h => upl hd5)
    · unfold StepOk
      rintro d act x ⟨u5, u6, u7, u8, u9, u10, u11, u12, u13, u14, u15, u16, rfl, f0, f1, f2, f3, f4, f5, f6, f7, f8, f9, f10, f11, f12, g0, g1, g2, g3, g4⟩ hd hdep Kc hKc
      have hx := blk_cell (g0.blk (by omega) A1.out)
      rw [if_pos (by rfl)]
      go_big_op
      refine hKc _ _ ⟨_, _, _, _, _, _, _, _, _, _, _, _, rfl, ?_, ?_, ?_, ?_, ?_, ?_, ?_, ?_, ?_, ?_, ?_, ?_, ?_, ?_, ?_, ?_, ?_, ?_⟩
      · exact (fun h => f0 (up h rfl))
      · exact (fun h h5 => f1 (up h rfl) (dn h5))
      · exact (fun h => f2 (up h rfl))
      · exact (fun h => f3 (up h rfl))
      · exact (fun h => f4 (up h rfl))
      · exact (fun h => f5 (up h rfl))
      · exact (fun h h5 => f6 (up h rfl) (dn h5))
      · exact (fun _ => rfl)
      · exact (fun h h5 => f8 (up h rfl) (dn h5))
      · exact (fun h => f9 (up h rfl))
      · exact (fun h => f10 (up h rfl))
      · exact (fun h => f11 (up h rfl))
      · exact (fun h => f12 (up h rfl))
      · exact g0
      · exact (fun h => g1 (dn h))
      · exact (fun h => upl (g2 (up h rfl)))
      · exact (fun h => ⟨upl (g3 (up h rfl)).1, upl (g3 (up h rfl)).2⟩)
      · exact (fun h => upl (g4 (up h rfl)))
    · unfold StepOk
      rintro d act x ⟨u5, u6, u7, u8, u9, u10, u11, u12, u13, u14, u15, u16, rfl, f0, f1, f2, f3, f4, f5, f6, f7, f8, f9, f10, f11, f12, g0, g1, g2, g3, g4⟩ hd hdep Kc hKc
      have hd7 : d 7 = true := hdep ⟨7, .data⟩ (by simp) rfl
      obtain rfl := f7 hd7
      rw [if_pos (by rfl)]
      go_big_op
      refine hKc _ _ ⟨_, _, _, _, _, _, _, _, _, _, _, _, rfl, ?_, ?_, ?_, ?_, ?_, ?_, ?_, ?_, ?_, ?_, ?_, ?_, ?_, ?_, ?_, ?_, ?_, ?_⟩
      · exact (fun h => f0 (up h rfl))
      · exact (fun h h5 => by obtain ⟨b1, e1, e2, e3⟩ := f1 (up h rfl) (dn h5); exact ⟨b1, e1, blk_alloc e2 _, e3⟩)
      · exact (fun h => f2 (up h rfl))
      · exact (fun h => f3 (up h rfl))
      · exact (fun h => f4 (up h rfl))
      · exact (fun h => f5 (up h rfl))
      · exact (fun h h5 => (f6 (up h rfl) (dn h5)).alloc _)
      · exact (fun h => f7 (up h rfl))
      · exact (fun _ => (fun h5 => ⟨_, rfl, blk_new _ _ _⟩))
      · exact (fun h => (f9 (up h rfl)).alloc _)
      · exact (fun h => f10 (up h rfl))
      · exact (fun h => f11 (up h rfl))
      · exact (fun h => blk_alloc (f12 (up h rfl)) _)
      · exact (g0.trans (Bar.of ((Below.refl _ _).alloc (Nat.le_refl _) _)))
      · exact (fun h => blk_alloc (g1 (dn h)) _)
      · exact (fun h => upl (g2 (up h rfl)))
      · exact (fun h => ⟨upl (g3 (up h rfl)).1, upl (g3 (up h rfl)).2⟩)
      · exact (fun h => upl (g4 (up h rfl)))
    · unfold StepOk
      rintro d act x ⟨u5, u6, u7, u8, u9, u10, u11, u12, u13, u14, u15, u16, rfl, f0, f1, f2, f3, f4, f5, f6, f7, f8, f9, f10, f11, f12, g0, g1, g2, g3, g4⟩ hd hdep Kc hKc
      have hd6 : d 6 = true := hdep ⟨6, .data⟩ (by simp) rfl
      have hd8 : d 8 = true := hdep ⟨8, .data⟩ (by simp) rfl
      have hd5 := g4 hd6
      have f6' := f6 hd6 hd
      obtain ⟨b4, rfl, hb4⟩ := f8 hd8 hd
      have h12 : d 12 = false := by
        cases h : d 12 with
        | false => rfl
        | true => have := g2 h; rw [hd] at this; cases this
      have g0lt : rb < x.heap.size := by have := g0.size; omega
      rw [if_pos (by rfl)]
      refine wp_append_own _ _ _ 73 rfl (w1.heap.size) 30 i0 (.agg #[.string ⟨#[]⟩, .string ⟨#[]⟩]) 2 32 Try.underlying73 hi hz0 hz1 hz2 rfl (by decide) _ _ _ rfl f6' ⟨b4, 0, none⟩ 1 1 [.string k.1, .string k.2] rfl rfl ?c1 ?c2 ?c3 ?c4 ?c5 ?_
      case c1 =>
        intro j' u hj'
        match j', hj' with
        | 0, hj' => simp at hj'; subst hj'; simpa [Addr.add] using blk_cell hb4 0
        | 1, hj' => simp at hj'; subst hj'; simpa [Addr.add] using blk_cell hb4 1
      case c2 => intro u hu; simp at hu; rcases hu with rfl | rfl <;> rfl
      case c3 => unfold maxLen; omega
      case c4 => omega
      case c5 => exact g0.size
      intro v' x1 hown' hgrow _
      have hbar5 : Bar rb w1 x1 := ⟨hgrow.os.trans g0.os, hgrow.tape.trans g0.tape, hgrow.output.trans g0.output, Nat.le_trans g0.size hgrow.size, fun q hq hl => (hgrow.block q (Nat.lt_of_lt_of_le hl g0.size) (fun e => absurd (own_ge f6' e.symm) (by omega))).trans (g0.block q hq hl)⟩
      refine hKc _ _ ⟨_, _, _, _, _, _, _, _, _, _, _, _, rfl, ?_, ?_, ?_, ?_, ?_, ?_, ?_, ?_, ?_, ?_, ?_, ?_, ?_, ?_, ?_, ?_, ?_, ?_⟩
      · exact (fun h => f0 (up h rfl))
      · exact (fun h h5 => by have := dn h5; rw [hd6] at this; cases this)
      · exact (fun h => f2 (up h rfl))
      · exact (fun h => f3 (up h rfl))
      · exact (fun h => f4 (up h rfl))
      · exact (fun h => f5 (up h rfl))
      · exact (fun h h5 => by simp at h5)
      · exact (fun h => f7 (up h rfl))
      · exact (fun h h5 => by simp at h5)
      · exact (fun _ => (by rw [kf_snoc]; exact hown'))
      · exact (fun h => f10 (up h rfl))
      · exact (fun h => f11 (up h rfl))
      · exact (fun h => by have := up h rfl; rw [h12] at this; cases this)
      · exact hbar5
      · exact (fun h => (hgrow.block rb g0lt (own_neR f6' (g1 (dn h)) (by decide))).trans (g1 (dn h)))
      · exact (fun h => by simp)
      · exact (fun h => ⟨upl hd6, upl hd5⟩)
      · exact (fun h => upl (g4 (up h rfl)))
    · unfold StepOk
      rintro d act x ⟨u5, u6, u7, u8, u9, u10, u11, u12, u13, u14, u15, u16, rfl, f0, f1, f2, f3, f4, f5, f6, f7, f8, f9, f10, f11, f12, g0, g1, g2, g3, g4⟩ hd hdep Kc hKc
      have hd0 : d 0 = true := hdep ⟨0, .data⟩ (by simp) rfl
      have hd0 : d 0 = true := hdep ⟨0, .phase⟩ (by simp) rfl
      obtain rfl := f0 hd0
      rw [if_pos (by rfl)]
      go_big_op
      refine hKc _ _ ⟨_, _, _, _, _, _, _, _, _, _, _, _, rfl, ?_, ?_, ?_, ?_, ?_, ?_, ?_, ?_, ?_, ?_, ?_, ?_, ?_, ?_, ?_, ?_, ?_, ?_⟩
      · exact (fun h => f0 (up h rfl))
      · exact (fun h h5 => f1 (up h rfl) (dn h5))
      · exact (fun h => f2 (up h rfl))
      · exact (fun h => f3 (up h rfl))
      · exact (fun h => f4 (up h rfl))
      · exact (fun h => f5 (up h rfl))
      · exact (fun h h5 => f6 (up h rfl) (dn h5))
      · exact (fun h => f7 (up h rfl))
      · exact (fun h h5 => f8 (up h rfl) (dn h5))
      · exact (fun h => f9 (up h rfl))
      · exact (fun _ => rfl)
      · exact (fun h => f11 (up h rfl))
      · exact (fun h => f12 (up h rfl))
      · exact g0
      · exact (fun h => g1 (dn h))
      · exact (fun h => upl (g2 (up h rfl)))
      · exact (fun h => ⟨upl (g3 (up h rfl)).1, upl (g3 (up h rfl)).2⟩)
      · exact (fun h => upl (g4 (up h rfl)))
    · unfold StepOk
      rintro d act x ⟨u5, u6, u7, u8, u9, u10, u11, u12, u13, u14, u15, u16, rfl, f0, f1, f2, f3, f4, f5, f6, f7, f8, f9, f10, f11, f12, g0, g1, g2, g3, g4⟩ hd hdep Kc hKc
      have hd10 : d 10 = true := hdep ⟨10, .data⟩ (by simp) rfl
      obtain rfl := f10 hd10
      rw [if_pos (by rfl)]
      go_big_op
      refine hKc _ _ ⟨_, _, _, _, _, _, _, _, _, _, _, _, rfl, ?_, ?_, ?_, ?_, ?_, ?_, ?_, ?_, ?_, ?_, ?_, ?_, ?_, ?_, ?_, ?_, ?_, ?_⟩
      · exact (fun h => f0 (up h rfl))
      · exact (fun h h5 => f1 (up h rfl) (dn h5))
      · exact (fun h => f2 (up h rfl))
      · exact (fun h => f3 (up h rfl))
      · exact (fun h => f4 (up h rfl))
      · exact (fun h => f5 (up h rfl))
      · exact (fun h h5 => f6 (up h rfl) (dn h5))
      · exact (fun h => f7 (up h rfl))
      · exact (fun h h5 => f8 (up h rfl) (dn h5))
      · exact (fun h => f9 (up h rfl))
      · exact (fun h => f10 (up h rfl))
      · exact (fun _ => rfl)
      · exact (fun h => f12 (up h rfl))
      · exact g0
      · exact (fun h => g1 (dn h))
      · exact (fun h => upl (g2 (up h rfl)))
      · exact (fun h => ⟨upl (g3 (up h rfl)).1, upl (g3 (up h rfl)).2⟩)
      · exact (fun h => upl (g4 (up h rfl)))
    · unfold StepOk
      rintro d act x ⟨u5, u6, u7, u8, u9, u10, u11, u12, u13, u14, u15, u16, rfl, f0, f1, f2, f3, f4, f5, f6, f7, f8, f9, f10, f11, f12, g0, g1, g2, g3, g4⟩ hd hdep Kc hKc
      have hd11 : d 11 = true := hdep ⟨11, .data⟩ (by simp) rfl
      have hd9 : d 9 = true := hdep ⟨9, .data⟩ (by simp) rfl
      have hd9 : d 9 = true := hdep ⟨9, .chain⟩ (by simp) rfl
      have hd9 : d 9 = true := hdep ⟨9, .phase⟩ (by simp) rfl
      obtain rfl := f11 hd11
      obtain f9' := f9 hd9
      have f9' := f9 hd9
      have hd6 := (g3 hd9).1
      obtain ⟨aa, cc, e24, -, -, -, -, -⟩ := own_readR f9'
      obtain ⟨N, hN⟩ : ∃ N, (ks ++ [k]).length = N := ⟨_, rfl⟩
      rw [hN] at e24
      clear hN
      subst e24
      have hbc := blk_cell (g1 hd)
      have hbf := blk_free (g1 hd)
      have hbl2 := blk_lt (g1 hd)
      rw [if_pos (by rfl)]
      go_big_op
      have hkp : Kept rb x (x.setCell ⟨rb, 0, none⟩ (.slice aa N cc)) := (Kept.refl _ _).setCell _ _
      have RB : (x.setCell ⟨rb, 0, none⟩ (.slice aa N cc)).heap[rb]? = some (.cells #[.slice aa N cc] 75 (0, 0)) := by
        have h1 := g1 hd
        repeat (first | (with_reducible assumption) | (with_reducible refine blk_new_at ?_ _ _; first | (with_reducible rfl) | (simp; done)) | (with_reducible refine blk_alloc ?_ _) | (with_reducible refine blk_drew ?_) | (with_reducible apply blk_set) | (show Array.setIfInBounds _ _ _ = _; first | (simp; done) | (simp; rfl)) | (with_reducible refine blk_set_other ?_ ?_; omega))
      have F5 : (x.setCell ⟨rb, 0, none⟩ (.slice aa N cc)).ownsRow w1.heap.size 30 2 (.slice aa N cc) (ks.length + 1) (kf (ks ++ [k])) := ownsRow_keptR f9' hkp (by omega)
      generalize (x.setCell ⟨rb, 0, none⟩ (.slice aa N cc)) = X at *
      refine hKc _ _ ⟨_, _, _, _, _, _, _, _, _, _, _, _, rfl, ?_, ?_, ?_, ?_, ?_, ?_, ?_, ?_, ?_, ?_, ?_, ?_, ?_, ?_, ?_, ?_, ?_, ?_⟩
      · exact (fun h => f0 (up h rfl))
      · exact (fun h h5 => by have := dn h5; rw [hd6] at this; cases this)
      · exact (fun h => f2 (up h rfl))
      · exact (fun h => f3 (up h rfl))
      · exact (fun h => f4 (up h rfl))
      · exact (fun h => f5 (up h rfl))
      · exact (fun h h5 => by have := dn h5; rw [hd9] at this; cases this)
      · exact (fun h => f7 (up h rfl))
      · exact (fun h h5 => by have := dn h5; rw [hd9] at this; cases this)
      · exact (fun h => F5)
      · exact (fun h => f10 (up h rfl))
      · exact (fun h => f11 (up h rfl))
      · exact (fun _ => RB)
      · exact (g0.trans (Bar.kept hkp))
      · exact (fun h => by simp at h)
      · exact (fun h => upl hd9)
      · exact (fun h => ⟨upl (g3 (up h rfl)).1, upl (g3 (up h rfl)).2⟩)
      · exact (fun h => upl (g4 (up h rfl)))
  · rintro d act x ⟨u5, u6, u7, u8, u9, u10, u11, u12, u13, u14, u15, u16, rfl, f0, f1, f2, f3, f4, f5, f6, f7, f8, f9, f10, f11, f12, g0, g1, g2, g3, g4⟩ hall
    have f5' := f9 (hall 9 (by decide))
    have f8' := f12 (hall 12 (by decide))
    obtain ⟨aa, cc, e24, -, hcc, hcm, hka, hob⟩ := own_readR f5'
    have hge : ∀ b o, aa = some ⟨b, o, none⟩ → b ≠ rb := fun b o e => by have := own_ge f5' (hob b o e); omega
    obtain ⟨N, hN⟩ : ∃ N, (ks ++ [k]).length = N := ⟨_, rfl⟩
    rw [hN] at e24
    subst e24
    have HN := Lib.hid hN
    have HK := Lib.hid hka
    have HE := Lib.hid hge
    have HKB := Lib.hid (show KBl x aa from fun b o e => own_kb f5' (hob b o e))
    have HB := Lib.hid f8'
    have G0 := Lib.hid g0
    have HC := Lib.hid hcc
    have hbc := blk_cell f8'
    have hbl := blk_lt f8'
    clear f0 f1 f2 f3 f4 f5 f6 f7 f8 f9 f10 f11 f12 g0 g1 g2 g3 g4 hall f5' f8' hob hge hka hN hcc
    go_wp2
    go_ret
    have hb9 := HB.out
    have hl9 := HN.out
    rw [← hl9] at hb9
    exact ⟨by rw [← hl9]; first | rfl | simp, ⟨aa, cc, hb9, HC.out, hcm, HK.out, HE.out, fun h => by simp at h, HKB.out⟩, (Bar.of D1).trans G0.out⟩

theorem refAdd (rb : Nat) (ks : List KyR) (k : KyR) (w : World) (h : RefAt w rb ks) (hl : ks.length ≤ 1000) :
    Calls Try.prog 73 #[.pointer (some ⟨rb, 0, none⟩), .agg #[.string k.1, .string k.2]] w (RefAdded rb (ks ++ [k]) w) := by
  obtain ⟨a, cap, h1, h2, h3, h4, h5, h6, -⟩ := h
  by_cases h0 : ks = []
  · obtain ⟨rfl, rfl⟩ := h6 h0
    subst h0
    exact refAdd_nil rb k w h1
  · have h4' := h4
    rcases h4' with h | ⟨b, o, rfl, _⟩
    · exact absurd h h0
    · exact refAdd_some b o cap ks rb k w h1 h4 (h5 b o rfl) hl

end Go.Proofs.Ytloeabdohgdmkaa
