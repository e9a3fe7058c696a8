/- A row of changes inside a desk. -/
import Derived.Test.YtloeabdohgdmkaaBmZ
namespace Go.Proofs.Ytloeabdohgdmkaa
open Go.RowKit
set_option linter.unusedVariables false

/-- the keys' row lies in a block of keys -/
def KBl (w : World) (a : Option Addr) : Prop := ∀ b o, a = some ⟨b, o, none⟩ → ∃ cs, w.heap[b]? = some (.cells cs 30 (0, 0))
theorem KBl.ext {w w' : World} {a : Option Addr} (h : KBl w a) (hb : Below w.heap.size w w') : KBl w' a := fun b o e => by
  obtain ⟨cs, h1⟩ := h b o e
  exact ⟨cs, blk_ext hb h1⟩
theorem own_kb {w : World} {base size n b : Nat} {e : TypeId} {v : Value} {xs : List Value} (h : w.ownsRow base e size v n xs) (hk : v.ownBlock = some b) : ∃ cs, w.heap[b]? = some (.cells cs e (0, 0)) := by
  rcases h.2 with ⟨rfl, _⟩ | ⟨g, cap, cur, rfl, _, hh, _⟩
  · simp [Value.ownBlock] at hk
  · simp [Value.ownBlock] at hk
    subst hk
    exact ⟨cur, hh⟩
structure DkQ where
  v0 : Value
  v1 : Value
  v2 : Value
  v3 : Value
  v4 : Value
  v5 : Value
  v6 : Value
  v7 : Value
  v8 : Value
/-- at block rb a Row lies: its number, its keys -/
def RecAtD (Dq : DkQ) (w : World) (rb : Nat) (seq : Nat) (ks : List KyR) : Prop := ∃ (a : Option Addr) (cap : Nat), w.heap[rb]? = some (.cells #[Dq.v0, Dq.v1, Dq.v2, Dq.v3, Dq.v4, Dq.v5, Dq.v6, Dq.v7, Dq.v8, .int .i64 seq, .slice a ks.length cap] 92 (0, 0)) ∧ ks.length ≤ cap ∧ cap ≤ maxLen ∧ KAt w a ks ∧ (∀ b o, a = some ⟨b, o, none⟩ → b ≠ rb) ∧ (ks = [] → a = none ∧ cap = 0) ∧ KBl w a
theorem RecAtD.lt {Dq : DkQ} {w : World} {rb seq : Nat} {ks : List KyR} (h : RecAtD Dq w rb seq ks) : rb < w.heap.size := by
  obtain ⟨a, cap, h1, _⟩ := h; exact blk_lt h1
theorem RecAtD.ext {Dq : DkQ} {w w' : World} {rb seq : Nat} {ks : List KyR} (h : RecAtD Dq w rb seq ks) (hb : Below w.heap.size w w') : RecAtD Dq w' rb seq ks := by
  obtain ⟨a, cap, h1, h2, h3, h4, h5, h6, h7⟩ := h
  exact ⟨a, cap, blk_ext hb h1, h2, h3, h4.ext hb, h5, h6, h7.ext hb⟩
set_option maxHeartbeats 400000 in
theorem recentSeqD (Dq : DkQ) (rb seq : Nat) (ks : List KyR) (w : World) (h : RecAtD Dq w rb seq ks) :
    Calls Try.prog 18 #[.pointer (some ⟨rb, 9, none⟩)] w fun e w' => e = .returned (.int .i64 seq) ∧ w = w' := by
  obtain ⟨a, cap, h1, _⟩ := h
  have hc := blk_cell h1
  have hl := blk_lt h1
  clear h1
  go_enter Try.func18, Try.ntmps18
  go_wp2
  go_ret
  exact ⟨rfl, rfl⟩
def AddedD (Dq : DkQ) (rb seq : Nat) (ks : List KyR) (w : World) (e : Ending) (w' : World) : Prop := e = .returned (.int .i64 (seq + 1 : Nat)) ∧ RecAtD Dq w' rb (seq + 1) ks ∧ Bar rb w w'
set_option maxRecDepth 100000 in
set_option maxHeartbeats 4000000 in
theorem recentAdd_nilD (Dq : DkQ)  (rb seq : Nat) (k : KyR) (w : World) (hb0 : w.heap[rb]? = some (.cells #[Dq.v0, Dq.v1, Dq.v2, Dq.v3, Dq.v4, Dq.v5, Dq.v6, Dq.v7, Dq.v8, .int .i64 seq, .slice none 0 0] 92 (0, 0))) (hq : seq ≤ 1000000) :
    Calls Try.prog 58 #[.pointer (some ⟨rb, 9, none⟩), .agg #[.string k.1, .string k.2]] w (AddedD Dq rb seq (([] : List KyR) ++ [k]) w) := by
  have hlt := blk_lt hb0
  have H0 := Lib.hid (blk_alloc hb0 (.cells #[.string k.1, .string k.2] 30))
  have A0 : (w.alloc (.cells #[.string k.1, .string k.2] 30)).heap[w.heap.size]? = some (.cells #[.string k.1, .string k.2] 30 (0, 0)) := blk_new _ _ _
  have D0 : Below w.heap.size w (w.alloc (.cells #[.string k.1, .string k.2] 30)) := (Below.refl _ _).alloc (Nat.le_refl _) _
  have HA := Lib.hid A0
  obtain ⟨i0, hi, hz0, hz1, hz2⟩ := info_partsR info_key
  clear A0 hb0
  go_enter Try.func58, Try.ntmps58
  go_wp2_with fail
  generalize (w.alloc (.cells #[.string k.1, .string k.2] 30)) = w0 at *
  haveI hIq : Nonempty (Of w0) := of_some _
  have hF0 := blk_of H0.out
  refine wp_region_stay w0 (by kernel_rfl) (by kernel_rfl) (by go_grown) ?_
  repeat (go_big_quiet_step (fail))
  refine wpQuiet_nil ?_
  intro w1 hb
  have H1 := Lib.hid (blk_ext hb H0.out)
  have A1 := Lib.hid (blk_ext hb HA.out)
  have D1 := ext_trans D0 hb
  have hz := D1.size
  have hal := blk_lt A1.out
  clear hIq hF0 H0 HA hb
  go_upto_region 2 with fail
  refine wp_region_inv_eq (J := fun A d act x => ∃ u19 u20 u21 u22 u23 u24 u25 u26 : Value, act = ((((((((A.put (some 19) u19).put (some 20) u20).put (some 21) u21).put (some 22) u22).put (some 23) u23).put (some 24) u24).put (some 25) u25).put (some 26) u26) ∧ (d 0 = true → u19 = .pointer (some ⟨rb, 9, none⟩)) ∧ (d 1 = true → u20 = .slice none 0 0) ∧ (d 2 = true → (d 5 = false → x.ownsRow w1.heap.size 30 2 u21 0 (kf ([] : List KyR)))) ∧ (d 3 = true → u22 = .agg #[.string k.1, .string k.2]) ∧ (d 4 = true → (d 5 = false → ∃ b : Nat, u23 = .slice (some ⟨b, 0, none⟩) 1 1 ∧ x.heap[b]? = some (.cells #[.string k.1, .string k.2] 30 (0, 0)))) ∧ (d 5 = true → x.ownsRow w1.heap.size 30 2 u24 (0 + 1) (kf (([] : List KyR) ++ [k]))) ∧ (d 6 = true → u25 = .pointer (some ⟨rb, 9, none⟩)) ∧ (d 7 = true → u26 = .pointer (some ⟨rb, 10, none⟩)) ∧ (d 8 = true → x.heap[rb]? = some (.cells #[Dq.v0, Dq.v1, Dq.v2, Dq.v3, Dq.v4, Dq.v5, Dq.v6, Dq.v7, Dq.v8, .int .i64 seq, u24] 92 (0, 0))) ∧ Bar rb w1 x ∧ (d 8 = false → x.heap[rb]? = some (.cells #[Dq.v0, Dq.v1, Dq.v2, Dq.v3, Dq.v4, Dq.v5, Dq.v6, Dq.v7, Dq.v8, .int .i64 seq, .slice none 0 0] 92 (0, 0))) ∧ (d 8 = true → d 5 = true)) (by simp only [Act.put, List.setIfInBounds_toArray, List.set_cons_succ, List.set_cons_zero]; rfl) (by kernel_rfl) (by kernel_rfl) ?_ ?_ ?_
  · refine ⟨_, _, _, _, _, _, _, _, rfl, ?_, ?_, ?_, ?_, ?_, ?_, ?_, ?_, ?_, ?_, ?_, ?_⟩
    · intro h; cases h
    · intro h; cases h
    · intro h; cases h
    · intro h; cases h
    · intro h; cases h
    · intro h; cases h
    · intro h; cases h
    · intro h; cases h
    · intro h; cases h
    · exact Bar.of ((Below.refl _ _).drew)
    · exact (fun _ => blk_drew H1.out)
    · exact (fun h => by cases h)
  · refine stepsOk_cons (k := 0) ?_ (stepsOk_cons (k := 1) ?_ (stepsOk_cons (k := 2) ?_ (stepsOk_cons (k := 3) ?_ (stepsOk_cons (k := 4) ?_ (stepsOk_cons (k := 5) ?_ (stepsOk_cons (k := 6) ?_ (stepsOk_cons (k := 7) ?_ (stepsOk_cons (k := 8) ?_ stepsOk_nil))))))))
    · unfold StepOk
      rintro d act x ⟨u19, u20, u21, u22, u23, u24, u25, u26, rfl, f0, f1, f2, f3, f4, f5, f6, f7, f8, g0, g1, g2⟩ hd hdep Kc hKc
      rw [if_pos (by rfl)]
      go_big_op
      refine hKc _ _ ⟨_, _, _, _, _, _, _, _, rfl, ?_, ?_, ?_, ?_, ?_, ?_, ?_, ?_, ?_, ?_, ?_, ?_⟩
      · exact (fun _ => rfl)
      · exact (fun h => f1 (up h rfl))
      · exact (fun h h5 => f2 (up h rfl) (dn h5))
      · exact (fun h => f3 (up h rfl))
      · exact (fun h h5 => f4 (up h rfl) (dn h5))
      · exact (fun h => f5 (up h rfl))
      · exact (fun h => f6 (up h rfl))
      · exact (fun h => f7 (up h rfl))
      · exact (fun h => f8 (up h rfl))
      · exact g0
      · exact (fun h => g1 (dn h))
      · exact (fun h => upl (g2 (up h rfl)))
    · unfold StepOk
      rintro d act x ⟨u19, u20, u21, u22, u23, u24, u25, u26, rfl, f0, f1, f2, f3, f4, f5, f6, f7, f8, g0, g1, g2⟩ hd hdep Kc hKc
      rw [if_pos (by rfl)]
      go_big_op
      refine hKc _ _ ⟨_, _, _, _, _, _, _, _, rfl, ?_, ?_, ?_, ?_, ?_, ?_, ?_, ?_, ?_, ?_, ?_, ?_⟩
      · exact (fun h => f0 (up h rfl))
      · exact (fun _ => rfl)
      · exact (fun h h5 => f2 (up h rfl) (dn h5))
      · exact (fun h => f3 (up h rfl))
      · exact (fun h h5 => f4 (up h rfl) (dn h5))
      · exact (fun h => f5 (up h rfl))
      · exact (fun h => f6 (up h rfl))
      · exact (fun h => f7 (up h rfl))
      · exact (fun h => f8 (up h rfl))
      · exact g0
      · exact (fun h => g1 (dn h))
      · exact (fun h => upl (g2 (up h rfl)))
    · unfold StepOk
      rintro d act x ⟨u19, u20, u21, u22, u23, u24, u25, u26, rfl, f0, f1, f2, f3, f4, f5, f6, f7, f8, g0, g1, g2⟩ hd hdep Kc hKc
      have hd1 : d 1 = true := hdep ⟨1, .data⟩ (by simp) rfl
      obtain rfl := f1 hd1
      rw [if_pos (by rfl)]
      go_big_op
      refine (keysClone_nil _).mono ?_
      rintro e x1 ⟨cv, rfl, hcv, hbl⟩
      have hcv' := ownsRow_baseR hcv g0.size
      refine hKc _ _ ⟨_, _, _, _, _, _, _, _, rfl, ?_, ?_, ?_, ?_, ?_, ?_, ?_, ?_, ?_, ?_, ?_, ?_⟩
      · exact (fun h => f0 (up h rfl))
      · exact (fun h => f1 (up h rfl))
      · exact (fun _ => (fun h5 => hcv'))
      · exact (fun h => f3 (up h rfl))
      · exact (fun h h5 => by obtain ⟨b, e1, e2⟩ := f4 (up h rfl) (dn h5); exact ⟨b, e1, blk_ext hbl e2⟩)
      · exact (fun h => ownsRow_extR (f5 (up h rfl)) hbl)
      · exact (fun h => f6 (up h rfl))
      · exact (fun h => f7 (up h rfl))
      · exact (fun h => blk_ext hbl (f8 (up h rfl)))
      · exact (g0.trans (Bar.of hbl))
      · exact (fun h => blk_ext hbl (g1 (dn h)))
      · exact (fun h => upl (g2 (up h rfl)))
    · unfold StepOk
      rintro d act x ⟨u19, u20, u21, u22, u23, u24, u25, u26, rfl, f0, f1, f2, f3, f4, f5, f6, f7, f8, g0, g1, g2⟩ hd hdep Kc hKc
      have hx := blk_cell (g0.blk (by omega) A1.out)
      rw [if_pos (by rfl)]
      go_big_op
      refine hKc _ _ ⟨_, _, _, _, _, _, _, _, rfl, ?_, ?_, ?_, ?_, ?_, ?_, ?_, ?_, ?_, ?_, ?_, ?_⟩
      · exact (fun h => f0 (up h rfl))
      · exact (fun h => f1 (up h rfl))
      · exact (fun h h5 => f2 (up h rfl) (dn h5))
      · exact (fun _ => rfl)
      · exact (fun h h5 => f4 (up h rfl) (dn h5))
      · exact (fun h => f5 (up h rfl))
      · exact (fun h => f6 (up h rfl))
      · exact (fun h => f7 (up h rfl))
      · exact (fun h => f8 (up h rfl))
      · exact g0
      · exact (fun h => g1 (dn h))
      · exact (fun h => upl (g2 (up h rfl)))
    · unfold StepOk
      rintro d act x ⟨u19, u20, u21, u22, u23, u24, u25, u26, rfl, f0, f1, f2, f3, f4, f5, f6, f7, f8, g0, g1, g2⟩ hd hdep Kc hKc
      have hd3 : d 3 = true := hdep ⟨3, .data⟩ (by simp) rfl
      obtain rfl := f3 hd3
      rw [if_pos (by rfl)]
      go_big_op
      refine hKc _ _ ⟨_, _, _, _, _, _, _, _, rfl, ?_, ?_, ?_, ?_, ?_, ?_, ?_, ?_, ?_, ?_, ?_, ?_⟩
      · exact (fun h => f0 (up h rfl))
      · exact (fun h => f1 (up h rfl))
      · exact (fun h h5 => (f2 (up h rfl) (dn h5)).alloc _)
      · exact (fun h => f3 (up h rfl))
      · exact (fun _ => (fun h5 => ⟨_, rfl, blk_new _ _ _⟩))
      · exact (fun h => (f5 (up h rfl)).alloc _)
      · exact (fun h => f6 (up h rfl))
      · exact (fun h => f7 (up h rfl))
      · exact (fun h => blk_alloc (f8 (up h rfl)) _)
      · exact (g0.trans (Bar.of ((Below.refl _ _).alloc (Nat.le_refl _) _)))
      · exact (fun h => blk_alloc (g1 (dn h)) _)
      · exact (fun h => upl (g2 (up h rfl)))
    · unfold StepOk
      rintro d act x ⟨u19, u20, u21, u22, u23, u24, u25, u26, rfl, f0, f1, f2, f3, f4, f5, f6, f7, f8, g0, g1, g2⟩ hd hdep Kc hKc
      have hd2 : d 2 = true := hdep ⟨2, .data⟩ (by simp) rfl
      have hd4 : d 4 = true := hdep ⟨4, .data⟩ (by simp) rfl
      have f2' := f2 hd2 hd
      obtain ⟨b4, rfl, hb4⟩ := f4 hd4 hd
      rw [if_pos (by rfl)]
      have g0lt : rb < x.heap.size := by have := g0.size; omega
      refine wp_append_own _ _ _ 73 rfl (w1.heap.size) 30 i0 (.agg #[.string ⟨#[]⟩, .string ⟨#[]⟩]) 2 32 Try.underlying73 hi hz0 hz1 hz2 rfl (by decide) _ _ _ rfl f2' ⟨b4, 0, none⟩ 1 1 [.string k.1, .string k.2] rfl rfl ?c1 ?c2 ?c3 ?c4 ?c5 ?_
      case c1 =>
        intro j' u hj'
        match j', hj' with
        | 0, hj' => simp at hj'; subst hj'; simpa [Addr.add] using blk_cell hb4 0
        | 1, hj' => simp at hj'; subst hj'; simpa [Addr.add] using blk_cell hb4 1
      case c2 => intro u hu; simp at hu; rcases hu with rfl | rfl <;> rfl
      case c3 => unfold maxLen; omega
      case c4 => omega
      case c5 => exact g0.size
      intro v' x1 hown' hgrow _
      have hbar5 : Bar rb w1 x1 := ⟨hgrow.os.trans g0.os, hgrow.tape.trans g0.tape, hgrow.output.trans g0.output, Nat.le_trans g0.size hgrow.size, fun q hq hl => (hgrow.block q (Nat.lt_of_lt_of_le hl g0.size) (fun e => absurd (own_ge f2' e.symm) (by omega))).trans (g0.block q hq hl)⟩
      refine hKc _ _ ⟨_, _, _, _, _, _, _, _, rfl, ?_, ?_, ?_, ?_, ?_, ?_, ?_, ?_, ?_, ?_, ?_, ?_⟩
      · exact (fun h => f0 (up h rfl))
      · exact (fun h => f1 (up h rfl))
      · exact (fun h h5 => by simp at h5)
      · exact (fun h => f3 (up h rfl))
      · exact (fun h h5 => by simp at h5)
      · exact (fun _ => (by rw [kf_snoc]; exact hown'))
      · exact (fun h => f6 (up h rfl))
      · exact (fun h => f7 (up h rfl))
      · exact (fun h => by have := g2 (up h rfl); rw [hd] at this; cases this)
      · exact hbar5
      · exact (fun h => (hgrow.block rb g0lt (own_neR f2' (g1 (dn h)) (by decide))).trans (g1 (dn h)))
      · exact (fun h => by simp)
    · unfold StepOk
      rintro d act x ⟨u19, u20, u21, u22, u23, u24, u25, u26, rfl, f0, f1, f2, f3, f4, f5, f6, f7, f8, g0, g1, g2⟩ hd hdep Kc hKc
      have hd0 : d 0 = true := hdep ⟨0, .data⟩ (by simp) rfl
      have hd0 : d 0 = true := hdep ⟨0, .phase⟩ (by simp) rfl
      obtain rfl := f0 hd0
      rw [if_pos (by rfl)]
      go_big_op
      refine hKc _ _ ⟨_, _, _, _, _, _, _, _, rfl, ?_, ?_, ?_, ?_, ?_, ?_, ?_, ?_, ?_, ?_, ?_, ?_⟩
      · exact (fun h => f0 (up h rfl))
      · exact (fun h => f1 (up h rfl))
      · exact (fun h h5 => f2 (up h rfl) (dn h5))
      · exact (fun h => f3 (up h rfl))
      · exact (fun h h5 => f4 (up h rfl) (dn h5))
      · exact (fun h => f5 (up h rfl))
      · exact (fun _ => rfl)
      · exact (fun h => f7 (up h rfl))
      · exact (fun h => f8 (up h rfl))
      · exact g0
      · exact (fun h => g1 (dn h))
      · exact (fun h => upl (g2 (up h rfl)))
    · unfold StepOk
      rintro d act x ⟨u19, u20, u21, u22, u23, u24, u25, u26, rfl, f0, f1, f2, f3, f4, f5, f6, f7, f8, g0, g1, g2⟩ hd hdep Kc hKc
      have hd6 : d 6 = true := hdep ⟨6, .data⟩ (by simp) rfl
      obtain rfl := f6 hd6
      rw [if_pos (by rfl)]
      go_big_op
      refine hKc _ _ ⟨_, _, _, _, _, _, _, _, rfl, ?_, ?_, ?_, ?_, ?_, ?_, ?_, ?_, ?_, ?_, ?_, ?_⟩
      · exact (fun h => f0 (up h rfl))
      · exact (fun h => f1 (up h rfl))
      · exact (fun h h5 => f2 (up h rfl) (dn h5))
      · exact (fun h => f3 (up h rfl))
      · exact (fun h h5 => f4 (up h rfl) (dn h5))
      · exact (fun h => f5 (up h rfl))
      · exact (fun h => f6 (up h rfl))
      · exact (fun _ => rfl)
      · exact (fun h => f8 (up h rfl))
      · exact g0
      · exact (fun h => g1 (dn h))
      · exact (fun h => upl (g2 (up h rfl)))
    · unfold StepOk
      rintro d act x ⟨u19, u20, u21, u22, u23, u24, u25, u26, rfl, f0, f1, f2, f3, f4, f5, f6, f7, f8, g0, g1, g2⟩ hd hdep Kc hKc
      have hd7 : d 7 = true := hdep ⟨7, .data⟩ (by simp) rfl
      have hd5 : d 5 = true := hdep ⟨5, .data⟩ (by simp) rfl
      have hd5 : d 5 = true := hdep ⟨5, .chain⟩ (by simp) rfl
      have hd5 : d 5 = true := hdep ⟨5, .phase⟩ (by simp) rfl
      obtain rfl := f7 hd7
      obtain f5' := f5 hd5
      have f5' := f5 hd5
      obtain ⟨aa, cc, e24, -, -, -, -, -⟩ := own_readR f5'
      obtain ⟨N, hN⟩ : ∃ N, (([] : List KyR) ++ [k]).length = N := ⟨_, rfl⟩
      rw [hN] at e24
      clear hN
      subst e24
      have hbc := blk_cell (g1 hd)
      have hbf := blk_free (g1 hd)
      have hbl2 := blk_lt (g1 hd)
      rw [if_pos (by rfl)]
      go_big_op
      have hkp : Kept rb x (x.setCell ⟨rb, 10, none⟩ (.slice aa N cc)) := (Kept.refl _ _).setCell _ _
      have RB : (x.setCell ⟨rb, 10, none⟩ (.slice aa N cc)).heap[rb]? = some (.cells #[Dq.v0, Dq.v1, Dq.v2, Dq.v3, Dq.v4, Dq.v5, Dq.v6, Dq.v7, Dq.v8, .int .i64 seq, .slice aa N cc] 92 (0, 0)) := by
        have h1 := g1 hd
        repeat (first | (with_reducible assumption) | (with_reducible refine blk_new_at ?_ _ _; first | (with_reducible rfl) | (simp; done)) | (with_reducible refine blk_alloc ?_ _) | (with_reducible refine blk_drew ?_) | (with_reducible apply blk_set) | (show Array.setIfInBounds _ _ _ = _; first | (simp; done) | (simp; rfl)) | (with_reducible refine blk_set_other ?_ ?_; omega))
      have F5 : (x.setCell ⟨rb, 10, none⟩ (.slice aa N cc)).ownsRow w1.heap.size 30 2 (.slice aa N cc) (0 + 1) (kf (([] : List KyR) ++ [k])) := ownsRow_keptR f5' hkp (by omega)
      generalize (x.setCell ⟨rb, 10, none⟩ (.slice aa N cc)) = X at *
      refine hKc _ _ ⟨_, _, _, _, _, _, _, _, rfl, ?_, ?_, ?_, ?_, ?_, ?_, ?_, ?_, ?_, ?_, ?_, ?_⟩
      · exact (fun h => f0 (up h rfl))
      · exact (fun h => f1 (up h rfl))
      · exact (fun h h5 => by have := dn h5; rw [hd5] at this; cases this)
      · exact (fun h => f3 (up h rfl))
      · exact (fun h h5 => by have := dn h5; rw [hd5] at this; cases this)
      · exact (fun h => F5)
      · exact (fun h => f6 (up h rfl))
      · exact (fun h => f7 (up h rfl))
      · exact (fun _ => RB)
      · exact (g0.trans (Bar.kept hkp))
      · exact (fun h => by simp at h)
      · exact (fun h => upl hd5)
  · rintro d act x ⟨u19, u20, u21, u22, u23, u24, u25, u26, rfl, f0, f1, f2, f3, f4, f5, f6, f7, f8, g0, g1, g2⟩ hall
    have f5' := f5 (hall 5 (by decide))
    have f8' := f8 (hall 8 (by decide))
    obtain ⟨aa, cc, e24, -, hcc, hcm, hka, hob⟩ := own_readR f5'
    have hown := Lib.hid hob
    have hge : ∀ b o, aa = some ⟨b, o, none⟩ → b ≠ rb := fun b o e => by have := own_ge f5' (hob b o e); omega
    have HKB := Lib.hid (show KBl x aa from fun b o e => own_kb f5' (hob b o e))
    obtain ⟨N, hN⟩ : ∃ N, (([] : List KyR) ++ [k]).length = N := ⟨_, rfl⟩
    rw [hN] at e24
    subst e24
    have HN := Lib.hid hN
    have HK := Lib.hid hka
    have HE := Lib.hid hge
    have HB := Lib.hid f8'
    have G0 := Lib.hid g0
    have HC := Lib.hid hcc
    have hbc := blk_cell f8'
    have hbf := blk_free f8'
    have hbl := blk_lt f8'
    clear f0 f1 f2 f3 f4 f5 f6 f7 f8 g0 g1 g2 hall f5' f8' hob hge hka hN hcc
    go_wp2
    go_ret
    have hb9 := HB.out
    have hl9 := HN.out
    refine ⟨by simp, ⟨aa, cc, ?_, HC.out, hcm, HK.out.keep (fun b o e p v hc => ?_), HE.out, (fun h => by simp at h), fun b o e => by obtain ⟨cs, h⟩ := HKB.out b o e; exact ⟨cs, blk_set_other (HE.out b o e) h⟩⟩, (Bar.of D1).trans (G0.out.trans (Bar.kept ((Kept.refl _ _).setCell _ _)))⟩
    · rw [← hl9] at hb9
      refine blk_set hb9 ?_
      simp
    · exact ((Kept.refl rb x).setCell _ _).cell (HE.out b o e) hc
set_option maxRecDepth 100000 in
set_option maxHeartbeats 4000000 in
theorem recentAdd_someD (Dq : DkQ) (b o cap : Nat) (ks : List KyR) (rb seq : Nat) (k : KyR) (w : World) (hb0 : w.heap[rb]? = some (.cells #[Dq.v0, Dq.v1, Dq.v2, Dq.v3, Dq.v4, Dq.v5, Dq.v6, Dq.v7, Dq.v8, .int .i64 seq, .slice (some ⟨b, o, none⟩) ks.length cap] 92 (0, 0))) (hq : seq ≤ 1000000) (hks : KAt w (some ⟨b, o, none⟩) ks) (hne : b ≠ rb) (h1 : 1 ≤ ks.length) (h15 : ks.length ≤ 15) (hcap : ks.length ≤ cap) :
    Calls Try.prog 58 #[.pointer (some ⟨rb, 9, none⟩), .agg #[.string k.1, .string k.2]] w (AddedD Dq rb seq (ks ++ [k]) w) := by
  have hc0 : ¬ cap = 0 := by omega
  have hmx : max (0 : Int) ((ks.length : Int) + 1 - 16) = 0 := by omega
  have HKs := Lib.hid hks
  clear hks
  have hlt := blk_lt hb0
  have H0 := Lib.hid (blk_alloc hb0 (.cells #[.string k.1, .string k.2] 30))
  have A0 : (w.alloc (.cells #[.string k.1, .string k.2] 30)).heap[w.heap.size]? = some (.cells #[.string k.1, .string k.2] 30 (0, 0)) := blk_new _ _ _
  have D0 : Below w.heap.size w (w.alloc (.cells #[.string k.1, .string k.2] 30)) := (Below.refl _ _).alloc (Nat.le_refl _) _
  have HA := Lib.hid A0
  obtain ⟨i0, hi, hz0, hz1, hz2⟩ := info_partsR info_key
  clear A0 hb0
  go_enter Try.func58, Try.ntmps58
  go_wp2_with fail
  generalize (w.alloc (.cells #[.string k.1, .string k.2] 30)) = w0 at *
  haveI hIq : Nonempty (Of w0) := of_some _
  have hF0 := blk_of H0.out
  refine wp_region_stay w0 (by kernel_rfl) (by kernel_rfl) (by go_grown) ?_
  repeat (go_big_quiet_step (fail))
  refine wpQuiet_nil ?_
  intro w1 hb
  have H1 := Lib.hid (blk_ext hb H0.out)
  have A1 := Lib.hid (blk_ext hb HA.out)
  have D1 := ext_trans D0 hb
  have hz := D1.size
  have hal := blk_lt A1.out
  clear hIq hF0 H0 HA hb
  go_upto_region 2 with fail
  refine wp_region_inv_eq (J := fun A d act x => ∃ u19 u20 u21 u22 u23 u24 u25 u26 : Value, act = ((((((((A.put (some 19) u19).put (some 20) u20).put (some 21) u21).put (some 22) u22).put (some 23) u23).put (some 24) u24).put (some 25) u25).put (some 26) u26) ∧ (d 0 = true → u19 = .pointer (some ⟨rb, 9, none⟩)) ∧ (d 1 = true → u20 = .slice (some ⟨b, o, none⟩) ks.length cap) ∧ (d 2 = true → (d 5 = false → x.ownsRow w1.heap.size 30 2 u21 ks.length (kf ks))) ∧ (d 3 = true → u22 = .agg #[.string k.1, .string k.2]) ∧ (d 4 = true → (d 5 = false → ∃ b : Nat, u23 = .slice (some ⟨b, 0, none⟩) 1 1 ∧ x.heap[b]? = some (.cells #[.string k.1, .string k.2] 30 (0, 0)))) ∧ (d 5 = true → x.ownsRow w1.heap.size 30 2 u24 (ks.length + 1) (kf (ks ++ [k]))) ∧ (d 6 = true → u25 = .pointer (some ⟨rb, 9, none⟩)) ∧ (d 7 = true → u26 = .pointer (some ⟨rb, 10, none⟩)) ∧ (d 8 = true → x.heap[rb]? = some (.cells #[Dq.v0, Dq.v1, Dq.v2, Dq.v3, Dq.v4, Dq.v5, Dq.v6, Dq.v7, Dq.v8, .int .i64 seq, u24] 92 (0, 0))) ∧ Bar rb w1 x ∧ (d 8 = false → x.heap[rb]? = some (.cells #[Dq.v0, Dq.v1, Dq.v2, Dq.v3, Dq.v4, Dq.v5, Dq.v6, Dq.v7, Dq.v8, .int .i64 seq, .slice (some ⟨b, o, none⟩) ks.length cap] 92 (0, 0))) ∧ (d 8 = true → d 5 = true)) (by simp only [Act.put, List.setIfInBounds_toArray, List.set_cons_succ, List.set_cons_zero]; rfl) (by kernel_rfl) (by kernel_rfl) ?_ ?_ ?_
  · refine ⟨_, _, _, _, _, _, _, _, rfl, ?_, ?_, ?_, ?_, ?_, ?_, ?_, ?_, ?_, ?_, ?_, ?_⟩
    · intro h; cases h
    · intro h; cases h
    · intro h; cases h
    · intro h; cases h
    · intro h; cases h
    · intro h; cases h
    · intro h; cases h
    · intro h; cases h
    · intro h; cases h
    · exact Bar.of ((Below.refl _ _).drew)
    · exact (fun _ => blk_drew H1.out)
    · exact (fun h => by cases h)
  · refine stepsOk_cons (k := 0) ?_ (stepsOk_cons (k := 1) ?_ (stepsOk_cons (k := 2) ?_ (stepsOk_cons (k := 3) ?_ (stepsOk_cons (k := 4) ?_ (stepsOk_cons (k := 5) ?_ (stepsOk_cons (k := 6) ?_ (stepsOk_cons (k := 7) ?_ (stepsOk_cons (k := 8) ?_ stepsOk_nil))))))))
    · unfold StepOk
      rintro d act x ⟨u19, u20, u21, u22, u23, u24, u25, u26, rfl, f0, f1, f2, f3, f4, f5, f6, f7, f8, g0, g1, g2⟩ hd hdep Kc hKc
      rw [if_pos (by rfl)]
      go_big_op
      refine hKc _ _ ⟨_, _, _, _, _, _, _, _, rfl, ?_, ?_, ?_, ?_, ?_, ?_, ?_, ?_, ?_, ?_, ?_, ?_⟩
      · exact (fun _ => rfl)
      · exact (fun h => f1 (up h rfl))
      · exact (fun h h5 => f2 (up h rfl) (dn h5))
      · exact (fun h => f3 (up h rfl))
      · exact (fun h h5 => f4 (up h rfl) (dn h5))
      · exact (fun h => f5 (up h rfl))
      · exact (fun h => f6 (up h rfl))
      · exact (fun h => f7 (up h rfl))
      · exact (fun h => f8 (up h rfl))
      · exact g0
      · exact (fun h => g1 (dn h))
      · exact (fun h => upl (g2 (up h rfl)))
    · unfold StepOk
      rintro d act x ⟨u19, u20, u21, u22, u23, u24, u25, u26, rfl, f0, f1, f2, f3, f4, f5, f6, f7, f8, g0, g1, g2⟩ hd hdep Kc hKc
      rw [if_pos (by rfl)]
      go_big_op
      refine hKc _ _ ⟨_, _, _, _, _, _, _, _, rfl, ?_, ?_, ?_, ?_, ?_, ?_, ?_, ?_, ?_, ?_, ?_, ?_⟩
      · exact (fun h => f0 (up h rfl))
      · exact (fun _ => rfl)
      · exact (fun h h5 => f2 (up h rfl) (dn h5))
      · exact (fun h => f3 (up h rfl))
      · exact (fun h h5 => f4 (up h rfl) (dn h5))
      · exact (fun h => f5 (up h rfl))
      · exact (fun h => f6 (up h rfl))
      · exact (fun h => f7 (up h rfl))
      · exact (fun h => f8 (up h rfl))
      · exact g0
      · exact (fun h => g1 (dn h))
      · exact (fun h => upl (g2 (up h rfl)))
    · unfold StepOk
      rintro d act x ⟨u19, u20, u21, u22, u23, u24, u25, u26, rfl, f0, f1, f2, f3, f4, f5, f6, f7, f8, g0, g1, g2⟩ hd hdep Kc hKc
      have hd1 : d 1 = true := hdep ⟨1, .data⟩ (by simp) rfl
      obtain rfl := f1 hd1
      rw [if_pos (by rfl)]
      go_big_op
      refine (keysClone_at b o cap _ ks _ ((HKs.out.ext D1).keep (fun b' o' e p v hc => g0.cell (by cases e; exact hne) hc)) rfl (by omega)).mono ?_
      rintro e x1 ⟨cv, rfl, hcv, hbl⟩
      have hcv' := ownsRow_baseR hcv g0.size
      refine hKc _ _ ⟨_, _, _, _, _, _, _, _, rfl, ?_, ?_, ?_, ?_, ?_, ?_, ?_, ?_, ?_, ?_, ?_, ?_⟩
      · exact (fun h => f0 (up h rfl))
      · exact (fun h => f1 (up h rfl))
      · exact (fun _ => (fun h5 => hcv'))
      · exact (fun h => f3 (up h rfl))
      · exact (fun h h5 => by obtain ⟨b, e1, e2⟩ := f4 (up h rfl) (dn h5); exact ⟨b, e1, blk_ext hbl e2⟩)
      · exact (fun h => ownsRow_extR (f5 (up h rfl)) hbl)
      · exact (fun h => f6 (up h rfl))
      · exact (fun h => f7 (up h rfl))
      · exact (fun h => blk_ext hbl (f8 (up h rfl)))
      · exact (g0.trans (Bar.of hbl))
      · exact (fun h => blk_ext hbl (g1 (dn h)))
      · exact (fun h => upl (g2 (up h rfl)))
    · unfold StepOk
      rintro d act x ⟨u19, u20, u21, u22, u23, u24, u25, u26, rfl, f0, f1, f2, f3, f4, f5, f6, f7, f8, g0, g1, g2⟩ hd hdep Kc hKc
      have hx := blk_cell (g0.blk (by omega) A1.out)
      rw [if_pos (by rfl)]
      go_big_op
      refine hKc _ _ ⟨_, _, _, _, _, _, _, _, rfl, ?_, ?_, ?_, ?_, ?_, ?_, ?_, ?_, ?_, ?_, ?_, ?_⟩
      · exact (fun h => f0 (up h rfl))
      · exact (fun h => f1 (up h rfl))
      · exact (fun h h5 => f2 (up h rfl) (dn h5))
      · exact (fun _ => rfl)
      · exact (fun h h5 => f4 (up h rfl) (dn h5))
      · exact (fun h => f5 (up h rfl))
      · exact (fun h => f6 (up h rfl))
      · exact (fun h => f7 (up h rfl))
      · exact (fun h => f8 (up h rfl))
      · exact g0
      · exact (fun h => g1 (dn h))
      · exact (fun h => upl (g2 (up h rfl)))
    · unfold StepOk
      rintro d act x ⟨u19, u20, u21, u22, u23, u24, u25, u26, rfl, f0, f1, f2, f3, f4, f5, f6, f7, f8, g0, g1, g2⟩ hd hdep Kc hKc
      have hd3 : d 3 = true := hdep ⟨3, .data⟩ (by simp) rfl
      obtain rfl := f3 hd3
      rw [if_pos (by rfl)]
      go_big_op
      refine hKc _ _ ⟨_, _, _, _, _, _, _, _, rfl, ?_, ?_, ?_, ?_, ?_, ?_, ?_, ?_, ?_, ?_, ?_, ?_⟩
      · exact (fun h => f0 (up h rfl))
      · exact (fun h => f1 (up h rfl))
      · exact (fun h h5 => (f2 (up h rfl) (dn h5)).alloc _)
      · exact (fun h => f3 (up h rfl))
      · exact (fun _ => (fun h5 => ⟨_, rfl, blk_new _ _ _⟩))
      · exact (fun h => (f5 (up h rfl)).alloc _)
      · exact (fun h => f6 (up h rfl))
      · exact (fun h => f7 (up h rfl))
      · exact (fun h => blk_alloc (f8 (up h rfl)) _)
      · exact (g0.trans (Bar.of ((Below.refl _ _).alloc (Nat.le_refl _) _)))
      · exact (fun h => blk_alloc (g1 (dn h)) _)
      · exact (fun h => upl (g2 (up h rfl)))
    · unfold StepOk
      rintro d act x ⟨u19, u20, u21, u22, u23, u24, u25, u26, rfl, f0, f1, f2, f3, f4, f5, f6, f7, f8, g0, g1, g2⟩ hd hdep Kc hKc
      have hd2 : d 2 = true := hdep ⟨2, .data⟩ (by simp) rfl
      have hd4 : d 4 = true := hdep ⟨4, .data⟩ (by simp) rfl
      have f2' := f2 hd2 hd
      obtain ⟨b4, rfl, hb4⟩ := f4 hd4 hd
      rw [if_pos (by rfl)]
      have g0lt : rb < x.heap.size := by have := g0.size; omega
      refine wp_append_own _ _ _ 73 rfl (w1.heap.size) 30 i0 (.agg #[.string ⟨#[]⟩, .string ⟨#[]⟩]) 2 32 Try.underlying73 hi hz0 hz1 hz2 rfl (by decide) _ _ _ rfl f2' ⟨b4, 0, none⟩ 1 1 [.string k.1, .string k.2] rfl rfl ?c1 ?c2 ?c3 ?c4 ?c5 ?_
      case c1 =>
        intro j' u hj'
        match j', hj' with
        | 0, hj' => simp at hj'; subst hj'; simpa [Addr.add] using blk_cell hb4 0
        | 1, hj' => simp at hj'; subst hj'; simpa [Addr.add] using blk_cell hb4 1
      case c2 => intro u hu; simp at hu; rcases hu with rfl | rfl <;> rfl
      case c3 => unfold maxLen; omega
      case c4 => omega
      case c5 => exact g0.size
      intro v' x1 hown' hgrow _
      have hbar5 : Bar rb w1 x1 := ⟨hgrow.os.trans g0.os, hgrow.tape.trans g0.tape, hgrow.output.trans g0.output, Nat.le_trans g0.size hgrow.size, fun q hq hl => (hgrow.block q (Nat.lt_of_lt_of_le hl g0.size) (fun e => absurd (own_ge f2' e.symm) (by omega))).trans (g0.block q hq hl)⟩
      refine hKc _ _ ⟨_, _, _, _, _, _, _, _, rfl, ?_, ?_, ?_, ?_, ?_, ?_, ?_, ?_, ?_, ?_, ?_, ?_⟩
      · exact (fun h => f0 (up h rfl))
      · exact (fun h => f1 (up h rfl))
      · exact (fun h h5 => by simp at h5)
      · exact (fun h => f3 (up h rfl))
      · exact (fun h h5 => by simp at h5)
      · exact (fun _ => (by rw [kf_snoc]; exact hown'))
      · exact (fun h => f6 (up h rfl))
      · exact (fun h => f7 (up h rfl))
      · exact (fun h => by have := g2 (up h rfl); rw [hd] at this; cases this)
      · exact hbar5
      · exact (fun h => (hgrow.block rb g0lt (own_neR f2' (g1 (dn h)) (by decide))).trans (g1 (dn h)))
      · exact (fun h => by simp)
    · unfold StepOk
      rintro d act x ⟨u19, u20, u21, u22, u23, u24, u25, u26, rfl, f0, f1, f2, f3, f4, f5, f6, f7, f8, g0, g1, g2⟩ hd hdep Kc hKc
      have hd0 : d 0 = true := hdep ⟨0, .data⟩ (by simp) rfl
      have hd0 : d 0 = true := hdep ⟨0, .phase⟩ (by simp) rfl
      obtain rfl := f0 hd0
      rw [if_pos (by rfl)]
      go_big_op
      refine hKc _ _ ⟨_, _, _, _, _, _, _, _, rfl, ?_, ?_, ?_, ?_, ?_, ?_, ?_, ?_, ?_, ?_, ?_, ?_⟩
      · exact (fun h => f0 (up h rfl))
      · exact (fun h => f1 (up h rfl))
      · exact (fun h h5 => f2 (up h rfl) (dn h5))
      · exact (fun h => f3 (up h rfl))
      · exact (fun h h5 => f4 (up h rfl) (dn h5))
      · exact (fun h => f5 (up h rfl))
      · exact (fun _ => rfl)
      · exact (fun h => f7 (up h rfl))
      · exact (fun h => f8 (up h rfl))
      · exact g0
      · exact (fun h => g1 (dn h))
      · exact (fun h => upl (g2 (up h rfl)))
    · unfold StepOk
      rintro d act x ⟨u19, u20, u21, u22, u23, u24, u25, u26, rfl, f0, f1, f2, f3, f4, f5, f6, f7, f8, g0, g1, g2⟩ hd hdep Kc hKc
      have hd6 : d 6 = true := hdep ⟨6, .data⟩ (by simp) rfl
      obtain rfl := f6 hd6
      rw [if_pos (by rfl)]
      go_big_op
      refine hKc _ _ ⟨_, _, _, _, _, _, _, _, rfl, ?_, ?_, ?_, ?_, ?_, ?_, ?_, ?_, ?_, ?_, ?_, ?_⟩
      · exact (fun h => f0 (up h rfl))
      · exact (fun h => f1 (up h rfl))
      · exact (fun h h5 => f2 (up h rfl) (dn h5))
      · exact (fun h => f3 (up h rfl))
      · exact (fun h h5 => f4 (up h rfl) (dn h5))
      · exact (fun h => f5 (up h rfl))
      · exact (fun h => f6 (up h rfl))
      · exact (fun _ => rfl)
      · exact (fun h => f8 (up h rfl))
      · exact g0
      · exact (fun h => g1 (dn h))
      · exact (fun h => upl (g2 (up h rfl)))
    · unfold StepOk
      rintro d act x ⟨u19, u20, u21, u22, u23, u24, u25, u26, rfl, f0, f1, f2, f3, f4, f5, f6, f7, f8, g0, g1, g2⟩ hd hdep Kc hKc
      have hd7 : d 7 = true := hdep ⟨7, .data⟩ (by simp) rfl
      have hd5 : d 5 = true := hdep ⟨5, .data⟩ (by simp) rfl
      have hd5 : d 5 = true := hdep ⟨5, .chain⟩ (by simp) rfl
      have hd5 : d 5 = true := hdep ⟨5, .phase⟩ (by simp) rfl
      obtain rfl := f7 hd7
      obtain f5' := f5 hd5
      have f5' := f5 hd5
      obtain ⟨aa, cc, e24, -, -, -, -, -⟩ := own_readR f5'
      obtain ⟨N, hN⟩ : ∃ N, (ks ++ [k]).length = N := ⟨_, rfl⟩
      rw [hN] at e24
      clear hN
      subst e24
      have hbc := blk_cell (g1 hd)
      have hbf := blk_free (g1 hd)
      have hbl2 := blk_lt (g1 hd)
      rw [if_pos (by rfl)]
      go_big_op
      have hkp : Kept rb x (x.setCell ⟨rb, 10, none⟩ (.slice aa N cc)) := (Kept.refl _ _).setCell _ _
      have RB : (x.setCell ⟨rb, 10, none⟩ (.slice aa N cc)).heap[rb]? = some (.cells #[Dq.v0, Dq.v1, Dq.v2, Dq.v3, Dq.v4, Dq.v5, Dq.v6, Dq.v7, Dq.v8, .int .i64 seq, .slice aa N cc] 92 (0, 0)) := by
        have h1 := g1 hd
        repeat (first | (with_reducible assumption) | (with_reducible refine blk_new_at ?_ _ _; first | (with_reducible rfl) | (simp; done)) | (with_reducible refine blk_alloc ?_ _) | (with_reducible refine blk_drew ?_) | (with_reducible apply blk_set) | (show Array.setIfInBounds _ _ _ = _; first | (simp; done) | (simp; rfl)) | (with_reducible refine blk_set_other ?_ ?_; omega))
      have F5 : (x.setCell ⟨rb, 10, none⟩ (.slice aa N cc)).ownsRow w1.heap.size 30 2 (.slice aa N cc) (ks.length + 1) (kf (ks ++ [k])) := ownsRow_keptR f5' hkp (by omega)
      generalize (x.setCell ⟨rb, 10, none⟩ (.slice aa N cc)) = X at *
      refine hKc _ _ ⟨_, _, _, _, _, _, _, _, rfl, ?_, ?_, ?_, ?_, ?_, ?_, ?_, ?_, ?_, ?_, ?_, ?_⟩
      · exact (fun h => f0 (up h rfl))
      · exact (fun h => f1 (up h rfl))
      · exact (fun h h5 => by have := dn h5; rw [hd5] at this; cases this)
      · exact (fun h => f3 (up h rfl))
      · exact (fun h h5 => by have := dn h5; rw [hd5] at this; cases this)
      · exact (fun h => F5)
      · exact (fun h => f6 (up h rfl))
      · exact (fun h => f7 (up h rfl))
      · exact (fun _ => RB)
      · exact (g0.trans (Bar.kept hkp))
      · exact (fun h => by simp at h)
      · exact (fun h => upl hd5)
  · rintro d act x ⟨u19, u20, u21, u22, u23, u24, u25, u26, rfl, f0, f1, f2, f3, f4, f5, f6, f7, f8, g0, g1, g2⟩ hall
    have f5' := f5 (hall 5 (by decide))
    have f8' := f8 (hall 8 (by decide))
    obtain ⟨aa, cc, e24, -, hcc, hcm, hka, hob⟩ := own_readR f5'
    have hown := Lib.hid hob
    have hge : ∀ b o, aa = some ⟨b, o, none⟩ → b ≠ rb := fun b o e => by have := own_ge f5' (hob b o e); omega
    have HKB := Lib.hid (show KBl x aa from fun b o e => own_kb f5' (hob b o e))
    obtain ⟨N, hN⟩ : ∃ N, (ks ++ [k]).length = N := ⟨_, rfl⟩
    rw [hN] at e24
    subst e24
    have HN := Lib.hid hN
    have HK := Lib.hid hka
    have HE := Lib.hid hge
    have HB := Lib.hid f8'
    have G0 := Lib.hid g0
    have HC := Lib.hid hcc
    have hbc := blk_cell f8'
    have hbf := blk_free f8'
    have hbl := blk_lt f8'
    clear f0 f1 f2 f3 f4 f5 f6 f7 f8 g0 g1 g2 hall f5' f8' hob hge hka hN hcc
    go_wp2
    go_ret
    have hb9 := HB.out
    have hl9 := HN.out
    refine ⟨by simp, ⟨aa, cc, ?_, HC.out, hcm, HK.out.keep (fun b o e p v hc => ?_), HE.out, (fun h => by simp at h), fun b o e => by obtain ⟨cs, h⟩ := HKB.out b o e; exact ⟨cs, blk_set_other (HE.out b o e) h⟩⟩, (Bar.of D1).trans (G0.out.trans (Bar.kept ((Kept.refl _ _).setCell _ _)))⟩
    · rw [← hl9] at hb9
      refine blk_set hb9 ?_
      simp
    · exact ((Kept.refl rb x).setCell _ _).cell (HE.out b o e) hc
set_option maxRecDepth 100000 in
set_option maxHeartbeats 4000000 in
theorem recentAdd_fullD (Dq : DkQ) (b o cap : Nat) (ks : List KyR) (rb seq : Nat) (k : KyR) (w : World) (hb0 : w.heap[rb]? = some (.cells #[Dq.v0, Dq.v1, Dq.v2, Dq.v3, Dq.v4, Dq.v5, Dq.v6, Dq.v7, Dq.v8, .int .i64 seq, .slice (some ⟨b, o, none⟩) 16 cap] 92 (0, 0))) (hq : seq ≤ 1000000) (hks : KAt w (some ⟨b, o, none⟩) ks) (hne : b ≠ rb) (hl : ks.length = 16) (hcap : 16 ≤ cap) :
    Calls Try.prog 58 #[.pointer (some ⟨rb, 9, none⟩), .agg #[.string k.1, .string k.2]] w (AddedD Dq rb seq ((ks.drop 1) ++ [k]) w) := by
  have hc0 : ¬ cap = 1 := by omega
  have HKs := Lib.hid hks
  have HL := Lib.hid hl
  clear hks hl
  have hlt := blk_lt hb0
  have H0 := Lib.hid (blk_alloc hb0 (.cells #[.string k.1, .string k.2] 30))
  have A0 : (w.alloc (.cells #[.string k.1, .string k.2] 30)).heap[w.heap.size]? = some (.cells #[.string k.1, .string k.2] 30 (0, 0)) := blk_new _ _ _
  have D0 : Below w.heap.size w (w.alloc (.cells #[.string k.1, .string k.2] 30)) := (Below.refl _ _).alloc (Nat.le_refl _) _
  have HA := Lib.hid A0
  obtain ⟨i0, hi, hz0, hz1, hz2⟩ := info_partsR info_key
  clear A0 hb0
  go_enter Try.func58, Try.ntmps58
  go_wp2_with fail
  generalize (w.alloc (.cells #[.string k.1, .string k.2] 30)) = w0 at *
  haveI hIq : Nonempty (Of w0) := of_some _
  have hF0 := blk_of H0.out
  refine wp_region_stay w0 (by kernel_rfl) (by kernel_rfl) (by go_grown) ?_
  repeat (go_big_quiet_step (fail))
  refine wpQuiet_nil ?_
  intro w1 hb
  have H1 := Lib.hid (blk_ext hb H0.out)
  have A1 := Lib.hid (blk_ext hb HA.out)
  have D1 := ext_trans D0 hb
  have hz := D1.size
  have hal := blk_lt A1.out
  clear hIq hF0 H0 HA hb
  go_upto_region 2 with fail
  refine wp_region_inv_eq (J := fun A d act x => ∃ u19 u20 u21 u22 u23 u24 u25 u26 : Value, act = ((((((((A.put (some 19) u19).put (some 20) u20).put (some 21) u21).put (some 22) u22).put (some 23) u23).put (some 24) u24).put (some 25) u25).put (some 26) u26) ∧ (d 0 = true → u19 = .pointer (some ⟨rb, 9, none⟩)) ∧ (d 1 = true → u20 = .slice (some ⟨b, o + 2, none⟩) 15 (cap - 1)) ∧ (d 2 = true → (d 5 = false → x.ownsRow w1.heap.size 30 2 u21 15 (kf (ks.drop 1)))) ∧ (d 3 = true → u22 = .agg #[.string k.1, .string k.2]) ∧ (d 4 = true → (d 5 = false → ∃ b : Nat, u23 = .slice (some ⟨b, 0, none⟩) 1 1 ∧ x.heap[b]? = some (.cells #[.string k.1, .string k.2] 30 (0, 0)))) ∧ (d 5 = true → x.ownsRow w1.heap.size 30 2 u24 (15 + 1) (kf ((ks.drop 1) ++ [k]))) ∧ (d 6 = true → u25 = .pointer (some ⟨rb, 9, none⟩)) ∧ (d 7 = true → u26 = .pointer (some ⟨rb, 10, none⟩)) ∧ (d 8 = true → x.heap[rb]? = some (.cells #[Dq.v0, Dq.v1, Dq.v2, Dq.v3, Dq.v4, Dq.v5, Dq.v6, Dq.v7, Dq.v8, .int .i64 seq, u24] 92 (0, 0))) ∧ Bar rb w1 x ∧ (d 8 = false → x.heap[rb]? = some (.cells #[Dq.v0, Dq.v1, Dq.v2, Dq.v3, Dq.v4, Dq.v5, Dq.v6, Dq.v7, Dq.v8, .int .i64 seq, .slice (some ⟨b, o, none⟩) 16 cap] 92 (0, 0))) ∧ (d 8 = true → d 5 = true)) (by simp only [Act.put, List.setIfInBounds_toArray, List.set_cons_succ, List.set_cons_zero]; rfl) (by kernel_rfl) (by kernel_rfl) ?_ ?_ ?_
  · refine ⟨_, _, _, _, _, _, _, _, rfl, ?_, ?_, ?_, ?_, ?_, ?_, ?_, ?_, ?_, ?_, ?_, ?_⟩
    · intro h; cases h
    · intro h; cases h
    · intro h; cases h
    · intro h; cases h
    · intro h; cases h
    · intro h; cases h
    · intro h; cases h
    · intro h; cases h
    · intro h; cases h
    · exact Bar.of ((Below.refl _ _).drew)
    · exact (fun _ => blk_drew H1.out)
    · exact (fun h => by cases h)
  · refine stepsOk_cons (k := 0) ?_ (stepsOk_cons (k := 1) ?_ (stepsOk_cons (k := 2) ?_ (stepsOk_cons (k := 3) ?_ (stepsOk_cons (k := 4) ?_ (stepsOk_cons (k := 5) ?_ (stepsOk_cons (k := 6) ?_ (stepsOk_cons (k := 7) ?_ (stepsOk_cons (k := 8) ?_ stepsOk_nil))))))))
    · unfold StepOk
      rintro d act x ⟨u19, u20, u21, u22, u23, u24, u25, u26, rfl, f0, f1, f2, f3, f4, f5, f6, f7, f8, g0, g1, g2⟩ hd hdep Kc hKc
      rw [if_pos (by rfl)]
      go_big_op
      refine hKc _ _ ⟨_, _, _, _, _, _, _, _, rfl, ?_, ?_, ?_, ?_, ?_, ?_, ?_, ?_, ?_, ?_, ?_, ?_⟩
      · exact (fun _ => rfl)
      · exact (fun h => f1 (up h rfl))
      · exact (fun h h5 => f2 (up h rfl) (dn h5))
      · exact (fun h => f3 (up h rfl))
      · exact (fun h h5 => f4 (up h rfl) (dn h5))
      · exact (fun h => f5 (up h rfl))
      · exact (fun h => f6 (up h rfl))
      · exact (fun h => f7 (up h rfl))
      · exact (fun h => f8 (up h rfl))
      · exact g0
      · exact (fun h => g1 (dn h))
      · exact (fun h => upl (g2 (up h rfl)))
    · unfold StepOk
      rintro d act x ⟨u19, u20, u21, u22, u23, u24, u25, u26, rfl, f0, f1, f2, f3, f4, f5, f6, f7, f8, g0, g1, g2⟩ hd hdep Kc hKc
      rw [if_pos (by rfl)]
      go_big_op
      refine hKc _ _ ⟨_, _, _, _, _, _, _, _, rfl, ?_, ?_, ?_, ?_, ?_, ?_, ?_, ?_, ?_, ?_, ?_, ?_⟩
      · exact (fun h => f0 (up h rfl))
      · exact (fun _ => rfl)
      · exact (fun h h5 => f2 (up h rfl) (dn h5))
      · exact (fun h => f3 (up h rfl))
      · exact (fun h h5 => f4 (up h rfl) (dn h5))
      · exact (fun h => f5 (up h rfl))
      · exact (fun h => f6 (up h rfl))
      · exact (fun h => f7 (up h rfl))
      · exact (fun h => f8 (up h rfl))
      · exact g0
      · exact (fun h => g1 (dn h))
      · exact (fun h => upl (g2 (up h rfl)))
    · unfold StepOk
      rintro d act x ⟨u19, u20, u21, u22, u23, u24, u25, u26, rfl, f0, f1, f2, f3, f4, f5, f6, f7, f8, g0, g1, g2⟩ hd hdep Kc hKc
      have hd1 : d 1 = true := hdep ⟨1, .data⟩ (by simp) rfl
      obtain rfl := f1 hd1
      rw [if_pos (by rfl)]
      go_big_op
      refine (keysClone_at b (o + 2) (cap - 1) 15 (ks.drop 1) _ ((HKs.out.ext D1).keep (fun b' o' e p v hc => g0.cell (by cases e; exact hne) hc)).drop (by simp [HL.out]) (by omega)).mono ?_
      rintro e x1 ⟨cv, rfl, hcv, hbl⟩
      have hcv' := ownsRow_baseR hcv g0.size
      refine hKc _ _ ⟨_, _, _, _, _, _, _, _, rfl, ?_, ?_, ?_, ?_, ?_, ?_, ?_, ?_, ?_, ?_, ?_, ?_⟩
      · exact (fun h => f0 (up h rfl))
      · exact (fun h => f1 (up h rfl))
      · exact (fun _ => (fun h5 => hcv'))
      · exact (fun h => f3 (up h rfl))
      · exact (fun h h5 => by obtain ⟨b, e1, e2⟩ := f4 (up h rfl) (dn h5); exact ⟨b, e1, blk_ext hbl e2⟩)
      · exact (fun h => ownsRow_extR (f5 (up h rfl)) hbl)
      · exact (fun h => f6 (up h rfl))
      · exact (fun h => f7 (up h rfl))
      · exact (fun h => blk_ext hbl (f8 (up h rfl)))
      · exact (g0.trans (Bar.of hbl))
      · exact (fun h => blk_ext hbl (g1 (dn h)))
      · exact (fun h => upl (g2 (up h rfl)))
    · unfold StepOk
      rintro d act x ⟨u19, u20, u21, u22, u23, u24, u25, u26, rfl, f0, f1, f2, f3, f4, f5, f6, f7, f8, g0, g1, g2⟩ hd hdep Kc hKc
      have hx := blk_cell (g0.blk (by omega) A1.out)
      rw [if_pos (by rfl)]
      go_big_op
      refine hKc _ _ ⟨_, _, _, _, _, _, _, _, rfl, ?_, ?_, ?_, ?_, ?_, ?_, ?_, ?_, ?_, ?_, ?_, ?_⟩
      · exact (fun h => f0 (up h rfl))
      · exact (fun h => f1 (up h rfl))
      · exact (fun h h5 => f2 (up h rfl) (dn h5))
      · exact (fun _ => rfl)
      · exact (fun h h5 => f4 (up h rfl) (dn h5))
      · exact (fun h => f5 (up h rfl))
      · exact (fun h => f6 (up h rfl))
      · exact (fun h => f7 (up h rfl))
      · exact (fun h => f8 (up h rfl))
      · exact g0
      · exact (fun h => g1 (dn h))
      · exact (fun h => upl (g2 (up h rfl)))
    · unfold StepOk
      rintro d act x ⟨u19, u20, u21, u22, u23, u24, u25, u26, rfl, f0, f1, f2, f3, f4, f5, f6, f7, f8, g0, g1, g2⟩ hd hdep Kc hKc
      have hd3 : d 3 = true := hdep ⟨3, .data⟩ (by simp) rfl
      obtain rfl := f3 hd3
      rw [if_pos (by rfl)]
      go_big_op
      refine hKc _ _ ⟨_, _, _, _, _, _, _, _, rfl, ?_, ?_, ?_, ?_, ?_, ?_, ?_, ?_, ?_, ?_, ?_, ?_⟩
      · exact (fun h => f0 (up h rfl))
      · exact (fun h => f1 (up h rfl))
      · exact (fun h h5 => (f2 (up h rfl) (dn h5)).alloc _)
      · exact (fun h => f3 (up h rfl))
      · exact (fun _ => (fun h5 => ⟨_, rfl, blk_new _ _ _⟩))
      · exact (fun h => (f5 (up h rfl)).alloc _)
      · exact (fun h => f6 (up h rfl))
      · exact (fun h => f7 (up h rfl))
      · exact (fun h => blk_alloc (f8 (up h rfl)) _)
      · exact (g0.trans (Bar.of ((Below.refl _ _).alloc (Nat.le_refl _) _)))
      · exact (fun h => blk_alloc (g1 (dn h)) _)
      · exact (fun h => upl (g2 (up h rfl)))
    · unfold StepOk
      rintro d act x ⟨u19, u20, u21, u22, u23, u24, u25, u26, rfl, f0, f1, f2, f3, f4, f5, f6, f7, f8, g0, g1, g2⟩ hd hdep Kc hKc
      have hd2 : d 2 = true := hdep ⟨2, .data⟩ (by simp) rfl
      have hd4 : d 4 = true := hdep ⟨4, .data⟩ (by simp) rfl
      have f2' := f2 hd2 hd
      obtain ⟨b4, rfl, hb4⟩ := f4 hd4 hd
      rw [if_pos (by rfl)]
      have g0lt : rb < x.heap.size := by have := g0.size; omega
      refine wp_append_own _ _ _ 73 rfl (w1.heap.size) 30 i0 (.agg #[.string ⟨#[]⟩, .string ⟨#[]⟩]) 2 32 Try.underlying73 hi hz0 hz1 hz2 rfl (by decide) _ _ _ rfl f2' ⟨b4, 0, none⟩ 1 1 [.string k.1, .string k.2] rfl rfl ?c1 ?c2 ?c3 ?c4 ?c5 ?_
      case c1 =>
        intro j' u hj'
        match j', hj' with
        | 0, hj' => simp at hj'; subst hj'; simpa [Addr.add] using blk_cell hb4 0
        | 1, hj' => simp at hj'; subst hj'; simpa [Addr.add] using blk_cell hb4 1
      case c2 => intro u hu; simp at hu; rcases hu with rfl | rfl <;> rfl
      case c3 => unfold maxLen; omega
      case c4 => omega
      case c5 => exact g0.size
      intro v' x1 hown' hgrow _
      have hbar5 : Bar rb w1 x1 := ⟨hgrow.os.trans g0.os, hgrow.tape.trans g0.tape, hgrow.output.trans g0.output, Nat.le_trans g0.size hgrow.size, fun q hq hl => (hgrow.block q (Nat.lt_of_lt_of_le hl g0.size) (fun e => absurd (own_ge f2' e.symm) (by omega))).trans (g0.block q hq hl)⟩
      refine hKc _ _ ⟨_, _, _, _, _, _, _, _, rfl, ?_, ?_, ?_, ?_, ?_, ?_, ?_, ?_, ?_, ?_, ?_, ?_⟩
      · exact (fun h => f0 (up h rfl))
      · exact (fun h => f1 (up h rfl))
      · exact (fun h h5 => by simp at h5)
      · exact (fun h => f3 (up h rfl))
      · exact (fun h h5 => by simp at h5)
      · exact (fun _ => (by rw [kf_snoc]; exact hown'))
      · exact (fun h => f6 (up h rfl))
      · exact (fun h => f7 (up h rfl))
      · exact (fun h => by have := g2 (up h rfl); rw [hd] at this; cases this)
      · exact hbar5
      · exact (fun h => (hgrow.block rb g0lt (own_neR f2' (g1 (dn h)) (by decide))).trans (g1 (dn h)))
      · exact (fun h => by simp)
    · unfold StepOk
      rintro d act x ⟨u19, u20, u21, u22, u23, u24, u25, u26, rfl, f0, f1, f2, f3, f4, f5, f6, f7, f8, g0, g1, g2⟩ hd hdep Kc hKc
      have hd0 : d 0 = true := hdep ⟨0, .data⟩ (by simp) rfl
      have hd0 : d 0 = true := hdep ⟨0, .phase⟩ (by simp) rfl
      obtain rfl := f0 hd0
      rw [if_pos (by rfl)]
      go_big_op
      refine hKc _ _ ⟨_, _, _, _, _, _, _, _, rfl, ?_, ?_, ?_, ?_, ?_, ?_, ?_, ?_, ?_, ?_, ?_, ?_⟩
      · exact (fun h => f0 (up h rfl))
      · exact (fun h => f1 (up h rfl))
      · exact (fun h h5 => f2 (up h rfl) (dn h5))
      · exact (fun h => f3 (up h rfl))
      · exact (fun h h5 => f4 (up h rfl) (dn h5))
      · exact (fun h => f5 (up h rfl))
      · exact (fun _ => rfl)
      · exact (fun h => f7 (up h rfl))
      · exact (fun h => f8 (up h rfl))
      · exact g0
      · exact (fun h => g1 (dn h))
      · exact (fun h => upl (g2 (up h rfl)))
    · unfold StepOk
      rintro d act x ⟨u19, u20, u21, u22, u23, u24, u25, u26, rfl, f0, f1, f2, f3, f4, f5, f6, f7, f8, g0, g1, g2⟩ hd hdep Kc hKc
      have hd6 : d 6 = true := hdep ⟨6, .data⟩ (by simp) rfl
      obtain rfl := f6 hd6
      rw [if_pos (by rfl)]
      go_big_op
      refine hKc _ _ ⟨_, _, _, _, _, _, _, _, rfl, ?_, ?_, ?_, ?_, ?_, ?_, ?_, ?_, ?_, ?_, ?_, ?_⟩
      · exact (fun h => f0 (up h rfl))
      · exact (fun h => f1 (up h rfl))
      · exact (fun h h5 => f2 (up h rfl) (dn h5))
      · exact (fun h => f3 (up h rfl))
      · exact (fun h h5 => f4 (up h rfl) (dn h5))
      · exact (fun h => f5 (up h rfl))
      · exact (fun h => f6 (up h rfl))
      · exact (fun _ => rfl)
      · exact (fun h => f8 (up h rfl))
      · exact g0
      · exact (fun h => g1 (dn h))
      · exact (fun h => upl (g2 (up h rfl)))
    · unfold StepOk
      rintro d act x ⟨u19, u20, u21, u22, u23, u24, u25, u26, rfl, f0, f1, f2, f3, f4, f5, f6, f7, f8, g0, g1, g2⟩ hd hdep Kc hKc
      have hd7 : d 7 = true := hdep ⟨7, .data⟩ (by simp) rfl
      have hd5 : d 5 = true := hdep ⟨5, .data⟩ (by simp) rfl
      have hd5 : d 5 = true := hdep ⟨5, .chain⟩ (by simp) rfl
      have hd5 : d 5 = true := hdep ⟨5, .phase⟩ (by simp) rfl
      obtain rfl := f7 hd7
      obtain f5' := f5 hd5
      have f5' := f5 hd5
      obtain ⟨aa, cc, e24, -, -, -, -, -⟩ := own_readR f5'
      obtain ⟨N, hN⟩ : ∃ N, ((ks.drop 1) ++ [k]).length = N := ⟨_, rfl⟩
      rw [hN] at e24
      clear hN
      subst e24
      have hbc := blk_cell (g1 hd)
      have hbf := blk_free (g1 hd)
      have hbl2 := blk_lt (g1 hd)
      rw [if_pos (by rfl)]
      go_big_op
      have hkp : Kept rb x (x.setCell ⟨rb, 10, none⟩ (.slice aa N cc)) := (Kept.refl _ _).setCell _ _
      have RB : (x.setCell ⟨rb, 10, none⟩ (.slice aa N cc)).heap[rb]? = some (.cells #[Dq.v0, Dq.v1, Dq.v2, Dq.v3, Dq.v4, Dq.v5, Dq.v6, Dq.v7, Dq.v8, .int .i64 seq, .slice aa N cc] 92 (0, 0)) := by
        have h1 := g1 hd
        repeat (first | (with_reducible assumption) | (with_reducible refine blk_new_at ?_ _ _; first | (with_reducible rfl) | (simp; done)) | (with_reducible refine blk_alloc ?_ _) | (with_reducible refine blk_drew ?_) | (with_reducible apply blk_set) | (show Array.setIfInBounds _ _ _ = _; first | (simp; done) | (simp; rfl)) | (with_reducible refine blk_set_other ?_ ?_; omega))
      have F5 : (x.setCell ⟨rb, 10, none⟩ (.slice aa N cc)).ownsRow w1.heap.size 30 2 (.slice aa N cc) (15 + 1) (kf ((ks.drop 1) ++ [k])) := ownsRow_keptR f5' hkp (by omega)
      generalize (x.setCell ⟨rb, 10, none⟩ (.slice aa N cc)) = X at *
      refine hKc _ _ ⟨_, _, _, _, _, _, _, _, rfl, ?_, ?_, ?_, ?_, ?_, ?_, ?_, ?_, ?_, ?_, ?_, ?_⟩
      · exact (fun h => f0 (up h rfl))
      · exact (fun h => f1 (up h rfl))
      · exact (fun h h5 => by have := dn h5; rw [hd5] at this; cases this)
      · exact (fun h => f3 (up h rfl))
      · exact (fun h h5 => by have := dn h5; rw [hd5] at this; cases this)
      · exact (fun h => F5)
      · exact (fun h => f6 (up h rfl))
      · exact (fun h => f7 (up h rfl))
      · exact (fun _ => RB)
      · exact (g0.trans (Bar.kept hkp))
      · exact (fun h => by simp at h)
      · exact (fun h => upl hd5)
  · rintro d act x ⟨u19, u20, u21, u22, u23, u24, u25, u26, rfl, f0, f1, f2, f3, f4, f5, f6, f7, f8, g0, g1, g2⟩ hall
    have f5' := f5 (hall 5 (by decide))
    have f8' := f8 (hall 8 (by decide))
    obtain ⟨aa, cc, e24, -, hcc, hcm, hka, hob⟩ := own_readR f5'
    have hown := Lib.hid hob
    have hge : ∀ b o, aa = some ⟨b, o, none⟩ → b ≠ rb := fun b o e => by have := own_ge f5' (hob b o e); omega
    have HKB := Lib.hid (show KBl x aa from fun b o e => own_kb f5' (hob b o e))
    obtain ⟨N, hN⟩ : ∃ N, ((ks.drop 1) ++ [k]).length = N := ⟨_, rfl⟩
    rw [hN] at e24
    subst e24
    have HN := Lib.hid hN
    have HK := Lib.hid hka
    have HE := Lib.hid hge
    have HB := Lib.hid f8'
    have G0 := Lib.hid g0
    have HC := Lib.hid hcc
    have hbc := blk_cell f8'
    have hbf := blk_free f8'
    have hbl := blk_lt f8'
    clear f0 f1 f2 f3 f4 f5 f6 f7 f8 g0 g1 g2 hall f5' f8' hob hge hka hN hcc
    go_wp2
    go_ret
    have hb9 := HB.out
    have hl9 := HN.out
    refine ⟨by simp, ⟨aa, cc, ?_, HC.out, hcm, HK.out.keep (fun b o e p v hc => ?_), HE.out, (fun h => by simp at h), fun b o e => by obtain ⟨cs, h⟩ := HKB.out b o e; exact ⟨cs, blk_set_other (HE.out b o e) h⟩⟩, (Bar.of D1).trans (G0.out.trans (Bar.kept ((Kept.refl _ _).setCell _ _)))⟩
    · rw [← hl9] at hb9
      refine blk_set hb9 ?_
      simp
    · exact ((Kept.refl rb x).setCell _ _).cell (HE.out b o e) hc
theorem recentAddD (Dq : DkQ) (rb seq : Nat) (ks : List KyR) (k : KyR) (w : World) (h : RecAtD Dq w rb seq ks) (hl : ks.length ≤ 16) (hq : seq ≤ 1000000) :
    Calls Try.prog 58 #[.pointer (some ⟨rb, 9, none⟩), .agg #[.string k.1, .string k.2]] w (AddedD Dq rb seq (addK ks k) w) := by
  obtain ⟨a, cap, h1, h2, h3, h4, h5, h6, h7⟩ := h
  by_cases h0 : ks = []
  · obtain ⟨rfl, rfl⟩ := h6 h0
    subst h0
    exact recentAdd_nilD Dq rb seq k w h1 hq
  · have hp : 1 ≤ ks.length := by
      rcases Nat.eq_zero_or_pos ks.length with h | h
      · exact absurd (List.eq_nil_of_length_eq_zero h) h0
      · exact h
    have h4' := h4
    rcases h4' with h | ⟨b, o, rfl, _⟩
    · exact absurd h h0
    · by_cases h16 : ks.length ≤ 15
      · have := recentAdd_someD Dq b o cap ks rb seq k w h1 hq h4 (h5 b o rfl) hp h16 h2
        rwa [show addK ks k = ks ++ [k] from by unfold addK; rw [show ks.length + 1 - 16 = 0 from by omega]; rfl]
      · have h17 : ks.length = 16 := by omega
        rw [h17] at h1 h2
        have := recentAdd_fullD Dq b o cap ks rb seq k w h1 hq h4 (h5 b o rfl) h17 h2
        rwa [show addK ks k = ks.drop 1 ++ [k] from by unfold addK; rw [h17]]
end Go.Proofs.Ytloeabdohgdmkaa
