/- Layer 13's laws, walked: the keys of a tape. -/
import Derived.Test.YtingmfchlnpgbaaKeys
import Derived.Test.YtingmfchlnpgbaaTapeKey
namespace Go.Proofs.Ytingmfchlnpgbaa
open Go.RowKit
set_option linter.unusedVariables false

theorem tapeK_new_at {a : Option Addr} {len cap b : Nat} {w : World} (e : w.heap.size = b) : TapeK a len cap (w.alloc (.cells #[.slice a len cap, .int .i64 0] 46)) b := by
  subst e; exact tapeK_new _
theorem rowOk_new_at {a : Option Addr} {len cap b : Nat} {zs : List Int} {w : World} (h : IsRow .i64 w a len cap zs) (o : Obj) (e : w.heap.size = b) : RowOk a len cap zs (w.alloc o) b := by
  subst e; exact rowOk_new h o
theorem ownsRow_bar {w w' : World} {base size n c : Nat} {e : TypeId} {v : Value} {xs : List Value} (h : w.ownsRow base e size v n xs) (hb : Bar c w w') (hn : some c ≠ v.ownBlock) : w'.ownsRow base e size v n xs := by
  obtain ⟨h1, h2⟩ := h
  refine ⟨h1, ?_⟩
  rcases h2 with h2 | ⟨g, cap, cur, hv, hg, hh, r⟩
  · exact .inl h2
  · exact .inr ⟨g, cap, cur, hv, hg, hb.blk (fun e => hn (by rw [hv]; simp [Value.ownBlock, e])) hh, r⟩
def vlen : Value → Nat
  | .slice _ n _ => n
  | _ => 0
def KeysOut (w : World) (e : Ending) (w' : World) : Prop := ∃ v ks, e = .returned v ∧ w'.ownsRow w.heap.size 34 2 v ks.length (kf ks) ∧ ks.length ≤ 50 ∧ Below w.heap.size w w'

set_option maxRecDepth 100000 in
set_option maxHeartbeats 4000000 in
theorem law13keys (a0 : Option Addr) (len cap : Nat) (zs : List Int) (w : World) (h0 : IsRow .i64 w a0 len cap zs) (hr : len * 8 ≤ 140737488351232) :
    Calls Try.prog 8 #[.slice a0 len cap] w (KeysOut w) := by
  obtain ⟨i0, hi, hz0, hz1, hz2⟩ := info_parts info_key
  have R0 := Lib.hid (rowOk_new_at h0 (.cells #[.slice a0 len cap, .int .i64 0] 46) rfl)
  have T0 := Lib.hid (tapeK_new_at (a := a0) (len := len) (cap := cap) (w := w) rfl)
  have B0 : Below w.heap.size w (w.alloc (.cells #[.slice a0 len cap, .int .i64 0] 46)) := (Below.refl _ _).alloc (Nat.le_refl _) _
  have H0 := Lib.hid h0
  have hr2 := Lib.hid R0.out.2
  clear h0
  go_enter Try.func8, Try.ntmps8
  go_wp2_with fail
  generalize (w.alloc (.cells #[.slice a0 len cap, .int .i64 0] 46)) = w0 at *
  go_loopw [4] (fun v wr => ∃ ks : List Ky, ks.length ≤ 50 ∧ wr.ownsRow w.heap.size 34 2 v ks.length (kf ks) ∧ TapeK a0 len cap wr w.heap.size ∧ Below w.heap.size w wr) (fun v _ => 50 - vlen v)
  case atStart => exact ⟨[], by simp, World.ownsRow_nil _ _ _ _, T0.out, B0⟩
  case round =>
    obtain ⟨w1, rfl⟩ : ∃ y : World, y = wr := ⟨_, rfl⟩
    obtain ⟨ks, hks, hown, hT, B1⟩ := hrel
    obtain ⟨k, hk, hkl⟩ := hT
    have T1 := Lib.hid (⟨k, hk, hkl⟩ : TapeK a0 len cap w1 w.heap.size)
    have R1 := Lib.hid (⟨H0.out.ext B1, hr2.out⟩ : RowOk a0 len cap zs w1 w.heap.size)
    obtain ⟨a, c, rfl, -, -, -, -, -⟩ := own_read hown
    have O1 := Lib.hid hown
    have NE := Lib.hid (own_ne hown hk (by decide))
    have hc1 := blk_cell hk
    have hl1 := blk_lt hk
    have Z1 := B1.size
    clear hown hk
    by_cases c1 : ks.length < 50
    · by_cases c2 : k < len
      · have d1 : decide ((ks.length : Int) < 50) = true := by simp; omega
        have d2 : decide ((k : Int) < len) = true := by simp; omega
        go_wp2_with fail
        refine (tapeKeyK a0 len cap zs _ _ T1.out R1.out).mono ?_
        rintro e w2 ⟨s, s', rfl, -, -, hT2, hb2⟩
        have O2 := ownsRow_bar O1.out hb2 NE.out
        have B2 : Below w.heap.size w w2 := B1.trans (hb2.below (Nat.le_refl _) B1.size)
        have NE2 := NE.out
        have T2 := Lib.hid hT2
        have Z2 := B2.size
        clear hb2 hT2 hc1
        go_wp2_with (first | (at_builtin; refine wpList_append_own _ rfl _ _ 24 rfl (w.heap.size) 34 i0 (.agg #[.string ⟨#[]⟩, .string ⟨#[]⟩]) 2 32 Try.underlying24 hi hz0 hz1 hz2 rfl (by decide) _ _ _ rfl (O2.alloc _) ⟨w2.heap.size, 0, none⟩ 1 1 [.string s, .string s'] rfl rfl ?c1 ?c2 ?c3 ?c4 ?c5 ?_))
        case c1 =>
          intro j' u hj'
          match j', hj' with
          | 0, hj' => simp at hj'; subst hj'; simp [Addr.add, go_sem]
          | 1, hj' => simp at hj'; subst hj'; simp [Addr.add, go_sem]
        case c2 => intro u hu; simp at hu; rcases hu with rfl | rfl <;> rfl
        case c3 => unfold maxLen; omega
        case c4 => omega
        case c5 => simp; omega
        intro v' w3 hown' hgrow _
        have B3 := (B2.alloc B2.size _).grown hgrow (by simp; omega) (fun q hq => own_ge O2 hq)
        obtain ⟨k2, hk2, hkl2⟩ := T2.out
        have T3 := Lib.hid (⟨k2, (hgrow.block w.heap.size (blk_lt (blk_alloc hk2 _)) NE2).trans (blk_alloc hk2 _), hkl2⟩ : TapeK a0 len cap w3 w.heap.size)
        have O3 := Lib.hid hown'
        clear hown' hgrow O2 hk2 NE2
        go_wp2
        go_roundw
        case rel => exact ⟨ks ++ [(s, s')], by simp; omega, by rw [kf_snoc]; simpa using O3.out, T3.out, B3⟩
        case measure =>
          obtain ⟨a', c', rfl, h', -⟩ := own_read (ks := ks ++ [(s, s')]) (by rw [kf_snoc]; exact O3.out)
          simp [vlen]; omega
      · have d1 : decide ((ks.length : Int) < 50) = true := by simp; omega
        have d2 : decide ((k : Int) < len) = false := by simp; omega
        go_wp2
        go_ret
        exact ⟨_, ks, rfl, O1.out, hks, B1⟩
    · have d1 : decide ((ks.length : Int) < 50) = false := by simp; omega
      go_wp2
      go_ret
      exact ⟨_, ks, rfl, O1.out, hks, B1⟩

end Go.Proofs.Ytingmfchlnpgbaa
