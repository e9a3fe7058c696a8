/- NetNumbers: the walk. -/
import Derived.Test.YtkkmnodhmmdllaaN8K
namespace Go.Proofs.Ytkkmnodhmmdllaa
open Go.RowKit
set_option linter.unusedVariables false
set_option linter.unusedSimpArgs false

theorem info_ak : (Try.prog.info? 25).map (fun i => (i.zero, i.size, i.bytes)) = some (some (.agg #[.int .i64 0, .int .i64 0, .int .i64 0, .int .i64 0, .slice none 0 0]), 5, 56) := by kernel_rfl
/-- the texts lie in blocks of bytes -/
def TxB (w : World) (las : List AV) : Prop := ∀ x ∈ las, (x.ta = none ∧ x.tn = 0 ∧ x.xs = []) ∨ ∃ tb v, x.ta = some ⟨tb, 0, none⟩ ∧ x.tn = 1 ∧ x.xs = [v] ∧ w.heap[tb]? = some (.cells #[.int .u8 v] 5 (0, 0))
theorem TxB.txt {w : World} {las : List AV} (h : TxB w las) : Txt w las := fun x hx => by
  rcases h x hx with ⟨h1, h2, h3⟩ | ⟨tb, v, h1, h2, h3, h4⟩
  · exact ⟨.inl h3, by rw [h3, h2]; rfl, by omega⟩
  · refine ⟨.inr ⟨tb, 0, h1, fun i n hi => ?_⟩, by rw [h3, h2]; rfl, by omega⟩
    rw [h3] at hi
    match i, hi with
    | 0, hi =>
      simp at hi
      subst hi
      rw [blk_cell h4]
      rfl
    | k + 1, hi => simp at hi
theorem TxB.types {w w' : World} {las : List AV} (h : TxB w las) (hk : ∀ (b : Nat) (cur : Array Value), w.heap[b]? = some (.cells cur 5 (0, 0)) → w'.heap[b]? = w.heap[b]?) : TxB w' las := fun x hx => by
  rcases h x hx with h1 | ⟨tb, v, h1, h2, h3, h4⟩
  · exact .inl h1
  · exact .inr ⟨tb, v, h1, h2, h3, (hk _ _ h4).trans h4⟩
theorem TxB.ext {w w' : World} {las : List AV} (h : TxB w las) (hb : Below w.heap.size w w') : TxB w' las := h.types fun b cur hc => hb.block b (blk_lt hc)
theorem TxB.grown {w w' : World} {las ms : List AV} {base : Nat} {v : Value} (h : TxB w las) (ho : OwnR akc 5 25 base w v ms) (hg : w.grownBy w' v.ownBlock) : TxB w' las :=
  h.types fun b cur hc => hg.block b (blk_lt hc) (fun e => by
    rcases ho.2 with ⟨e1, _⟩ | ⟨g, cap', cur', e1, hg', hh, _⟩
    · rw [e1] at e; simp [Value.ownBlock] at e
    · rw [e1] at e
      simp [Value.ownBlock] at e
      subst e
      rw [hh] at hc
      simp at hc)
theorem TxB.snoc {w : World} {las : List AV} {x : AV} (h : TxB w las) (hx : (x.ta = none ∧ x.tn = 0 ∧ x.xs = []) ∨ ∃ tb v, x.ta = some ⟨tb, 0, none⟩ ∧ x.tn = 1 ∧ x.xs = [v] ∧ w.heap[tb]? = some (.cells #[.int .u8 v] 5 (0, 0))) : TxB w (las ++ [x]) := fun y hy => by
  rcases List.mem_append.1 hy with hy | hy
  · exact h y hy
  · obtain rfl := List.mem_singleton.1 hy; exact hx
set_option maxRecDepth 100000 in
set_option maxHeartbeats 4000000 in
theorem netNumbers_walk (w : World) :
    Calls Try.prog 3 #[] w fun r w' => r = .returned (.bool true) ∧ Below w.heap.size w w' := by
  obtain ⟨i0, hi, hz0, hz1, hz2⟩ := info_parts2 info_ak
  go_enter Try.func3, Try.ntmps3
  go_wp2_with fail
  go_loopw [1] (fun j wr => ∃ K : Nat, K ≤ 30 ∧ j = .int .i64 (K : Int) ∧ Below w.heap.size w wr) (fun j _ => 30 - (intOf j).toNat)
  case atStart => exact ⟨0, by omega, rfl, Below.refl _ _⟩
  case round =>
    obtain ⟨w0, rfl⟩ : ∃ y : World, y = wr := ⟨_, rfl⟩
    obtain ⟨K, hK, rfl, hd0⟩ := hrel
    have HD0 := Lib.hid hd0
    clear hd0
    by_cases hKlt : K < 30
    · have hKi : (K : Int) < 30 := by omega
      go_wp2_with fail
      go_loopw [2, 3] (fun v j wr => ∃ (I : Nat) (a : Option Addr) (c : Nat) (las : List AV), I ≤ 70 ∧ j = .int .i64 (I : Int) ∧ v = .slice a I c ∧ las.length = I ∧ OwnR akc 5 25 w.heap.size wr v las ∧ TxB wr las ∧ Below w.heap.size w wr) (fun v j _ => 70 - (intOf j).toNat)
      case atStart => exact ⟨0, none, 0, [], by omega, rfl, rfl, rfl, OwnR.nil _ _, (fun x hx => by cases hx), HD0.out⟩
      case round =>
        obtain ⟨wr, rfl⟩ : ∃ y : World, y = wr := ⟨_, rfl⟩
        obtain ⟨I, a, c, las, hI, rfl, rfl, hlen, ho, htx, hd⟩ := hrel
        have HO := Lib.hid ho
        have HTX := Lib.hid htx
        have HD := Lib.hid hd
        have HLN := Lib.hid hlen
        clear ho htx hd hlen HD0
        by_cases hlt : I < 70
        · have hltd : decide ((I : Int) < 70) = true := decide_eq_true (by omega)
          have hlti : (I : Int) < 70 := by omega
          obtain ⟨Q, hQ⟩ : ∃ Q, (I : Int) * (I : Int) = Q := ⟨_, rfl⟩
          have hQ0 : 0 ≤ Q ∧ Q ≤ 4761 := by
            rw [← hQ]
            have h1 : I * I ≤ 69 * 69 := Nat.mul_le_mul (by omega) (by omega)
            have h2 : ((I * I : Nat) : Int) = (I : Int) * (I : Int) := by push_cast; rfl
            omega
          obtain ⟨R, hR⟩ : ∃ R, (I : Int) * (K : Int) = R := ⟨_, rfl⟩
          have hR0 : 0 ≤ R ∧ R ≤ 2001 := by
            rw [← hR]
            have h1 : I * K ≤ 69 * 29 := Nat.mul_le_mul (by omega) (by omega)
            have h2 : ((I * K : Nat) : Int) = (I : Int) * (K : Int) := by push_cast; rfl
            omega
          have E4 := Lib.hid (show Below wr.heap.size wr ((wr.alloc (.cells #[.int .u8 (I : Int)] 5)).alloc (.cells #[.int .i64 ((Q + (K : Int)) % 7), .int .i64 (((I : Int) + (K : Int)) % 5), .int .i64 ((I : Int) * 3 % 5), .int .i64 (R % 6 - 1), .slice (some ⟨wr.heap.size, 0, none⟩) 1 1] 25)) from ((Below.refl _ _).alloc (Nat.le_refl _) _).alloc (by simp) _)
          have HK4 := Lib.hid (blk_alloc (blk_new wr #[.int .u8 (I : Int)] 5) (.cells #[.int .i64 ((Q + (K : Int)) % 7), .int .i64 (((I : Int) + (K : Int)) % 5), .int .i64 ((I : Int) * 3 % 5), .int .i64 (R % 6 - 1), .slice (some ⟨wr.heap.size, 0, none⟩) 1 1] 25))
          have HO4 := Lib.hid (show (((wr.alloc (.cells #[.int .u8 (I : Int)] 5)).alloc (.cells #[.int .i64 ((Q + (K : Int)) % 7), .int .i64 (((I : Int) + (K : Int)) % 5), .int .i64 ((I : Int) * 3 % 5), .int .i64 (R % 6 - 1), .slice (some ⟨wr.heap.size, 0, none⟩) 1 1] 25))).ownsRow w.heap.size 25 5 (.slice a I c) I (flat akc las) from by have := OwnR.ext HO.out E4.out; unfold OwnR at this; rwa [HLN.out] at this)
          go_wp2_with (at_builtin; refine wpList_append_own _ rfl _ _ 22 rfl (w.heap.size) 25 i0 (.agg #[.int .i64 0, .int .i64 0, .int .i64 0, .int .i64 0, .slice none 0 0]) 5 56 Try.underlying22 hi hz0 hz1 hz2 rfl (by decide) (.slice a I c) I (flat akc las) rfl HO4.out ⟨wr.heap.size + 1, 0, none⟩ 1 1 (akc (⟨((Q + (K : Int)) % 7), (((I : Int) + (K : Int)) % 5), ((I : Int) * 3 % 5), (R % 6 - 1), some ⟨wr.heap.size, 0, none⟩, 1, 1, [(I : Int)]⟩ : AV)) rfl rfl ?c1 ?c2 ?c3 ?c4 ?c5 ?_)
          case c1 =>
            intro j u hj
            rw [add_offR, Nat.zero_add, blk_cell (show (((wr.alloc (.cells #[.int .u8 (I : Int)] 5)).alloc (.cells #[.int .i64 ((Q + (K : Int)) % 7), .int .i64 (((I : Int) + (K : Int)) % 5), .int .i64 ((I : Int) * 3 % 5), .int .i64 (R % 6 - 1), .slice (some ⟨wr.heap.size, 0, none⟩) 1 1] 25))).heap[wr.heap.size + 1]? = some (.cells #[.int .i64 ((Q + (K : Int)) % 7), .int .i64 (((I : Int) + (K : Int)) % 5), .int .i64 ((I : Int) * 3 % 5), .int .i64 (R % 6 - 1), .slice (some ⟨wr.heap.size, 0, none⟩) 1 1] 25 (0, 0)) from blk_new_at (by simp) _ _)]
            simpa [akc] using hj
          case c2 => exact akc_one _
          case c3 => unfold maxLen; omega
          case c4 => omega
          case c5 => have := HD.out.size; simp; omega
          intro vz wz hoz hgz _
          have HLZ := Lib.hid (show (las ++ [(⟨((Q + (K : Int)) % 7), (((I : Int) + (K : Int)) % 5), ((I : Int) * 3 % 5), (R % 6 - 1), some ⟨wr.heap.size, 0, none⟩, 1, 1, [(I : Int)]⟩ : AV)]).length = I + 1 from by rw [List.length_append, HLN.out]; rfl)
          have HOZ := Lib.hid (show OwnR akc 5 25 w.heap.size wz vz (las ++ [(⟨((Q + (K : Int)) % 7), (((I : Int) + (K : Int)) % 5), ((I : Int) * 3 % 5), (R % 6 - 1), some ⟨wr.heap.size, 0, none⟩, 1, 1, [(I : Int)]⟩ : AV)]) from by unfold OwnR; rw [flat_snoc, HLZ.out]; exact hoz)
          have HTZ := Lib.hid (TxB.grown ((HTX.out.ext E4.out).snoc (x := (⟨((Q + (K : Int)) % 7), (((I : Int) + (K : Int)) % 5), ((I : Int) * 3 % 5), (R % 6 - 1), some ⟨wr.heap.size, 0, none⟩, 1, 1, [(I : Int)]⟩ : AV)) (.inr ⟨_, _, rfl, rfl, rfl, HK4.out⟩)) (OwnR.ext HO.out E4.out) hgz)
          have HDZ := Lib.hid (Below.grown (ext_trans HD.out E4.out) hgz (Nat.le_trans HD.out.size E4.out.size) (fun q hq => own_ge HO4.out hq))
          obtain ⟨az, cz, ez, -, -, -⟩ := OwnR.form HOZ.out
          rw [HLZ.out] at ez
          subst ez
          clear hoz hgz E4 HK4 HO4 HO HTX HD
          go_wp2
          go_roundw
          case rel => exact ⟨I + 1, az, cz, _, by omega, by go_num, rfl, HLZ.out, HOZ.out, HTZ.out, HDZ.out⟩
          case measure => simp [intOf]; omega
        · obtain rfl : I = 70 := by omega
          have hltd : ¬ (((70 : Nat) : Int) < 70) := by omega
          obtain ⟨a2, c2, ea, hac, ham, hsat, -, hfm⟩ := HO.out.read akc_len
          rw [HLN.out] at ea hac
          simp only [Value.slice.injEq] at ea
          obtain ⟨rfl, -, rfl⟩ := ea
          have HS := Lib.hid hsat
          clear hsat
          have hK8 : 0 ≤ (K : Int) % 8 := by omega
          go_wp2_with fail
          refine (law8play ((K : Int) % 8) a 70 c las _ HS.out HLN.out hac ham (by omega) HTX.out.txt).mono ?_
          rintro e w5 ⟨rfl, hb5⟩
          have HD5 := Lib.hid (ext_trans HD.out hb5)
          clear hb5 HS HTX HO HD hfm
          go_wp2
          go_roundw
          case rel => exact ⟨K + 1, by omega, by go_num, HD5.out⟩
          case measure => simp [intOf]; omega
    · obtain rfl : K = 30 := by omega
      have hKi : ¬ (((30 : Nat) : Int) < 30) := by omega
      go_wp2_with fail
      go_loopw [4, 5] (fun v j wr => ∃ (I : Nat) (a : Option Addr) (c : Nat) (las : List AV), I ≤ 67 ∧ j = .int .i64 (I : Int) ∧ v = .slice a I c ∧ las.length = I ∧ OwnR akc 5 25 w.heap.size wr v las ∧ TxB wr las ∧ Below w.heap.size w wr) (fun v j _ => 67 - (intOf j).toNat)
      case atStart => exact ⟨0, none, 0, [], by omega, rfl, rfl, rfl, OwnR.nil _ _, (fun x hx => by cases hx), HD0.out⟩
      case round =>
        obtain ⟨wr, rfl⟩ : ∃ y : World, y = wr := ⟨_, rfl⟩
        obtain ⟨I, a, c, las, hI, rfl, rfl, hlen, ho, htx, hd⟩ := hrel
        have HO := Lib.hid ho
        have HTX := Lib.hid htx
        have HD := Lib.hid hd
        have HLN := Lib.hid hlen
        clear ho htx hd hlen HD0
        by_cases hlt : I < 67
        · have hltd : decide ((I : Int) < 67) = true := decide_eq_true (by omega)
          have hlti : (I : Int) < 67 := by omega
          have E4 := Lib.hid (show Below wr.heap.size wr ((wr.alloc (.cells #[.int .u8 (I : Int)] 5)).alloc (.cells #[.int .i64 0, .int .i64 0, .int .i64 1, .int .i64 0, .slice (some ⟨wr.heap.size, 0, none⟩) 1 1] 25)) from ((Below.refl _ _).alloc (Nat.le_refl _) _).alloc (by simp) _)
          have HK4 := Lib.hid (blk_alloc (blk_new wr #[.int .u8 (I : Int)] 5) (.cells #[.int .i64 0, .int .i64 0, .int .i64 1, .int .i64 0, .slice (some ⟨wr.heap.size, 0, none⟩) 1 1] 25))
          have HO4 := Lib.hid (show (((wr.alloc (.cells #[.int .u8 (I : Int)] 5)).alloc (.cells #[.int .i64 0, .int .i64 0, .int .i64 1, .int .i64 0, .slice (some ⟨wr.heap.size, 0, none⟩) 1 1] 25))).ownsRow w.heap.size 25 5 (.slice a I c) I (flat akc las) from by have := OwnR.ext HO.out E4.out; unfold OwnR at this; rwa [HLN.out] at this)
          go_wp2_with (at_builtin; refine wpList_append_own _ rfl _ _ 22 rfl (w.heap.size) 25 i0 (.agg #[.int .i64 0, .int .i64 0, .int .i64 0, .int .i64 0, .slice none 0 0]) 5 56 Try.underlying22 hi hz0 hz1 hz2 rfl (by decide) (.slice a I c) I (flat akc las) rfl HO4.out ⟨wr.heap.size + 1, 0, none⟩ 1 1 (akc (⟨0, 0, 1, 0, some ⟨wr.heap.size, 0, none⟩, 1, 1, [(I : Int)]⟩ : AV)) rfl rfl ?c1 ?c2 ?c3 ?c4 ?c5 ?_)
          case c1 =>
            intro j u hj
            rw [add_offR, Nat.zero_add, blk_cell (show (((wr.alloc (.cells #[.int .u8 (I : Int)] 5)).alloc (.cells #[.int .i64 0, .int .i64 0, .int .i64 1, .int .i64 0, .slice (some ⟨wr.heap.size, 0, none⟩) 1 1] 25))).heap[wr.heap.size + 1]? = some (.cells #[.int .i64 0, .int .i64 0, .int .i64 1, .int .i64 0, .slice (some ⟨wr.heap.size, 0, none⟩) 1 1] 25 (0, 0)) from blk_new_at (by simp) _ _)]
            simpa [akc] using hj
          case c2 => exact akc_one _
          case c3 => unfold maxLen; omega
          case c4 => omega
          case c5 => have := HD.out.size; simp; omega
          intro vz wz hoz hgz _
          have HLZ := Lib.hid (show (las ++ [(⟨0, 0, 1, 0, some ⟨wr.heap.size, 0, none⟩, 1, 1, [(I : Int)]⟩ : AV)]).length = I + 1 from by rw [List.length_append, HLN.out]; rfl)
          have HOZ := Lib.hid (show OwnR akc 5 25 w.heap.size wz vz (las ++ [(⟨0, 0, 1, 0, some ⟨wr.heap.size, 0, none⟩, 1, 1, [(I : Int)]⟩ : AV)]) from by unfold OwnR; rw [flat_snoc, HLZ.out]; exact hoz)
          have HTZ := Lib.hid (TxB.grown ((HTX.out.ext E4.out).snoc (x := (⟨0, 0, 1, 0, some ⟨wr.heap.size, 0, none⟩, 1, 1, [(I : Int)]⟩ : AV)) (.inr ⟨_, _, rfl, rfl, rfl, HK4.out⟩)) (OwnR.ext HO.out E4.out) hgz)
          have HDZ := Lib.hid (Below.grown (ext_trans HD.out E4.out) hgz (Nat.le_trans HD.out.size E4.out.size) (fun q hq => own_ge HO4.out hq))
          obtain ⟨az, cz, ez, -, -, -⟩ := OwnR.form HOZ.out
          rw [HLZ.out] at ez
          subst ez
          clear hoz hgz E4 HK4 HO4 HO HTX HD
          go_wp2
          go_roundw
          case rel => exact ⟨I + 1, az, cz, _, by omega, by go_num, rfl, HLZ.out, HOZ.out, HTZ.out, HDZ.out⟩
          case measure => simp [intOf]; omega
        · obtain rfl : I = 67 := by omega
          have hltd : ¬ (((67 : Nat) : Int) < 67) := by omega
          obtain ⟨a2, c2, ea, hac, ham, hsat, -, hfm⟩ := HO.out.read akc_len
          rw [HLN.out] at ea hac
          simp only [Value.slice.injEq] at ea
          obtain ⟨rfl, -, rfl⟩ := ea
          have HS := Lib.hid hsat
          clear hsat
          have E4 := Lib.hid (show Below wr.heap.size wr (wr.alloc (.cells #[.int .i64 4, .int .i64 0, .int .i64 0, .int .i64 3, .slice none 0 0, .int .i64 3, .int .i64 0, .int .i64 0, .int .i64 3, .slice none 0 0, .int .i64 4, .int .i64 0, .int .i64 0, .int .i64 5, .slice none 0 0, .int .i64 2, .int .i64 0, .int .i64 0, .int .i64 60, .slice none 0 0, .int .i64 2, .int .i64 0, .int .i64 0, .int .i64 4611686018427387904, .slice none 0 0, .int .i64 4, .int .i64 0, .int .i64 0, .int .i64 (-9223372036854775808), .slice none 0 0] 25)) from (Below.refl _ _).alloc (Nat.le_refl _) _)
          obtain ⟨SX, hSX⟩ : ∃ SX : List AV, SX = [⟨4, 0, 0, 3, none, 0, 0, []⟩, ⟨3, 0, 0, 3, none, 0, 0, []⟩, ⟨4, 0, 0, 5, none, 0, 0, []⟩, ⟨2, 0, 0, 60, none, 0, 0, []⟩, ⟨2, 0, 0, 4611686018427387904, none, 0, 0, []⟩, ⟨4, 0, 0, (-9223372036854775808), none, 0, 0, []⟩] := ⟨_, rfl⟩
          have HSX := Lib.hid hSX
          have hSF := Lib.hid (show flat akc SX = [.int .i64 4, .int .i64 0, .int .i64 0, .int .i64 3, .slice none 0 0, .int .i64 3, .int .i64 0, .int .i64 0, .int .i64 3, .slice none 0 0, .int .i64 4, .int .i64 0, .int .i64 0, .int .i64 5, .slice none 0 0, .int .i64 2, .int .i64 0, .int .i64 0, .int .i64 60, .slice none 0 0, .int .i64 2, .int .i64 0, .int .i64 0, .int .i64 4611686018427387904, .slice none 0 0, .int .i64 4, .int .i64 0, .int .i64 0, .int .i64 (-9223372036854775808), .slice none 0 0] from by rw [hSX]; rfl)
          have hSL := Lib.hid (show SX.length = 6 from by rw [hSX]; rfl)
          clear hSX
          have HO4 := Lib.hid (show (wr.alloc (.cells #[.int .i64 4, .int .i64 0, .int .i64 0, .int .i64 3, .slice none 0 0, .int .i64 3, .int .i64 0, .int .i64 0, .int .i64 3, .slice none 0 0, .int .i64 4, .int .i64 0, .int .i64 0, .int .i64 5, .slice none 0 0, .int .i64 2, .int .i64 0, .int .i64 0, .int .i64 60, .slice none 0 0, .int .i64 2, .int .i64 0, .int .i64 0, .int .i64 4611686018427387904, .slice none 0 0, .int .i64 4, .int .i64 0, .int .i64 0, .int .i64 (-9223372036854775808), .slice none 0 0] 25)).ownsRow w.heap.size 25 5 (.slice a 67 c) 67 (flat akc las) from by have := OwnR.ext HO.out E4.out; unfold OwnR at this; rwa [HLN.out] at this)
          go_wp2_with (at_builtin; refine wpList_append_own _ rfl _ _ 22 rfl (w.heap.size) 25 i0 (.agg #[.int .i64 0, .int .i64 0, .int .i64 0, .int .i64 0, .slice none 0 0]) 5 56 Try.underlying22 hi hz0 hz1 hz2 rfl (by decide) (.slice a 67 c) 67 (flat akc las) rfl HO4.out ⟨wr.heap.size, 0, none⟩ 6 6 (flat akc SX) rfl ?c0 ?c1 ?c2 ?c3 ?c4 ?c5 ?_)
          try (case c0 => rw [hSF.out]; rfl)
          try (case c1 =>
            intro j u hj
            rw [hSF.out] at hj
            first
              | exact hj
              | simpa using hj
              | (rw [add_offR, Nat.zero_add, blk_cell (blk_new wr #[.int .i64 4, .int .i64 0, .int .i64 0, .int .i64 3, .slice none 0 0, .int .i64 3, .int .i64 0, .int .i64 0, .int .i64 3, .slice none 0 0, .int .i64 4, .int .i64 0, .int .i64 0, .int .i64 5, .slice none 0 0, .int .i64 2, .int .i64 0, .int .i64 0, .int .i64 60, .slice none 0 0, .int .i64 2, .int .i64 0, .int .i64 0, .int .i64 4611686018427387904, .slice none 0 0, .int .i64 4, .int .i64 0, .int .i64 0, .int .i64 (-9223372036854775808), .slice none 0 0] 25)]; simpa using hj))
          try (case c2 => exact flat_one akc_one _)
          try (case c3 => unfold maxLen; omega)
          try (case c4 => omega)
          try (case c5 => have := HD.out.size; simp; omega)
          intro vz wz hoz hgz _
          have HLZ := Lib.hid (show (las ++ SX).length = 73 from by rw [List.length_append, HLN.out, hSL.out])
          have HOZ := Lib.hid (show OwnR akc 5 25 w.heap.size wz vz (las ++ SX) from by unfold OwnR; rw [flat_app, HLZ.out]; exact hoz)
          have HTZ := Lib.hid (TxB.grown (show TxB _ (las ++ SX) from fun x hx => by
            rcases List.mem_append.1 hx with hx | hx
            · exact HTX.out.ext E4.out x hx
            · rw [HSX.out] at hx
              left
              simp at hx
              rcases hx with rfl | rfl | rfl | rfl | rfl | rfl <;> exact ⟨rfl, rfl, rfl⟩) (OwnR.ext HO.out E4.out) hgz)
          have HDZ := Lib.hid (Below.grown (ext_trans HD.out E4.out) hgz (Nat.le_trans HD.out.size E4.out.size) (fun q hq => own_ge HO4.out hq))
          obtain ⟨az, cz, ez, hzc, hzm, hzs, -, -⟩ := HOZ.out.read akc_len
          rw [HLZ.out] at ez hzc
          subst ez
          have HSZ := Lib.hid hzs
          clear hoz hgz E4 HO4 HO HTX HD hzs hfm HS
          go_wp2_with fail
          refine (law8play 2 az 73 cz _ _ HSZ.out HLZ.out hzc hzm (by omega) HTZ.out.txt).mono ?_
          rintro e w7 ⟨rfl, hb7⟩
          have HD7 := Lib.hid (ext_trans HDZ.out hb7)
          clear hb7 HSZ HTZ HOZ HDZ
          go_wp2_with fail
          refine (law8known w7).mono ?_
          rintro e w8 ⟨rfl, hb8⟩
          have HD8 := Lib.hid (ext_trans HD7.out hb8)
          clear hb8
          go_wp2
          go_ret
          exact ⟨rfl, HD8.out⟩

end Go.Proofs.Ytkkmnodhmmdllaa
