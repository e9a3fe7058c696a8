/- Layer 9's laws, walked: LeaseNumbers. -/
import Derived.Test.YtcclncpegdbcbaaLeaseSame
namespace Go.Proofs.Ytcclncpegdbcbaa
open Go.RowKit
set_option linter.unusedVariables false

set_option maxRecDepth 100000 in
set_option maxHeartbeats 4000000 in
theorem leaseNumbers_walk (w : World) :
    Calls Try.prog 3 #[] w fun e w' => e = .returned (.bool true) ∧ Below w.heap.size w w' := by
  go_enter Try.func3, Try.ntmps3
  go_wp2_with fail
  have CA0 : ∀ k, k < 7 → (w.alloc (.cells #[.int .i64 (-9223372036854775808), .int .i64 (-5), .int .i64 0, .int .i64 3, .int .i64 1099511627776, .int .i64 4611686018427387904, .int .i64 9223372036854775807] 2)).cell? ⟨w.heap.size, k, none⟩ = some (.int .i64 ([-9223372036854775808, -5, 0, 3, 1099511627776, 4611686018427387904, 9223372036854775807].getD k 0)) := by
    intro k hk
    match k, hk with
    | 0, _ => go_cell
    | 1, _ => go_cell
    | 2, _ => go_cell
    | 3, _ => go_cell
    | 4, _ => go_cell
    | 5, _ => go_cell
    | 6, _ => go_cell
  have Bwa : Below w.heap.size w (w.alloc (.cells #[.int .i64 (-9223372036854775808), .int .i64 (-5), .int .i64 0, .int .i64 3, .int .i64 1099511627776, .int .i64 4611686018427387904, .int .i64 9223372036854775807] 2)) := by go_grown
  have CA := Lib.hid CA0
  have hwa : w.heap.size < (w.alloc (.cells #[.int .i64 (-9223372036854775808), .int .i64 (-5), .int .i64 0, .int .i64 3, .int .i64 1099511627776, .int .i64 4611686018427387904, .int .i64 9223372036854775807] 2)).heap.size := by simp
  clear CA0
  generalize (w.alloc (.cells #[.int .i64 (-9223372036854775808), .int .i64 (-5), .int .i64 0, .int .i64 3, .int .i64 1099511627776, .int .i64 4611686018427387904, .int .i64 9223372036854775807] 2)) = wa at *
  go_loopw [11] (fun i wp => ∃ k : Nat, k ≤ 7 ∧ i = .int .i64 k ∧ Below wa.heap.size wa wp) (fun i _ => 7 - (intOf i).toNat)
  case atStart => exact ⟨0, by omega, rfl, Below.refl _ _⟩
  case round =>
    obtain ⟨waq, rfl⟩ : ∃ wq : World, wq = wr := ⟨_, rfl⟩
    obtain ⟨k1, hk1, rfl, Dwa⟩ := hrel
    by_cases hlk1 : k1 < 7
    · have hxx1 := ext_cell Dwa (CA.out k1 hlk1)
      generalize [-9223372036854775808, -5, 0, 3, 1099511627776, 4611686018427387904, 9223372036854775807].getD k1 0 = x1 at hxx1
      have Bwaq : Below w.heap.size w waq := ext_trans Bwa Dwa
      have Zwaq := Bwaq.size
      have hdk1 : decide ((k1 : Int) < 7) = true := by simp; omega
      go_wp2_with fail
      have CB0 : ∀ k, k < 6 → (waq.alloc (.cells #[.int .i64 1, .int .i64 5, .int .i64 1048576, .int .i64 4611686018427387904, .int .i64 (-1), .int .i64 9223372036854775807] 2)).cell? ⟨waq.heap.size, k, none⟩ = some (.int .i64 ([1, 5, 1048576, 4611686018427387904, -1, 9223372036854775807].getD k 0)) := by
        intro k hk
        match k, hk with
        | 0, _ => go_cell
        | 1, _ => go_cell
        | 2, _ => go_cell
        | 3, _ => go_cell
        | 4, _ => go_cell
        | 5, _ => go_cell
      have Bwb : Below w.heap.size w (waq.alloc (.cells #[.int .i64 1, .int .i64 5, .int .i64 1048576, .int .i64 4611686018427387904, .int .i64 (-1), .int .i64 9223372036854775807] 2)) := by (have := Bwaq.size; exact Bwaq.alloc this _)
      have CB := Lib.hid CB0
      have hwb : waq.heap.size < (waq.alloc (.cells #[.int .i64 1, .int .i64 5, .int .i64 1048576, .int .i64 4611686018427387904, .int .i64 (-1), .int .i64 9223372036854775807] 2)).heap.size := by simp
      have Gwb : Below waq.heap.size waq (waq.alloc (.cells #[.int .i64 1, .int .i64 5, .int .i64 1048576, .int .i64 4611686018427387904, .int .i64 (-1), .int .i64 9223372036854775807] 2)) := (Below.refl _ _).alloc (Nat.le_refl _) _
      clear CB0
      generalize (waq.alloc (.cells #[.int .i64 1, .int .i64 5, .int .i64 1048576, .int .i64 4611686018427387904, .int .i64 (-1), .int .i64 9223372036854775807] 2)) = wb at *
      go_loopw [17] (fun i wp => ∃ k : Nat, k ≤ 6 ∧ i = .int .i64 k ∧ Below wb.heap.size wb wp) (fun i _ => 6 - (intOf i).toNat)
      case atStart => exact ⟨0, by omega, rfl, Below.refl _ _⟩
      case round =>
        obtain ⟨wbq, rfl⟩ : ∃ wq : World, wq = wr := ⟨_, rfl⟩
        obtain ⟨k2, hk2, rfl, Dwb⟩ := hrel
        by_cases hlk2 : k2 < 6
        · have hxx2 := ext_cell Dwb (CB.out k2 hlk2)
          generalize [1, 5, 1048576, 4611686018427387904, -1, 9223372036854775807].getD k2 0 = x2 at hxx2
          have Bwbq : Below w.heap.size w wbq := ext_trans Bwb Dwb
          have Zwbq := Bwbq.size
          have hdk2 : decide ((k2 : Int) < 6) = true := by simp; omega
          go_wp2_with fail
          have CC0 : ∀ k, k < 7 → (wbq.alloc (.cells #[.int .i64 (-9223372036854775808), .int .i64 0, .int .i64 4, .int .i64 8, .int .i64 9, .int .i64 2199023255552, .int .i64 9223372036854775807] 2)).cell? ⟨wbq.heap.size, k, none⟩ = some (.int .i64 ([-9223372036854775808, 0, 4, 8, 9, 2199023255552, 9223372036854775807].getD k 0)) := by
            intro k hk
            match k, hk with
            | 0, _ => go_cell
            | 1, _ => go_cell
            | 2, _ => go_cell
            | 3, _ => go_cell
            | 4, _ => go_cell
            | 5, _ => go_cell
            | 6, _ => go_cell
          have Bwc : Below w.heap.size w (wbq.alloc (.cells #[.int .i64 (-9223372036854775808), .int .i64 0, .int .i64 4, .int .i64 8, .int .i64 9, .int .i64 2199023255552, .int .i64 9223372036854775807] 2)) := by (have := Bwbq.size; exact Bwbq.alloc this _)
          have CC := Lib.hid CC0
          have hwc : wbq.heap.size < (wbq.alloc (.cells #[.int .i64 (-9223372036854775808), .int .i64 0, .int .i64 4, .int .i64 8, .int .i64 9, .int .i64 2199023255552, .int .i64 9223372036854775807] 2)).heap.size := by simp
          have Gwc : Below wbq.heap.size wbq (wbq.alloc (.cells #[.int .i64 (-9223372036854775808), .int .i64 0, .int .i64 4, .int .i64 8, .int .i64 9, .int .i64 2199023255552, .int .i64 9223372036854775807] 2)) := (Below.refl _ _).alloc (Nat.le_refl _) _
          clear CC0
          generalize (wbq.alloc (.cells #[.int .i64 (-9223372036854775808), .int .i64 0, .int .i64 4, .int .i64 8, .int .i64 9, .int .i64 2199023255552, .int .i64 9223372036854775807] 2)) = wc at *
          go_loopw [23] (fun i wp => ∃ k : Nat, k ≤ 7 ∧ i = .int .i64 k ∧ Below wc.heap.size wc wp) (fun i _ => 7 - (intOf i).toNat)
          case atStart => exact ⟨0, by omega, rfl, Below.refl _ _⟩
          case round =>
            obtain ⟨wcq, rfl⟩ : ∃ wq : World, wq = wr := ⟨_, rfl⟩
            obtain ⟨k3, hk3, rfl, Dwc⟩ := hrel
            by_cases hlk3 : k3 < 7
            · have hxx3 := ext_cell Dwc (CC.out k3 hlk3)
              generalize [-9223372036854775808, 0, 4, 8, 9, 2199023255552, 9223372036854775807].getD k3 0 = x3 at hxx3
              have Bwcq : Below w.heap.size w wcq := ext_trans Bwc Dwc
              have Zwcq := Bwcq.size
              have hdk3 : decide ((k3 : Int) < 7) = true := by simp; omega
              go_wp2_with fail
              go_loopw [7] (fun i wp => ∃ j : Int, -1 ≤ j ∧ j ≤ 5 ∧ i = .int .i64 j ∧ Below wcq.heap.size wcq wp) (fun i _ => (5 - intOf i).toNat)
              case atStart => exact ⟨-1, by omega, by omega, rfl, Below.refl _ _⟩
              case round =>
                obtain ⟨wd, rfl⟩ : ∃ wq : World, wq = wr := ⟨_, rfl⟩
                obtain ⟨j, hj0, hj, rfl, Dd⟩ := hrel
                have Zd := Dd.size
                by_cases hlj : j < 5
                · rcases (by omega : j = -1 ∨ j = 0 ∨ j = 1 ∨ j = 2 ∨ j = 3 ∨ j = 4) with rfl | rfl | rfl | rfl | rfl | rfl
                  · go_wp2_with fail
                    refine (law9same ⟨⟨⟨#[]⟩, ⟨#[]⟩, 1, 2, x2, 0, 0, 0, false⟩, x1⟩ false ⟨⟨#[]⟩, ⟨#[]⟩, 0, 3, 7, 0, 0, 0, false⟩ (-1) x3 0 0 x3 _).mono ?_
                    rintro e u1 ⟨rfl, hb⟩
                    have Dn : Below wcq.heap.size wcq u1 := ext_trans (Dd.alloc Zd _) hb
                    clear hb
                    go_wp2
                    go_roundw
                    case rel => exact ⟨0, by omega, by omega, rfl, Dn⟩
                    case measure => decide
                  · go_wp2_with fail
                    refine (law9same ⟨⟨⟨#[]⟩, ⟨#[]⟩, 1, 2, x2, 0, 0, 0, false⟩, x1⟩ true ⟨⟨#[]⟩, ⟨#[]⟩, 0, 3, 7, 0, 0, 0, false⟩ 0 x3 0 0 x3 _).mono ?_
                    rintro e u1 ⟨rfl, hb⟩
                    have Dn : Below wcq.heap.size wcq u1 := ext_trans (Dd.alloc Zd _) hb
                    clear hb
                    go_wp2
                    go_roundw
                    case rel => exact ⟨1, by omega, by omega, rfl, Dn⟩
                    case measure => decide
                  · go_wp2_with fail
                    refine (law9same ⟨⟨⟨#[]⟩, ⟨#[]⟩, 1, 2, x2, 0, 0, 0, false⟩, x1⟩ false ⟨⟨#[]⟩, ⟨#[]⟩, 0, 3, 7, 0, 0, 0, false⟩ 1 x3 0 0 x3 _).mono ?_
                    rintro e u1 ⟨rfl, hb⟩
                    have Dn : Below wcq.heap.size wcq u1 := ext_trans (Dd.alloc Zd _) hb
                    clear hb
                    go_wp2
                    go_roundw
                    case rel => exact ⟨2, by omega, by omega, rfl, Dn⟩
                    case measure => decide
                  · go_wp2_with fail
                    refine (law9same ⟨⟨⟨#[]⟩, ⟨#[]⟩, 1, 2, x2, 0, 0, 0, false⟩, x1⟩ true ⟨⟨#[]⟩, ⟨#[]⟩, 0, 3, 7, 0, 0, 0, true⟩ 2 x3 0 0 x3 _).mono ?_
                    rintro e u1 ⟨rfl, hb⟩
                    have Dn : Below wcq.heap.size wcq u1 := ext_trans (Dd.alloc Zd _) hb
                    clear hb
                    go_wp2
                    go_roundw
                    case rel => exact ⟨3, by omega, by omega, rfl, Dn⟩
                    case measure => decide
                  · go_wp2_with fail
                    refine (law9same ⟨⟨⟨#[]⟩, ⟨#[]⟩, 1, 2, x2, 0, 0, 0, true⟩, x1⟩ false ⟨⟨#[]⟩, ⟨#[]⟩, 0, 3, 7, 0, 0, 0, false⟩ 3 x3 0 0 x3 _).mono ?_
                    rintro e u1 ⟨rfl, hb⟩
                    have Dn : Below wcq.heap.size wcq u1 := ext_trans (Dd.alloc Zd _) hb
                    clear hb
                    go_wp2
                    go_roundw
                    case rel => exact ⟨4, by omega, by omega, rfl, Dn⟩
                    case measure => decide
                  · go_wp2_with fail
                    refine (law9same ⟨⟨⟨#[]⟩, ⟨#[]⟩, 1, 2, x2, 0, 0, 0, false⟩, x1⟩ true ⟨⟨#[]⟩, ⟨#[]⟩, 0, 3, 7, 0, 0, 0, false⟩ 4 x3 0 0 x3 _).mono ?_
                    rintro e u1 ⟨rfl, hb⟩
                    have Dn : Below wcq.heap.size wcq u1 := ext_trans (Dd.alloc Zd _) hb
                    clear hb
                    go_wp2
                    go_roundw
                    case rel => exact ⟨5, by omega, by omega, rfl, Dn⟩
                    case measure => decide
                · clear hj0 hj
                  go_wp2
                  go_roundw
                  case rel => exact ⟨k3 + 1, by omega, by go_num, ext_trans Dwc Dd⟩
                  case measure => simp [intOf]; omega
            · clear hk3
              go_wp2
              go_roundw
              case rel => exact ⟨k2 + 1, by omega, by go_num, ext_trans (ext_trans Dwb Gwc) Dwc⟩
              case measure => simp [intOf]; omega
        · clear hk2
          go_wp2
          go_roundw
          case rel => exact ⟨k1 + 1, by omega, by go_num, ext_trans (ext_trans Dwa Gwb) Dwb⟩
          case measure => simp [intOf]; omega
    · clear hk1
      have B0 : Below w.heap.size w waq := ext_trans Bwa Dwa
      have Z0 := B0.size
      clear CA
      have hmk : ∀ w : World, (Instr.makeSlice 33 (.int .i64 1) (.int .i64 1)).run Try.prog w = .ok (.slice (some ⟨w.heap.size, 0, none⟩) 1 1) (w.alloc (.cells #[.string ⟨#[]⟩, .string ⟨#[]⟩, .int .i64 0, .int .i64 0, .int .i64 0, .int .i64 0, .int .i64 0, .int .i64 0, .bool false, .int .i64 0] 30)) := fun _ => by kernel_rfl
      go_wp2_with fail
      refine (leaseSame_none _).mono ?_
      rintro e u1 ⟨rfl, rfl⟩
      go_wp2_with fail
      refine (leaseSame_some _ _).mono ?_
      rintro e u1 ⟨rfl, rfl⟩
      go_wp2_with fail
      refine (law9known _).mono ?_
      rintro e u2 ⟨rfl, hb⟩
      have B3 : Below w.heap.size w u2 := ext_trans (a := w) (by go_grown) hb
      go_wp2
      go_ret
      exact ⟨rfl, B3⟩

end Go.Proofs.Ytcclncpegdbcbaa
