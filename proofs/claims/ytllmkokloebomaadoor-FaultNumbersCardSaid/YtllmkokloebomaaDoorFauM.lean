/- What faults tell: words, Fault.Error. -/
import Derived.Test.YtllmkokloebomaaDoorFauL
namespace Go.Proofs.YtllmkokloebomaaDoor
open Go.RowKit Go.Extern.Stop Go.Stop Go.Extern
set_option linter.unusedVariables false
set_option linter.unusedSimpArgs false

/-- what faults of these ops tell, around an error that tells t -/
def fT : List ByteArray → ByteArray → ByteArray
  | [], t => t
  | op :: ops, t => (op ++ ⟨#[58, 32]⟩) ++ fT ops t
theorem sb_app (a b : ByteArray) : sb (a ++ b) = sb a ++ sb b := by simp [sb]
set_option maxHeartbeats 1000000 in
theorem faultWordsE (c : Int) (w : World) (hc : (Lit.int .i64 c).wf = true) :
    Calls Tryd.prog 30 #[.iface 23 (.int .i64 c)] w fun r w' => r = .returned (.string (errT c)) ∧ Below w.heap.size w w' := by
  have hmf : ∀ (fn : Fn) (first cap : Array Value) (w : World), (Instr.makeFunc fn first cap).run Tryd.prog w = .ok (.func fn first cap) w := fun _ _ _ _ => rfl
  have D0 := Lib.hid ((Below.refl w.heap.size w).alloc (Nat.le_refl _) (.cells #[.string ⟨#[]⟩] 9))
  have HX := Lib.hid (blk_new w #[.string ⟨#[]⟩] 9)
  have hz := run_fault_isnil (.int .i64 c)
  have hm := mErrE
  go_enter_defers Tryd.func30, Tryd.ntmps30
  go_wp2_with fail
  obtain ⟨q, hq⟩ : ∃ q, w.heap.size = q := ⟨_, rfl⟩
  rw [hq] at HX
  try rw [hq]
  generalize (w.alloc (.cells #[.string ⟨#[]⟩] 9)) = w1 at *
  refine (errnoError c w1 hc).mono ?_
  rintro r w2 ⟨hr, hb⟩
  have HY := Lib.hid (blk_ext hb HX.out)
  have HD := Lib.hid (ext_trans D0.out hb)
  obtain ⟨T, hT⟩ : ∃ T, errT c = T := ⟨_, rfl⟩
  rw [hT] at hr
  subst hr
  clear hb
  have hyc := blk_cell HY.out
  have hyf := blk_free HY.out
  have hyl := blk_lt HY.out
  go_wp2
  refine leaves_cons (f := 40) (args := #[.pointer (some ⟨q, 0, none⟩)]) (by simp) (by simp [go_sem]) ?_
  refine (cWords_idle _ _).mono ?_
  rintro e u' w'' ⟨rfl, rfl, rfl⟩
  have HZ := blk_cell (blk_set (n := 0) (u := .string T) (vs' := #[.string T]) HY.out (by simp))
  simp [Leaves, settle, results, Tryd.results30, go_sem, HZ]
  exact ⟨hT.symm, HD.out.setCell (p := ⟨q, 0, none⟩) (by show w.heap.size ≤ q; omega) _⟩

set_option maxRecDepth 100000 in
set_option maxHeartbeats 4000000 in
theorem faultError (ops : List ByteArray) (base : Value) (T A : ByteArray) (p : Nat) (w : World) (hG : EG w) (h : FC w base ops (.iface 29 (.pointer (some ⟨p, 0, none⟩)))) (hB : Bs w base) (hn : ops.length ≤ 100) (hA : fT ops T = A) (hs : A.size ≤ 8000000)
    (hw : ∀ w', Below w.heap.size w w' → Calls Tryd.prog 30 #[base] w' fun r w'' => r = .returned (.string T) ∧ Below w'.heap.size w' w'') :
    Calls Tryd.prog 16 #[.pointer (some ⟨p, 0, none⟩)] w fun r w' => r = .returned (.string A) ∧ Below w.heap.size w w' := by
  obtain ⟨i0, hi, hz0, hz1, hz2⟩ := info_parts2 info_u8
  have HG := Lib.hid hG
  have HB := Lib.hid hB
  have HF := Lib.hid h
  have HA := Lib.hid hA
  have HS := Lib.hid hs
  have HW := Lib.hid hw
  clear hG h hB hA hw hs
  go_enter Tryd.func16, Tryd.ntmps16
  go_wp2_with fail
  refine (faultEnds ops base _ w HB.out HF.out hn).mono ?_
  rintro r w1 ⟨rfl, hb1⟩
  go_wp2_with fail
  go_loopw [0, 3] (fun ev l wr => ∃ (l2 : List ByteArray) (xs : List Int), l2 ≠ [] ∧ FC w base l2 (.iface 29 ev) ∧ wr.ownsRow w.heap.size 5 1 l xs.length (bc xs) ∧ Wb xs ∧ xs ++ sb (fT l2 T) = sb A ∧ Below w.heap.size w wr) (fun ev _ _ => fl w base (.iface 29 ev))
  case atStart =>
    refine ⟨ops, [], ?_, HF.out, OwnR.nil (enc := fun x : Int => [Value.int .u8 x]) _ _, Wb.nil, by rw [HA.out]; rfl, hb1⟩
    rintro rfl
    exact HB.out.no_fault _ (show Value.iface 29 _ = base from HF.out).symm
  case round =>
    obtain ⟨w2, rfl⟩ : ∃ y : World, y = wr := ⟨_, rfl⟩
    obtain ⟨l2, xs, hne, hf, ho, hwb, hx, hb2⟩ := hrel
    have HLN := Lib.hid (FC.len HB.out hf)
    cases l2 with
    | nil => exact absurd rfl hne
    | cons op l2 =>
      obtain ⟨q, e', he, hq, hf⟩ := hf
      have hu : u0 = .pointer (some ⟨q, 0, none⟩) := by simpa using he
      subst hu
      clear he hne
      obtain ⟨L, hL⟩ : ∃ L, xs.length = L := ⟨_, rfl⟩
      obtain ⟨M, hM⟩ : ∃ M, op.size = M := ⟨_, rfl⟩
      have hbd : L + M + 2 ≤ 8000000 := by
        have h1 := congrArg List.length hx
        rw [sb_len] at h1
        simp only [fT, sb_app, List.length_append, sb_len] at h1
        have h2 : (⟨#[58, 32]⟩ : ByteArray).size = 2 := rfl
        have := HS.out
        omega
      rw [hL] at ho
      have HO := Lib.hid ho
      have HQ := Lib.hid hq
      have HF2 := Lib.hid hf
      have HX := Lib.hid hx
      have HWB := Lib.hid hwb
      have HB2 := Lib.hid hb2
      have HL := Lib.hid hL
      have HM := Lib.hid hM
      have Z2 := hb2.size
      have hpc := blk_cell (blk_ext hb2 hq)
      have hpl := blk_lt (blk_ext hb2 hq)
      clear ho hq hf hx hwb hb2 hL hM
      go_wp2_with (at_builtin; refine Lib.wpList_append_own_string _ rfl _ _ 66 9 rfl w.heap.size 5 i0 Tryd.underlying66 Tryd.underlying9 hi hz0 hz1 hz2 _ L _ rfl HO.out op rfl ?c3 ?c4 ?c5 ?_)
      case c3 => have := HM.out; unfold maxLen; omega
      case c4 => have := HM.out; omega
      case c5 => exact Z2
      intro v3 w3 ho3 hg3 _
      have HB3 := Lib.hid (HB2.out.grown hg3 Z2 (fun q hq => own_ge HO.out hq))
      rw [HM.out, ← bc_sb, ← bc_append] at ho3
      have HO3 := Lib.hid ho3
      have Z3 := HB3.out.size
      clear ho3 hg3 hpc hpl
      have hsz2 : (⟨#[58, 32]⟩ : ByteArray).size = 2 := rfl
      go_wp2_with (at_builtin; refine Lib.wpList_append_own_string _ rfl _ _ 66 9 rfl w.heap.size 5 i0 Tryd.underlying66 Tryd.underlying9 hi hz0 hz1 hz2 _ (L + M) _ rfl HO3.out ⟨#[58, 32]⟩ rfl ?c3 ?c4 ?c5 ?_)
      case c3 => rw [hsz2]; unfold maxLen; omega
      case c4 => rw [hsz2]; omega
      case c5 => exact Z3
      intro v4 w4 ho4 hg4 _
      have HB4 := Lib.hid (HB3.out.grown hg4 Z3 (fun q hq => own_ge HO3.out hq))
      rw [← bc_sb, ← bc_append] at ho4
      have HO4 := Lib.hid ho4
      have Z4 := HB4.out.size
      clear ho4 hg4 HO3 HO HB3 HB2
      have hpc := blk_cell (blk_ext HB4.out HQ.out)
      have hpl := blk_lt (blk_ext HB4.out HQ.out)
      have HX4 := Lib.hid (show (xs ++ sb op ++ sb ⟨#[58, 32]⟩) ++ sb (fT l2 T) = sb A from by have h := HX.out; simp only [fT, sb_app] at h; rw [← h]; simp only [List.append_assoc])
      have HWB4 := Lib.hid (show Wb (xs ++ sb op ++ sb ⟨#[58, 32]⟩) from (HWB.out.app (sb_wb _)).app (sb_wb _))
      obtain ⟨ys, hys⟩ : ∃ ys, xs ++ sb op ++ sb ⟨#[58, 32]⟩ = ys := ⟨_, rfl⟩
      have hyl : ys.length = L + M + 2 := by rw [← hys]; simp only [List.length_append, sb_len, HL.out, HM.out, hsz2]
      rw [hys] at HO4 HX4 HWB4
      have HYL := Lib.hid hyl
      clear hys hyl HX HWB hsz2
      cases l2 with
      | cons op2 l2 =>
        obtain ⟨q2, e2, rfl, hq2, hf2⟩ := HF2.out
        have hz := ptr_nil ⟨q2, 0, none⟩
        clear hq2 hf2
        go_wp2_with fail
        refine (itself_fault ⟨q2, 0, none⟩ w4 (HG.out.ext HB4.out)).mono ?_
        rintro r w5 ⟨rfl, hb5⟩
        have HO5 := Lib.hid (ownsRow_ext HO4.out hb5)
        have HB5 := Lib.hid (ext_trans HB4.out hb5)
        clear hb5 hpc hpl
        go_wp2_with fail
        go_roundw
        case rel => exact ⟨op2 :: l2, ys, by simp, HF2.out, by rw [HYL.out]; exact HO5.out, HWB4.out, HX4.out, HB5.out⟩
        case measure => rw [HLN.out, FC.len HB.out HF2.out]; simp
      | nil =>
        obtain rfl : e' = base := HF2.out
        have hz := ptr_nil0
        go_wp2_with fail
        refine (itself_base _ w4 (HG.out.ext HB4.out) (HB.out.ext HB4.out)).mono ?_
        rintro r w5 ⟨rfl, hb5⟩
        have HO5 := Lib.hid (ownsRow_ext HO4.out hb5)
        have HB5 := Lib.hid (ext_trans HB4.out hb5)
        clear hb5 hpc hpl
        have hpc := blk_cell (blk_ext HB5.out HQ.out)
        have hpl := blk_lt (blk_ext HB5.out HQ.out)
        go_wp2_with fail
        refine (HW.out w5 HB5.out).mono ?_
        rintro r w6 ⟨rfl, hb6⟩
        have HO6 := Lib.hid (ownsRow_ext HO5.out hb6)
        have HB6 := Lib.hid (ext_trans HB5.out hb6)
        have Z6 := HB6.out.size
        have hTs : L + M + 2 + T.size ≤ 8000000 := by
          have h1 := congrArg List.length HX4.out
          rw [sb_len] at h1
          simp only [fT, List.length_append, sb_len, HYL.out] at h1
          have := HS.out
          omega
        clear hb6 hpc hpl
        go_wp2_with (at_builtin; refine Lib.wpList_append_own_string _ rfl _ _ 66 9 rfl w.heap.size 5 i0 Tryd.underlying66 Tryd.underlying9 hi hz0 hz1 hz2 _ (L + M + 2) _ rfl HO6.out T rfl ?c3 ?c4 ?c5 ?_)
        case c3 => unfold maxLen; omega
        case c4 => omega
        case c5 => exact Z6
        intro v7 w7 ho7 hg7 _
        have HB7 := Lib.hid (HB6.out.grown hg7 Z6 (fun q hq => own_ge HO6.out hq))
        rw [← bc_sb, ← bc_append, show ys ++ sb T = sb A from HX4.out] at ho7
        obtain ⟨a7, c7, rfl, h7, -, -, h8, -, -⟩ := own_read ho7
        have hcv : (convert 66 9 (.slice a7 (L + M + 2 + T.size) c7)).run Tryd.prog w7 = .ok (.string A) w7 := by
          rw [run_text w7 66 5 Tryd.underlying66 Tryd.underlying5 9 Tryd.underlying9 a7 _ c7 (sb A) h7.symm h8, str_sb]
        clear ho7 hg7 h7 h8
        go_wp2
        go_ret
        exact ⟨rfl, HB7.out⟩
end Go.Proofs.YtllmkokloebomaaDoor
