/- errors.Join of two; Path of a fault around joined errors. -/
import Derived.Test.YtllmkokloebomaaDoorFauS
import Derived.Test.YtllmkokloebomaaDoorFauQ
namespace Go.Proofs.YtllmkokloebomaaDoor
open Go.RowKit Go.Extern.Stop Go.Stop Go.Extern
set_option linter.unusedVariables false
set_option linter.unusedSimpArgs false


set_option maxHeartbeats 1000000 in
theorem faultWords0 (w : World) :
    Calls Tryd.prog 30 #[.nilIface] w fun r w' => r = .returned (.string ⟨#[]⟩) ∧ Below w.heap.size w w' := by
  have D0 := Lib.hid ((Below.refl w.heap.size w).alloc (Nat.le_refl _) (.cells #[.string ⟨#[]⟩] 9))
  have HX := Lib.hid (blk_new w #[.string ⟨#[]⟩] 9)
  have hz := run_nil_nil
  go_enter_defers Tryd.func30, Tryd.ntmps30
  go_wp2
  obtain ⟨q, hq⟩ : ∃ q, w.heap.size = q := ⟨_, rfl⟩
  rw [hq] at HX
  try rw [hq]
  generalize (w.alloc (.cells #[.string ⟨#[]⟩] 9)) = w1 at *
  have hyc := blk_cell HX.out
  simp [bodyPostD, Leaves, settle, results, Tryd.results30, go_sem, hyc]
  rw [← hq]
  exact D0.out

theorem mk2 (w : World) : (Instr.makeSlice 54 (.int .i64 0) (.int .i64 2)).run Tryd.prog w = .ok (.slice (some ⟨w.heap.size, 0, none⟩) 0 2) (w.alloc (.cells #[.nilIface, .nilIface] 26)) := by kernel_rfl
set_option maxRecDepth 100000 in
set_option maxHeartbeats 4000000 in
theorem joinTwo (ab s p : Nat) (w : World) (h : w.heap[ab]? = some (.cells #[.iface 51 (.pointer (some ⟨s, 0, none⟩)), .iface 29 (.pointer (some ⟨p, 0, none⟩))] 26 (0, 0))) :
    Calls Tryd.prog 10 #[.slice (some ⟨ab, 0, none⟩) 2 2] w fun r w' => ∃ j, r = .returned (.iface 55 (.pointer (some ⟨j, 0, none⟩))) ∧ JN w' j (.iface 51 (.pointer (some ⟨s, 0, none⟩))) (.iface 29 (.pointer (some ⟨p, 0, none⟩))) ∧ Below w.heap.size w w' := by
  have hc := blk_cell h
  have hl := blk_lt h
  have n1 := neqS1
  have n2 := neqF1
  have HH := Lib.hid h
  have hmk := mk2
  go_enter Tryd.func10, Tryd.ntmps10
  go_wp2
  refine wp_loop_rounds 3 ?_
  rw [rounds_succ]
  go_wp2
  rw [rounds_succ]
  go_wp2
  rw [rounds_succ]
  go_wp2
  refine wp_loop_rounds 3 ?_
  rw [rounds_succ]
  go_wp2
  have F1 := Lib.hid (blk_alloc (blk_alloc (blk_new w #[.iface 51 (.pointer (some ⟨s, 0, none⟩)), .nilIface] 26) (.cells #[.slice (some ⟨w.heap.size, 0, none⟩) 1 2] 57)) (.cells #[.iface 51 (.pointer (some ⟨s, 0, none⟩))] 26))
  have F2 := Lib.hid (blk_alloc (blk_new (w.alloc (.cells #[.iface 51 (.pointer (some ⟨s, 0, none⟩)), .nilIface] 26)) #[.slice (some ⟨w.heap.size, 0, none⟩) 1 2] 57) (.cells #[.iface 51 (.pointer (some ⟨s, 0, none⟩))] 26))
  have F3 := Lib.hid (blk_alloc (blk_alloc (blk_alloc HH.out (.cells #[.iface 51 (.pointer (some ⟨s, 0, none⟩)), .nilIface] 26)) (.cells #[.slice (some ⟨w.heap.size, 0, none⟩) 1 2] 57)) (.cells #[.iface 51 (.pointer (some ⟨s, 0, none⟩))] 26))
  have DW := Lib.hid (show Below w.heap.size w (((w.alloc (.cells #[.iface 51 (.pointer (some ⟨s, 0, none⟩)), .nilIface] 26)).alloc (.cells #[.slice (some ⟨w.heap.size, 0, none⟩) 1 2] 57)).alloc (.cells #[.iface 51 (.pointer (some ⟨s, 0, none⟩))] 26)) from (((Below.refl w.heap.size w).alloc (Nat.le_refl _) _).alloc (by simp) _).alloc (by simp; omega) _)
  obtain ⟨g, hg⟩ : ∃ g, w.heap.size = g := ⟨_, rfl⟩
  have hg1 : (w.alloc (.cells #[.iface 51 (.pointer (some ⟨s, 0, none⟩)), .nilIface] 26)).heap.size = g + 1 := by simp [hg]
  rw [hg1] at F2
  have HGG := Lib.hid hg
  generalize (((w.alloc (.cells #[.iface 51 (.pointer (some ⟨s, 0, none⟩)), .nilIface] 26)).alloc (.cells #[.slice (some ⟨w.heap.size, 0, none⟩) 1 2] 57)).alloc (.cells #[.iface 51 (.pointer (some ⟨s, 0, none⟩))] 26)) = w1 at *
  rw [hg] at F1 F2
  try rw [hg]
  clear hc hl h hg1
  have hc1 := blk_cell F1.out
  have hc2 := blk_cell F2.out
  have hc3 := blk_cell F3.out
  have hf1 := blk_free F1.out
  have hf2 := blk_free F2.out
  have hl1 := blk_lt F1.out
  have hl2 := blk_lt F2.out
  have hl3 := blk_lt F3.out
  clear hg
  rw [rounds_succ]
  go_wp2
  rw [rounds_succ]
  go_wp2
  go_ret
  have G1 := blk_alloc (blk_set_other (b := g) (b' := g + 1) (n := 0) (u := .slice (some ⟨g, 0, none⟩) 2 2) (by omega) (blk_set (n := 1) (u := .iface 29 (.pointer (some ⟨p, 0, none⟩))) (vs' := #[.iface 51 (.pointer (some ⟨s, 0, none⟩)), .iface 29 (.pointer (some ⟨p, 0, none⟩))]) F1.out (by simp))) (.cells #[.iface 29 (.pointer (some ⟨p, 0, none⟩))] 26)
  have G2 := blk_alloc (blk_set (n := 0) (u := .slice (some ⟨g, 0, none⟩) 2 2) (vs' := #[.slice (some ⟨g, 0, none⟩) 2 2]) (blk_set_other (b := g + 1) (b' := g) (n := 1) (u := .iface 29 (.pointer (some ⟨p, 0, none⟩))) (by omega) F2.out) (by simp)) (.cells #[.iface 29 (.pointer (some ⟨p, 0, none⟩))] 26)
  refine ⟨g + 1, rfl, ⟨g, 2, G2, blk_cell G1 0, blk_cell G1 1⟩, ?_⟩
  have D9 := (DW.out.setCell (p := ⟨g, 1, none⟩) (by have := HGG.out; show w.heap.size ≤ g; omega) (.iface 29 (.pointer (some ⟨p, 0, none⟩)))).setCell (p := ⟨g + 1, 0, none⟩) (by have := HGG.out; show w.heap.size ≤ g + 1; omega) (.slice (some ⟨g, 0, none⟩) 2 2)
  exact D9.alloc D9.size _

set_option maxRecDepth 100000 in
set_option maxHeartbeats 4000000 in
theorem path_zjoin (z : Nat) (op : ByteArray) (j s p : Nat) (y ip : ByteArray) (cd : Int) (w : World) (hG : EG w) (hJ : JN w j (.iface 51 (.pointer (some ⟨s, 0, none⟩))) (.iface 29 (.pointer (some ⟨p, 0, none⟩)))) (hs : w.heap[s]? = some (.cells #[.string y] 53 (0, 0))) (hp : w.heap[p]? = some (.cells #[.string ip, .iface 23 (.int .i64 cd)] 31 (0, 0))) (hz : w.heap[z]? = some (.cells #[.string op, .iface 55 (.pointer (some ⟨j, 0, none⟩))] 31 (0, 0))) :
    Calls Tryd.prog 14 #[.iface 29 (.pointer (some ⟨z, 0, none⟩))] w fun r w' => ∃ v, r = .returned v ∧ OwnT w.heap.size w' v [op, ip] ∧ Below w.heap.size w w' := by
  obtain ⟨i0, hi, hz0, hz1, hz2⟩ := info_parts2 info_str2
  have HG := Lib.hid hG
  have HJ := Lib.hid hJ
  have HS := Lib.hid hs
  have HP := Lib.hid hp
  have HZ := Lib.hid hz
  have m1 := ptr_nil
  have m0 := ptr_nil0
  clear hG hJ hs hp hz
  go_enter Tryd.func14, Tryd.ntmps14
  go_wp2_with fail
  refine (endsJ z j op w HZ.out).mono ?_
  rintro r w1 ⟨rfl, hb1⟩
  have HB1 := Lib.hid hb1
  clear hb1
  go_wp2_with fail
  refine wp_loop_rounds 3 ?_
  rw [rounds_succ]
  go_wp2_with fail
  refine (firstFault_fault ⟨z, 0, none⟩ w1 (HG.out.ext HB1.out)).mono ?_
  rintro r w2 ⟨rfl, hb2⟩
  have HB2 := Lib.hid (ext_trans HB1.out hb2)
  have hpc := blk_cell (blk_ext HB2.out HZ.out)
  have hpl := blk_lt (blk_ext HB2.out HZ.out)
  clear hb2
  have HO2 := Lib.hid (OwnR.nil (enc := eb) (k := 1) (T := 9) w.heap.size w2)
  have Q1 := Lib.hid (show 0 + 1 ≤ maxLen from by unfold maxLen; omega)
  go_wp2_with (at_builtin; refine wpList_append_texts _ rfl _ _ 22 rfl (w.heap.size) 9 i0 Tryd.underlying22 hi hz0 hz1 hz2 _ 0 [] rfl (ownsRow_ext HO2.out ((Below.refl _ _).alloc (Nat.le_refl _) _)) (some ⟨w2.heap.size, 0, none⟩) 1 1 [op] rfl (tx_one _ _ _) (by unfold maxLen; omega) (by omega) (Nat.le_trans HB2.out.size (by simp)) ?_)
  intro v3 w3 ho3 hg3
  have HB3 := Lib.hid ((HB2.out.alloc HB2.out.size (.cells #[.string op] 9)).grown hg3 (Nat.le_trans HB2.out.size (by simp)) (fun q hq => own_ge HO2.out hq))
  have HO3 := Lib.hid (show w3.ownsRow w.heap.size 9 1 v3 1 (flat eb [op]) from ho3)
  clear ho3 hg3 hpc hpl HO2
  have hpc := blk_cell (blk_ext HB3.out HZ.out)
  have hpl := blk_lt (blk_ext HB3.out HZ.out)
  go_wp2_with fail
  rw [rounds_succ]
  clear hpc hpl
  go_wp2_with fail
  refine (firstFault_join j s p y ip cd w3 (HG.out.ext HB3.out) (HJ.out.ext HB3.out) (blk_ext HB3.out HS.out) (blk_ext HB3.out HP.out)).mono ?_
  rintro r w4 ⟨rfl, hb4⟩
  have HB4 := Lib.hid (ext_trans HB3.out hb4)
  have HO4 := Lib.hid (ownsRow_ext HO3.out hb4)
  have hpc := blk_cell (blk_ext HB4.out HP.out)
  have hpl := blk_lt (blk_ext HB4.out HP.out)
  clear hb4 HO3
  go_wp2_with (at_builtin; refine wpList_append_texts _ rfl _ _ 22 rfl (w.heap.size) 9 i0 Tryd.underlying22 hi hz0 hz1 hz2 _ 1 [op] rfl (ownsRow_ext HO4.out ((Below.refl _ _).alloc (Nat.le_refl _) _)) (some ⟨w4.heap.size, 0, none⟩) 1 1 [ip] rfl (tx_one _ _ _) (by unfold maxLen; omega) (by omega) (Nat.le_trans HB4.out.size (by simp)) ?_)
  intro v5 w5 ho5 hg5
  have HB5 := Lib.hid ((HB4.out.alloc HB4.out.size (.cells #[.string ip] 9)).grown hg5 (Nat.le_trans HB4.out.size (by simp)) (fun q hq => own_ge HO4.out hq))
  have HO5 := Lib.hid (show OwnT w.heap.size w5 v5 [op, ip] from ho5)
  clear ho5 hg5 hpc hpl HO4
  have hpc := blk_cell (blk_ext HB5.out HP.out)
  have hpl := blk_lt (blk_ext HB5.out HP.out)
  go_wp2_with fail
  rw [rounds_succ]
  clear hpc hpl
  go_wp2_with fail
  refine (firstFault_base (.iface 23 (.int .i64 cd)) w5 (HG.out.ext HB5.out) (.no cd)).mono ?_
  rintro r w6 ⟨rfl, hb6⟩
  go_wp2
  go_ret
  exact ⟨_, rfl, OwnR.ext HO5.out hb6, ext_trans HB5.out hb6⟩
end Go.Proofs.YtllmkokloebomaaDoor
