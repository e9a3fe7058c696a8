/- Layer 22: known. -/
import Derived.Test.YtibgphjadiidaaaAgJ
namespace Go.Proofs.Ytibgphjadiidaaa
open Go.RowKit
set_option linter.unusedVariables false
set_option linter.unusedSimpArgs false

def KAB : ByteArray × ByteArray := (⟨#[97]⟩, ⟨#[98]⟩)
theorem nm_a : NmOk ⟨#[97]⟩ := nm_of (by decide) (by decide) (by decide) (by decide) (by decide) (by decide) (by decide)
theorem nm_b : NmOk ⟨#[98]⟩ := nm_of (by decide) (by decide) (by decide) (by decide) (by decide) (by decide) (by decide)
theorem sat_new (w : World) (zs : List Int) (cs : Array Value) (h : cs.toList = flat iec zs) : SAt iec 1 3 (w.alloc (.cells cs 3)) (some ⟨w.heap.size, 0, none⟩) zs :=
  .inr ⟨_, _, rfl, ⟨cs, blk_new w cs _⟩, fun q u hq => by
    rw [Nat.zero_add, blk_cell (blk_new w cs 3)]
    rw [← h, Array.getElem?_toList] at hq
    exact hq⟩
theorem OkA.reg {op : Int} (h : op = 1 ∨ op = 2 ∨ op = 3 ∨ op = 4) : OkA op 0 ⟨#[97]⟩ ⟨#[98]⟩ false 0 := ⟨by decide, .inl ⟨h, nm_a, nm_b⟩⟩
theorem OkA.fed : OkA 5 0 ⟨#[]⟩ ⟨#[]⟩ true 17 := ⟨by decide, .inr ⟨rfl, rfl, rfl, rfl, rfl⟩⟩
/-- the one message of a row -/
theorem row_one {base : Nat} {w : World} {a : Option Addr} {c : Nat} {x : Sn} (h : OwnR sec 14 39 base w (.slice a 1 c) [x]) : ∃ g, a = some ⟨g, 0, none⟩ ∧ base ≤ g ∧ g < w.heap.size ∧ ∀ q u, (sec x)[q]? = some u → w.cell? ⟨g, q, none⟩ = some u := by
  obtain ⟨g, rfl, h1, h2, -⟩ := h.addr rfl (by omega)
  exact ⟨g, rfl, h1, h2, fun q u hq => by have := h.at sec_len (i := 0) rfl q u hq; simpa using this⟩
theorem run_k1 : runM KAB [3, 4] 1 (⟨0, 0, [⟨1, 30, 1⟩], -1, 0, 0, 0, false, false, 0, 0, false, false, 0, false, 0⟩ : Ag) = ((⟨0, 1, [], -1, 1, 1, 1, true, true, 30, 1, false, true, 1, false, 0⟩ : Ag), [(⟨3, ⟨1, 1, 30, 0, ⟨#[97]⟩, ⟨#[98]⟩⟩, 1⟩ : Sn)]) := by rfl
theorem run_k2 : runM KAB [3, 4] 1 (⟨0, 1, [], -1, 1, 1, 1, false, true, 30, 1, true, true, 1, false, 0⟩ : Ag) = ((⟨0, 2, [], -1, 2, 5, 2, true, true, 30, 1, true, true, 1, true, 2⟩ : Ag), [(⟨3, ⟨5, 0, 0, -1, ⟨#[]⟩, ⟨#[]⟩⟩, 2⟩ : Sn)]) := by rfl
theorem run_k3 : runM KAB [3, 4] 9 (⟨0, 2, [], -1, 2, 5, 2, true, true, 30, 1, true, true, 1, true, 2⟩ : Ag) = ((⟨1, 11, [], -1, 3, 1, 11, true, true, 30, 1, false, true, 11, true, 2⟩ : Ag), [(⟨4, ⟨1, 1, 30, 0, ⟨#[97]⟩, ⟨#[98]⟩⟩, 3⟩ : Sn)]) := by rfl
theorem run_k0 (s : Ag) : runM KAB [3, 4] 0 s = (s, []) := rfl
theorem AgP.other {w w' : World} {ab b : Nat} {k : ByteArray × ByteArray} {zs : List Int} {s : Ag} {cs : Array Value} {T : TypeId} (h : AgP w ab k zs s) (hr : Rim ab w w') (h0 : w.heap[b]? = some (.cells cs T (0, 0))) (hT : T ≠ 57) : w'.heap[b]? = some (.cells cs T (0, 0)) := by
  obtain ⟨sb, sc, wa, wc, h1, -⟩ := h
  exact hr.rimT h1 h0 hT
set_option maxRecDepth 100000 in
set_option maxHeartbeats 2000000 in
theorem law22known (w : World) :
    Calls Try.prog 14 #[] w fun r w' => r = .returned (.bool true) ∧ Below w.heap.size w w' := by
  have D0 := Lib.hid (show Below w.heap.size w (w.alloc (.cells #[.string ⟨#[97]⟩, .string ⟨#[98]⟩] 23)) from (Below.refl _ _).alloc (Nat.le_refl _) _)
  have HK0 := Lib.hid (blk_new w #[.string ⟨#[97]⟩, .string ⟨#[98]⟩] 23)
  go_enter Try.func14, Try.ntmps14
  go_upto_region 2 with (fail)
  obtain ⟨p, hp⟩ : ∃ p, w.heap.size = p := ⟨_, rfl⟩
  have HPW := Lib.hid (show w.heap.size ≤ p from by omega)
  rw [hp] at HK0
  try rw [hp]
  clear hp
  generalize (w.alloc (.cells #[.string ⟨#[97]⟩, .string ⟨#[98]⟩] 23)) = w1 at *
  have hk := blk_cell HK0.out
  have hl := blk_lt HK0.out
  go_wp2_with fail
  have E1 := Lib.hid (show Below w1.heap.size w1 (w1.alloc (.cells #[.int .i64 3, .int .i64 4] 3)) from (Below.refl _ _).alloc (Nat.le_refl _) _)
  refine (agNew (⟨#[97]⟩, ⟨#[98]⟩) [3, 4] (some ⟨w1.heap.size, 0, none⟩) 2 2 _ nm_a nm_b (sat_new w1 [3, 4] #[.int .i64 3, .int .i64 4] rfl) rfl (by omega) (by omega)).mono ?_
  rintro e w2 ⟨ab, rfl, hab, hq, hb⟩
  have HQ2 := Lib.hid (show AgP w2 ab KAB [3, 4] (⟨0, 0, [], -1, 0, 0, 0, false, false, 0, 0, false, false, 0, false, 0⟩ : Ag) from hq)
  have HK2 := Lib.hid (blk_ext hb (blk_ext E1.out HK0.out))
  have HD2 := Lib.hid (ext_trans (ext_trans D0.out E1.out) hb)
  have HAB := Lib.hid (show w.heap.size ≤ ab from Nat.le_trans D0.out.size (Nat.le_trans E1.out.size hab))
  clear hk hl hq hb hab D0 E1 HK0
  have hk := blk_cell HK2.out
  have hl := blk_lt HK2.out
  go_wp2_with fail
  refine (agNewNone (⟨#[97]⟩, ⟨#[98]⟩) _ nm_a nm_b).mono ?_
  rintro e w4 ⟨rfl, hb⟩
  have HQ4 := Lib.hid (HQ2.out.ext hb)
  have HK4 := Lib.hid (blk_ext hb HK2.out)
  have HD4 := Lib.hid (ext_trans HD2.out hb)
  clear hk hl hb HQ2 HK2 HD2
  have hk := blk_cell HK4.out
  have hl := blk_lt HK4.out
  go_wp2_with fail
  have E5 := Lib.hid (show Below w4.heap.size w4 (w4.alloc (.cells #[.int .i64 1] 3)) from (Below.refl _ _).alloc (Nat.le_refl _) _)
  refine (agNewEmpty _ 1 1 _).mono ?_
  rintro e w5 ⟨rfl, hb⟩
  have HQ5 := Lib.hid ((HQ4.out.ext E5.out).ext hb)
  have HK5 := Lib.hid (blk_ext hb (blk_ext E5.out HK4.out))
  have HD5 := Lib.hid (ext_trans (ext_trans HD4.out E5.out) hb)
  clear hk hl hb HQ4 HK4 HD4 E5
  go_wp2_with fail
  refine (agWant ab KAB [3, 4] _ 1 30 w5 HQ5.out (.inl rfl) (by omega) (by omega) (by decide)).mono ?_
  rintro e w6 ⟨rfl, hq, hr⟩
  have HQ6 := Lib.hid (show AgP w6 ab KAB [3, 4] (⟨0, 0, [⟨1, 30, 1⟩], -1, 0, 0, 0, false, false, 0, 0, false, false, 0, false, 0⟩ : Ag) from hq)
  have HK6 := Lib.hid (AgP.other HQ5.out hr HK5.out (by decide))
  have HD6 := Lib.hid (HD5.out.trans (hr.below HAB.out HD5.out.size))
  clear hq hr HQ5 HK5 HD5
  go_wp2_with fail
  refine (agWantNo ab KAB [3, 4] _ 1 w6 HQ6.out).mono ?_
  rintro e wx ⟨rfl, rfl⟩
  go_wp2_with fail
  refine (agTick ab KAB [3, 4] _ w6 HQ6.out 1 100 1 rfl (by omega) (by decide) (by unfold Bd; decide) (by omega) (by omega)).mono ?_
  rintro e w7 ⟨v7, rfl, ho, hq, hr⟩
  rw [run_k1] at ho hq
  have HQ7 := Lib.hid hq
  have HK7 := Lib.hid (AgP.other HQ6.out hr HK6.out (by decide))
  have HD7 := Lib.hid (HD6.out.trans (hr.below HAB.out HD6.out.size))
  obtain ⟨a7, c7, rfl, -, -, -⟩ := OwnR.form ho
  have HO7 := Lib.hid ho
  clear hq hr ho HQ6 HK6 HD6
  go_wp2_with fail
  refine (agWaits ab KAB [3, 4] _ w7 HQ7.out).mono ?_
  rintro e wx ⟨rfl, rfl⟩
  have hk := blk_cell HK7.out
  have hl := blk_lt HK7.out
  go_wp2_with fail
  refine (agReceiveOld ab KAB [3, 4] _ 1 9 0 ⟨#[97]⟩ ⟨#[98]⟩ false 0 3 w7 HQ7.out rfl (OkA.reg (.inl rfl)) (by decide) rfl).mono ?_
  rintro e w8 ⟨rfl, hb⟩
  have HQ8 := Lib.hid (HQ7.out.ext hb)
  have HK8 := Lib.hid (blk_ext hb HK7.out)
  have HD8 := Lib.hid (ext_trans HD7.out hb)
  have HO8 := Lib.hid (OwnR.ext HO7.out hb)
  clear hk hl hb HQ7 HK7 HD7 HO7
  have hk := blk_cell HK8.out
  have hl := blk_lt HK8.out
  go_wp2_with fail
  refine (agReceive ab KAB [3, 4] _ 1 1 0 ⟨#[97]⟩ ⟨#[98]⟩ false 0 3 w8 HQ8.out rfl (OkA.reg (.inl rfl)) rfl rfl rfl).mono ?_
  rintro e w9 ⟨rfl, hq, hr⟩
  have HQ9 := Lib.hid (show AgP w9 ab KAB [3, 4] (⟨0, 1, [], -1, 1, 1, 1, false, true, 30, 1, true, true, 1, false, 0⟩ : Ag) from hq)
  have HD9 := Lib.hid (HD8.out.trans (hr.below HAB.out HD8.out.size))
  have HO9 := Lib.hid (HO8.out.agp HQ8.out hr)
  clear hk hl hq hr HQ8 HK8 HD8 HO8
  go_wp2_with fail
  refine (agTick ab KAB [3, 4] _ w9 HQ9.out 1 100 1 rfl (by omega) (by decide) (by unfold Bd; decide) (by omega) (by omega)).mono ?_
  rintro e w10 ⟨v10, rfl, ho, hq, hr⟩
  rw [run_k2] at ho hq
  have HQ10 := Lib.hid hq
  have HD10 := Lib.hid (HD9.out.trans (hr.below HAB.out HD9.out.size))
  have HO10 := Lib.hid (HO9.out.agp HQ9.out hr)
  obtain ⟨b10, c10, rfl, -, -, -⟩ := OwnR.form ho
  have HP10 := Lib.hid ho
  clear hq hr ho HQ9 HD9 HO9
  go_wp2_with fail
  refine (agTick ab KAB [3, 4] _ w10 HQ10.out 9 100 9 rfl (by omega) (by decide) (by unfold Bd; decide) (by omega) (by omega)).mono ?_
  rintro e w11 ⟨v11, rfl, ho, hq, hr⟩
  rw [run_k3] at ho hq
  have HQ11 := Lib.hid hq
  have HD11 := Lib.hid (HD10.out.trans (hr.below HAB.out HD10.out.size))
  have HO11 := Lib.hid (HO10.out.agp HQ10.out hr)
  have HP11 := Lib.hid (HP10.out.agp HQ10.out hr)
  obtain ⟨d11, e11, rfl, -, -, -⟩ := OwnR.form ho
  clear hq hr ho HQ10 HD10 HO10 HP10
  obtain ⟨g, rfl, -, hgl, hg⟩ := row_one HO11.out
  obtain ⟨g2, rfl, -, hgl2, hg2⟩ := row_one HP11.out
  have r0 := hg 0 _ rfl
  have r2 := hg 2 _ rfl
  have r5 := hg 5 _ rfl
  have q2 := hg2 2 _ rfl
  have q7 := hg2 7 _ rfl
  clear hg hg2
  go_wp2_with fail
  refine (agTick ab KAB [3, 4] _ w11 HQ11.out 0 100 0 rfl (by omega) (by decide) (by unfold Bd; decide) (by omega) (by omega)).mono ?_
  rintro e w12 ⟨v12, rfl, ho, hq, hr⟩
  rw [run_k0] at ho hq
  have HQ12 := Lib.hid hq
  have HD12 := Lib.hid (HD11.out.trans (hr.below HAB.out HD11.out.size))
  have HP12 := Lib.hid (HP11.out.agp HQ11.out hr)
  obtain ⟨d12, e12, rfl, -, -, -⟩ := OwnR.form ho
  clear hq hr ho HQ11 HD11 HO11 HP11 hgl hgl2 r0 r2 r5 q2 q7
  obtain ⟨g3, e3, -, hgl2, hg2⟩ := row_one HP12.out
  obtain rfl : g2 = g3 := by simpa using e3
  have q2 := hg2 2 _ rfl
  have q7 := hg2 7 _ rfl
  clear hg2 e3
  go_wp2_with fail
  refine (agServer ab KAB [3, 4] _ 4 w12 HQ12.out rfl).mono ?_
  rintro e w13 ⟨rfl, hb⟩
  have HQ13 := Lib.hid (HQ12.out.ext hb)
  have HD13 := Lib.hid (ext_trans HD12.out hb)
  clear hb HQ12 HD12 HP12
  go_wp2_with fail
  refine (agKnown ab KAB [3, 4] _ w13 HQ13.out).mono ?_
  rintro e wx ⟨rfl, rfl⟩
  go_wp2
  go_ret
  exact ⟨rfl, HD13.out⟩


end Go.Proofs.Ytibgphjadiidaaa
