/- frankpledgekeep.Act: what a draw makes; rows of draws that came in; ScriptTells: the walk. -/
import Derived.Test.YtcgembfdejjliaaGreatDoorScG
import Derived.Test.YtcgembfdejjliaaGreatDoorWithin
import Derived.Test.YtcgembfdejjliaaGreatDoorScI
import Derived.Deep.Cut
import Derived.Test.YtcgembfdejjliaaGreatDoorRows
import Derived.Test.YtcgembfdejjliaaGreatDoorOpen
import Derived.Test.YtcgembfdejjliaaGreatDoorCards
import Derived.ProofKit
import Derived.OpenShut
import Derived.ShutString
import Derived.ChangeOld
import Derived.Below
import Derived.Lib.SmallJoins
import Derived.ChangeArms
import Derived.Deep.Slices
import Derived.Test.YtcgembfdejjliaaGreatDoorScPb
import Derived.Test.YtcgembfdejjliaaGreatDoorScK
import Derived.Test.YtcgembfdejjliaaGreatDoorStay
namespace Go.Proofs.YtcgembfdejjliaaGreatDoor
open Go.RowKit
set_option linter.unusedVariables false
set_option linter.unusedSimpArgs false

/-- a draw -/
structure Dr where
  k : Int
  a : Int
  b : Int
  op : Int
  st : Int
  n : Int
def I64 (n : Int) : Prop := -9223372036854775808 ≤ n ∧ n ≤ 9223372036854775807
structure DrOk (D : Dr) : Prop where
  k : I64 D.k
  a : I64 D.a
  b : I64 D.b
  op : I64 D.op
  st : I64 D.st
  n : I64 D.n
structure RA2 (w W : World) (D : Dr) (db : Nat) (d : Nat → Bool) (x : World) (u15 u16 u17 u18 u19 u20 u21 u22 u23 u24 u25 u26 u27 u10 : Value) : Prop where
  s0 : d 0 = true → u15 = .pointer (some ⟨db, 1, none⟩)
  s1 : d 1 = true → u16 = .int .i64 D.a
  s2 : d 2 = true → u17 = .int .i64 5
  s3 : d 3 = true → u18 = .int .i64 4
  s4 : d 4 = true → u19 = .int .i64 4
  s5 : d 5 = true → u20 = .int .i64 (win D.a 0 4)
  s6 : d 6 = true → u21 = .pointer (some ⟨db, 2, none⟩)
  s7 : d 7 = true → u22 = .int .i64 D.b
  s8 : d 8 = true → u23 = .int .i64 5
  s9 : d 9 = true → u24 = .int .i64 4
  s10 : d 10 = true → u25 = .int .i64 4
  s11 : d 11 = true → u26 = .int .i64 (win D.b 0 4)
  s12 : d 12 = true → u27 = .agg #[.int .i64 0, .int .i64 (win D.a 0 4), .int .i64 (win D.b 0 4), .int .i64 0, .int .i64 0, .int .i64 0, .string ⟨#[]⟩]
  bl : Below W.heap.size W x
  k3 : d 14 = true → d 13 = true
  p13 : d 13 = true → ∃ b : Nat, u10 = .pointer (some ⟨b, 0, none⟩) ∧ W.heap.size ≤ b ∧ (d 14 = false → x.heap[b]? = some (.cells #[.int .i64 0, .int .i64 0, .int .i64 0, .int .i64 0, .int .i64 0, .int .i64 0, .string ⟨#[]⟩] 29 (0, 0))) ∧ (d 14 = true → x.heap[b]? = some (.cells #[.int .i64 0, .int .i64 (win D.a 0 4), .int .i64 (win D.b 0 4), .int .i64 0, .int .i64 0, .int .i64 0, .string ⟨#[]⟩] 29 (0, 0)))
structure RA4 (w W : World) (D : Dr) (db rb ab : Nat) (A1 B1 sm : Int) (d : Nat → Bool) (x : World) (u31 u32 u33 u34 u35 u36 u37 u38 u39 u40 u41 u42 u43 : Value) : Prop where
  s0 : d 0 = true → u31 = .pointer (some ⟨db, 3, none⟩)
  s1 : d 1 = true → u32 = .int .i64 D.op
  s2 : d 2 = true → u33 = .int .i64 (win D.op 0 5)
  s3 : d 3 = true → u34 = .int .i64 sm
  s4 : d 4 = true → u35 = .int .i64 (sm % 200)
  s5 : d 5 = true → u36 = .int .i64 (20 + sm % 200)
  s6 : d 6 = true → u37 = .pointer (some ⟨db, 4, none⟩)
  s7 : d 7 = true → u38 = .int .i64 D.st
  s8 : d 8 = true → u39 = .int .i64 (win D.st 0 4)
  s9 : d 9 = true → u40 = .pointer (some ⟨ab, 0, none⟩)
  s11 : d 11 = true → u41 = .pointer (some ⟨ab, 3, none⟩)
  s13 : d 13 = true → u42 = .pointer (some ⟨ab, 5, none⟩)
  s15 : d 15 = true → u43 = .pointer (some ⟨ab, 4, none⟩)
  bl : Below w.heap.size w x
  dk : x.heap[db]? = some (.cells #[.int .i64 D.k, .int .i64 D.a, .int .i64 D.b, .int .i64 D.op, .int .i64 D.st, .int .i64 D.n] 32 (0, 0))
  rk : x.heap[rb]? = some (.cells #[.int .i64 0, .int .i64 0, .int .i64 0, .int .i64 0, .int .i64 0, .int .i64 0, .string ⟨#[]⟩] 29 (0, 0))
  ak : x.heap[ab]? = some (.cells #[(bif d 10 then .int .i64 8 else .int .i64 0), .int .i64 A1, .int .i64 B1, (bif d 12 then .int .i64 (win D.op 0 5) else .int .i64 0), (bif d 16 then .int .i64 (win D.st 0 4) else .int .i64 0), (bif d 14 then .int .i64 (20 + sm % 200) else .int .i64 0), .string ⟨#[]⟩] 29 (0, 0))
structure RA8 (w W : World) (D : Dr) (db rb ab : Nat) (A1 B1 sm : Int) (d : Nat → Bool) (x : World) (u55 u56 u57 u58 u59 u60 : Value) : Prop where
  s0 : d 0 = true → u55 = .int .i64 sm
  s1 : d 1 = true → u56 = .int .i64 9
  s2 : d 2 = true → u57 = .int .i64 9
  s3 : d 3 = true → u58 = .int .i64 (sm % 9)
  s4 : d 4 = true → u59 = .pointer (some ⟨ab, 0, none⟩)
  s6 : d 6 = true → u60 = .pointer (some ⟨ab, 5, none⟩)
  bl : Below w.heap.size w x
  dk : x.heap[db]? = some (.cells #[.int .i64 D.k, .int .i64 D.a, .int .i64 D.b, .int .i64 D.op, .int .i64 D.st, .int .i64 D.n] 32 (0, 0))
  rk : x.heap[rb]? = some (.cells #[.int .i64 0, .int .i64 0, .int .i64 0, .int .i64 0, .int .i64 0, .int .i64 0, .string ⟨#[]⟩] 29 (0, 0))
  ak : x.heap[ab]? = some (.cells #[(bif d 5 then .int .i64 2 else .int .i64 0), .int .i64 A1, .int .i64 B1, .int .i64 0, .int .i64 0, (bif d 7 then .int .i64 (sm % 9) else .int .i64 0), .string ⟨#[]⟩] 29 (0, 0))
structure RA10 (w W : World) (D : Dr) (db rb ab : Nat) (A1 B1 sm : Int) (QN : Nat) (k3 : Int) (d : Nat → Bool) (x : World) (u64 u65 u66 u67 u68 u69 u70 u71 u72 u73 u74 u75 : Value) : Prop where
  s1 : d 1 = true → u65 = .pointer (some ⟨db, 2, none⟩)
  s2 : d 2 = true → u66 = .int .i64 D.b
  s3 : d 3 = true → u67 = .int .i64 (QN : Int)
  s5 : d 5 = true → u69 = .int .i64 k3
  s6 : d 6 = true → u70 = .int .i64 sm
  s7 : d 7 = true → u71 = .int .i64 9
  s8 : d 8 = true → u72 = .int .i64 9
  s9 : d 9 = true → u73 = .int .i64 (sm % 9)
  s10 : d 10 = true → u74 = .pointer (some ⟨ab, 0, none⟩)
  s12 : d 12 = true → u75 = .pointer (some ⟨ab, 5, none⟩)
  bl : Below w.heap.size w x
  dk : x.heap[db]? = some (.cells #[.int .i64 D.k, .int .i64 D.a, .int .i64 D.b, .int .i64 D.op, .int .i64 D.st, .int .i64 D.n] 32 (0, 0))
  rk : x.heap[rb]? = some (.cells #[.int .i64 0, .int .i64 0, .int .i64 0, .int .i64 0, .int .i64 0, .int .i64 0, .string ⟨#[]⟩] 29 (0, 0))
  ak : x.heap[ab]? = some (.cells #[(bif d 11 then .int .i64 k3 else .int .i64 0), .int .i64 A1, .int .i64 B1, .int .i64 0, .int .i64 0, (bif d 13 then .int .i64 (sm % 9) else .int .i64 0), .string ⟨#[]⟩] 29 (0, 0))
  p4 : d 4 = true → ∃ b : Nat, u68 = .pointer (some ⟨b, QN, none⟩) ∧ b ≠ ab ∧ x.heap[b]? = some (.cells #[.int .i64 3, .int .i64 4] 3 (0, 0))
  p0 : d 0 = true → ∃ b : Nat, u64 = .slice (some ⟨b, 0, none⟩) 2 2 ∧ b ≠ ab ∧ x.heap[b]? = some (.cells #[.int .i64 3, .int .i64 4] 3 (0, 0))
structure RA16 (w W : World) (D : Dr) (db rb ab : Nat) (A1 B1 sm : Int) (QN : Nat) (ap : ByteArray) (d : Nat → Bool) (x : World) (u98 u99 u100 u101 u102 u103 u104 u105 : Value) : Prop where
  s1 : d 1 = true → u99 = .pointer (some ⟨db, 3, none⟩)
  s2 : d 2 = true → u100 = .int .i64 D.op
  s3 : d 3 = true → u101 = .int .i64 (QN : Int)
  s5 : d 5 = true → u103 = .string ap
  s6 : d 6 = true → u104 = .pointer (some ⟨ab, 0, none⟩)
  s8 : d 8 = true → u105 = .pointer (some ⟨ab, 6, none⟩)
  bl : Below w.heap.size w x
  dk : x.heap[db]? = some (.cells #[.int .i64 D.k, .int .i64 D.a, .int .i64 D.b, .int .i64 D.op, .int .i64 D.st, .int .i64 D.n] 32 (0, 0))
  rk : x.heap[rb]? = some (.cells #[.int .i64 0, .int .i64 0, .int .i64 0, .int .i64 0, .int .i64 0, .int .i64 0, .string ⟨#[]⟩] 29 (0, 0))
  ak : x.heap[ab]? = some (.cells #[(bif d 7 then .int .i64 9 else .int .i64 0), .int .i64 A1, .int .i64 B1, .int .i64 0, .int .i64 0, .int .i64 0, (bif d 9 then .string ap else .string ⟨#[]⟩)] 29 (0, 0))
  p4 : d 4 = true → ∃ b : Nat, u102 = .pointer (some ⟨b, QN, none⟩) ∧ b ≠ ab ∧ x.heap[b]? = some (.cells #[.string ⟨#[97, 112, 112, 48]⟩, .string ⟨#[97, 112, 112, 49]⟩, .string ⟨#[120]⟩] 9 (0, 0))
  p0 : d 0 = true → ∃ b : Nat, u98 = .slice (some ⟨b, 0, none⟩) 3 3 ∧ b ≠ ab ∧ x.heap[b]? = some (.cells #[.string ⟨#[97, 112, 112, 48]⟩, .string ⟨#[97, 112, 112, 49]⟩, .string ⟨#[120]⟩] 9 (0, 0))
theorem acOk_of {k a b op st n : Int} {app : ByteArray} (ha : 0 ≤ a ∧ a ≤ 100) (hb : 0 ≤ b ∧ b ≤ 100) (hs : 0 ≤ st ∧ st ≤ 100) (hn : -2000 ≤ n ∧ n ≤ 2000) : AcOk ⟨k, a, b, op, st, n, app⟩ := by
  unfold AcOk
  simp only
  omega
theorem tmod_small (n m : Int) (h1 : 0 ≤ n) (h2 : n ≤ 1000) (hm : 0 < m) : 0 ≤ n.tmod m ∧ n.tmod m ≤ 1000 := by
  rw [Int.tmod_eq_emod_of_nonneg h1]
  have e1 := Int.emod_nonneg n (b := m) (by omega)
  have e2 : n % m ≤ n := by
    rcases Int.lt_or_le n m with h | h
    · rw [Int.emod_eq_of_lt h1 h]; omega
    · have := Int.emod_lt_of_pos n hm; omega
  omega
end Go.Proofs.YtcgembfdejjliaaGreatDoor
namespace Go.Proofs.YtcgembfdejjliaaGreatDoor
open Go.RowKit
set_option linter.unusedVariables false
set_option linter.unusedSimpArgs false

set_option maxRecDepth 100000 in
set_option maxHeartbeats 6000000 in
theorem actP (D : Dr) (hD : DrOk D) (w : World) :
    Calls Tryz.prog 11 #[.agg #[.int .i64 D.k, .int .i64 D.a, .int .i64 D.b, .int .i64 D.op, .int .i64 D.st, .int .i64 D.n], .int .i64 3, .int .i64 5, .int .i64 9] w fun e w' => ∃ r : Ac, e = .returned (.agg (acC r)) ∧ AcOk r ∧ r.app.size ≤ 1000 ∧ Below w.heap.size w w' := by
  have HO := Lib.hid hD
  clear hD
  obtain ⟨db, hdb⟩ : ∃ db, w.heap.size = db := ⟨_, rfl⟩
  have HDB := Lib.hid hdb
  go_enter Tryz.func11, Tryz.ntmps11
  go_upto_region 1 with (fail)
  have B2 : Below w.heap.size w ((w.alloc (.cells #[.int .i64 D.k, .int .i64 D.a, .int .i64 D.b, .int .i64 D.op, .int .i64 D.st, .int .i64 D.n] 32)).alloc (.cells #[.int .i64 0, .int .i64 0, .int .i64 0, .int .i64 0, .int .i64 0, .int .i64 0, .string ⟨#[]⟩] 29)) := ((Below.refl _ _).alloc (Nat.le_refl _) _).alloc (by simp) _
  have XD : ((w.alloc (.cells #[.int .i64 D.k, .int .i64 D.a, .int .i64 D.b, .int .i64 D.op, .int .i64 D.st, .int .i64 D.n] 32)).alloc (.cells #[.int .i64 0, .int .i64 0, .int .i64 0, .int .i64 0, .int .i64 0, .int .i64 0, .string ⟨#[]⟩] 29)).heap[db]? = some (.cells #[.int .i64 D.k, .int .i64 D.a, .int .i64 D.b, .int .i64 D.op, .int .i64 D.st, .int .i64 D.n] 32 (0, 0)) := by rw [← hdb]; exact blk_alloc (blk_new _ _ _) _
  have XR : ((w.alloc (.cells #[.int .i64 D.k, .int .i64 D.a, .int .i64 D.b, .int .i64 D.op, .int .i64 D.st, .int .i64 D.n] 32)).alloc (.cells #[.int .i64 0, .int .i64 0, .int .i64 0, .int .i64 0, .int .i64 0, .int .i64 0, .string ⟨#[]⟩] 29)).heap[db + 1]? = some (.cells #[.int .i64 0, .int .i64 0, .int .i64 0, .int .i64 0, .int .i64 0, .int .i64 0, .string ⟨#[]⟩] 29 (0, 0)) := by
    have h0 := blk_new (w.alloc (.cells #[.int .i64 D.k, .int .i64 D.a, .int .i64 D.b, .int .i64 D.op, .int .i64 D.st, .int .i64 D.n] 32)) #[.int .i64 0, .int .i64 0, .int .i64 0, .int .i64 0, .int .i64 0, .int .i64 0, .string ⟨#[]⟩] 29
    have h1 : (w.alloc (.cells #[.int .i64 D.k, .int .i64 D.a, .int .i64 D.b, .int .i64 D.op, .int .i64 D.st, .int .i64 D.n] 32)).heap.size = db + 1 := by rw [← hdb]; simp
    rw [h1] at h0
    exact h0
  obtain ⟨rb, hrb⟩ : ∃ r, db + 1 = r := ⟨_, rfl⟩
  rw [hrb] at XR ⊢
  have HD := Lib.hid XD
  have H2 := Lib.hid (show _ ∧ _ from ⟨B2, XR⟩)
  have HRB := Lib.hid (show w.heap.size ≤ rb by omega)
  have HDR := Lib.hid (show db ≠ rb by omega)
  generalize ((w.alloc (.cells #[.int .i64 D.k, .int .i64 D.a, .int .i64 D.b, .int .i64 D.op, .int .i64 D.st, .int .i64 D.n] 32)).alloc (.cells #[.int .i64 0, .int .i64 0, .int .i64 0, .int .i64 0, .int .i64 0, .int .i64 0, .string ⟨#[]⟩] 29)) = w2 at *
  have d2 := blk_cell HD.out
  have dl2 := blk_lt HD.out
  clear B2 XD XR hrb hdb
  go_wp2_with (first | (go_at_call 12; refine (within_any D.k 0 19 _ (by omega) (by omega) (by omega) HO.out.k.1 HO.out.k.2).mono ?_; rintro e x1 ⟨rfl, rfl⟩))
  have k1 := win_lo D.k 0 19 (by omega)
  have k2 := win_hi D.k 0 19 (by omega)
  obtain ⟨K9, hK9⟩ : ∃ q, win D.k 0 19 = q := ⟨_, rfl⟩
  rw [hK9] at k1 k2 ⊢
  clear hK9 d2 dl2
  refine wp_region_inv_eq (J := fun A d act x => ∃ u15 u16 u17 u18 u19 u20 u21 u22 u23 u24 u25 u26 u27 u10 : Value, act = ((((((((((((((A.put (some 15) u15).put (some 16) u16).put (some 17) u17).put (some 18) u18).put (some 19) u19).put (some 20) u20).put (some 21) u21).put (some 22) u22).put (some 23) u23).put (some 24) u24).put (some 25) u25).put (some 26) u26).put (some 27) u27).put (some 10) u10) ∧ RA2 w w2 D db d x u15 u16 u17 u18 u19 u20 u21 u22 u23 u24 u25 u26 u27 u10) (by simp only [Act.put, List.setIfInBounds_toArray, List.set_cons_succ, List.set_cons_zero]; rfl) (by kernel_rfl) (by kernel_rfl) ?_ ?_ ?_
  · exact ⟨_, _, _, _, _, _, _, _, _, _, _, _, _, _, rfl, ⟨(fun h => by cases h), (fun h => by cases h), (fun h => by cases h), (fun h => by cases h), (fun h => by cases h), (fun h => by cases h), (fun h => by cases h), (fun h => by cases h), (fun h => by cases h), (fun h => by cases h), (fun h => by cases h), (fun h => by cases h), (fun h => by cases h), (Below.refl _ _).drew, (fun h => by cases h), (fun h => by cases h)⟩⟩
  · refine stepsOk_cons (k := 0) ?_ (stepsOk_cons (k := 1) ?_ (stepsOk_cons (k := 2) ?_ (stepsOk_cons (k := 3) ?_ (stepsOk_cons (k := 4) ?_ (stepsOk_cons (k := 5) ?_ (stepsOk_cons (k := 6) ?_ (stepsOk_cons (k := 7) ?_ (stepsOk_cons (k := 8) ?_ (stepsOk_cons (k := 9) ?_ (stepsOk_cons (k := 10) ?_ (stepsOk_cons (k := 11) ?_ (stepsOk_cons (k := 12) ?_ (stepsOk_cons (k := 13) ?_ (stepsOk_cons (k := 14) ?_ stepsOk_nil))))))))))))))
    · unfold StepOk
      rintro d act xw ⟨u15, u16, u17, u18, u19, u20, u21, u22, u23, u24, u25, u26, u27, u10, rfl, F⟩ hd hdep Kc hKc
      rw [if_pos (by rfl)]
      go_big_op
      exact hKc _ _ ⟨_, _, _, _, _, _, _, _, _, _, _, _, _, _, rfl, ⟨(fun _ => rfl), (fun h => F.s1 (up h rfl)), (fun h => F.s2 (up h rfl)), (fun h => F.s3 (up h rfl)), (fun h => F.s4 (up h rfl)), (fun h => F.s5 (up h rfl)), (fun h => F.s6 (up h rfl)), (fun h => F.s7 (up h rfl)), (fun h => F.s8 (up h rfl)), (fun h => F.s9 (up h rfl)), (fun h => F.s10 (up h rfl)), (fun h => F.s11 (up h rfl)), (fun h => F.s12 (up h rfl)), F.bl, (fun h => upl (F.k3 (up h rfl))), (fun h => by obtain ⟨q, e, hq, h1, h2⟩ := F.p13 (up h rfl); exact ⟨q, e, hq, fun h => (h1 (dn h)), fun h => (h2 (up h rfl))⟩)⟩⟩
    · unfold StepOk
      rintro d act xw ⟨u15, u16, u17, u18, u19, u20, u21, u22, u23, u24, u25, u26, u27, u10, rfl, F⟩ hd hdep Kc hKc
      have hd0 : d 0 = true := hdep ⟨0, .data⟩ (by simp) rfl
      obtain rfl := F.s0 hd0
      have hdc := blk_cell (blk_ext F.bl HD.out)
      have hdl := blk_lt (blk_ext F.bl HD.out)
      rw [if_pos (by rfl)]
      go_big_op
      exact hKc _ _ ⟨_, _, _, _, _, _, _, _, _, _, _, _, _, _, rfl, ⟨(fun h => F.s0 (up h rfl)), (fun _ => rfl), (fun h => F.s2 (up h rfl)), (fun h => F.s3 (up h rfl)), (fun h => F.s4 (up h rfl)), (fun h => F.s5 (up h rfl)), (fun h => F.s6 (up h rfl)), (fun h => F.s7 (up h rfl)), (fun h => F.s8 (up h rfl)), (fun h => F.s9 (up h rfl)), (fun h => F.s10 (up h rfl)), (fun h => F.s11 (up h rfl)), (fun h => F.s12 (up h rfl)), F.bl, (fun h => upl (F.k3 (up h rfl))), (fun h => by obtain ⟨q, e, hq, h1, h2⟩ := F.p13 (up h rfl); exact ⟨q, e, hq, fun h => (h1 (dn h)), fun h => (h2 (up h rfl))⟩)⟩⟩
    · unfold StepOk
      rintro d act xw ⟨u15, u16, u17, u18, u19, u20, u21, u22, u23, u24, u25, u26, u27, u10, rfl, F⟩ hd hdep Kc hKc
      rw [if_pos (by rfl)]
      go_big_op
      exact hKc _ _ ⟨_, _, _, _, _, _, _, _, _, _, _, _, _, _, rfl, ⟨(fun h => F.s0 (up h rfl)), (fun h => F.s1 (up h rfl)), (fun _ => rfl), (fun h => F.s3 (up h rfl)), (fun h => F.s4 (up h rfl)), (fun h => F.s5 (up h rfl)), (fun h => F.s6 (up h rfl)), (fun h => F.s7 (up h rfl)), (fun h => F.s8 (up h rfl)), (fun h => F.s9 (up h rfl)), (fun h => F.s10 (up h rfl)), (fun h => F.s11 (up h rfl)), (fun h => F.s12 (up h rfl)), F.bl, (fun h => upl (F.k3 (up h rfl))), (fun h => by obtain ⟨q, e, hq, h1, h2⟩ := F.p13 (up h rfl); exact ⟨q, e, hq, fun h => (h1 (dn h)), fun h => (h2 (up h rfl))⟩)⟩⟩
    · unfold StepOk
      rintro d act xw ⟨u15, u16, u17, u18, u19, u20, u21, u22, u23, u24, u25, u26, u27, u10, rfl, F⟩ hd hdep Kc hKc
      have hd2 : d 2 = true := hdep ⟨2, .data⟩ (by simp) rfl
      obtain rfl := F.s2 hd2
      rw [if_pos (by rfl)]
      go_big_op
      exact hKc _ _ ⟨_, _, _, _, _, _, _, _, _, _, _, _, _, _, rfl, ⟨(fun h => F.s0 (up h rfl)), (fun h => F.s1 (up h rfl)), (fun h => F.s2 (up h rfl)), (fun _ => rfl), (fun h => F.s4 (up h rfl)), (fun h => F.s5 (up h rfl)), (fun h => F.s6 (up h rfl)), (fun h => F.s7 (up h rfl)), (fun h => F.s8 (up h rfl)), (fun h => F.s9 (up h rfl)), (fun h => F.s10 (up h rfl)), (fun h => F.s11 (up h rfl)), (fun h => F.s12 (up h rfl)), F.bl, (fun h => upl (F.k3 (up h rfl))), (fun h => by obtain ⟨q, e, hq, h1, h2⟩ := F.p13 (up h rfl); exact ⟨q, e, hq, fun h => (h1 (dn h)), fun h => (h2 (up h rfl))⟩)⟩⟩
    · unfold StepOk
      rintro d act xw ⟨u15, u16, u17, u18, u19, u20, u21, u22, u23, u24, u25, u26, u27, u10, rfl, F⟩ hd hdep Kc hKc
      have hd3 : d 3 = true := hdep ⟨3, .data⟩ (by simp) rfl
      obtain rfl := F.s3 hd3
      rw [if_pos (by rfl)]
      go_big_op
      exact hKc _ _ ⟨_, _, _, _, _, _, _, _, _, _, _, _, _, _, rfl, ⟨(fun h => F.s0 (up h rfl)), (fun h => F.s1 (up h rfl)), (fun h => F.s2 (up h rfl)), (fun h => F.s3 (up h rfl)), (fun _ => rfl), (fun h => F.s5 (up h rfl)), (fun h => F.s6 (up h rfl)), (fun h => F.s7 (up h rfl)), (fun h => F.s8 (up h rfl)), (fun h => F.s9 (up h rfl)), (fun h => F.s10 (up h rfl)), (fun h => F.s11 (up h rfl)), (fun h => F.s12 (up h rfl)), F.bl, (fun h => upl (F.k3 (up h rfl))), (fun h => by obtain ⟨q, e, hq, h1, h2⟩ := F.p13 (up h rfl); exact ⟨q, e, hq, fun h => (h1 (dn h)), fun h => (h2 (up h rfl))⟩)⟩⟩
    · unfold StepOk
      rintro d act xw ⟨u15, u16, u17, u18, u19, u20, u21, u22, u23, u24, u25, u26, u27, u10, rfl, F⟩ hd hdep Kc hKc
      have hd1 : d 1 = true := hdep ⟨1, .data⟩ (by simp) rfl
      obtain rfl := F.s1 hd1
      have hd4 : d 4 = true := hdep ⟨4, .data⟩ (by simp) rfl
      obtain rfl := F.s4 hd4
      rw [if_pos (by rfl)]
      go_big_op
      refine (within_any D.a 0 4 _ (by omega) (by omega) (by omega) HO.out.a.1 HO.out.a.2).mono ?_
      rintro e x1 ⟨rfl, rfl⟩
      exact hKc _ _ ⟨_, _, _, _, _, _, _, _, _, _, _, _, _, _, rfl, ⟨(fun h => F.s0 (up h rfl)), (fun h => F.s1 (up h rfl)), (fun h => F.s2 (up h rfl)), (fun h => F.s3 (up h rfl)), (fun h => F.s4 (up h rfl)), (fun _ => rfl), (fun h => F.s6 (up h rfl)), (fun h => F.s7 (up h rfl)), (fun h => F.s8 (up h rfl)), (fun h => F.s9 (up h rfl)), (fun h => F.s10 (up h rfl)), (fun h => F.s11 (up h rfl)), (fun h => F.s12 (up h rfl)), F.bl, (fun h => upl (F.k3 (up h rfl))), (fun h => by obtain ⟨q, e, hq, h1, h2⟩ := F.p13 (up h rfl); exact ⟨q, e, hq, fun h => (h1 (dn h)), fun h => (h2 (up h rfl))⟩)⟩⟩
    · unfold StepOk
      rintro d act xw ⟨u15, u16, u17, u18, u19, u20, u21, u22, u23, u24, u25, u26, u27, u10, rfl, F⟩ hd hdep Kc hKc
      rw [if_pos (by rfl)]
      go_big_op
      exact hKc _ _ ⟨_, _, _, _, _, _, _, _, _, _, _, _, _, _, rfl, ⟨(fun h => F.s0 (up h rfl)), (fun h => F.s1 (up h rfl)), (fun h => F.s2 (up h rfl)), (fun h => F.s3 (up h rfl)), (fun h => F.s4 (up h rfl)), (fun h => F.s5 (up h rfl)), (fun _ => rfl), (fun h => F.s7 (up h rfl)), (fun h => F.s8 (up h rfl)), (fun h => F.s9 (up h rfl)), (fun h => F.s10 (up h rfl)), (fun h => F.s11 (up h rfl)), (fun h => F.s12 (up h rfl)), F.bl, (fun h => upl (F.k3 (up h rfl))), (fun h => by obtain ⟨q, e, hq, h1, h2⟩ := F.p13 (up h rfl); exact ⟨q, e, hq, fun h => (h1 (dn h)), fun h => (h2 (up h rfl))⟩)⟩⟩
    · unfold StepOk
      rintro d act xw ⟨u15, u16, u17, u18, u19, u20, u21, u22, u23, u24, u25, u26, u27, u10, rfl, F⟩ hd hdep Kc hKc
      have hd6 : d 6 = true := hdep ⟨6, .data⟩ (by simp) rfl
      obtain rfl := F.s6 hd6
      have hdc := blk_cell (blk_ext F.bl HD.out)
      have hdl := blk_lt (blk_ext F.bl HD.out)
      rw [if_pos (by rfl)]
      go_big_op
      exact hKc _ _ ⟨_, _, _, _, _, _, _, _, _, _, _, _, _, _, rfl, ⟨(fun h => F.s0 (up h rfl)), (fun h => F.s1 (up h rfl)), (fun h => F.s2 (up h rfl)), (fun h => F.s3 (up h rfl)), (fun h => F.s4 (up h rfl)), (fun h => F.s5 (up h rfl)), (fun h => F.s6 (up h rfl)), (fun _ => rfl), (fun h => F.s8 (up h rfl)), (fun h => F.s9 (up h rfl)), (fun h => F.s10 (up h rfl)), (fun h => F.s11 (up h rfl)), (fun h => F.s12 (up h rfl)), F.bl, (fun h => upl (F.k3 (up h rfl))), (fun h => by obtain ⟨q, e, hq, h1, h2⟩ := F.p13 (up h rfl); exact ⟨q, e, hq, fun h => (h1 (dn h)), fun h => (h2 (up h rfl))⟩)⟩⟩
    · unfold StepOk
      rintro d act xw ⟨u15, u16, u17, u18, u19, u20, u21, u22, u23, u24, u25, u26, u27, u10, rfl, F⟩ hd hdep Kc hKc
      rw [if_pos (by rfl)]
      go_big_op
      exact hKc _ _ ⟨_, _, _, _, _, _, _, _, _, _, _, _, _, _, rfl, ⟨(fun h => F.s0 (up h rfl)), (fun h => F.s1 (up h rfl)), (fun h => F.s2 (up h rfl)), (fun h => F.s3 (up h rfl)), (fun h => F.s4 (up h rfl)), (fun h => F.s5 (up h rfl)), (fun h => F.s6 (up h rfl)), (fun h => F.s7 (up h rfl)), (fun _ => rfl), (fun h => F.s9 (up h rfl)), (fun h => F.s10 (up h rfl)), (fun h => F.s11 (up h rfl)), (fun h => F.s12 (up h rfl)), F.bl, (fun h => upl (F.k3 (up h rfl))), (fun h => by obtain ⟨q, e, hq, h1, h2⟩ := F.p13 (up h rfl); exact ⟨q, e, hq, fun h => (h1 (dn h)), fun h => (h2 (up h rfl))⟩)⟩⟩
    · unfold StepOk
      rintro d act xw ⟨u15, u16, u17, u18, u19, u20, u21, u22, u23, u24, u25, u26, u27, u10, rfl, F⟩ hd hdep Kc hKc
      have hd8 : d 8 = true := hdep ⟨8, .data⟩ (by simp) rfl
      obtain rfl := F.s8 hd8
      rw [if_pos (by rfl)]
      go_big_op
      exact hKc _ _ ⟨_, _, _, _, _, _, _, _, _, _, _, _, _, _, rfl, ⟨(fun h => F.s0 (up h rfl)), (fun h => F.s1 (up h rfl)), (fun h => F.s2 (up h rfl)), (fun h => F.s3 (up h rfl)), (fun h => F.s4 (up h rfl)), (fun h => F.s5 (up h rfl)), (fun h => F.s6 (up h rfl)), (fun h => F.s7 (up h rfl)), (fun h => F.s8 (up h rfl)), (fun _ => rfl), (fun h => F.s10 (up h rfl)), (fun h => F.s11 (up h rfl)), (fun h => F.s12 (up h rfl)), F.bl, (fun h => upl (F.k3 (up h rfl))), (fun h => by obtain ⟨q, e, hq, h1, h2⟩ := F.p13 (up h rfl); exact ⟨q, e, hq, fun h => (h1 (dn h)), fun h => (h2 (up h rfl))⟩)⟩⟩
    · unfold StepOk
      rintro d act xw ⟨u15, u16, u17, u18, u19, u20, u21, u22, u23, u24, u25, u26, u27, u10, rfl, F⟩ hd hdep Kc hKc
      have hd9 : d 9 = true := hdep ⟨9, .data⟩ (by simp) rfl
      obtain rfl := F.s9 hd9
      rw [if_pos (by rfl)]
      go_big_op
      exact hKc _ _ ⟨_, _, _, _, _, _, _, _, _, _, _, _, _, _, rfl, ⟨(fun h => F.s0 (up h rfl)), (fun h => F.s1 (up h rfl)), (fun h => F.s2 (up h rfl)), (fun h => F.s3 (up h rfl)), (fun h => F.s4 (up h rfl)), (fun h => F.s5 (up h rfl)), (fun h => F.s6 (up h rfl)), (fun h => F.s7 (up h rfl)), (fun h => F.s8 (up h rfl)), (fun h => F.s9 (up h rfl)), (fun _ => rfl), (fun h => F.s11 (up h rfl)), (fun h => F.s12 (up h rfl)), F.bl, (fun h => upl (F.k3 (up h rfl))), (fun h => by obtain ⟨q, e, hq, h1, h2⟩ := F.p13 (up h rfl); exact ⟨q, e, hq, fun h => (h1 (dn h)), fun h => (h2 (up h rfl))⟩)⟩⟩
    · unfold StepOk
      rintro d act xw ⟨u15, u16, u17, u18, u19, u20, u21, u22, u23, u24, u25, u26, u27, u10, rfl, F⟩ hd hdep Kc hKc
      have hd7 : d 7 = true := hdep ⟨7, .data⟩ (by simp) rfl
      obtain rfl := F.s7 hd7
      have hd10 : d 10 = true := hdep ⟨10, .data⟩ (by simp) rfl
      obtain rfl := F.s10 hd10
      rw [if_pos (by rfl)]
      go_big_op
      refine (within_any D.b 0 4 _ (by omega) (by omega) (by omega) HO.out.b.1 HO.out.b.2).mono ?_
      rintro e x1 ⟨rfl, rfl⟩
      exact hKc _ _ ⟨_, _, _, _, _, _, _, _, _, _, _, _, _, _, rfl, ⟨(fun h => F.s0 (up h rfl)), (fun h => F.s1 (up h rfl)), (fun h => F.s2 (up h rfl)), (fun h => F.s3 (up h rfl)), (fun h => F.s4 (up h rfl)), (fun h => F.s5 (up h rfl)), (fun h => F.s6 (up h rfl)), (fun h => F.s7 (up h rfl)), (fun h => F.s8 (up h rfl)), (fun h => F.s9 (up h rfl)), (fun h => F.s10 (up h rfl)), (fun _ => rfl), (fun h => F.s12 (up h rfl)), F.bl, (fun h => upl (F.k3 (up h rfl))), (fun h => by obtain ⟨q, e, hq, h1, h2⟩ := F.p13 (up h rfl); exact ⟨q, e, hq, fun h => (h1 (dn h)), fun h => (h2 (up h rfl))⟩)⟩⟩
    · unfold StepOk
      rintro d act xw ⟨u15, u16, u17, u18, u19, u20, u21, u22, u23, u24, u25, u26, u27, u10, rfl, F⟩ hd hdep Kc hKc
      have hd5 : d 5 = true := hdep ⟨5, .data⟩ (by simp) rfl
      obtain rfl := F.s5 hd5
      have hd11 : d 11 = true := hdep ⟨11, .data⟩ (by simp) rfl
      obtain rfl := F.s11 hd11
      rw [if_pos (by rfl)]
      go_big_op
      exact hKc _ _ ⟨_, _, _, _, _, _, _, _, _, _, _, _, _, _, rfl, ⟨(fun h => F.s0 (up h rfl)), (fun h => F.s1 (up h rfl)), (fun h => F.s2 (up h rfl)), (fun h => F.s3 (up h rfl)), (fun h => F.s4 (up h rfl)), (fun h => F.s5 (up h rfl)), (fun h => F.s6 (up h rfl)), (fun h => F.s7 (up h rfl)), (fun h => F.s8 (up h rfl)), (fun h => F.s9 (up h rfl)), (fun h => F.s10 (up h rfl)), (fun h => F.s11 (up h rfl)), (fun _ => rfl), F.bl, (fun h => upl (F.k3 (up h rfl))), (fun h => by obtain ⟨q, e, hq, h1, h2⟩ := F.p13 (up h rfl); exact ⟨q, e, hq, fun h => (h1 (dn h)), fun h => (h2 (up h rfl))⟩)⟩⟩
    · unfold StepOk
      rintro d act xw ⟨u15, u16, u17, u18, u19, u20, u21, u22, u23, u24, u25, u26, u27, u10, rfl, F⟩ hd hdep Kc hKc
      rw [if_pos (by rfl)]
      go_big_op
      exact hKc _ _ ⟨_, _, _, _, _, _, _, _, _, _, _, _, _, _, rfl, ⟨(fun h => F.s0 (up h rfl)), (fun h => F.s1 (up h rfl)), (fun h => F.s2 (up h rfl)), (fun h => F.s3 (up h rfl)), (fun h => F.s4 (up h rfl)), (fun h => F.s5 (up h rfl)), (fun h => F.s6 (up h rfl)), (fun h => F.s7 (up h rfl)), (fun h => F.s8 (up h rfl)), (fun h => F.s9 (up h rfl)), (fun h => F.s10 (up h rfl)), (fun h => F.s11 (up h rfl)), (fun h => F.s12 (up h rfl)), (F.bl.alloc F.bl.size _), (fun h => upl (F.k3 (up h rfl))), (fun _ => ⟨xw.heap.size, rfl, F.bl.size, fun _ => blk_new _ _ _, fun h => absurd (F.k3 (up h rfl)) (by rw [hd]; decide)⟩)⟩⟩
    · unfold StepOk
      rintro d act xw ⟨u15, u16, u17, u18, u19, u20, u21, u22, u23, u24, u25, u26, u27, u10, rfl, F⟩ hd hdep Kc hKc
      have hd13 : d 13 = true := hdep ⟨13, .data⟩ (by simp) rfl
      obtain ⟨nb, rfl, hnb, hz, hf⟩ := F.p13 hd13
      have hd12 : d 12 = true := hdep ⟨12, .data⟩ (by simp) rfl
      obtain rfl := F.s12 hd12
      have HZ := hz hd
      have hbc := blk_cell HZ
      have hbf := blk_free HZ
      have hbl := blk_lt HZ
      rw [if_pos (by rfl)]
      go_big_op
      have HFF := blk_fill7 (v0 := .int .i64 0) (v1 := .int .i64 (win D.a 0 4)) (v2 := .int .i64 (win D.b 0 4)) (v3 := .int .i64 0) (v4 := .int .i64 0) (v5 := .int .i64 0) (v6 := .string ⟨#[]⟩) HZ rfl
      have HBB := below_fill7 (v0 := .int .i64 0) (v1 := .int .i64 (win D.a 0 4)) (v2 := .int .i64 (win D.b 0 4)) (v3 := .int .i64 0) (v4 := .int .i64 0) (v5 := .int .i64 0) (v6 := .string ⟨#[]⟩) F.bl hnb
      exact hKc _ _ ⟨_, _, _, _, _, _, _, _, _, _, _, _, _, _, rfl, ⟨(fun h => F.s0 (up h rfl)), (fun h => F.s1 (up h rfl)), (fun h => F.s2 (up h rfl)), (fun h => F.s3 (up h rfl)), (fun h => F.s4 (up h rfl)), (fun h => F.s5 (up h rfl)), (fun h => F.s6 (up h rfl)), (fun h => F.s7 (up h rfl)), (fun h => F.s8 (up h rfl)), (fun h => F.s9 (up h rfl)), (fun h => F.s10 (up h rfl)), (fun h => F.s11 (up h rfl)), (fun h => F.s12 (up h rfl)), HBB, (fun _ => upl hd13), (fun _ => ⟨nb, rfl, hnb, fun h => by simp at h, fun _ => HFF⟩)⟩⟩
  · rintro d act xw ⟨u15, u16, u17, u18, u19, u20, u21, u22, u23, u24, u25, u26, u27, u10, rfl, F⟩ hall
    obtain ⟨ab, rfl, hab, -, hf⟩ := F.p13 (hall 13 (by decide))
    have a1 := win_lo D.a 0 4 (by omega)
    have a2 := win_hi D.a 0 4 (by omega)
    have b1 := win_lo D.b 0 4 (by omega)
    have b2 := win_hi D.b 0 4 (by omega)
    have hf0 := hf (hall 14 (by decide))
    obtain ⟨A1, hA1⟩ : ∃ q, win D.a 0 4 = q := ⟨_, rfl⟩
    obtain ⟨B1, hB1⟩ : ∃ q, win D.b 0 4 = q := ⟨_, rfl⟩
    rw [hA1] at a1 a2 hf0
    rw [hB1] at b1 b2 hf0
    have H3 := Lib.hid (show _ ∧ _ ∧ _ ∧ _ from ⟨ext_trans H2.out.1 F.bl, blk_ext F.bl HD.out, blk_ext F.bl H2.out.2, hf0⟩)
    have hr2 := blk_lt H2.out.2
    have hd2 := blk_lt HD.out
    have HLE := Lib.hid (show w.heap.size ≤ ab ∧ db ≠ ab ∧ rb ≠ ab from ⟨Nat.le_trans H2.out.1.size hab, by omega, by omega⟩)
    clear F hall hf hf0 hA1 hB1 hr2 hd2 hab
    have d3 := blk_cell H3.out.2.1
    have dl3 := blk_lt H3.out.2.1
    go_upto_region 5 with (first | (go_at_call 12; refine (within_any D.n 0 1000 _ (by omega) (by omega) (by omega) HO.out.n.1 HO.out.n.2).mono ?_; rintro e x1 ⟨rfl, rfl⟩))
    clear d3 dl3
    have s1 := win_lo D.n 0 1000 (by omega)
    have s2 := win_hi D.n 0 1000 (by omega)
    obtain ⟨sm, hsm⟩ : ∃ q, win D.n 0 1000 = q := ⟨_, rfl⟩
    rw [hsm] at s1 s2 ⊢
    clear hsm
    skip
    by_cases h7 : K9 < 7
    · have hd7 : decide (K9 < 7) = true := decide_eq_true h7
      have hw : wrap64 (1 + sm % 30) = 1 + sm % 30 := by unfold wrap64; omega
      have c3 := blk_cell H3.out.2.2.2
      have f3 := blk_free H3.out.2.2.2
      have l3 := blk_lt H3.out.2.2.2
      have d3 := blk_cell H3.out.2.1
      have dl3 := blk_lt H3.out.2.1
      go_upto_region 17 with (fail)
      have H9 := Lib.hid (show Below w.heap.size w ((xw.setCell ⟨ab, 0, none⟩ (.int .i64 1)).setCell ⟨ab, 5, none⟩ (.int .i64 (1 + sm % 30))) ∧ ((xw.setCell ⟨ab, 0, none⟩ (.int .i64 1)).setCell ⟨ab, 5, none⟩ (.int .i64 (1 + sm % 30))).heap[rb]? = some (.cells #[.int .i64 0, .int .i64 0, .int .i64 0, .int .i64 0, .int .i64 0, .int .i64 0, .string ⟨#[]⟩] 29 (0, 0)) ∧ ((xw.setCell ⟨ab, 0, none⟩ (.int .i64 1)).setCell ⟨ab, 5, none⟩ (.int .i64 (1 + sm % 30))).heap[ab]? = some (.cells #[.int .i64 1, .int .i64 A1, .int .i64 B1, .int .i64 0, .int .i64 0, .int .i64 (1 + sm % 30), .string ⟨#[]⟩] 29 (0, 0)) from ⟨((H3.out.1.setCell HLE.out.1 _).setCell HLE.out.1 _), (blk_set_other HLE.out.2.2 (blk_set_other HLE.out.2.2 H3.out.2.2.1)), (blk_set (blk_set H3.out.2.2.2 rfl) rfl)⟩)
      clear c3 f3 l3 d3 dl3
      generalize ((xw.setCell ⟨ab, 0, none⟩ (.int .i64 1)).setCell ⟨ab, 5, none⟩ (.int .i64 (1 + sm % 30))) = y9 at *
      have c9 := blk_cell H9.out.2.2
      have l9 := blk_lt H9.out.2.2
      have z9 := blk_cell H9.out.2.1
      have zf9 := blk_free H9.out.2.1
      have zl9 := blk_lt H9.out.2.1
      go_wp2_with fail
      exact bodyPost_ret (v := .agg #[.int .i64 (1), .int .i64 (A1), .int .i64 (B1), .int .i64 (0), .int .i64 (0), .int .i64 (1 + sm % 30), .string ⟨#[]⟩]) (by have hk2 := blk_cell (blk_fill7 (v0 := .int .i64 (1)) (v1 := .int .i64 (A1)) (v2 := .int .i64 (B1)) (v3 := .int .i64 (0)) (v4 := .int .i64 (0)) (v5 := .int .i64 (1 + sm % 30)) (v6 := .string ⟨#[]⟩) H9.out.2.1 rfl); simp [results, Tryz.results11, go_sem, hk2]) rfl ⟨⟨1, A1, B1, 0, 0, 1 + sm % 30, ⟨#[]⟩⟩, rfl, acOk_of (by omega) (by omega) (by omega) (by omega), (by show (⟨#[]⟩ : ByteArray).size ≤ 1000; decide), below_fill7 H9.out.1 HRB.out⟩
    have hd7 : decide (K9 < 7) = false := decide_eq_false h7
    by_cases h14 : K9 < 14
    · have hd14 : decide (K9 < 14) = true := decide_eq_true h14
      go_wp2_with fail
      refine wp_region_inv_eq (J := fun A d act x => ∃ u55 u56 u57 u58 u59 u60 : Value, act = ((((((A.put (some 55) u55).put (some 56) u56).put (some 57) u57).put (some 58) u58).put (some 59) u59).put (some 60) u60) ∧ RA8 w xw D db rb ab A1 B1 sm d x u55 u56 u57 u58 u59 u60) (by simp only [Act.put, List.setIfInBounds_toArray, List.set_cons_succ, List.set_cons_zero]; rfl) (by kernel_rfl) (by kernel_rfl) ?_ ?_ ?_
      · exact ⟨_, _, _, _, _, _, rfl, ⟨(fun h => by cases h), (fun h => by cases h), (fun h => by cases h), (fun h => by cases h), (fun h => by cases h), (fun h => by cases h), H3.out.1.drew, H3.out.2.1, H3.out.2.2.1, (by have h0 := H3.out.2.2.2; show xw.heap[ab]? = _; simpa using h0)⟩⟩
      · refine stepsOk_cons (k := 0) ?_ (stepsOk_cons (k := 1) ?_ (stepsOk_cons (k := 2) ?_ (stepsOk_cons (k := 3) ?_ (stepsOk_cons (k := 4) ?_ (stepsOk_cons (k := 5) ?_ (stepsOk_cons (k := 6) ?_ (stepsOk_cons (k := 7) ?_ stepsOk_nil)))))))
        · unfold StepOk
          rintro d act xw ⟨u55, u56, u57, u58, u59, u60, rfl, F⟩ hd hdep Kc hKc
          rw [if_pos (by rfl)]
          go_big_op
          exact hKc _ _ ⟨_, _, _, _, _, _, rfl, ⟨(fun _ => rfl), (fun h => F.s1 (up h rfl)), (fun h => F.s2 (up h rfl)), (fun h => F.s3 (up h rfl)), (fun h => F.s4 (up h rfl)), (fun h => F.s6 (up h rfl)), F.bl, F.dk, F.rk, (by have h0 := F.ak; simpa using h0)⟩⟩
        · unfold StepOk
          rintro d act xw ⟨u55, u56, u57, u58, u59, u60, rfl, F⟩ hd hdep Kc hKc
          rw [if_pos (by rfl)]
          go_big_op
          exact hKc _ _ ⟨_, _, _, _, _, _, rfl, ⟨(fun h => F.s0 (up h rfl)), (fun _ => rfl), (fun h => F.s2 (up h rfl)), (fun h => F.s3 (up h rfl)), (fun h => F.s4 (up h rfl)), (fun h => F.s6 (up h rfl)), F.bl, F.dk, F.rk, (by have h0 := F.ak; simpa using h0)⟩⟩
        · unfold StepOk
          rintro d act xw ⟨u55, u56, u57, u58, u59, u60, rfl, F⟩ hd hdep Kc hKc
          have hd1 : d 1 = true := hdep ⟨1, .data⟩ (by simp) rfl
          obtain rfl := F.s1 hd1
          rw [if_pos (by rfl)]
          go_big_op
          exact hKc _ _ ⟨_, _, _, _, _, _, rfl, ⟨(fun h => F.s0 (up h rfl)), (fun h => F.s1 (up h rfl)), (fun _ => rfl), (fun h => F.s3 (up h rfl)), (fun h => F.s4 (up h rfl)), (fun h => F.s6 (up h rfl)), F.bl, F.dk, F.rk, (by have h0 := F.ak; simpa using h0)⟩⟩
        · unfold StepOk
          rintro d act xw ⟨u55, u56, u57, u58, u59, u60, rfl, F⟩ hd hdep Kc hKc
          have hd0 : d 0 = true := hdep ⟨0, .data⟩ (by simp) rfl
          obtain rfl := F.s0 hd0
          have hd2 : d 2 = true := hdep ⟨2, .data⟩ (by simp) rfl
          obtain rfl := F.s2 hd2
          rw [if_pos (by rfl)]
          go_big_op
          exact hKc _ _ ⟨_, _, _, _, _, _, rfl, ⟨(fun h => F.s0 (up h rfl)), (fun h => F.s1 (up h rfl)), (fun h => F.s2 (up h rfl)), (fun _ => rfl), (fun h => F.s4 (up h rfl)), (fun h => F.s6 (up h rfl)), F.bl, F.dk, F.rk, (by have h0 := F.ak; simpa using h0)⟩⟩
        · unfold StepOk
          rintro d act xw ⟨u55, u56, u57, u58, u59, u60, rfl, F⟩ hd hdep Kc hKc
          rw [if_pos (by rfl)]
          go_big_op
          exact hKc _ _ ⟨_, _, _, _, _, _, rfl, ⟨(fun h => F.s0 (up h rfl)), (fun h => F.s1 (up h rfl)), (fun h => F.s2 (up h rfl)), (fun h => F.s3 (up h rfl)), (fun _ => rfl), (fun h => F.s6 (up h rfl)), F.bl, F.dk, F.rk, (by have h0 := F.ak; simpa using h0)⟩⟩
        · unfold StepOk
          rintro d act xw ⟨u55, u56, u57, u58, u59, u60, rfl, F⟩ hd hdep Kc hKc
          have hd4 : d 4 = true := hdep ⟨4, .data⟩ (by simp) rfl
          obtain rfl := F.s4 hd4
          have HZ := F.ak
          rw [hd] at HZ
          have hbc := blk_cell HZ
          have hbf := blk_free HZ
          have hbl := blk_lt HZ
          rw [if_pos (by rfl)]
          go_big_op
          exact hKc _ _ ⟨_, _, _, _, _, _, rfl, ⟨(fun h => F.s0 (up h rfl)), (fun h => F.s1 (up h rfl)), (fun h => F.s2 (up h rfl)), (fun h => F.s3 (up h rfl)), (fun h => F.s4 (up h rfl)), (fun h => F.s6 (up h rfl)), (F.bl.setCell HLE.out.1 _), (blk_set_other HLE.out.2.1 F.dk), (blk_set_other HLE.out.2.2 F.rk), (by have h0 := blk_set (n := 0) (u := .int .i64 2) (vs' := #[.int .i64 2, .int .i64 A1, .int .i64 B1, .int .i64 0, .int .i64 0, (bif d 7 then .int .i64 (sm % 9) else .int .i64 0), .string ⟨#[]⟩]) HZ rfl; simpa using h0)⟩⟩
        · unfold StepOk
          rintro d act xw ⟨u55, u56, u57, u58, u59, u60, rfl, F⟩ hd hdep Kc hKc
          rw [if_pos (by rfl)]
          go_big_op
          exact hKc _ _ ⟨_, _, _, _, _, _, rfl, ⟨(fun h => F.s0 (up h rfl)), (fun h => F.s1 (up h rfl)), (fun h => F.s2 (up h rfl)), (fun h => F.s3 (up h rfl)), (fun h => F.s4 (up h rfl)), (fun _ => rfl), F.bl, F.dk, F.rk, (by have h0 := F.ak; simpa using h0)⟩⟩
        · unfold StepOk
          rintro d act xw ⟨u55, u56, u57, u58, u59, u60, rfl, F⟩ hd hdep Kc hKc
          have hd6 : d 6 = true := hdep ⟨6, .data⟩ (by simp) rfl
          obtain rfl := F.s6 hd6
          have hd3 : d 3 = true := hdep ⟨3, .data⟩ (by simp) rfl
          obtain rfl := F.s3 hd3
          have HZ := F.ak
          rw [hd] at HZ
          have hbc := blk_cell HZ
          have hbf := blk_free HZ
          have hbl := blk_lt HZ
          rw [if_pos (by rfl)]
          go_big_op
          exact hKc _ _ ⟨_, _, _, _, _, _, rfl, ⟨(fun h => F.s0 (up h rfl)), (fun h => F.s1 (up h rfl)), (fun h => F.s2 (up h rfl)), (fun h => F.s3 (up h rfl)), (fun h => F.s4 (up h rfl)), (fun h => F.s6 (up h rfl)), (F.bl.setCell HLE.out.1 _), (blk_set_other HLE.out.2.1 F.dk), (blk_set_other HLE.out.2.2 F.rk), (by have h0 := blk_set (n := 5) (u := .int .i64 (sm % 9)) (vs' := #[(bif d 5 then .int .i64 2 else .int .i64 0), .int .i64 A1, .int .i64 B1, .int .i64 0, .int .i64 0, .int .i64 (sm % 9), .string ⟨#[]⟩]) HZ rfl; simpa using h0)⟩⟩
      · rintro d act xw ⟨u55, u56, u57, u58, u59, u60, rfl, F⟩ hall
        have H9 := Lib.hid (show Below w.heap.size w xw ∧ xw.heap[rb]? = some (.cells #[.int .i64 0, .int .i64 0, .int .i64 0, .int .i64 0, .int .i64 0, .int .i64 0, .string ⟨#[]⟩] 29 (0, 0)) ∧ xw.heap[ab]? = some (.cells #[.int .i64 (2), .int .i64 (A1), .int .i64 (B1), .int .i64 (0), .int .i64 (0), .int .i64 (sm % 9), .string ⟨#[]⟩] 29 (0, 0)) from ⟨F.bl, F.rk, by have h0 := F.ak; simp only [hall 5 (by decide), hall 7 (by decide), cond_true] at h0; exact h0⟩)
        clear F hall
        have c9 := blk_cell H9.out.2.2
        have l9 := blk_lt H9.out.2.2
        have z9 := blk_cell H9.out.2.1
        have zf9 := blk_free H9.out.2.1
        have zl9 := blk_lt H9.out.2.1
        go_wp2_with fail
        exact bodyPost_ret (v := .agg #[.int .i64 (2), .int .i64 (A1), .int .i64 (B1), .int .i64 (0), .int .i64 (0), .int .i64 (sm % 9), .string ⟨#[]⟩]) (by have hk2 := blk_cell (blk_fill7 (v0 := .int .i64 (2)) (v1 := .int .i64 (A1)) (v2 := .int .i64 (B1)) (v3 := .int .i64 (0)) (v4 := .int .i64 (0)) (v5 := .int .i64 (sm % 9)) (v6 := .string ⟨#[]⟩) H9.out.2.1 rfl); simp [results, Tryz.results11, go_sem, hk2]) rfl ⟨⟨2, A1, B1, 0, 0, sm % 9, ⟨#[]⟩⟩, rfl, acOk_of (by omega) (by omega) (by omega) (by omega), (by show (⟨#[]⟩ : ByteArray).size ≤ 1000; decide), below_fill7 H9.out.1 HRB.out⟩
    have hd14 : decide (K9 < 14) = false := decide_eq_false h14
    by_cases e14 : K9 = 14
    · subst e14
      have q1 := win_lo D.b 0 1 (by omega)
      have q2 := win_hi D.b 0 1 (by omega)
      obtain ⟨QN, hQN⟩ : ∃ q : Nat, win D.b 0 1 = (q : Int) := ⟨(win D.b 0 1).toNat, by omega⟩
      rw [hQN] at q1 q2
      have qn : QN < 2 := by omega
      obtain ⟨k3, hk3⟩ : ∃ k3 : Int, (#[Value.int .i64 3, Value.int .i64 4] : Array Value)[QN]? = some (.int .i64 k3) := by
        have : QN = 0 ∨ QN = 1 := by omega
        rcases this with rfl | rfl
        · exact ⟨3, rfl⟩
        · exact ⟨4, rfl⟩
      go_wp2_with fail
      refine wp_region_inv_eq (J := fun A d act x => ∃ u64 u65 u66 u67 u68 u69 u70 u71 u72 u73 u74 u75 : Value, act = ((((((((((((A.put (some 64) u64).put (some 65) u65).put (some 66) u66).put (some 67) u67).put (some 68) u68).put (some 69) u69).put (some 70) u70).put (some 71) u71).put (some 72) u72).put (some 73) u73).put (some 74) u74).put (some 75) u75) ∧ RA10 w xw D db rb ab A1 B1 sm QN k3 d x u64 u65 u66 u67 u68 u69 u70 u71 u72 u73 u74 u75) (by simp only [Act.put, List.setIfInBounds_toArray, List.set_cons_succ, List.set_cons_zero]; rfl) (by kernel_rfl) (by kernel_rfl) ?_ ?_ ?_
      · exact ⟨_, _, _, _, _, _, _, _, _, _, _, _, rfl, ⟨(fun h => by cases h), (fun h => by cases h), (fun h => by cases h), (fun h => by cases h), (fun h => by cases h), (fun h => by cases h), (fun h => by cases h), (fun h => by cases h), (fun h => by cases h), (fun h => by cases h), H3.out.1.drew, H3.out.2.1, H3.out.2.2.1, (by have h0 := H3.out.2.2.2; show xw.heap[ab]? = _; simpa using h0), (fun h => by cases h), (fun h => by cases h)⟩⟩
      · refine stepsOk_cons (k := 0) ?_ (stepsOk_cons (k := 1) ?_ (stepsOk_cons (k := 2) ?_ (stepsOk_cons (k := 3) ?_ (stepsOk_cons (k := 4) ?_ (stepsOk_cons (k := 5) ?_ (stepsOk_cons (k := 6) ?_ (stepsOk_cons (k := 7) ?_ (stepsOk_cons (k := 8) ?_ (stepsOk_cons (k := 9) ?_ (stepsOk_cons (k := 10) ?_ (stepsOk_cons (k := 11) ?_ (stepsOk_cons (k := 12) ?_ (stepsOk_cons (k := 13) ?_ stepsOk_nil)))))))))))))
        · unfold StepOk
          rintro d act xw ⟨u64, u65, u66, u67, u68, u69, u70, u71, u72, u73, u74, u75, rfl, F⟩ hd hdep Kc hKc
          rw [if_pos (by rfl)]
          go_big_op
          exact hKc _ _ ⟨_, _, _, _, _, _, _, _, _, _, _, _, rfl, ⟨(fun h => F.s1 (up h rfl)), (fun h => F.s2 (up h rfl)), (fun h => F.s3 (up h rfl)), (fun h => F.s5 (up h rfl)), (fun h => F.s6 (up h rfl)), (fun h => F.s7 (up h rfl)), (fun h => F.s8 (up h rfl)), (fun h => F.s9 (up h rfl)), (fun h => F.s10 (up h rfl)), (fun h => F.s12 (up h rfl)), (F.bl.alloc F.bl.size _), (blk_alloc F.dk _), (blk_alloc F.rk _), (by refine blk_alloc ?_ _; simpa using F.ak), (fun h => by obtain ⟨b, e, hn, h1⟩ := F.p4 (up h rfl); exact ⟨b, e, hn, (blk_alloc h1 _)⟩), (fun _ => ⟨xw.heap.size, rfl, (by have := blk_lt F.ak; omega), blk_new _ _ _⟩)⟩⟩
        · unfold StepOk
          rintro d act xw ⟨u64, u65, u66, u67, u68, u69, u70, u71, u72, u73, u74, u75, rfl, F⟩ hd hdep Kc hKc
          rw [if_pos (by rfl)]
          go_big_op
          exact hKc _ _ ⟨_, _, _, _, _, _, _, _, _, _, _, _, rfl, ⟨(fun _ => rfl), (fun h => F.s2 (up h rfl)), (fun h => F.s3 (up h rfl)), (fun h => F.s5 (up h rfl)), (fun h => F.s6 (up h rfl)), (fun h => F.s7 (up h rfl)), (fun h => F.s8 (up h rfl)), (fun h => F.s9 (up h rfl)), (fun h => F.s10 (up h rfl)), (fun h => F.s12 (up h rfl)), F.bl, F.dk, F.rk, (by have h0 := F.ak; simpa using h0), (fun h => by obtain ⟨b, e, hn, h1⟩ := F.p4 (up h rfl); exact ⟨b, e, hn, h1⟩), (fun h => by obtain ⟨b, e, hn, h1⟩ := F.p0 (up h rfl); exact ⟨b, e, hn, h1⟩)⟩⟩
        · unfold StepOk
          rintro d act xw ⟨u64, u65, u66, u67, u68, u69, u70, u71, u72, u73, u74, u75, rfl, F⟩ hd hdep Kc hKc
          have hd1 : d 1 = true := hdep ⟨1, .data⟩ (by simp) rfl
          obtain rfl := F.s1 hd1
          have hdc := blk_cell F.dk
          have hdl := blk_lt F.dk
          rw [if_pos (by rfl)]
          go_big_op
          exact hKc _ _ ⟨_, _, _, _, _, _, _, _, _, _, _, _, rfl, ⟨(fun h => F.s1 (up h rfl)), (fun _ => rfl), (fun h => F.s3 (up h rfl)), (fun h => F.s5 (up h rfl)), (fun h => F.s6 (up h rfl)), (fun h => F.s7 (up h rfl)), (fun h => F.s8 (up h rfl)), (fun h => F.s9 (up h rfl)), (fun h => F.s10 (up h rfl)), (fun h => F.s12 (up h rfl)), F.bl, F.dk, F.rk, (by have h0 := F.ak; simpa using h0), (fun h => by obtain ⟨b, e, hn, h1⟩ := F.p4 (up h rfl); exact ⟨b, e, hn, h1⟩), (fun h => by obtain ⟨b, e, hn, h1⟩ := F.p0 (up h rfl); exact ⟨b, e, hn, h1⟩)⟩⟩
        · unfold StepOk
          rintro d act xw ⟨u64, u65, u66, u67, u68, u69, u70, u71, u72, u73, u74, u75, rfl, F⟩ hd hdep Kc hKc
          have hd2 : d 2 = true := hdep ⟨2, .data⟩ (by simp) rfl
          obtain rfl := F.s2 hd2
          rw [if_pos (by rfl)]
          go_big_op
          refine (within_any D.b 0 1 _ (by omega) (by omega) (by omega) HO.out.b.1 HO.out.b.2).mono ?_
          rintro e x1 ⟨rfl, rfl⟩
          exact hKc _ _ ⟨_, _, _, _, _, _, _, _, _, _, _, _, rfl, ⟨(fun h => F.s1 (up h rfl)), (fun h => F.s2 (up h rfl)), (fun _ => congrArg (Value.int .i64) hQN), (fun h => F.s5 (up h rfl)), (fun h => F.s6 (up h rfl)), (fun h => F.s7 (up h rfl)), (fun h => F.s8 (up h rfl)), (fun h => F.s9 (up h rfl)), (fun h => F.s10 (up h rfl)), (fun h => F.s12 (up h rfl)), F.bl, F.dk, F.rk, (by have h0 := F.ak; simpa using h0), (fun h => by obtain ⟨b, e, hn, h1⟩ := F.p4 (up h rfl); exact ⟨b, e, hn, h1⟩), (fun h => by obtain ⟨b, e, hn, h1⟩ := F.p0 (up h rfl); exact ⟨b, e, hn, h1⟩)⟩⟩
        · unfold StepOk
          rintro d act xw ⟨u64, u65, u66, u67, u68, u69, u70, u71, u72, u73, u74, u75, rfl, F⟩ hd hdep Kc hKc
          have hd0 : d 0 = true := hdep ⟨0, .data⟩ (by simp) rfl
          obtain ⟨bb, rfl, hbn, hbk⟩ := F.p0 hd0
          have hbkc := blk_cell hbk
          have hbkl := blk_lt hbk
          have hd3 : d 3 = true := hdep ⟨3, .data⟩ (by simp) rfl
          obtain rfl := F.s3 hd3
          have q3 : (QN : Int) < 2 := by omega
          rw [if_pos (by rfl)]
          go_big_op
          exact hKc _ _ ⟨_, _, _, _, _, _, _, _, _, _, _, _, rfl, ⟨(fun h => F.s1 (up h rfl)), (fun h => F.s2 (up h rfl)), (fun h => F.s3 (up h rfl)), (fun h => F.s5 (up h rfl)), (fun h => F.s6 (up h rfl)), (fun h => F.s7 (up h rfl)), (fun h => F.s8 (up h rfl)), (fun h => F.s9 (up h rfl)), (fun h => F.s10 (up h rfl)), (fun h => F.s12 (up h rfl)), F.bl, F.dk, F.rk, (by have h0 := F.ak; simpa using h0), (fun _ => ⟨bb, rfl, hbn, hbk⟩), (fun h => by obtain ⟨b, e, hn, h1⟩ := F.p0 (up h rfl); exact ⟨b, e, hn, h1⟩)⟩⟩
        · unfold StepOk
          rintro d act xw ⟨u64, u65, u66, u67, u68, u69, u70, u71, u72, u73, u74, u75, rfl, F⟩ hd hdep Kc hKc
          have hd4 : d 4 = true := hdep ⟨4, .data⟩ (by simp) rfl
          obtain ⟨bb, rfl, hbn, hbk⟩ := F.p4 hd4
          have hbkc := blk_cell hbk
          have hbkl := blk_lt hbk
          have hy : xw.cell? ⟨bb, QN, none⟩ = some (.int .i64 k3) := by rw [hbkc]; exact hk3
          clear hbkc
          have hdc := blk_cell F.dk
          have hdl := blk_lt F.dk
          rw [if_pos (by rfl)]
          go_big_op
          exact hKc _ _ ⟨_, _, _, _, _, _, _, _, _, _, _, _, rfl, ⟨(fun h => F.s1 (up h rfl)), (fun h => F.s2 (up h rfl)), (fun h => F.s3 (up h rfl)), (fun _ => rfl), (fun h => F.s6 (up h rfl)), (fun h => F.s7 (up h rfl)), (fun h => F.s8 (up h rfl)), (fun h => F.s9 (up h rfl)), (fun h => F.s10 (up h rfl)), (fun h => F.s12 (up h rfl)), F.bl, F.dk, F.rk, (by have h0 := F.ak; simpa using h0), (fun h => by obtain ⟨b, e, hn, h1⟩ := F.p4 (up h rfl); exact ⟨b, e, hn, h1⟩), (fun h => by obtain ⟨b, e, hn, h1⟩ := F.p0 (up h rfl); exact ⟨b, e, hn, h1⟩)⟩⟩
        · unfold StepOk
          rintro d act xw ⟨u64, u65, u66, u67, u68, u69, u70, u71, u72, u73, u74, u75, rfl, F⟩ hd hdep Kc hKc
          rw [if_pos (by rfl)]
          go_big_op
          exact hKc _ _ ⟨_, _, _, _, _, _, _, _, _, _, _, _, rfl, ⟨(fun h => F.s1 (up h rfl)), (fun h => F.s2 (up h rfl)), (fun h => F.s3 (up h rfl)), (fun h => F.s5 (up h rfl)), (fun _ => rfl), (fun h => F.s7 (up h rfl)), (fun h => F.s8 (up h rfl)), (fun h => F.s9 (up h rfl)), (fun h => F.s10 (up h rfl)), (fun h => F.s12 (up h rfl)), F.bl, F.dk, F.rk, (by have h0 := F.ak; simpa using h0), (fun h => by obtain ⟨b, e, hn, h1⟩ := F.p4 (up h rfl); exact ⟨b, e, hn, h1⟩), (fun h => by obtain ⟨b, e, hn, h1⟩ := F.p0 (up h rfl); exact ⟨b, e, hn, h1⟩)⟩⟩
        · unfold StepOk
          rintro d act xw ⟨u64, u65, u66, u67, u68, u69, u70, u71, u72, u73, u74, u75, rfl, F⟩ hd hdep Kc hKc
          rw [if_pos (by rfl)]
          go_big_op
          exact hKc _ _ ⟨_, _, _, _, _, _, _, _, _, _, _, _, rfl, ⟨(fun h => F.s1 (up h rfl)), (fun h => F.s2 (up h rfl)), (fun h => F.s3 (up h rfl)), (fun h => F.s5 (up h rfl)), (fun h => F.s6 (up h rfl)), (fun _ => rfl), (fun h => F.s8 (up h rfl)), (fun h => F.s9 (up h rfl)), (fun h => F.s10 (up h rfl)), (fun h => F.s12 (up h rfl)), F.bl, F.dk, F.rk, (by have h0 := F.ak; simpa using h0), (fun h => by obtain ⟨b, e, hn, h1⟩ := F.p4 (up h rfl); exact ⟨b, e, hn, h1⟩), (fun h => by obtain ⟨b, e, hn, h1⟩ := F.p0 (up h rfl); exact ⟨b, e, hn, h1⟩)⟩⟩
        · unfold StepOk
          rintro d act xw ⟨u64, u65, u66, u67, u68, u69, u70, u71, u72, u73, u74, u75, rfl, F⟩ hd hdep Kc hKc
          have hd7 : d 7 = true := hdep ⟨7, .data⟩ (by simp) rfl
          obtain rfl := F.s7 hd7
          rw [if_pos (by rfl)]
          go_big_op
          exact hKc _ _ ⟨_, _, _, _, _, _, _, _, _, _, _, _, rfl, ⟨(fun h => F.s1 (up h rfl)), (fun h => F.s2 (up h rfl)), (fun h => F.s3 (up h rfl)), (fun h => F.s5 (up h rfl)), (fun h => F.s6 (up h rfl)), (fun h => F.s7 (up h rfl)), (fun _ => rfl), (fun h => F.s9 (up h rfl)), (fun h => F.s10 (up h rfl)), (fun h => F.s12 (up h rfl)), F.bl, F.dk, F.rk, (by have h0 := F.ak; simpa using h0), (fun h => by obtain ⟨b, e, hn, h1⟩ := F.p4 (up h rfl); exact ⟨b, e, hn, h1⟩), (fun h => by obtain ⟨b, e, hn, h1⟩ := F.p0 (up h rfl); exact ⟨b, e, hn, h1⟩)⟩⟩
        · unfold StepOk
          rintro d act xw ⟨u64, u65, u66, u67, u68, u69, u70, u71, u72, u73, u74, u75, rfl, F⟩ hd hdep Kc hKc
          have hd6 : d 6 = true := hdep ⟨6, .data⟩ (by simp) rfl
          obtain rfl := F.s6 hd6
          have hd8 : d 8 = true := hdep ⟨8, .data⟩ (by simp) rfl
          obtain rfl := F.s8 hd8
          rw [if_pos (by rfl)]
          go_big_op
          exact hKc _ _ ⟨_, _, _, _, _, _, _, _, _, _, _, _, rfl, ⟨(fun h => F.s1 (up h rfl)), (fun h => F.s2 (up h rfl)), (fun h => F.s3 (up h rfl)), (fun h => F.s5 (up h rfl)), (fun h => F.s6 (up h rfl)), (fun h => F.s7 (up h rfl)), (fun h => F.s8 (up h rfl)), (fun _ => rfl), (fun h => F.s10 (up h rfl)), (fun h => F.s12 (up h rfl)), F.bl, F.dk, F.rk, (by have h0 := F.ak; simpa using h0), (fun h => by obtain ⟨b, e, hn, h1⟩ := F.p4 (up h rfl); exact ⟨b, e, hn, h1⟩), (fun h => by obtain ⟨b, e, hn, h1⟩ := F.p0 (up h rfl); exact ⟨b, e, hn, h1⟩)⟩⟩
        · unfold StepOk
          rintro d act xw ⟨u64, u65, u66, u67, u68, u69, u70, u71, u72, u73, u74, u75, rfl, F⟩ hd hdep Kc hKc
          rw [if_pos (by rfl)]
          go_big_op
          exact hKc _ _ ⟨_, _, _, _, _, _, _, _, _, _, _, _, rfl, ⟨(fun h => F.s1 (up h rfl)), (fun h => F.s2 (up h rfl)), (fun h => F.s3 (up h rfl)), (fun h => F.s5 (up h rfl)), (fun h => F.s6 (up h rfl)), (fun h => F.s7 (up h rfl)), (fun h => F.s8 (up h rfl)), (fun h => F.s9 (up h rfl)), (fun _ => rfl), (fun h => F.s12 (up h rfl)), F.bl, F.dk, F.rk, (by have h0 := F.ak; simpa using h0), (fun h => by obtain ⟨b, e, hn, h1⟩ := F.p4 (up h rfl); exact ⟨b, e, hn, h1⟩), (fun h => by obtain ⟨b, e, hn, h1⟩ := F.p0 (up h rfl); exact ⟨b, e, hn, h1⟩)⟩⟩
        · unfold StepOk
          rintro d act xw ⟨u64, u65, u66, u67, u68, u69, u70, u71, u72, u73, u74, u75, rfl, F⟩ hd hdep Kc hKc
          have hd10 : d 10 = true := hdep ⟨10, .data⟩ (by simp) rfl
          obtain rfl := F.s10 hd10
          have hd5 : d 5 = true := hdep ⟨5, .data⟩ (by simp) rfl
          obtain rfl := F.s5 hd5
          have HZ := F.ak
          rw [hd] at HZ
          have hbc := blk_cell HZ
          have hbf := blk_free HZ
          have hbl := blk_lt HZ
          rw [if_pos (by rfl)]
          go_big_op
          exact hKc _ _ ⟨_, _, _, _, _, _, _, _, _, _, _, _, rfl, ⟨(fun h => F.s1 (up h rfl)), (fun h => F.s2 (up h rfl)), (fun h => F.s3 (up h rfl)), (fun h => F.s5 (up h rfl)), (fun h => F.s6 (up h rfl)), (fun h => F.s7 (up h rfl)), (fun h => F.s8 (up h rfl)), (fun h => F.s9 (up h rfl)), (fun h => F.s10 (up h rfl)), (fun h => F.s12 (up h rfl)), (F.bl.setCell HLE.out.1 _), (blk_set_other HLE.out.2.1 F.dk), (blk_set_other HLE.out.2.2 F.rk), (by have h0 := blk_set (n := 0) (u := .int .i64 k3) (vs' := #[.int .i64 k3, .int .i64 A1, .int .i64 B1, .int .i64 0, .int .i64 0, (bif d 13 then .int .i64 (sm % 9) else .int .i64 0), .string ⟨#[]⟩]) HZ rfl; simpa using h0), (fun h => by obtain ⟨b, e, hn, h1⟩ := F.p4 (up h rfl); exact ⟨b, e, hn, (blk_set_other hn h1)⟩), (fun h => by obtain ⟨b, e, hn, h1⟩ := F.p0 (up h rfl); exact ⟨b, e, hn, (blk_set_other hn h1)⟩)⟩⟩
        · unfold StepOk
          rintro d act xw ⟨u64, u65, u66, u67, u68, u69, u70, u71, u72, u73, u74, u75, rfl, F⟩ hd hdep Kc hKc
          rw [if_pos (by rfl)]
          go_big_op
          exact hKc _ _ ⟨_, _, _, _, _, _, _, _, _, _, _, _, rfl, ⟨(fun h => F.s1 (up h rfl)), (fun h => F.s2 (up h rfl)), (fun h => F.s3 (up h rfl)), (fun h => F.s5 (up h rfl)), (fun h => F.s6 (up h rfl)), (fun h => F.s7 (up h rfl)), (fun h => F.s8 (up h rfl)), (fun h => F.s9 (up h rfl)), (fun h => F.s10 (up h rfl)), (fun _ => rfl), F.bl, F.dk, F.rk, (by have h0 := F.ak; simpa using h0), (fun h => by obtain ⟨b, e, hn, h1⟩ := F.p4 (up h rfl); exact ⟨b, e, hn, h1⟩), (fun h => by obtain ⟨b, e, hn, h1⟩ := F.p0 (up h rfl); exact ⟨b, e, hn, h1⟩)⟩⟩
        · unfold StepOk
          rintro d act xw ⟨u64, u65, u66, u67, u68, u69, u70, u71, u72, u73, u74, u75, rfl, F⟩ hd hdep Kc hKc
          have hd12 : d 12 = true := hdep ⟨12, .data⟩ (by simp) rfl
          obtain rfl := F.s12 hd12
          have hd9 : d 9 = true := hdep ⟨9, .data⟩ (by simp) rfl
          obtain rfl := F.s9 hd9
          have HZ := F.ak
          rw [hd] at HZ
          have hbc := blk_cell HZ
          have hbf := blk_free HZ
          have hbl := blk_lt HZ
          rw [if_pos (by rfl)]
          go_big_op
          exact hKc _ _ ⟨_, _, _, _, _, _, _, _, _, _, _, _, rfl, ⟨(fun h => F.s1 (up h rfl)), (fun h => F.s2 (up h rfl)), (fun h => F.s3 (up h rfl)), (fun h => F.s5 (up h rfl)), (fun h => F.s6 (up h rfl)), (fun h => F.s7 (up h rfl)), (fun h => F.s8 (up h rfl)), (fun h => F.s9 (up h rfl)), (fun h => F.s10 (up h rfl)), (fun h => F.s12 (up h rfl)), (F.bl.setCell HLE.out.1 _), (blk_set_other HLE.out.2.1 F.dk), (blk_set_other HLE.out.2.2 F.rk), (by have h0 := blk_set (n := 5) (u := .int .i64 (sm % 9)) (vs' := #[(bif d 11 then .int .i64 k3 else .int .i64 0), .int .i64 A1, .int .i64 B1, .int .i64 0, .int .i64 0, .int .i64 (sm % 9), .string ⟨#[]⟩]) HZ rfl; simpa using h0), (fun h => by obtain ⟨b, e, hn, h1⟩ := F.p4 (up h rfl); exact ⟨b, e, hn, (blk_set_other hn h1)⟩), (fun h => by obtain ⟨b, e, hn, h1⟩ := F.p0 (up h rfl); exact ⟨b, e, hn, (blk_set_other hn h1)⟩)⟩⟩
      · rintro d act xw ⟨u64, u65, u66, u67, u68, u69, u70, u71, u72, u73, u74, u75, rfl, F⟩ hall
        have H9 := Lib.hid (show Below w.heap.size w xw ∧ xw.heap[rb]? = some (.cells #[.int .i64 0, .int .i64 0, .int .i64 0, .int .i64 0, .int .i64 0, .int .i64 0, .string ⟨#[]⟩] 29 (0, 0)) ∧ xw.heap[ab]? = some (.cells #[.int .i64 (k3), .int .i64 (A1), .int .i64 (B1), .int .i64 (0), .int .i64 (0), .int .i64 (sm % 9), .string ⟨#[]⟩] 29 (0, 0)) from ⟨F.bl, F.rk, by have h0 := F.ak; simp only [hall 11 (by decide), hall 13 (by decide), cond_true] at h0; exact h0⟩)
        clear F hall
        have c9 := blk_cell H9.out.2.2
        have l9 := blk_lt H9.out.2.2
        have z9 := blk_cell H9.out.2.1
        have zf9 := blk_free H9.out.2.1
        have zl9 := blk_lt H9.out.2.1
        go_wp2_with fail
        exact bodyPost_ret (v := .agg #[.int .i64 (k3), .int .i64 (A1), .int .i64 (B1), .int .i64 (0), .int .i64 (0), .int .i64 (sm % 9), .string ⟨#[]⟩]) (by have hk2 := blk_cell (blk_fill7 (v0 := .int .i64 (k3)) (v1 := .int .i64 (A1)) (v2 := .int .i64 (B1)) (v3 := .int .i64 (0)) (v4 := .int .i64 (0)) (v5 := .int .i64 (sm % 9)) (v6 := .string ⟨#[]⟩) H9.out.2.1 rfl); simp [results, Tryz.results11, go_sem, hk2]) rfl ⟨⟨k3, A1, B1, 0, 0, sm % 9, ⟨#[]⟩⟩, rfl, acOk_of (by omega) (by omega) (by omega) (by omega), (by show (⟨#[]⟩ : ByteArray).size ≤ 1000; decide), below_fill7 H9.out.1 HRB.out⟩
    have hd14e : (K9 == 14) = false := by simpa using e14
    by_cases e15 : K9 = 15
    · subst e15
      have q1 := win_lo D.op 0 2 (by omega)
      have q2 := win_hi D.op 0 2 (by omega)
      have q3 : win D.op 0 2 = 0 ∨ win D.op 0 2 = 1 ∨ win D.op 0 2 = 2 := by omega
      clear q1 q2
      rcases q3 with hq | hq | hq
      · have c3 := blk_cell H3.out.2.2.2
        have f3 := blk_free H3.out.2.2.2
        have l3 := blk_lt H3.out.2.2.2
        have d3 := blk_cell H3.out.2.1
        have dl3 := blk_lt H3.out.2.1
        go_upto_region 17 with (first | (go_at_call 12; refine (within_any D.op 0 2 _ (by omega) (by omega) (by omega) HO.out.op.1 HO.out.op.2).mono ?_; rintro e x1 ⟨rfl, rfl⟩; rw [hq]))
        have H9 := Lib.hid (show Below w.heap.size w ((xw.setCell ⟨ab, 0, none⟩ (.int .i64 5)).alloc (.cells #[.int .i64 5, .int .i64 6, .int .i64 6] 3)) ∧ ((xw.setCell ⟨ab, 0, none⟩ (.int .i64 5)).alloc (.cells #[.int .i64 5, .int .i64 6, .int .i64 6] 3)).heap[rb]? = some (.cells #[.int .i64 0, .int .i64 0, .int .i64 0, .int .i64 0, .int .i64 0, .int .i64 0, .string ⟨#[]⟩] 29 (0, 0)) ∧ ((xw.setCell ⟨ab, 0, none⟩ (.int .i64 5)).alloc (.cells #[.int .i64 5, .int .i64 6, .int .i64 6] 3)).heap[ab]? = some (.cells #[.int .i64 5, .int .i64 A1, .int .i64 B1, .int .i64 0, .int .i64 0, .int .i64 0, .string ⟨#[]⟩] 29 (0, 0)) from ⟨((H3.out.1.setCell HLE.out.1 _).alloc (H3.out.1.setCell HLE.out.1 _).size _), (blk_alloc (blk_set_other HLE.out.2.2 H3.out.2.2.1) _), (blk_alloc (blk_set H3.out.2.2.2 rfl) _)⟩)
        clear c3 f3 l3 d3 dl3
        generalize ((xw.setCell ⟨ab, 0, none⟩ (.int .i64 5)).alloc (.cells #[.int .i64 5, .int .i64 6, .int .i64 6] 3)) = y9 at *
        have c9 := blk_cell H9.out.2.2
        have l9 := blk_lt H9.out.2.2
        have z9 := blk_cell H9.out.2.1
        have zf9 := blk_free H9.out.2.1
        have zl9 := blk_lt H9.out.2.1
        go_wp2_with fail
        exact bodyPost_ret (v := .agg #[.int .i64 (5), .int .i64 (A1), .int .i64 (B1), .int .i64 (0), .int .i64 (0), .int .i64 (0), .string ⟨#[]⟩]) (by have hk2 := blk_cell (blk_fill7 (v0 := .int .i64 (5)) (v1 := .int .i64 (A1)) (v2 := .int .i64 (B1)) (v3 := .int .i64 (0)) (v4 := .int .i64 (0)) (v5 := .int .i64 (0)) (v6 := .string ⟨#[]⟩) H9.out.2.1 rfl); simp [results, Tryz.results11, go_sem, hk2]) rfl ⟨⟨5, A1, B1, 0, 0, 0, ⟨#[]⟩⟩, rfl, acOk_of (by omega) (by omega) (by omega) (by omega), (by show (⟨#[]⟩ : ByteArray).size ≤ 1000; decide), below_fill7 H9.out.1 HRB.out⟩
      · have c3 := blk_cell H3.out.2.2.2
        have f3 := blk_free H3.out.2.2.2
        have l3 := blk_lt H3.out.2.2.2
        have d3 := blk_cell H3.out.2.1
        have dl3 := blk_lt H3.out.2.1
        go_upto_region 17 with (first | (go_at_call 12; refine (within_any D.op 0 2 _ (by omega) (by omega) (by omega) HO.out.op.1 HO.out.op.2).mono ?_; rintro e x1 ⟨rfl, rfl⟩; rw [hq]))
        have H9 := Lib.hid (show Below w.heap.size w ((xw.setCell ⟨ab, 0, none⟩ (.int .i64 6)).alloc (.cells #[.int .i64 5, .int .i64 6, .int .i64 6] 3)) ∧ ((xw.setCell ⟨ab, 0, none⟩ (.int .i64 6)).alloc (.cells #[.int .i64 5, .int .i64 6, .int .i64 6] 3)).heap[rb]? = some (.cells #[.int .i64 0, .int .i64 0, .int .i64 0, .int .i64 0, .int .i64 0, .int .i64 0, .string ⟨#[]⟩] 29 (0, 0)) ∧ ((xw.setCell ⟨ab, 0, none⟩ (.int .i64 6)).alloc (.cells #[.int .i64 5, .int .i64 6, .int .i64 6] 3)).heap[ab]? = some (.cells #[.int .i64 6, .int .i64 A1, .int .i64 B1, .int .i64 0, .int .i64 0, .int .i64 0, .string ⟨#[]⟩] 29 (0, 0)) from ⟨((H3.out.1.setCell HLE.out.1 _).alloc (H3.out.1.setCell HLE.out.1 _).size _), (blk_alloc (blk_set_other HLE.out.2.2 H3.out.2.2.1) _), (blk_alloc (blk_set H3.out.2.2.2 rfl) _)⟩)
        clear c3 f3 l3 d3 dl3
        generalize ((xw.setCell ⟨ab, 0, none⟩ (.int .i64 6)).alloc (.cells #[.int .i64 5, .int .i64 6, .int .i64 6] 3)) = y9 at *
        have c9 := blk_cell H9.out.2.2
        have l9 := blk_lt H9.out.2.2
        have z9 := blk_cell H9.out.2.1
        have zf9 := blk_free H9.out.2.1
        have zl9 := blk_lt H9.out.2.1
        go_wp2_with fail
        exact bodyPost_ret (v := .agg #[.int .i64 (6), .int .i64 (A1), .int .i64 (B1), .int .i64 (0), .int .i64 (0), .int .i64 (0), .string ⟨#[]⟩]) (by have hk2 := blk_cell (blk_fill7 (v0 := .int .i64 (6)) (v1 := .int .i64 (A1)) (v2 := .int .i64 (B1)) (v3 := .int .i64 (0)) (v4 := .int .i64 (0)) (v5 := .int .i64 (0)) (v6 := .string ⟨#[]⟩) H9.out.2.1 rfl); simp [results, Tryz.results11, go_sem, hk2]) rfl ⟨⟨6, A1, B1, 0, 0, 0, ⟨#[]⟩⟩, rfl, acOk_of (by omega) (by omega) (by omega) (by omega), (by show (⟨#[]⟩ : ByteArray).size ≤ 1000; decide), below_fill7 H9.out.1 HRB.out⟩
      · have c3 := blk_cell H3.out.2.2.2
        have f3 := blk_free H3.out.2.2.2
        have l3 := blk_lt H3.out.2.2.2
        have d3 := blk_cell H3.out.2.1
        have dl3 := blk_lt H3.out.2.1
        go_upto_region 17 with (first | (go_at_call 12; refine (within_any D.op 0 2 _ (by omega) (by omega) (by omega) HO.out.op.1 HO.out.op.2).mono ?_; rintro e x1 ⟨rfl, rfl⟩; rw [hq]))
        have H9 := Lib.hid (show Below w.heap.size w ((xw.setCell ⟨ab, 0, none⟩ (.int .i64 6)).alloc (.cells #[.int .i64 5, .int .i64 6, .int .i64 6] 3)) ∧ ((xw.setCell ⟨ab, 0, none⟩ (.int .i64 6)).alloc (.cells #[.int .i64 5, .int .i64 6, .int .i64 6] 3)).heap[rb]? = some (.cells #[.int .i64 0, .int .i64 0, .int .i64 0, .int .i64 0, .int .i64 0, .int .i64 0, .string ⟨#[]⟩] 29 (0, 0)) ∧ ((xw.setCell ⟨ab, 0, none⟩ (.int .i64 6)).alloc (.cells #[.int .i64 5, .int .i64 6, .int .i64 6] 3)).heap[ab]? = some (.cells #[.int .i64 6, .int .i64 A1, .int .i64 B1, .int .i64 0, .int .i64 0, .int .i64 0, .string ⟨#[]⟩] 29 (0, 0)) from ⟨((H3.out.1.setCell HLE.out.1 _).alloc (H3.out.1.setCell HLE.out.1 _).size _), (blk_alloc (blk_set_other HLE.out.2.2 H3.out.2.2.1) _), (blk_alloc (blk_set H3.out.2.2.2 rfl) _)⟩)
        clear c3 f3 l3 d3 dl3
        generalize ((xw.setCell ⟨ab, 0, none⟩ (.int .i64 6)).alloc (.cells #[.int .i64 5, .int .i64 6, .int .i64 6] 3)) = y9 at *
        have c9 := blk_cell H9.out.2.2
        have l9 := blk_lt H9.out.2.2
        have z9 := blk_cell H9.out.2.1
        have zf9 := blk_free H9.out.2.1
        have zl9 := blk_lt H9.out.2.1
        go_wp2_with fail
        exact bodyPost_ret (v := .agg #[.int .i64 (6), .int .i64 (A1), .int .i64 (B1), .int .i64 (0), .int .i64 (0), .int .i64 (0), .string ⟨#[]⟩]) (by have hk2 := blk_cell (blk_fill7 (v0 := .int .i64 (6)) (v1 := .int .i64 (A1)) (v2 := .int .i64 (B1)) (v3 := .int .i64 (0)) (v4 := .int .i64 (0)) (v5 := .int .i64 (0)) (v6 := .string ⟨#[]⟩) H9.out.2.1 rfl); simp [results, Tryz.results11, go_sem, hk2]) rfl ⟨⟨6, A1, B1, 0, 0, 0, ⟨#[]⟩⟩, rfl, acOk_of (by omega) (by omega) (by omega) (by omega), (by show (⟨#[]⟩ : ByteArray).size ≤ 1000; decide), below_fill7 H9.out.1 HRB.out⟩
    have hd15e : (K9 == 15) = false := by simpa using e15
    by_cases e16 : K9 = 16
    · subst e16
      have q1 := win_lo D.a 0 3 (by omega)
      have q2 := win_hi D.a 0 3 (by omega)
      obtain ⟨A2, hA2⟩ : ∃ q, win D.a 0 3 = q := ⟨_, rfl⟩
      rw [hA2] at q1 q2
      have c3 := blk_cell H3.out.2.2.2
      have f3 := blk_free H3.out.2.2.2
      have l3 := blk_lt H3.out.2.2.2
      have d3 := blk_cell H3.out.2.1
      have dl3 := blk_lt H3.out.2.1
      go_upto_region 17 with (first | (go_at_call 12; refine (within_any D.a 0 3 _ (by omega) (by omega) (by omega) HO.out.a.1 HO.out.a.2).mono ?_; rintro e x1 ⟨rfl, rfl⟩; rw [hA2]))
      have H9 := Lib.hid (show Below w.heap.size w ((xw.setCell ⟨ab, 0, none⟩ (.int .i64 7)).setCell ⟨ab, 1, none⟩ (.int .i64 A2)) ∧ ((xw.setCell ⟨ab, 0, none⟩ (.int .i64 7)).setCell ⟨ab, 1, none⟩ (.int .i64 A2)).heap[rb]? = some (.cells #[.int .i64 0, .int .i64 0, .int .i64 0, .int .i64 0, .int .i64 0, .int .i64 0, .string ⟨#[]⟩] 29 (0, 0)) ∧ ((xw.setCell ⟨ab, 0, none⟩ (.int .i64 7)).setCell ⟨ab, 1, none⟩ (.int .i64 A2)).heap[ab]? = some (.cells #[.int .i64 7, .int .i64 A2, .int .i64 B1, .int .i64 0, .int .i64 0, .int .i64 0, .string ⟨#[]⟩] 29 (0, 0)) from ⟨((H3.out.1.setCell HLE.out.1 _).setCell HLE.out.1 _), (blk_set_other HLE.out.2.2 (blk_set_other HLE.out.2.2 H3.out.2.2.1)), (blk_set (blk_set H3.out.2.2.2 rfl) rfl)⟩)
      clear c3 f3 l3 d3 dl3
      generalize ((xw.setCell ⟨ab, 0, none⟩ (.int .i64 7)).setCell ⟨ab, 1, none⟩ (.int .i64 A2)) = y9 at *
      have c9 := blk_cell H9.out.2.2
      have l9 := blk_lt H9.out.2.2
      have z9 := blk_cell H9.out.2.1
      have zf9 := blk_free H9.out.2.1
      have zl9 := blk_lt H9.out.2.1
      go_wp2_with fail
      exact bodyPost_ret (v := .agg #[.int .i64 (7), .int .i64 (A2), .int .i64 (B1), .int .i64 (0), .int .i64 (0), .int .i64 (0), .string ⟨#[]⟩]) (by have hk2 := blk_cell (blk_fill7 (v0 := .int .i64 (7)) (v1 := .int .i64 (A2)) (v2 := .int .i64 (B1)) (v3 := .int .i64 (0)) (v4 := .int .i64 (0)) (v5 := .int .i64 (0)) (v6 := .string ⟨#[]⟩) H9.out.2.1 rfl); simp [results, Tryz.results11, go_sem, hk2]) rfl ⟨⟨7, A2, B1, 0, 0, 0, ⟨#[]⟩⟩, rfl, acOk_of (by omega) (by omega) (by omega) (by omega), (by show (⟨#[]⟩ : ByteArray).size ≤ 1000; decide), below_fill7 H9.out.1 HRB.out⟩
    have hd16e : (K9 == 16) = false := by simpa using e16
    by_cases e17 : K9 = 17
    · subst e17
      have q1 := win_lo D.op 0 2 (by omega)
      have q2 := win_hi D.op 0 2 (by omega)
      obtain ⟨QN, hQN⟩ : ∃ q : Nat, win D.op 0 2 = (q : Int) := ⟨(win D.op 0 2).toNat, by omega⟩
      rw [hQN] at q1 q2
      have qn : QN < 3 := by omega
      obtain ⟨ap, hk3, hapz⟩ : ∃ ap : ByteArray, (#[Value.string ⟨#[97, 112, 112, 48]⟩, Value.string ⟨#[97, 112, 112, 49]⟩, Value.string ⟨#[120]⟩] : Array Value)[QN]? = some (.string ap) ∧ ap.size ≤ 1000 := by
        have : QN = 0 ∨ QN = 1 ∨ QN = 2 := by omega
        rcases this with rfl | rfl | rfl
        · exact ⟨_, rfl, by decide⟩
        · exact ⟨_, rfl, by decide⟩
        · exact ⟨_, rfl, by decide⟩
      go_wp2_with fail
      refine wp_region_inv_eq (J := fun A d act x => ∃ u98 u99 u100 u101 u102 u103 u104 u105 : Value, act = ((((((((A.put (some 98) u98).put (some 99) u99).put (some 100) u100).put (some 101) u101).put (some 102) u102).put (some 103) u103).put (some 104) u104).put (some 105) u105) ∧ RA16 w xw D db rb ab A1 B1 sm QN ap d x u98 u99 u100 u101 u102 u103 u104 u105) (by simp only [Act.put, List.setIfInBounds_toArray, List.set_cons_succ, List.set_cons_zero]; rfl) (by kernel_rfl) (by kernel_rfl) ?_ ?_ ?_
      · exact ⟨_, _, _, _, _, _, _, _, rfl, ⟨(fun h => by cases h), (fun h => by cases h), (fun h => by cases h), (fun h => by cases h), (fun h => by cases h), (fun h => by cases h), H3.out.1.drew, H3.out.2.1, H3.out.2.2.1, (by have h0 := H3.out.2.2.2; show xw.heap[ab]? = _; simpa using h0), (fun h => by cases h), (fun h => by cases h)⟩⟩
      · refine stepsOk_cons (k := 0) ?_ (stepsOk_cons (k := 1) ?_ (stepsOk_cons (k := 2) ?_ (stepsOk_cons (k := 3) ?_ (stepsOk_cons (k := 4) ?_ (stepsOk_cons (k := 5) ?_ (stepsOk_cons (k := 6) ?_ (stepsOk_cons (k := 7) ?_ (stepsOk_cons (k := 8) ?_ (stepsOk_cons (k := 9) ?_ stepsOk_nil)))))))))
        · unfold StepOk
          rintro d act xw ⟨u98, u99, u100, u101, u102, u103, u104, u105, rfl, F⟩ hd hdep Kc hKc
          rw [if_pos (by rfl)]
          go_big_op
          exact hKc _ _ ⟨_, _, _, _, _, _, _, _, rfl, ⟨(fun h => F.s1 (up h rfl)), (fun h => F.s2 (up h rfl)), (fun h => F.s3 (up h rfl)), (fun h => F.s5 (up h rfl)), (fun h => F.s6 (up h rfl)), (fun h => F.s8 (up h rfl)), (F.bl.alloc F.bl.size _), (blk_alloc F.dk _), (blk_alloc F.rk _), (by refine blk_alloc ?_ _; simpa using F.ak), (fun h => by obtain ⟨b, e, hn, h1⟩ := F.p4 (up h rfl); exact ⟨b, e, hn, (blk_alloc h1 _)⟩), (fun _ => ⟨xw.heap.size, rfl, (by have := blk_lt F.ak; omega), blk_new _ _ _⟩)⟩⟩
        · unfold StepOk
          rintro d act xw ⟨u98, u99, u100, u101, u102, u103, u104, u105, rfl, F⟩ hd hdep Kc hKc
          rw [if_pos (by rfl)]
          go_big_op
          exact hKc _ _ ⟨_, _, _, _, _, _, _, _, rfl, ⟨(fun _ => rfl), (fun h => F.s2 (up h rfl)), (fun h => F.s3 (up h rfl)), (fun h => F.s5 (up h rfl)), (fun h => F.s6 (up h rfl)), (fun h => F.s8 (up h rfl)), F.bl, F.dk, F.rk, (by have h0 := F.ak; simpa using h0), (fun h => by obtain ⟨b, e, hn, h1⟩ := F.p4 (up h rfl); exact ⟨b, e, hn, h1⟩), (fun h => by obtain ⟨b, e, hn, h1⟩ := F.p0 (up h rfl); exact ⟨b, e, hn, h1⟩)⟩⟩
        · unfold StepOk
          rintro d act xw ⟨u98, u99, u100, u101, u102, u103, u104, u105, rfl, F⟩ hd hdep Kc hKc
          have hd1 : d 1 = true := hdep ⟨1, .data⟩ (by simp) rfl
          obtain rfl := F.s1 hd1
          have hdc := blk_cell F.dk
          have hdl := blk_lt F.dk
          rw [if_pos (by rfl)]
          go_big_op
          exact hKc _ _ ⟨_, _, _, _, _, _, _, _, rfl, ⟨(fun h => F.s1 (up h rfl)), (fun _ => rfl), (fun h => F.s3 (up h rfl)), (fun h => F.s5 (up h rfl)), (fun h => F.s6 (up h rfl)), (fun h => F.s8 (up h rfl)), F.bl, F.dk, F.rk, (by have h0 := F.ak; simpa using h0), (fun h => by obtain ⟨b, e, hn, h1⟩ := F.p4 (up h rfl); exact ⟨b, e, hn, h1⟩), (fun h => by obtain ⟨b, e, hn, h1⟩ := F.p0 (up h rfl); exact ⟨b, e, hn, h1⟩)⟩⟩
        · unfold StepOk
          rintro d act xw ⟨u98, u99, u100, u101, u102, u103, u104, u105, rfl, F⟩ hd hdep Kc hKc
          have hd2 : d 2 = true := hdep ⟨2, .data⟩ (by simp) rfl
          obtain rfl := F.s2 hd2
          rw [if_pos (by rfl)]
          go_big_op
          refine (within_any D.op 0 2 _ (by omega) (by omega) (by omega) HO.out.op.1 HO.out.op.2).mono ?_
          rintro e x1 ⟨rfl, rfl⟩
          exact hKc _ _ ⟨_, _, _, _, _, _, _, _, rfl, ⟨(fun h => F.s1 (up h rfl)), (fun h => F.s2 (up h rfl)), (fun _ => congrArg (Value.int .i64) hQN), (fun h => F.s5 (up h rfl)), (fun h => F.s6 (up h rfl)), (fun h => F.s8 (up h rfl)), F.bl, F.dk, F.rk, (by have h0 := F.ak; simpa using h0), (fun h => by obtain ⟨b, e, hn, h1⟩ := F.p4 (up h rfl); exact ⟨b, e, hn, h1⟩), (fun h => by obtain ⟨b, e, hn, h1⟩ := F.p0 (up h rfl); exact ⟨b, e, hn, h1⟩)⟩⟩
        · unfold StepOk
          rintro d act xw ⟨u98, u99, u100, u101, u102, u103, u104, u105, rfl, F⟩ hd hdep Kc hKc
          have hd0 : d 0 = true := hdep ⟨0, .data⟩ (by simp) rfl
          obtain ⟨bb, rfl, hbn, hbk⟩ := F.p0 hd0
          have hbkc := blk_cell hbk
          have hbkl := blk_lt hbk
          have hd3 : d 3 = true := hdep ⟨3, .data⟩ (by simp) rfl
          obtain rfl := F.s3 hd3
          have q3 : (QN : Int) < 3 := by omega
          rw [if_pos (by rfl)]
          go_big_op
          exact hKc _ _ ⟨_, _, _, _, _, _, _, _, rfl, ⟨(fun h => F.s1 (up h rfl)), (fun h => F.s2 (up h rfl)), (fun h => F.s3 (up h rfl)), (fun h => F.s5 (up h rfl)), (fun h => F.s6 (up h rfl)), (fun h => F.s8 (up h rfl)), F.bl, F.dk, F.rk, (by have h0 := F.ak; simpa using h0), (fun _ => ⟨bb, rfl, hbn, hbk⟩), (fun h => by obtain ⟨b, e, hn, h1⟩ := F.p0 (up h rfl); exact ⟨b, e, hn, h1⟩)⟩⟩
        · unfold StepOk
          rintro d act xw ⟨u98, u99, u100, u101, u102, u103, u104, u105, rfl, F⟩ hd hdep Kc hKc
          have hd4 : d 4 = true := hdep ⟨4, .data⟩ (by simp) rfl
          obtain ⟨bb, rfl, hbn, hbk⟩ := F.p4 hd4
          have hbkc := blk_cell hbk
          have hbkl := blk_lt hbk
          have hy : xw.cell? ⟨bb, QN, none⟩ = some (.string ap) := by rw [hbkc]; exact hk3
          clear hbkc
          have hdc := blk_cell F.dk
          have hdl := blk_lt F.dk
          rw [if_pos (by rfl)]
          go_big_op
          exact hKc _ _ ⟨_, _, _, _, _, _, _, _, rfl, ⟨(fun h => F.s1 (up h rfl)), (fun h => F.s2 (up h rfl)), (fun h => F.s3 (up h rfl)), (fun _ => rfl), (fun h => F.s6 (up h rfl)), (fun h => F.s8 (up h rfl)), F.bl, F.dk, F.rk, (by have h0 := F.ak; simpa using h0), (fun h => by obtain ⟨b, e, hn, h1⟩ := F.p4 (up h rfl); exact ⟨b, e, hn, h1⟩), (fun h => by obtain ⟨b, e, hn, h1⟩ := F.p0 (up h rfl); exact ⟨b, e, hn, h1⟩)⟩⟩
        · unfold StepOk
          rintro d act xw ⟨u98, u99, u100, u101, u102, u103, u104, u105, rfl, F⟩ hd hdep Kc hKc
          rw [if_pos (by rfl)]
          go_big_op
          exact hKc _ _ ⟨_, _, _, _, _, _, _, _, rfl, ⟨(fun h => F.s1 (up h rfl)), (fun h => F.s2 (up h rfl)), (fun h => F.s3 (up h rfl)), (fun h => F.s5 (up h rfl)), (fun _ => rfl), (fun h => F.s8 (up h rfl)), F.bl, F.dk, F.rk, (by have h0 := F.ak; simpa using h0), (fun h => by obtain ⟨b, e, hn, h1⟩ := F.p4 (up h rfl); exact ⟨b, e, hn, h1⟩), (fun h => by obtain ⟨b, e, hn, h1⟩ := F.p0 (up h rfl); exact ⟨b, e, hn, h1⟩)⟩⟩
        · unfold StepOk
          rintro d act xw ⟨u98, u99, u100, u101, u102, u103, u104, u105, rfl, F⟩ hd hdep Kc hKc
          have hd6 : d 6 = true := hdep ⟨6, .data⟩ (by simp) rfl
          obtain rfl := F.s6 hd6
          have HZ := F.ak
          rw [hd] at HZ
          have hbc := blk_cell HZ
          have hbf := blk_free HZ
          have hbl := blk_lt HZ
          rw [if_pos (by rfl)]
          go_big_op
          exact hKc _ _ ⟨_, _, _, _, _, _, _, _, rfl, ⟨(fun h => F.s1 (up h rfl)), (fun h => F.s2 (up h rfl)), (fun h => F.s3 (up h rfl)), (fun h => F.s5 (up h rfl)), (fun h => F.s6 (up h rfl)), (fun h => F.s8 (up h rfl)), (F.bl.setCell HLE.out.1 _), (blk_set_other HLE.out.2.1 F.dk), (blk_set_other HLE.out.2.2 F.rk), (by have h0 := blk_set (n := 0) (u := .int .i64 9) (vs' := #[.int .i64 9, .int .i64 A1, .int .i64 B1, .int .i64 0, .int .i64 0, .int .i64 0, (bif d 9 then .string ap else .string ⟨#[]⟩)]) HZ rfl; simpa using h0), (fun h => by obtain ⟨b, e, hn, h1⟩ := F.p4 (up h rfl); exact ⟨b, e, hn, (blk_set_other hn h1)⟩), (fun h => by obtain ⟨b, e, hn, h1⟩ := F.p0 (up h rfl); exact ⟨b, e, hn, (blk_set_other hn h1)⟩)⟩⟩
        · unfold StepOk
          rintro d act xw ⟨u98, u99, u100, u101, u102, u103, u104, u105, rfl, F⟩ hd hdep Kc hKc
          rw [if_pos (by rfl)]
          go_big_op
          exact hKc _ _ ⟨_, _, _, _, _, _, _, _, rfl, ⟨(fun h => F.s1 (up h rfl)), (fun h => F.s2 (up h rfl)), (fun h => F.s3 (up h rfl)), (fun h => F.s5 (up h rfl)), (fun h => F.s6 (up h rfl)), (fun _ => rfl), F.bl, F.dk, F.rk, (by have h0 := F.ak; simpa using h0), (fun h => by obtain ⟨b, e, hn, h1⟩ := F.p4 (up h rfl); exact ⟨b, e, hn, h1⟩), (fun h => by obtain ⟨b, e, hn, h1⟩ := F.p0 (up h rfl); exact ⟨b, e, hn, h1⟩)⟩⟩
        · unfold StepOk
          rintro d act xw ⟨u98, u99, u100, u101, u102, u103, u104, u105, rfl, F⟩ hd hdep Kc hKc
          have hd8 : d 8 = true := hdep ⟨8, .data⟩ (by simp) rfl
          obtain rfl := F.s8 hd8
          have hd5 : d 5 = true := hdep ⟨5, .data⟩ (by simp) rfl
          obtain rfl := F.s5 hd5
          have HZ := F.ak
          rw [hd] at HZ
          have hbc := blk_cell HZ
          have hbf := blk_free HZ
          have hbl := blk_lt HZ
          rw [if_pos (by rfl)]
          go_big_op
          exact hKc _ _ ⟨_, _, _, _, _, _, _, _, rfl, ⟨(fun h => F.s1 (up h rfl)), (fun h => F.s2 (up h rfl)), (fun h => F.s3 (up h rfl)), (fun h => F.s5 (up h rfl)), (fun h => F.s6 (up h rfl)), (fun h => F.s8 (up h rfl)), (F.bl.setCell HLE.out.1 _), (blk_set_other HLE.out.2.1 F.dk), (blk_set_other HLE.out.2.2 F.rk), (by have h0 := blk_set (n := 6) (u := .string ap) (vs' := #[(bif d 7 then .int .i64 9 else .int .i64 0), .int .i64 A1, .int .i64 B1, .int .i64 0, .int .i64 0, .int .i64 0, .string ap]) HZ rfl; simpa using h0), (fun h => by obtain ⟨b, e, hn, h1⟩ := F.p4 (up h rfl); exact ⟨b, e, hn, (blk_set_other hn h1)⟩), (fun h => by obtain ⟨b, e, hn, h1⟩ := F.p0 (up h rfl); exact ⟨b, e, hn, (blk_set_other hn h1)⟩)⟩⟩
      · rintro d act xw ⟨u98, u99, u100, u101, u102, u103, u104, u105, rfl, F⟩ hall
        have H9 := Lib.hid (show Below w.heap.size w xw ∧ xw.heap[rb]? = some (.cells #[.int .i64 0, .int .i64 0, .int .i64 0, .int .i64 0, .int .i64 0, .int .i64 0, .string ⟨#[]⟩] 29 (0, 0)) ∧ xw.heap[ab]? = some (.cells #[.int .i64 (9), .int .i64 (A1), .int .i64 (B1), .int .i64 (0), .int .i64 (0), .int .i64 (0), .string ap] 29 (0, 0)) from ⟨F.bl, F.rk, by have h0 := F.ak; simp only [hall 7 (by decide), hall 9 (by decide), cond_true] at h0; exact h0⟩)
        clear F hall
        have c9 := blk_cell H9.out.2.2
        have l9 := blk_lt H9.out.2.2
        have z9 := blk_cell H9.out.2.1
        have zf9 := blk_free H9.out.2.1
        have zl9 := blk_lt H9.out.2.1
        go_wp2_with fail
        exact bodyPost_ret (v := .agg #[.int .i64 (9), .int .i64 (A1), .int .i64 (B1), .int .i64 (0), .int .i64 (0), .int .i64 (0), .string ap]) (by have hk2 := blk_cell (blk_fill7 (v0 := .int .i64 (9)) (v1 := .int .i64 (A1)) (v2 := .int .i64 (B1)) (v3 := .int .i64 (0)) (v4 := .int .i64 (0)) (v5 := .int .i64 (0)) (v6 := .string ap) H9.out.2.1 rfl); simp [results, Tryz.results11, go_sem, hk2]) rfl ⟨⟨9, A1, B1, 0, 0, 0, ap⟩, rfl, acOk_of (by omega) (by omega) (by omega) (by omega), hapz, below_fill7 H9.out.1 HRB.out⟩
    have hd17e : (K9 == 17) = false := by simpa using e17
    have o1 := win_lo D.op 0 5 (by omega)
    have o2 := win_hi D.op 0 5 (by omega)
    have st1 := win_lo D.st 0 4 (by omega)
    have st2 := win_hi D.st 0 4 (by omega)
    have hw200 : wrap64 (20 + sm % 200) = 20 + sm % 200 := by unfold wrap64; omega
    go_wp2_with fail
    refine wp_region_inv_eq (J := fun A d act x => ∃ u31 u32 u33 u34 u35 u36 u37 u38 u39 u40 u41 u42 u43 : Value, act = (((((((((((((A.put (some 31) u31).put (some 32) u32).put (some 33) u33).put (some 34) u34).put (some 35) u35).put (some 36) u36).put (some 37) u37).put (some 38) u38).put (some 39) u39).put (some 40) u40).put (some 41) u41).put (some 42) u42).put (some 43) u43) ∧ RA4 w xw D db rb ab A1 B1 sm d x u31 u32 u33 u34 u35 u36 u37 u38 u39 u40 u41 u42 u43) (by simp only [Act.put, List.setIfInBounds_toArray, List.set_cons_succ, List.set_cons_zero]; rfl) (by kernel_rfl) (by kernel_rfl) ?_ ?_ ?_
    · exact ⟨_, _, _, _, _, _, _, _, _, _, _, _, _, rfl, ⟨(fun h => by cases h), (fun h => by cases h), (fun h => by cases h), (fun h => by cases h), (fun h => by cases h), (fun h => by cases h), (fun h => by cases h), (fun h => by cases h), (fun h => by cases h), (fun h => by cases h), (fun h => by cases h), (fun h => by cases h), (fun h => by cases h), H3.out.1.drew, H3.out.2.1, H3.out.2.2.1, (by have h0 := H3.out.2.2.2; show xw.heap[ab]? = _; simpa using h0)⟩⟩
    · refine stepsOk_cons (k := 0) ?_ (stepsOk_cons (k := 1) ?_ (stepsOk_cons (k := 2) ?_ (stepsOk_cons (k := 3) ?_ (stepsOk_cons (k := 4) ?_ (stepsOk_cons (k := 5) ?_ (stepsOk_cons (k := 6) ?_ (stepsOk_cons (k := 7) ?_ (stepsOk_cons (k := 8) ?_ (stepsOk_cons (k := 9) ?_ (stepsOk_cons (k := 10) ?_ (stepsOk_cons (k := 11) ?_ (stepsOk_cons (k := 12) ?_ (stepsOk_cons (k := 13) ?_ (stepsOk_cons (k := 14) ?_ (stepsOk_cons (k := 15) ?_ (stepsOk_cons (k := 16) ?_ stepsOk_nil))))))))))))))))
      · unfold StepOk
        rintro d act xw ⟨u31, u32, u33, u34, u35, u36, u37, u38, u39, u40, u41, u42, u43, rfl, F⟩ hd hdep Kc hKc
        rw [if_pos (by rfl)]
        go_big_op
        exact hKc _ _ ⟨_, _, _, _, _, _, _, _, _, _, _, _, _, rfl, ⟨(fun _ => rfl), (fun h => F.s1 (up h rfl)), (fun h => F.s2 (up h rfl)), (fun h => F.s3 (up h rfl)), (fun h => F.s4 (up h rfl)), (fun h => F.s5 (up h rfl)), (fun h => F.s6 (up h rfl)), (fun h => F.s7 (up h rfl)), (fun h => F.s8 (up h rfl)), (fun h => F.s9 (up h rfl)), (fun h => F.s11 (up h rfl)), (fun h => F.s13 (up h rfl)), (fun h => F.s15 (up h rfl)), F.bl, F.dk, F.rk, (by have h0 := F.ak; simpa using h0)⟩⟩
      · unfold StepOk
        rintro d act xw ⟨u31, u32, u33, u34, u35, u36, u37, u38, u39, u40, u41, u42, u43, rfl, F⟩ hd hdep Kc hKc
        have hd0 : d 0 = true := hdep ⟨0, .data⟩ (by simp) rfl
        obtain rfl := F.s0 hd0
        have hdc := blk_cell F.dk
        have hdl := blk_lt F.dk
        rw [if_pos (by rfl)]
        go_big_op
        exact hKc _ _ ⟨_, _, _, _, _, _, _, _, _, _, _, _, _, rfl, ⟨(fun h => F.s0 (up h rfl)), (fun _ => rfl), (fun h => F.s2 (up h rfl)), (fun h => F.s3 (up h rfl)), (fun h => F.s4 (up h rfl)), (fun h => F.s5 (up h rfl)), (fun h => F.s6 (up h rfl)), (fun h => F.s7 (up h rfl)), (fun h => F.s8 (up h rfl)), (fun h => F.s9 (up h rfl)), (fun h => F.s11 (up h rfl)), (fun h => F.s13 (up h rfl)), (fun h => F.s15 (up h rfl)), F.bl, F.dk, F.rk, (by have h0 := F.ak; simpa using h0)⟩⟩
      · unfold StepOk
        rintro d act xw ⟨u31, u32, u33, u34, u35, u36, u37, u38, u39, u40, u41, u42, u43, rfl, F⟩ hd hdep Kc hKc
        have hd1 : d 1 = true := hdep ⟨1, .data⟩ (by simp) rfl
        obtain rfl := F.s1 hd1
        rw [if_pos (by rfl)]
        go_big_op
        refine (within_any D.op 0 5 _ (by omega) (by omega) (by omega) HO.out.op.1 HO.out.op.2).mono ?_
        rintro e x1 ⟨rfl, rfl⟩
        exact hKc _ _ ⟨_, _, _, _, _, _, _, _, _, _, _, _, _, rfl, ⟨(fun h => F.s0 (up h rfl)), (fun h => F.s1 (up h rfl)), (fun _ => rfl), (fun h => F.s3 (up h rfl)), (fun h => F.s4 (up h rfl)), (fun h => F.s5 (up h rfl)), (fun h => F.s6 (up h rfl)), (fun h => F.s7 (up h rfl)), (fun h => F.s8 (up h rfl)), (fun h => F.s9 (up h rfl)), (fun h => F.s11 (up h rfl)), (fun h => F.s13 (up h rfl)), (fun h => F.s15 (up h rfl)), F.bl, F.dk, F.rk, (by have h0 := F.ak; simpa using h0)⟩⟩
      · unfold StepOk
        rintro d act xw ⟨u31, u32, u33, u34, u35, u36, u37, u38, u39, u40, u41, u42, u43, rfl, F⟩ hd hdep Kc hKc
        rw [if_pos (by rfl)]
        go_big_op
        exact hKc _ _ ⟨_, _, _, _, _, _, _, _, _, _, _, _, _, rfl, ⟨(fun h => F.s0 (up h rfl)), (fun h => F.s1 (up h rfl)), (fun h => F.s2 (up h rfl)), (fun _ => rfl), (fun h => F.s4 (up h rfl)), (fun h => F.s5 (up h rfl)), (fun h => F.s6 (up h rfl)), (fun h => F.s7 (up h rfl)), (fun h => F.s8 (up h rfl)), (fun h => F.s9 (up h rfl)), (fun h => F.s11 (up h rfl)), (fun h => F.s13 (up h rfl)), (fun h => F.s15 (up h rfl)), F.bl, F.dk, F.rk, (by have h0 := F.ak; simpa using h0)⟩⟩
      · unfold StepOk
        rintro d act xw ⟨u31, u32, u33, u34, u35, u36, u37, u38, u39, u40, u41, u42, u43, rfl, F⟩ hd hdep Kc hKc
        have hd3 : d 3 = true := hdep ⟨3, .data⟩ (by simp) rfl
        obtain rfl := F.s3 hd3
        rw [if_pos (by rfl)]
        go_big_op
        exact hKc _ _ ⟨_, _, _, _, _, _, _, _, _, _, _, _, _, rfl, ⟨(fun h => F.s0 (up h rfl)), (fun h => F.s1 (up h rfl)), (fun h => F.s2 (up h rfl)), (fun h => F.s3 (up h rfl)), (fun _ => rfl), (fun h => F.s5 (up h rfl)), (fun h => F.s6 (up h rfl)), (fun h => F.s7 (up h rfl)), (fun h => F.s8 (up h rfl)), (fun h => F.s9 (up h rfl)), (fun h => F.s11 (up h rfl)), (fun h => F.s13 (up h rfl)), (fun h => F.s15 (up h rfl)), F.bl, F.dk, F.rk, (by have h0 := F.ak; simpa using h0)⟩⟩
      · unfold StepOk
        rintro d act xw ⟨u31, u32, u33, u34, u35, u36, u37, u38, u39, u40, u41, u42, u43, rfl, F⟩ hd hdep Kc hKc
        have hd4 : d 4 = true := hdep ⟨4, .data⟩ (by simp) rfl
        obtain rfl := F.s4 hd4
        rw [if_pos (by rfl)]
        go_big_op
        exact hKc _ _ ⟨_, _, _, _, _, _, _, _, _, _, _, _, _, rfl, ⟨(fun h => F.s0 (up h rfl)), (fun h => F.s1 (up h rfl)), (fun h => F.s2 (up h rfl)), (fun h => F.s3 (up h rfl)), (fun h => F.s4 (up h rfl)), (fun _ => by first | rfl | exact congrArg (Value.int .i64) hw200), (fun h => F.s6 (up h rfl)), (fun h => F.s7 (up h rfl)), (fun h => F.s8 (up h rfl)), (fun h => F.s9 (up h rfl)), (fun h => F.s11 (up h rfl)), (fun h => F.s13 (up h rfl)), (fun h => F.s15 (up h rfl)), F.bl, F.dk, F.rk, (by have h0 := F.ak; simpa using h0)⟩⟩
      · unfold StepOk
        rintro d act xw ⟨u31, u32, u33, u34, u35, u36, u37, u38, u39, u40, u41, u42, u43, rfl, F⟩ hd hdep Kc hKc
        rw [if_pos (by rfl)]
        go_big_op
        exact hKc _ _ ⟨_, _, _, _, _, _, _, _, _, _, _, _, _, rfl, ⟨(fun h => F.s0 (up h rfl)), (fun h => F.s1 (up h rfl)), (fun h => F.s2 (up h rfl)), (fun h => F.s3 (up h rfl)), (fun h => F.s4 (up h rfl)), (fun h => F.s5 (up h rfl)), (fun _ => rfl), (fun h => F.s7 (up h rfl)), (fun h => F.s8 (up h rfl)), (fun h => F.s9 (up h rfl)), (fun h => F.s11 (up h rfl)), (fun h => F.s13 (up h rfl)), (fun h => F.s15 (up h rfl)), F.bl, F.dk, F.rk, (by have h0 := F.ak; simpa using h0)⟩⟩
      · unfold StepOk
        rintro d act xw ⟨u31, u32, u33, u34, u35, u36, u37, u38, u39, u40, u41, u42, u43, rfl, F⟩ hd hdep Kc hKc
        have hd6 : d 6 = true := hdep ⟨6, .data⟩ (by simp) rfl
        obtain rfl := F.s6 hd6
        have hdc := blk_cell F.dk
        have hdl := blk_lt F.dk
        rw [if_pos (by rfl)]
        go_big_op
        exact hKc _ _ ⟨_, _, _, _, _, _, _, _, _, _, _, _, _, rfl, ⟨(fun h => F.s0 (up h rfl)), (fun h => F.s1 (up h rfl)), (fun h => F.s2 (up h rfl)), (fun h => F.s3 (up h rfl)), (fun h => F.s4 (up h rfl)), (fun h => F.s5 (up h rfl)), (fun h => F.s6 (up h rfl)), (fun _ => rfl), (fun h => F.s8 (up h rfl)), (fun h => F.s9 (up h rfl)), (fun h => F.s11 (up h rfl)), (fun h => F.s13 (up h rfl)), (fun h => F.s15 (up h rfl)), F.bl, F.dk, F.rk, (by have h0 := F.ak; simpa using h0)⟩⟩
      · unfold StepOk
        rintro d act xw ⟨u31, u32, u33, u34, u35, u36, u37, u38, u39, u40, u41, u42, u43, rfl, F⟩ hd hdep Kc hKc
        have hd7 : d 7 = true := hdep ⟨7, .data⟩ (by simp) rfl
        obtain rfl := F.s7 hd7
        rw [if_pos (by rfl)]
        go_big_op
        refine (within_any D.st 0 4 _ (by omega) (by omega) (by omega) HO.out.st.1 HO.out.st.2).mono ?_
        rintro e x1 ⟨rfl, rfl⟩
        exact hKc _ _ ⟨_, _, _, _, _, _, _, _, _, _, _, _, _, rfl, ⟨(fun h => F.s0 (up h rfl)), (fun h => F.s1 (up h rfl)), (fun h => F.s2 (up h rfl)), (fun h => F.s3 (up h rfl)), (fun h => F.s4 (up h rfl)), (fun h => F.s5 (up h rfl)), (fun h => F.s6 (up h rfl)), (fun h => F.s7 (up h rfl)), (fun _ => rfl), (fun h => F.s9 (up h rfl)), (fun h => F.s11 (up h rfl)), (fun h => F.s13 (up h rfl)), (fun h => F.s15 (up h rfl)), F.bl, F.dk, F.rk, (by have h0 := F.ak; simpa using h0)⟩⟩
      · unfold StepOk
        rintro d act xw ⟨u31, u32, u33, u34, u35, u36, u37, u38, u39, u40, u41, u42, u43, rfl, F⟩ hd hdep Kc hKc
        rw [if_pos (by rfl)]
        go_big_op
        exact hKc _ _ ⟨_, _, _, _, _, _, _, _, _, _, _, _, _, rfl, ⟨(fun h => F.s0 (up h rfl)), (fun h => F.s1 (up h rfl)), (fun h => F.s2 (up h rfl)), (fun h => F.s3 (up h rfl)), (fun h => F.s4 (up h rfl)), (fun h => F.s5 (up h rfl)), (fun h => F.s6 (up h rfl)), (fun h => F.s7 (up h rfl)), (fun h => F.s8 (up h rfl)), (fun _ => rfl), (fun h => F.s11 (up h rfl)), (fun h => F.s13 (up h rfl)), (fun h => F.s15 (up h rfl)), F.bl, F.dk, F.rk, (by have h0 := F.ak; simpa using h0)⟩⟩
      · unfold StepOk
        rintro d act xw ⟨u31, u32, u33, u34, u35, u36, u37, u38, u39, u40, u41, u42, u43, rfl, F⟩ hd hdep Kc hKc
        have hd9 : d 9 = true := hdep ⟨9, .data⟩ (by simp) rfl
        obtain rfl := F.s9 hd9
        have HZ := F.ak
        rw [hd] at HZ
        have hbc := blk_cell HZ
        have hbf := blk_free HZ
        have hbl := blk_lt HZ
        rw [if_pos (by rfl)]
        go_big_op
        exact hKc _ _ ⟨_, _, _, _, _, _, _, _, _, _, _, _, _, rfl, ⟨(fun h => F.s0 (up h rfl)), (fun h => F.s1 (up h rfl)), (fun h => F.s2 (up h rfl)), (fun h => F.s3 (up h rfl)), (fun h => F.s4 (up h rfl)), (fun h => F.s5 (up h rfl)), (fun h => F.s6 (up h rfl)), (fun h => F.s7 (up h rfl)), (fun h => F.s8 (up h rfl)), (fun h => F.s9 (up h rfl)), (fun h => F.s11 (up h rfl)), (fun h => F.s13 (up h rfl)), (fun h => F.s15 (up h rfl)), (F.bl.setCell HLE.out.1 _), (blk_set_other HLE.out.2.1 F.dk), (blk_set_other HLE.out.2.2 F.rk), (by have h0 := blk_set (n := 0) (u := .int .i64 8) (vs' := #[.int .i64 8, .int .i64 A1, .int .i64 B1, (bif d 12 then .int .i64 (win D.op 0 5) else .int .i64 0), (bif d 16 then .int .i64 (win D.st 0 4) else .int .i64 0), (bif d 14 then .int .i64 (20 + sm % 200) else .int .i64 0), .string ⟨#[]⟩]) HZ rfl; simpa using h0)⟩⟩
      · unfold StepOk
        rintro d act xw ⟨u31, u32, u33, u34, u35, u36, u37, u38, u39, u40, u41, u42, u43, rfl, F⟩ hd hdep Kc hKc
        rw [if_pos (by rfl)]
        go_big_op
        exact hKc _ _ ⟨_, _, _, _, _, _, _, _, _, _, _, _, _, rfl, ⟨(fun h => F.s0 (up h rfl)), (fun h => F.s1 (up h rfl)), (fun h => F.s2 (up h rfl)), (fun h => F.s3 (up h rfl)), (fun h => F.s4 (up h rfl)), (fun h => F.s5 (up h rfl)), (fun h => F.s6 (up h rfl)), (fun h => F.s7 (up h rfl)), (fun h => F.s8 (up h rfl)), (fun h => F.s9 (up h rfl)), (fun _ => rfl), (fun h => F.s13 (up h rfl)), (fun h => F.s15 (up h rfl)), F.bl, F.dk, F.rk, (by have h0 := F.ak; simpa using h0)⟩⟩
      · unfold StepOk
        rintro d act xw ⟨u31, u32, u33, u34, u35, u36, u37, u38, u39, u40, u41, u42, u43, rfl, F⟩ hd hdep Kc hKc
        have hd11 : d 11 = true := hdep ⟨11, .data⟩ (by simp) rfl
        obtain rfl := F.s11 hd11
        have hd2 : d 2 = true := hdep ⟨2, .data⟩ (by simp) rfl
        obtain rfl := F.s2 hd2
        have HZ := F.ak
        rw [hd] at HZ
        have hbc := blk_cell HZ
        have hbf := blk_free HZ
        have hbl := blk_lt HZ
        rw [if_pos (by rfl)]
        go_big_op
        exact hKc _ _ ⟨_, _, _, _, _, _, _, _, _, _, _, _, _, rfl, ⟨(fun h => F.s0 (up h rfl)), (fun h => F.s1 (up h rfl)), (fun h => F.s2 (up h rfl)), (fun h => F.s3 (up h rfl)), (fun h => F.s4 (up h rfl)), (fun h => F.s5 (up h rfl)), (fun h => F.s6 (up h rfl)), (fun h => F.s7 (up h rfl)), (fun h => F.s8 (up h rfl)), (fun h => F.s9 (up h rfl)), (fun h => F.s11 (up h rfl)), (fun h => F.s13 (up h rfl)), (fun h => F.s15 (up h rfl)), (F.bl.setCell HLE.out.1 _), (blk_set_other HLE.out.2.1 F.dk), (blk_set_other HLE.out.2.2 F.rk), (by have h0 := blk_set (n := 3) (u := .int .i64 (win D.op 0 5)) (vs' := #[(bif d 10 then .int .i64 8 else .int .i64 0), .int .i64 A1, .int .i64 B1, .int .i64 (win D.op 0 5), (bif d 16 then .int .i64 (win D.st 0 4) else .int .i64 0), (bif d 14 then .int .i64 (20 + sm % 200) else .int .i64 0), .string ⟨#[]⟩]) HZ rfl; simpa using h0)⟩⟩
      · unfold StepOk
        rintro d act xw ⟨u31, u32, u33, u34, u35, u36, u37, u38, u39, u40, u41, u42, u43, rfl, F⟩ hd hdep Kc hKc
        rw [if_pos (by rfl)]
        go_big_op
        exact hKc _ _ ⟨_, _, _, _, _, _, _, _, _, _, _, _, _, rfl, ⟨(fun h => F.s0 (up h rfl)), (fun h => F.s1 (up h rfl)), (fun h => F.s2 (up h rfl)), (fun h => F.s3 (up h rfl)), (fun h => F.s4 (up h rfl)), (fun h => F.s5 (up h rfl)), (fun h => F.s6 (up h rfl)), (fun h => F.s7 (up h rfl)), (fun h => F.s8 (up h rfl)), (fun h => F.s9 (up h rfl)), (fun h => F.s11 (up h rfl)), (fun _ => rfl), (fun h => F.s15 (up h rfl)), F.bl, F.dk, F.rk, (by have h0 := F.ak; simpa using h0)⟩⟩
      · unfold StepOk
        rintro d act xw ⟨u31, u32, u33, u34, u35, u36, u37, u38, u39, u40, u41, u42, u43, rfl, F⟩ hd hdep Kc hKc
        have hd13 : d 13 = true := hdep ⟨13, .data⟩ (by simp) rfl
        obtain rfl := F.s13 hd13
        have hd5 : d 5 = true := hdep ⟨5, .data⟩ (by simp) rfl
        obtain rfl := F.s5 hd5
        have HZ := F.ak
        rw [hd] at HZ
        have hbc := blk_cell HZ
        have hbf := blk_free HZ
        have hbl := blk_lt HZ
        rw [if_pos (by rfl)]
        go_big_op
        exact hKc _ _ ⟨_, _, _, _, _, _, _, _, _, _, _, _, _, rfl, ⟨(fun h => F.s0 (up h rfl)), (fun h => F.s1 (up h rfl)), (fun h => F.s2 (up h rfl)), (fun h => F.s3 (up h rfl)), (fun h => F.s4 (up h rfl)), (fun h => F.s5 (up h rfl)), (fun h => F.s6 (up h rfl)), (fun h => F.s7 (up h rfl)), (fun h => F.s8 (up h rfl)), (fun h => F.s9 (up h rfl)), (fun h => F.s11 (up h rfl)), (fun h => F.s13 (up h rfl)), (fun h => F.s15 (up h rfl)), (F.bl.setCell HLE.out.1 _), (blk_set_other HLE.out.2.1 F.dk), (blk_set_other HLE.out.2.2 F.rk), (by have h0 := blk_set (n := 5) (u := .int .i64 (20 + sm % 200)) (vs' := #[(bif d 10 then .int .i64 8 else .int .i64 0), .int .i64 A1, .int .i64 B1, (bif d 12 then .int .i64 (win D.op 0 5) else .int .i64 0), (bif d 16 then .int .i64 (win D.st 0 4) else .int .i64 0), .int .i64 (20 + sm % 200), .string ⟨#[]⟩]) HZ rfl; simpa using h0)⟩⟩
      · unfold StepOk
        rintro d act xw ⟨u31, u32, u33, u34, u35, u36, u37, u38, u39, u40, u41, u42, u43, rfl, F⟩ hd hdep Kc hKc
        rw [if_pos (by rfl)]
        go_big_op
        exact hKc _ _ ⟨_, _, _, _, _, _, _, _, _, _, _, _, _, rfl, ⟨(fun h => F.s0 (up h rfl)), (fun h => F.s1 (up h rfl)), (fun h => F.s2 (up h rfl)), (fun h => F.s3 (up h rfl)), (fun h => F.s4 (up h rfl)), (fun h => F.s5 (up h rfl)), (fun h => F.s6 (up h rfl)), (fun h => F.s7 (up h rfl)), (fun h => F.s8 (up h rfl)), (fun h => F.s9 (up h rfl)), (fun h => F.s11 (up h rfl)), (fun h => F.s13 (up h rfl)), (fun _ => rfl), F.bl, F.dk, F.rk, (by have h0 := F.ak; simpa using h0)⟩⟩
      · unfold StepOk
        rintro d act xw ⟨u31, u32, u33, u34, u35, u36, u37, u38, u39, u40, u41, u42, u43, rfl, F⟩ hd hdep Kc hKc
        have hd15 : d 15 = true := hdep ⟨15, .data⟩ (by simp) rfl
        obtain rfl := F.s15 hd15
        have hd8 : d 8 = true := hdep ⟨8, .data⟩ (by simp) rfl
        obtain rfl := F.s8 hd8
        have HZ := F.ak
        rw [hd] at HZ
        have hbc := blk_cell HZ
        have hbf := blk_free HZ
        have hbl := blk_lt HZ
        rw [if_pos (by rfl)]
        go_big_op
        exact hKc _ _ ⟨_, _, _, _, _, _, _, _, _, _, _, _, _, rfl, ⟨(fun h => F.s0 (up h rfl)), (fun h => F.s1 (up h rfl)), (fun h => F.s2 (up h rfl)), (fun h => F.s3 (up h rfl)), (fun h => F.s4 (up h rfl)), (fun h => F.s5 (up h rfl)), (fun h => F.s6 (up h rfl)), (fun h => F.s7 (up h rfl)), (fun h => F.s8 (up h rfl)), (fun h => F.s9 (up h rfl)), (fun h => F.s11 (up h rfl)), (fun h => F.s13 (up h rfl)), (fun h => F.s15 (up h rfl)), (F.bl.setCell HLE.out.1 _), (blk_set_other HLE.out.2.1 F.dk), (blk_set_other HLE.out.2.2 F.rk), (by have h0 := blk_set (n := 4) (u := .int .i64 (win D.st 0 4)) (vs' := #[(bif d 10 then .int .i64 8 else .int .i64 0), .int .i64 A1, .int .i64 B1, (bif d 12 then .int .i64 (win D.op 0 5) else .int .i64 0), .int .i64 (win D.st 0 4), (bif d 14 then .int .i64 (20 + sm % 200) else .int .i64 0), .string ⟨#[]⟩]) HZ rfl; simpa using h0)⟩⟩
    · rintro d act xw ⟨u31, u32, u33, u34, u35, u36, u37, u38, u39, u40, u41, u42, u43, rfl, F⟩ hall
      have H9 := Lib.hid (show Below w.heap.size w xw ∧ xw.heap[rb]? = some (.cells #[.int .i64 0, .int .i64 0, .int .i64 0, .int .i64 0, .int .i64 0, .int .i64 0, .string ⟨#[]⟩] 29 (0, 0)) ∧ xw.heap[ab]? = some (.cells #[.int .i64 (8), .int .i64 (A1), .int .i64 (B1), .int .i64 (win D.op 0 5), .int .i64 (win D.st 0 4), .int .i64 (20 + sm % 200), .string ⟨#[]⟩] 29 (0, 0)) from ⟨F.bl, F.rk, by have h0 := F.ak; simp only [hall 10 (by decide), hall 12 (by decide), hall 14 (by decide), hall 16 (by decide), cond_true] at h0; exact h0⟩)
      clear F hall
      have c9 := blk_cell H9.out.2.2
      have l9 := blk_lt H9.out.2.2
      have z9 := blk_cell H9.out.2.1
      have zf9 := blk_free H9.out.2.1
      have zl9 := blk_lt H9.out.2.1
      go_wp2_with fail
      exact bodyPost_ret (v := .agg #[.int .i64 (8), .int .i64 (A1), .int .i64 (B1), .int .i64 (win D.op 0 5), .int .i64 (win D.st 0 4), .int .i64 (20 + sm % 200), .string ⟨#[]⟩]) (by have hk2 := blk_cell (blk_fill7 (v0 := .int .i64 (8)) (v1 := .int .i64 (A1)) (v2 := .int .i64 (B1)) (v3 := .int .i64 (win D.op 0 5)) (v4 := .int .i64 (win D.st 0 4)) (v5 := .int .i64 (20 + sm % 200)) (v6 := .string ⟨#[]⟩) H9.out.2.1 rfl); simp [results, Tryz.results11, go_sem, hk2]) rfl ⟨⟨8, A1, B1, win D.op 0 5, win D.st 0 4, 20 + sm % 200, ⟨#[]⟩⟩, rfl, acOk_of (by omega) (by omega) (by omega) (by omega), (by show (⟨#[]⟩ : ByteArray).size ≤ 1000; decide), below_fill7 H9.out.1 HRB.out⟩
end Go.Proofs.YtcgembfdejjliaaGreatDoor
namespace Go.Proofs.YtcgembfdejjliaaGreatDoor
open Go.ChangeShapes Go.WideShapes Go.ChangeAt Go.RowKit
set_option linter.unusedVariables false
set_option linter.unusedSimpArgs false

def dE (D : Dr) : List Value := [.int .i64 D.k, .int .i64 D.a, .int .i64 D.b, .int .i64 D.op, .int .i64 D.st, .int .i64 D.n]
/-- a row of draws as they lie -/
def DrsAt (w : World) (a : Option Addr) (ls : List Dr) : Prop := (∀ D ∈ ls, DrOk D) ∧ (ls = [] ∨ ∃ b o, a = some ⟨b, o, none⟩ ∧ ∀ i D, ls[i]? = some D → ∀ q u, (dE D)[q]? = some u → w.cell? ⟨b, o + i * 6 + q, none⟩ = some u)
set_option maxRecDepth 100000 in
theorem i64_of {n : Int} (h : (Lit.int .i64 n).wf = true) : I64 n := by
  have := bounds_i64 h
  exact this
set_option maxRecDepth 100000 in
theorem i64_0 : I64 0 := ⟨by decide, by decide⟩
set_option maxRecDepth 100000 in
theorem open_draw_cells {H : Type} {enc : TypeId × Value → H} {w : World} {base fuel : Nat} {spare : Nat → Bool} {held : Bool} {cs : List Value} {x : DataW H × List MemPlace} (h : DataW.trod enc Tryz.prog w base spare held fuel 32 cs = some x) :
    ∃ D : Dr, cs = dE D ∧ DrOk D := by
  obtain ⟨xs, m, -, -, hl, hx, hf⟩ := DataW.trod_struct Tryz.underlying32 h
  rw [show Tryz.prog.cellsOf 32 = 6 from by kernel_rfl] at hl
  match cs, hl with
  | [c0, c1, c2, c3, c4, c5], _ =>
  match xs, hx with
  | [x0, x1, x2, x3, x4, x5], _ =>
  have h0 := (hf 0 _ rfl).trans (show [x0, x1, x2, x3, x4, x5][0]? = some x0 from rfl)
  have h1 := (hf 1 _ rfl).trans (show [x0, x1, x2, x3, x4, x5][1]? = some x1 from rfl)
  have h2 := (hf 2 _ rfl).trans (show [x0, x1, x2, x3, x4, x5][2]? = some x2 from rfl)
  have h3 := (hf 3 _ rfl).trans (show [x0, x1, x2, x3, x4, x5][3]? = some x3 from rfl)
  have h4 := (hf 4 _ rfl).trans (show [x0, x1, x2, x3, x4, x5][4]? = some x4 from rfl)
  have h5 := (hf 5 _ rfl).trans (show [x0, x1, x2, x3, x4, x5][5]? = some x5 from rfl)
  have k0 : Tryz.prog.cellsOf 3 = 1 := by kernel_rfl
  obtain ⟨k, e0, _, w_k⟩ := DataW.trod_int (k := .i64) Tryz.underlying3 h0
  simp [k0] at e0
  subst e0
  have k1 : Tryz.prog.cellsOf 3 = 1 := by kernel_rfl
  obtain ⟨a, e1, _, w_a⟩ := DataW.trod_int (k := .i64) Tryz.underlying3 h1
  simp [k1] at e1
  subst e1
  have k2 : Tryz.prog.cellsOf 3 = 1 := by kernel_rfl
  obtain ⟨b, e2, _, w_b⟩ := DataW.trod_int (k := .i64) Tryz.underlying3 h2
  simp [k2] at e2
  subst e2
  have k3 : Tryz.prog.cellsOf 3 = 1 := by kernel_rfl
  obtain ⟨op, e3, _, w_op⟩ := DataW.trod_int (k := .i64) Tryz.underlying3 h3
  simp [k3] at e3
  subst e3
  have k4 : Tryz.prog.cellsOf 3 = 1 := by kernel_rfl
  obtain ⟨st, e4, _, w_st⟩ := DataW.trod_int (k := .i64) Tryz.underlying3 h4
  simp [k4] at e4
  subst e4
  have k5 : Tryz.prog.cellsOf 2 = 1 := by kernel_rfl
  obtain ⟨n, e5, _, w_n⟩ := DataW.trod_int (k := .i64) Tryz.underlying2 h5
  simp [k5] at e5
  subst e5
  exact ⟨⟨k, a, b, op, st, n⟩, rfl, ⟨i64_of w_k, i64_of w_a, i64_of w_b, i64_of w_op, i64_of w_st, i64_of w_n⟩⟩
theorem open_draws {H : Type} {enc : TypeId × Value → H} {w : World} {base : Nat} {spare : Nat → Bool} {held : Bool} {a : Option Addr} {len cap : Nat} {d : DataW H} {p : List MemPlace}
    (h : DataW.Trod enc Tryz.prog w base spare held 26 (.slice a len cap) d p) : ∃ cs : List Dr, cs.length = len ∧ len ≤ cap ∧ cap ≤ maxLen ∧ DrsAt w a cs := by
  obtain ⟨fuel, hf⟩ := h
  rcases Go.Deep.open_slice Tryz.underlying26 hf with ⟨hcs, _⟩ | ⟨x, l, c, m, n, D, Pl, hcs, hb, hl, hm, hmm, hx, hi⟩
  · simp [Value.cells] at hcs
    obtain ⟨rfl, rfl, rfl⟩ := hcs
    exact ⟨[], rfl, Nat.le_refl _, Nat.zero_le _, (fun _ h => by cases h), .inl rfl⟩
  · simp [Value.cells] at hcs
    obtain ⟨rfl, rfl, rfl⟩ := hcs
    have hlm : len ≤ m := by rw [hmm]; split <;> omega
    rw [show Tryz.prog.cellsOf 32 = 6 from by kernel_rfl] at hi
    have hk : ∀ i, ∃ k : Dr, DrOk k ∧ (i < len → ∀ q u, (dE k)[q]? = some u → w.cell? ((x.add (i * 6)).add q) = some u) := by
      intro i
      by_cases h : i < len
      · obtain ⟨cs', hc, ht⟩ := hi i (by omega)
        obtain ⟨D, rfl, hD⟩ := open_draw_cells ht
        obtain ⟨_, _, hat⟩ := World.cells?_some hc
        refine ⟨D, hD, fun _ q u hu => ?_⟩
        have hq : q < 6 := by
          rcases Nat.lt_or_ge q 6 with h' | h'
          · exact h'
          · rw [List.getElem?_eq_none (by simpa [dE] using h')] at hu; cases hu
        exact (hat q hq).trans hu
      · exact ⟨⟨0, 0, 0, 0, 0, 0⟩, ⟨i64_0, i64_0, i64_0, i64_0, i64_0, i64_0⟩, fun h' => absurd h' h⟩
    obtain ⟨f, hf'⟩ := Classical.axiomOfChoice hk
    refine ⟨(List.range len).map f, by simp, hl, hm, fun D hD => ?_, ?_⟩
    · obtain ⟨i, -, rfl⟩ := List.mem_map.1 hD
      exact (hf' i).1
    · by_cases h0 : len = 0
      · left; subst h0; rfl
      · obtain ⟨b, o, s⟩ := x
        have h1 := (hf' 0).2 (by omega) 0 _ rfl
        have hs : s = none := by simpa [Addr.add] using World.cell?_spot h1
        subst hs
        refine .inr ⟨b, o, rfl, fun i y hi' q u hu => ?_⟩
        have hil : i < len := by
          rcases Nat.lt_or_ge i len with h | h
          · exact h
          · rw [List.getElem?_eq_none (by simpa using h)] at hi'; cases hi'
        have e : f i = y := by simpa [hil] using hi'
        have h2 := (hf' i).2 hil q u (by rw [e]; exact hu)
        rw [add_off, add_off] at h2
        exact h2
end Go.Proofs.YtcgembfdejjliaaGreatDoor
namespace Go.Proofs.YtcgembfdejjliaaGreatDoor
open Go.RowKit
set_option linter.unusedVariables false
set_option linter.unusedSimpArgs false

theorem tx_len (r : Ac) (ha : AcOk r) (hap : r.app.size ≤ 1000) : (txM [r]).length ≤ 5000 := by
  have h : ∀ l : List Sh, (∀ s ∈ l, s ∈ shs) → (wrM r l).size ≤ 4100 := by
    intro l
    induction l with
    | nil => intro _; show 0 ≤ _; omega
    | cons s t ih =>
      intro hs
      unfold wrM
      split
      · have := join_len [32] 1000 ((s.w :: s.fs.data.toList.map (getM r)).map (·.data.toList)) (by
          intro x hx
          simp only [List.map_cons, List.map_map, List.mem_cons, List.mem_map, Function.comp] at hx
          rcases hx with rfl | ⟨f, _, rfl⟩
          · have := shs_wz s (hs s (by simp)); show s.w.size ≤ _; omega
          · have h1 := ito_len _ ha.1
            have h2 := ito_len _ ha.2.1
            have h3 := ito_len _ ha.2.2.1
            have h4 := ito_len _ ha.2.2.2
            show (getM r f).size ≤ _
            unfold getM
            repeat' split
            all_goals omega)
        have hz := shs_sz s (hs s (by simp))
        have hz2 : s.fs.data.toList.length = s.fs.size := rfl
        show (Lib.join _ _).toArray.size ≤ _
        simp only [List.length_map, List.length_cons, List.length_nil, List.size_toArray] at this ⊢
        rw [hz2] at this
        have h5 : (s.fs.size + 1) * (1000 + (0 + 1)) ≤ 4 * 1001 := Nat.mul_le_mul (by omega) (by omega)
        omega
      · exact ih fun z hz => hs z (List.mem_cons_of_mem _ hz)
  have h0 := h shs fun s hs => hs
  have h1 : (wrM r shs).data.toList.length = (wrM r shs).size := rfl
  unfold txM
  simp only [List.flatMap_cons, List.flatMap_nil, List.append_nil]
  unfold txA
  split
  · split
    · simp; omega
    · simp
  · simp
set_option maxRecDepth 100000 in
set_option maxHeartbeats 4000000 in
theorem scriptTells0 (raw : ByteArray) (ha : ¬ 80 < raw.size) (hraw : raw.size ≤ maxLen) (da : Option Addr) (nd dc : Nat) (ds : List Dr) (hds : ds.length = nd) (hdc : nd ≤ dc) (hdm : dc ≤ maxLen) (at_ : Int) (hat : (Lit.int .i64 at_).wf = true) (w : World) (hw : SW w) (hdr : DrsAt w da ds) :
    Calls Tryz.prog 4 #[.string raw, .slice da nd dc, .int .i64 at_] w fun r w' => r = .returned (.bool true) ∧ Below w.heap.size w w' := by
  obtain ⟨x, hx, hzx⟩ : ∃ x, raw = x ∧ x.size ≤ 80 := ⟨_, rfl, by omega⟩
  have agt : ¬ (80 : Int) < (raw.size : Int) := by omega
  have HW := Lib.hid hw
  have HDR := Lib.hid hdr
  have HDS := Lib.hid hds
  have hati := i64_of hat
  have HAT := Lib.hid hati
  unfold maxLen at hdm
  clear hw hdr hds hat hati
  go_enter Tryz.func4, Tryz.ntmps4
  go_wp2_with fail
  try rw [hx]
  go_loopw [7, 8] (fun sv iv wr => ∃ (I : Nat) (S : ByteArray), I ≤ nd ∧ I ≤ 10 ∧ sv = .string S ∧ S.size ≤ I * 5000 ∧ iv = .int .i64 (I : Int) ∧ Below w.heap.size w wr) (fun _ iv _ => 10 - (RowKit.intOf iv).toNat)
  case atStart => exact ⟨0, ⟨#[]⟩, by omega, by omega, rfl, by decide, rfl, Below.refl _ _⟩
  case round =>
    obtain ⟨w2, rfl⟩ : ∃ y : World, y = wr := ⟨_, rfl⟩
    obtain ⟨I, S, hI, hI2, rfl, hS, rfl, hb2⟩ := hrel
    have H2 := Lib.hid hb2
    clear hb2
    by_cases hgo : I < nd ∧ I < 10
    · obtain ⟨hlt, hlt2⟩ := hgo
      have hlti : (I : Int) < (nd : Int) := by omega
      have hlti2 : (I : Int) < 10 := by omega
      obtain ⟨D, hDi⟩ : ∃ D, ds[I]? = some D := ⟨_, List.getElem?_eq_getElem (by have := HDS.out; omega)⟩
      obtain ⟨g, o, rfl, hc⟩ := HDR.out.2.resolve_left (by intro e; rw [e] at hDi; simp at hDi)
      have HD := Lib.hid (HDR.out.1 D (List.mem_of_getElem? hDi))
      have p0 := ext_cell H2.out (hc I D hDi 0 _ rfl)
      have p1 := ext_cell H2.out (hc I D hDi 1 _ rfl)
      have p2 := ext_cell H2.out (hc I D hDi 2 _ rfl)
      have p3 := ext_cell H2.out (hc I D hDi 3 _ rfl)
      have p4 := ext_cell H2.out (hc I D hDi 4 _ rfl)
      have p5 := ext_cell H2.out (hc I D hDi 5 _ rfl)
      rw [Nat.add_zero] at p0
      have pl := cell_lt p0
      clear hc hDi
      go_wp2_with fail
      refine (actP D HD.out w2).mono ?_
      rintro e w3 ⟨r, rfl, hr1, hr2, hb3⟩
      have H3 := Lib.hid (show _ ∧ _ ∧ _ from ⟨hr1, hr2, ext_trans H2.out hb3⟩)
      clear hr1 hr2 hb3 p0 p1 p2 p3 p4 p5 pl
      simp only [acC]
      go_wp2_with fail
      have B4 := al_below w3 (.cells #[.int .i64 r.k, .int .i64 r.a, .int .i64 r.b, .int .i64 r.op, .int .i64 r.st, .int .i64 r.n, .string r.app] 29)
      have X4 := blk_new w3 #[.int .i64 r.k, .int .i64 r.a, .int .i64 r.b, .int .i64 r.op, .int .i64 r.st, .int .i64 r.n, .string r.app] 29
      refine (textP [r] (by intro a ha; simp only [List.mem_cons, List.not_mem_nil, or_false] at ha; subst ha; exact ⟨H3.out.1, H3.out.2.1⟩) (by simp) _ 1 _ (HW.out.ext (ext_trans H3.out.2.2 B4)) (.inr ⟨_, _, rfl, fun i a hi q u hq => ?_⟩)).mono ?_
      · match i, hi with
        | 0, hi =>
          simp only [List.getElem?_cons_zero, Option.some.injEq] at hi
          subst hi
          rw [Nat.zero_mul, Nat.zero_add]
          try rw [Nat.zero_add]
          rw [blk_cell X4]
          simpa [aE] using hq
        | n + 1, hi => simp at hi
      rintro e w5 ⟨rfl, hb5⟩
      have H5 := Lib.hid (ext_trans H3.out.2.2 (ext_trans B4 hb5))
      obtain ⟨T, hT⟩ : ∃ T : ByteArray, ⟨(txM [r]).toArray⟩ = T := ⟨_, rfl⟩
      have hTz : T.size ≤ 5000 := by
        rw [← hT]
        show (txM [r]).toArray.size ≤ _
        rw [List.size_toArray]
        exact tx_len r H3.out.1 H3.out.2.1
      rw [hT]
      have hadd : ∀ u : World, (Op.stringOp .add S T).run Tryz.prog u = .ok (.string (S ++ T)) u := fun u => run_string_add_sum u _ _ (by omega)
      have HT := Lib.hid (show (S ++ T).size ≤ (I + 1) * 5000 by rw [ByteArray.size_append]; omega)
      clear hT hb5 B4 X4
      go_wp2
      exact ⟨⟨I + 1, _, by omega, by omega, rfl, HT.out, by go_num, H5.out⟩, by simp [RowKit.intOf]; omega⟩
    · have hS5 : S.size ≤ 50000 := by have := Nat.mul_le_mul_right 5000 hI2; omega
      have hx8 : x.size ≤ 80 := hzx
      obtain ⟨kk, hkk⟩ : ∃ q, win at_ 0 (S.size : Int) = q := ⟨_, rfl⟩
      have k1 := win_lo at_ 0 (S.size : Int) (by omega)
      have k2 := win_hi at_ 0 (S.size : Int) (by omega)
      rw [hkk] at k1 k2
      obtain ⟨q, hq⟩ : ∃ q : Nat, kk = (q : Int) := ⟨kk.toNat, by omega⟩
      have HKK := Lib.hid (show win at_ 0 (S.size : Int) = (q : Int) from by rw [hkk, hq])
      have hqs : (q : Int) ≤ (S.size : Int) := by omega
      clear hkk k1 k2 hq
      obtain ⟨L, hL⟩ : ∃ L, S.extract 0 q = L := ⟨_, rfl⟩
      obtain ⟨R, hR⟩ : ∃ R, S.extract q S.size = R := ⟨_, rfl⟩
      have hs1 : ∀ y : World, (Instr.slice 9 (.string S) none (some (.int .i64 (q : Int))) none).run Tryz.prog y = .ok (.string L) y := fun y => by
        rw [run_slice_string_h y 9 S Tryz.underlying9 .i64 (q : Int) (by omega) hqs, ← hL]
        simp
      have hs2 : ∀ y : World, (Instr.slice 9 (.string S) (some (.int .i64 (q : Int))) none none).run Tryz.prog y = .ok (.string R) y := fun y => by
        rw [run_slice_string_l y 9 S Tryz.underlying9 .i64 (q : Int) (by omega) hqs, ← hR]
        simp
      have hLz : L.size ≤ 50000 := by rw [← hL]; simp; omega
      have hRz : R.size ≤ 50000 := by rw [← hR]; simp; omega
      have ha1 : ∀ u : World, (Op.stringOp .add L x).run Tryz.prog u = .ok (.string (L ++ x)) u := fun u => run_string_add_sum u _ _ (by omega)
      have ha2 : ∀ u : World, (Op.stringOp .add (L ++ x) R).run Tryz.prog u = .ok (.string (L ++ x ++ R)) u := fun u => run_string_add_sum u _ _ (by rw [ByteArray.size_append]; omega)
      have ha3 : ∀ u : World, (Op.stringOp .add ⟨#[116, 105, 99, 107, 32]⟩ x).run Tryz.prog u = .ok (.string (⟨#[116, 105, 99, 107, 32]⟩ ++ x)) u := fun u => run_string_add_sum u _ _ (by show 5 + x.size ≤ _; omega)
      have ha4 : ∀ u : World, (Op.stringOp .add ⟨#[108, 111, 111, 107, 32, 49, 32]⟩ x).run Tryz.prog u = .ok (.string (⟨#[108, 111, 111, 107, 32, 49, 32]⟩ ++ x)) u := fun u => run_string_add_sum u _ _ (by show 7 + x.size ≤ _; omega)
      have hz1 : (L ++ x ++ R).size ≤ 1048576 := by rw [ByteArray.size_append, ByteArray.size_append]; omega
      have hz2 : (⟨#[116, 105, 99, 107, 32]⟩ ++ x).size ≤ 1048576 := by rw [ByteArray.size_append]; show 5 + x.size ≤ _; omega
      have hz3 : (⟨#[108, 111, 111, 107, 32, 49, 32]⟩ ++ x).size ≤ 1048576 := by rw [ByteArray.size_append]; show 7 + x.size ≤ _; omega
      obtain ⟨LX, hLX⟩ : ∃ z, L ++ x = z := ⟨_, rfl⟩
      rw [hLX] at ha1 ha2 hz1
      obtain ⟨LXR, hLXR⟩ : ∃ z, LX ++ R = z := ⟨_, rfl⟩
      rw [hLXR] at ha2 hz1
      obtain ⟨TX, hTX⟩ : ∃ z, ⟨#[116, 105, 99, 107, 32]⟩ ++ x = z := ⟨_, rfl⟩
      rw [hTX] at ha3 hz2
      obtain ⟨KX, hKX⟩ : ∃ z, ⟨#[108, 111, 111, 107, 32, 49, 32]⟩ ++ x = z := ⟨_, rfl⟩
      rw [hKX] at ha4 hz3
      have HZ := Lib.hid (show _ ∧ _ ∧ _ from ⟨hz1, hz2, hz3⟩)
      clear hLX hLXR hTX hKX
      clear hz1 hz2 hz3 hL hR hLz hRz
      by_cases hlt : I < nd
      · have q1 : (I : Int) < (nd : Int) := by omega
        have q2 : decide ((I : Int) < 10) = false := decide_eq_false (by omega)
        have q3 : ¬ (I : Int) < 10 := by omega
        go_wp2_with (first | (go_at_call 12; refine (within_any at_ 0 (S.size : Int) _ (by omega) (by omega) (by omega) HAT.out.1 HAT.out.2).mono ?_; rintro e x1 ⟨rfl, rfl⟩; rw [HKK.out]))
        haveI hIq : Nonempty (Of w2) := of_some _
        have hsw : ∀ v : Of w2, SW v.w := fun v => HW.out.ext (ext_trans H2.out v.h)
        first | (refine wp_region_stay w2 (by kernel_rfl) (by kernel_rfl) (by go_grown) ?_) | (refine wp_region_stay_seq w2 (by go_grown) ?_)
        repeat (go_big_quiet_step (first | (go_at_call 6; with_reducible refine stay_call (linesP x (by omega) _ (hsw _))) | (go_at_call 6; with_reducible refine stay_call (linesP TX HZ.out.2.1 _ (hsw _))) | (go_at_call 6; with_reducible refine stay_call (linesP KX HZ.out.2.2 _ (hsw _))) | (go_at_call 8; with_reducible refine stay_call (parsesP x (by omega) _ (hsw _))) | (go_at_call 8; with_reducible refine stay_call (parsesP S (by omega) _ (hsw _))) | (go_at_call 8; with_reducible refine stay_call (parsesP LXR HZ.out.1 _ (hsw _))) | (go_at_call 9; with_reducible refine stay_call (known25 _ (hsw _)))))
        refine wpQuiet_nil ?_
        intro w6 hb6
        clear hIq hsw
        have HB6 := Lib.hid (ext_trans H2.out hb6)
        clear hb6
        go_wp2
        go_ret
        exact ⟨rfl, HB6.out⟩
      · have q1 : ¬ (I : Int) < (nd : Int) := by omega
        have q2 : decide ((I : Int) < (nd : Int)) = false := decide_eq_false (by omega)
        go_wp2_with (first | (go_at_call 12; refine (within_any at_ 0 (S.size : Int) _ (by omega) (by omega) (by omega) HAT.out.1 HAT.out.2).mono ?_; rintro e x1 ⟨rfl, rfl⟩; rw [HKK.out]))
        haveI hIq : Nonempty (Of w2) := of_some _
        have hsw : ∀ v : Of w2, SW v.w := fun v => HW.out.ext (ext_trans H2.out v.h)
        first | (refine wp_region_stay w2 (by kernel_rfl) (by kernel_rfl) (by go_grown) ?_) | (refine wp_region_stay_seq w2 (by go_grown) ?_)
        repeat (go_big_quiet_step (first | (go_at_call 6; with_reducible refine stay_call (linesP x (by omega) _ (hsw _))) | (go_at_call 6; with_reducible refine stay_call (linesP TX HZ.out.2.1 _ (hsw _))) | (go_at_call 6; with_reducible refine stay_call (linesP KX HZ.out.2.2 _ (hsw _))) | (go_at_call 8; with_reducible refine stay_call (parsesP x (by omega) _ (hsw _))) | (go_at_call 8; with_reducible refine stay_call (parsesP S (by omega) _ (hsw _))) | (go_at_call 8; with_reducible refine stay_call (parsesP LXR HZ.out.1 _ (hsw _))) | (go_at_call 9; with_reducible refine stay_call (known25 _ (hsw _)))))
        refine wpQuiet_nil ?_
        intro w6 hb6
        clear hIq hsw
        have HB6 := Lib.hid (ext_trans H2.out hb6)
        clear hb6
        go_wp2
        go_ret
        exact ⟨rfl, HB6.out⟩
set_option maxRecDepth 100000 in
set_option maxHeartbeats 4000000 in
theorem scriptTells1 (raw : ByteArray) (ha : 80 < raw.size) (hraw : raw.size ≤ maxLen) (da : Option Addr) (nd dc : Nat) (ds : List Dr) (hds : ds.length = nd) (hdc : nd ≤ dc) (hdm : dc ≤ maxLen) (at_ : Int) (hat : (Lit.int .i64 at_).wf = true) (w : World) (hw : SW w) (hdr : DrsAt w da ds) :
    Calls Tryz.prog 4 #[.string raw, .slice da nd dc, .int .i64 at_] w fun r w' => r = .returned (.bool true) ∧ Below w.heap.size w w' := by
  obtain ⟨x, hx, hzx⟩ : ∃ x, raw.extract 0 80 = x ∧ x.size ≤ 80 := ⟨_, rfl, by simp; omega⟩
  have agt : (80 : Int) < (raw.size : Int) := by omega
  have HW := Lib.hid hw
  have HDR := Lib.hid hdr
  have HDS := Lib.hid hds
  have hati := i64_of hat
  have HAT := Lib.hid hati
  unfold maxLen at hdm
  clear hw hdr hds hat hati
  go_enter Tryz.func4, Tryz.ntmps4
  go_wp2_with fail
  try rw [hx]
  go_loopw [7, 8] (fun sv iv wr => ∃ (I : Nat) (S : ByteArray), I ≤ nd ∧ I ≤ 10 ∧ sv = .string S ∧ S.size ≤ I * 5000 ∧ iv = .int .i64 (I : Int) ∧ Below w.heap.size w wr) (fun _ iv _ => 10 - (RowKit.intOf iv).toNat)
  case atStart => exact ⟨0, ⟨#[]⟩, by omega, by omega, rfl, by decide, rfl, Below.refl _ _⟩
  case round =>
    obtain ⟨w2, rfl⟩ : ∃ y : World, y = wr := ⟨_, rfl⟩
    obtain ⟨I, S, hI, hI2, rfl, hS, rfl, hb2⟩ := hrel
    have H2 := Lib.hid hb2
    clear hb2
    by_cases hgo : I < nd ∧ I < 10
    · obtain ⟨hlt, hlt2⟩ := hgo
      have hlti : (I : Int) < (nd : Int) := by omega
      have hlti2 : (I : Int) < 10 := by omega
      obtain ⟨D, hDi⟩ : ∃ D, ds[I]? = some D := ⟨_, List.getElem?_eq_getElem (by have := HDS.out; omega)⟩
      obtain ⟨g, o, rfl, hc⟩ := HDR.out.2.resolve_left (by intro e; rw [e] at hDi; simp at hDi)
      have HD := Lib.hid (HDR.out.1 D (List.mem_of_getElem? hDi))
      have p0 := ext_cell H2.out (hc I D hDi 0 _ rfl)
      have p1 := ext_cell H2.out (hc I D hDi 1 _ rfl)
      have p2 := ext_cell H2.out (hc I D hDi 2 _ rfl)
      have p3 := ext_cell H2.out (hc I D hDi 3 _ rfl)
      have p4 := ext_cell H2.out (hc I D hDi 4 _ rfl)
      have p5 := ext_cell H2.out (hc I D hDi 5 _ rfl)
      rw [Nat.add_zero] at p0
      have pl := cell_lt p0
      clear hc hDi
      go_wp2_with fail
      refine (actP D HD.out w2).mono ?_
      rintro e w3 ⟨r, rfl, hr1, hr2, hb3⟩
      have H3 := Lib.hid (show _ ∧ _ ∧ _ from ⟨hr1, hr2, ext_trans H2.out hb3⟩)
      clear hr1 hr2 hb3 p0 p1 p2 p3 p4 p5 pl
      simp only [acC]
      go_wp2_with fail
      have B4 := al_below w3 (.cells #[.int .i64 r.k, .int .i64 r.a, .int .i64 r.b, .int .i64 r.op, .int .i64 r.st, .int .i64 r.n, .string r.app] 29)
      have X4 := blk_new w3 #[.int .i64 r.k, .int .i64 r.a, .int .i64 r.b, .int .i64 r.op, .int .i64 r.st, .int .i64 r.n, .string r.app] 29
      refine (textP [r] (by intro a ha; simp only [List.mem_cons, List.not_mem_nil, or_false] at ha; subst ha; exact ⟨H3.out.1, H3.out.2.1⟩) (by simp) _ 1 _ (HW.out.ext (ext_trans H3.out.2.2 B4)) (.inr ⟨_, _, rfl, fun i a hi q u hq => ?_⟩)).mono ?_
      · match i, hi with
        | 0, hi =>
          simp only [List.getElem?_cons_zero, Option.some.injEq] at hi
          subst hi
          rw [Nat.zero_mul, Nat.zero_add]
          try rw [Nat.zero_add]
          rw [blk_cell X4]
          simpa [aE] using hq
        | n + 1, hi => simp at hi
      rintro e w5 ⟨rfl, hb5⟩
      have H5 := Lib.hid (ext_trans H3.out.2.2 (ext_trans B4 hb5))
      obtain ⟨T, hT⟩ : ∃ T : ByteArray, ⟨(txM [r]).toArray⟩ = T := ⟨_, rfl⟩
      have hTz : T.size ≤ 5000 := by
        rw [← hT]
        show (txM [r]).toArray.size ≤ _
        rw [List.size_toArray]
        exact tx_len r H3.out.1 H3.out.2.1
      rw [hT]
      have hadd : ∀ u : World, (Op.stringOp .add S T).run Tryz.prog u = .ok (.string (S ++ T)) u := fun u => run_string_add_sum u _ _ (by omega)
      have HT := Lib.hid (show (S ++ T).size ≤ (I + 1) * 5000 by rw [ByteArray.size_append]; omega)
      clear hT hb5 B4 X4
      go_wp2
      exact ⟨⟨I + 1, _, by omega, by omega, rfl, HT.out, by go_num, H5.out⟩, by simp [RowKit.intOf]; omega⟩
    · have hS5 : S.size ≤ 50000 := by have := Nat.mul_le_mul_right 5000 hI2; omega
      have hx8 : x.size ≤ 80 := hzx
      obtain ⟨kk, hkk⟩ : ∃ q, win at_ 0 (S.size : Int) = q := ⟨_, rfl⟩
      have k1 := win_lo at_ 0 (S.size : Int) (by omega)
      have k2 := win_hi at_ 0 (S.size : Int) (by omega)
      rw [hkk] at k1 k2
      obtain ⟨q, hq⟩ : ∃ q : Nat, kk = (q : Int) := ⟨kk.toNat, by omega⟩
      have HKK := Lib.hid (show win at_ 0 (S.size : Int) = (q : Int) from by rw [hkk, hq])
      have hqs : (q : Int) ≤ (S.size : Int) := by omega
      clear hkk k1 k2 hq
      obtain ⟨L, hL⟩ : ∃ L, S.extract 0 q = L := ⟨_, rfl⟩
      obtain ⟨R, hR⟩ : ∃ R, S.extract q S.size = R := ⟨_, rfl⟩
      have hs1 : ∀ y : World, (Instr.slice 9 (.string S) none (some (.int .i64 (q : Int))) none).run Tryz.prog y = .ok (.string L) y := fun y => by
        rw [run_slice_string_h y 9 S Tryz.underlying9 .i64 (q : Int) (by omega) hqs, ← hL]
        simp
      have hs2 : ∀ y : World, (Instr.slice 9 (.string S) (some (.int .i64 (q : Int))) none none).run Tryz.prog y = .ok (.string R) y := fun y => by
        rw [run_slice_string_l y 9 S Tryz.underlying9 .i64 (q : Int) (by omega) hqs, ← hR]
        simp
      have hLz : L.size ≤ 50000 := by rw [← hL]; simp; omega
      have hRz : R.size ≤ 50000 := by rw [← hR]; simp; omega
      have ha1 : ∀ u : World, (Op.stringOp .add L x).run Tryz.prog u = .ok (.string (L ++ x)) u := fun u => run_string_add_sum u _ _ (by omega)
      have ha2 : ∀ u : World, (Op.stringOp .add (L ++ x) R).run Tryz.prog u = .ok (.string (L ++ x ++ R)) u := fun u => run_string_add_sum u _ _ (by rw [ByteArray.size_append]; omega)
      have ha3 : ∀ u : World, (Op.stringOp .add ⟨#[116, 105, 99, 107, 32]⟩ x).run Tryz.prog u = .ok (.string (⟨#[116, 105, 99, 107, 32]⟩ ++ x)) u := fun u => run_string_add_sum u _ _ (by show 5 + x.size ≤ _; omega)
      have ha4 : ∀ u : World, (Op.stringOp .add ⟨#[108, 111, 111, 107, 32, 49, 32]⟩ x).run Tryz.prog u = .ok (.string (⟨#[108, 111, 111, 107, 32, 49, 32]⟩ ++ x)) u := fun u => run_string_add_sum u _ _ (by show 7 + x.size ≤ _; omega)
      have hz1 : (L ++ x ++ R).size ≤ 1048576 := by rw [ByteArray.size_append, ByteArray.size_append]; omega
      have hz2 : (⟨#[116, 105, 99, 107, 32]⟩ ++ x).size ≤ 1048576 := by rw [ByteArray.size_append]; show 5 + x.size ≤ _; omega
      have hz3 : (⟨#[108, 111, 111, 107, 32, 49, 32]⟩ ++ x).size ≤ 1048576 := by rw [ByteArray.size_append]; show 7 + x.size ≤ _; omega
      obtain ⟨LX, hLX⟩ : ∃ z, L ++ x = z := ⟨_, rfl⟩
      rw [hLX] at ha1 ha2 hz1
      obtain ⟨LXR, hLXR⟩ : ∃ z, LX ++ R = z := ⟨_, rfl⟩
      rw [hLXR] at ha2 hz1
      obtain ⟨TX, hTX⟩ : ∃ z, ⟨#[116, 105, 99, 107, 32]⟩ ++ x = z := ⟨_, rfl⟩
      rw [hTX] at ha3 hz2
      obtain ⟨KX, hKX⟩ : ∃ z, ⟨#[108, 111, 111, 107, 32, 49, 32]⟩ ++ x = z := ⟨_, rfl⟩
      rw [hKX] at ha4 hz3
      have HZ := Lib.hid (show _ ∧ _ ∧ _ from ⟨hz1, hz2, hz3⟩)
      clear hLX hLXR hTX hKX
      clear hz1 hz2 hz3 hL hR hLz hRz
      by_cases hlt : I < nd
      · have q1 : (I : Int) < (nd : Int) := by omega
        have q2 : decide ((I : Int) < 10) = false := decide_eq_false (by omega)
        have q3 : ¬ (I : Int) < 10 := by omega
        go_wp2_with (first | (go_at_call 12; refine (within_any at_ 0 (S.size : Int) _ (by omega) (by omega) (by omega) HAT.out.1 HAT.out.2).mono ?_; rintro e x1 ⟨rfl, rfl⟩; rw [HKK.out]))
        haveI hIq : Nonempty (Of w2) := of_some _
        have hsw : ∀ v : Of w2, SW v.w := fun v => HW.out.ext (ext_trans H2.out v.h)
        first | (refine wp_region_stay w2 (by kernel_rfl) (by kernel_rfl) (by go_grown) ?_) | (refine wp_region_stay_seq w2 (by go_grown) ?_)
        repeat (go_big_quiet_step (first | (go_at_call 6; with_reducible refine stay_call (linesP x (by omega) _ (hsw _))) | (go_at_call 6; with_reducible refine stay_call (linesP TX HZ.out.2.1 _ (hsw _))) | (go_at_call 6; with_reducible refine stay_call (linesP KX HZ.out.2.2 _ (hsw _))) | (go_at_call 8; with_reducible refine stay_call (parsesP x (by omega) _ (hsw _))) | (go_at_call 8; with_reducible refine stay_call (parsesP S (by omega) _ (hsw _))) | (go_at_call 8; with_reducible refine stay_call (parsesP LXR HZ.out.1 _ (hsw _))) | (go_at_call 9; with_reducible refine stay_call (known25 _ (hsw _)))))
        refine wpQuiet_nil ?_
        intro w6 hb6
        clear hIq hsw
        have HB6 := Lib.hid (ext_trans H2.out hb6)
        clear hb6
        go_wp2
        go_ret
        exact ⟨rfl, HB6.out⟩
      · have q1 : ¬ (I : Int) < (nd : Int) := by omega
        have q2 : decide ((I : Int) < (nd : Int)) = false := decide_eq_false (by omega)
        go_wp2_with (first | (go_at_call 12; refine (within_any at_ 0 (S.size : Int) _ (by omega) (by omega) (by omega) HAT.out.1 HAT.out.2).mono ?_; rintro e x1 ⟨rfl, rfl⟩; rw [HKK.out]))
        haveI hIq : Nonempty (Of w2) := of_some _
        have hsw : ∀ v : Of w2, SW v.w := fun v => HW.out.ext (ext_trans H2.out v.h)
        first | (refine wp_region_stay w2 (by kernel_rfl) (by kernel_rfl) (by go_grown) ?_) | (refine wp_region_stay_seq w2 (by go_grown) ?_)
        repeat (go_big_quiet_step (first | (go_at_call 6; with_reducible refine stay_call (linesP x (by omega) _ (hsw _))) | (go_at_call 6; with_reducible refine stay_call (linesP TX HZ.out.2.1 _ (hsw _))) | (go_at_call 6; with_reducible refine stay_call (linesP KX HZ.out.2.2 _ (hsw _))) | (go_at_call 8; with_reducible refine stay_call (parsesP x (by omega) _ (hsw _))) | (go_at_call 8; with_reducible refine stay_call (parsesP S (by omega) _ (hsw _))) | (go_at_call 8; with_reducible refine stay_call (parsesP LXR HZ.out.1 _ (hsw _))) | (go_at_call 9; with_reducible refine stay_call (known25 _ (hsw _)))))
        refine wpQuiet_nil ?_
        intro w6 hb6
        clear hIq hsw
        have HB6 := Lib.hid (ext_trans H2.out hb6)
        clear hb6
        go_wp2
        go_ret
        exact ⟨rfl, HB6.out⟩
end Go.Proofs.YtcgembfdejjliaaGreatDoor
