/- Which messages are right: those that are; those with a card, a key, that may not be; those with what their kind has not. -/
import Derived.Test.YtfdalmodnkkfiaaDoorMlZ
import Derived.Test.YtfdalmodnkkfiaaDoorFauI
namespace Go.Proofs.YtfdalmodnkkfiaaDoor
open Go.RowKit
set_option linter.unusedVariables false
set_option linter.unusedSimpArgs false

theorem any_no {α : Type} {f : α → Bool} {l : List α} (h : ∀ x ∈ l, f x = true) : l.any (fun x => !(f x)) = false := by
  rw [List.any_eq_false]
  intro x hx
  rw [h x hx]
  simp
theorem any_yes {α : Type} {f : α → Bool} {l : List α} {x : α} (hx : x ∈ l) (h : f x = false) : l.any (fun x => !(f x)) = true := List.any_eq_true.2 ⟨x, hx, by rw [h]; rfl⟩
set_option maxRecDepth 100000 in
set_option maxHeartbeats 1000000 in
theorem opRightKey (kd op st cod tag n sq : Int) (k1 k2 : ByteArray) (fu : Bool) (su : Int) (ca : Option Addr) (cn cc : Nat) (ka : Option Addr) (kn kc : Nat) (w : World) (h1 : 1 ≤ op) (h2 : op < 5) (hn1 : NmOk k1) (hn2 : NmOk k2) :
    Calls Tryd.prog 39 #[.agg #[.int .i64 kd, .int .i64 op, .int .i64 st, .int .i64 cod, .int .i64 tag, .int .i64 n, .int .i64 sq, .string k1, .string k2, .bool fu, .int .u32 su, .slice ca cn cc, .slice ka kn kc]] w fun r w' => r = .returned (.bool true) ∧ Below w.heap.size w w' := by
  have d0 : (op == 5) = false := by simpa using (show op ≠ 5 by omega)
  have d1 : decide (1 ≤ op) = true := decide_eq_true h1
  have d2 : decide (op < 5) = true := decide_eq_true h2
  have D0 := Lib.hid (show Below w.heap.size w (w.alloc (.cells #[.int .i64 kd, .int .i64 op, .int .i64 st, .int .i64 cod, .int .i64 tag, .int .i64 n, .int .i64 sq, .string k1, .string k2, .bool fu, .int .u32 su, .slice ca cn cc, .slice ka kn kc] 29)) from (Below.refl _ _).alloc (Nat.le_refl _) _)
  have HX := Lib.hid (blk_new w #[.int .i64 kd, .int .i64 op, .int .i64 st, .int .i64 cod, .int .i64 tag, .int .i64 n, .int .i64 sq, .string k1, .string k2, .bool fu, .int .u32 su, .slice ca cn cc, .slice ka kn kc] 29)
  go_enter Tryd.func39, Tryd.ntmps39
  go_upto_region 1 with (fail)
  obtain ⟨q, hp⟩ : ∃ p, w.heap.size = p := ⟨_, rfl⟩
  rw [hp] at HX
  try rw [hp]
  clear hp
  generalize (w.alloc (.cells #[.int .i64 kd, .int .i64 op, .int .i64 st, .int .i64 cod, .int .i64 tag, .int .i64 n, .int .i64 sq, .string k1, .string k2, .bool fu, .int .u32 su, .slice ca cn cc, .slice ka kn kc] 29)) = w1 at *
  have hk := blk_cell HX.out
  have hl := blk_lt HX.out
  go_wp2_with fail
  refine (keyWrongIs (k1, k2) _ (show k1.size ≤ maxLen by have := hn1.2.1; unfold maxLen; omega) (show k2.size ≤ maxLen by have := hn2.2.1; unfold maxLen; omega)).mono ?_
  rintro e w2 ⟨rfl, hb⟩
  rw [show (!(kyB (k1, k2))) = false from by simp [kyB, nmB, hn1, hn2]]
  have HX2 := Lib.hid (blk_ext hb HX.out)
  have D2 := Lib.hid (ext_trans D0.out hb)
  clear hk hl hb HX D0
  have hk := blk_cell HX2.out
  have hl := blk_lt HX2.out
  go_wp2
  go_ret
  exact ⟨by first | rfl | simp, D2.out⟩

set_option maxRecDepth 100000 in
set_option maxHeartbeats 1000000 in
theorem opRightFetch (kd st cod tag n sq : Int) (fu : Bool) (su : Int) (ca : Option Addr) (cn cc : Nat) (ka : Option Addr) (kn kc : Nat) (w : World)  :
    Calls Tryd.prog 39 #[.agg #[.int .i64 kd, .int .i64 5, .int .i64 st, .int .i64 cod, .int .i64 tag, .int .i64 n, .int .i64 sq, .string ⟨#[]⟩, .string ⟨#[]⟩, .bool fu, .int .u32 su, .slice ca cn cc, .slice ka kn kc]] w fun r w' => r = .returned (.bool true) ∧ Below w.heap.size w w' := by
  have D0 := Lib.hid (show Below w.heap.size w (w.alloc (.cells #[.int .i64 kd, .int .i64 5, .int .i64 st, .int .i64 cod, .int .i64 tag, .int .i64 n, .int .i64 sq, .string ⟨#[]⟩, .string ⟨#[]⟩, .bool fu, .int .u32 su, .slice ca cn cc, .slice ka kn kc] 29)) from (Below.refl _ _).alloc (Nat.le_refl _) _)
  have HX := Lib.hid (blk_new w #[.int .i64 kd, .int .i64 5, .int .i64 st, .int .i64 cod, .int .i64 tag, .int .i64 n, .int .i64 sq, .string ⟨#[]⟩, .string ⟨#[]⟩, .bool fu, .int .u32 su, .slice ca cn cc, .slice ka kn kc] 29)
  go_enter Tryd.func39, Tryd.ntmps39
  go_upto_region 1 with (fail)
  obtain ⟨q, hp⟩ : ∃ p, w.heap.size = p := ⟨_, rfl⟩
  rw [hp] at HX
  try rw [hp]
  clear hp
  generalize (w.alloc (.cells #[.int .i64 kd, .int .i64 5, .int .i64 st, .int .i64 cod, .int .i64 tag, .int .i64 n, .int .i64 sq, .string ⟨#[]⟩, .string ⟨#[]⟩, .bool fu, .int .u32 su, .slice ca cn cc, .slice ka kn kc] 29)) = w1 at *
  have hk := blk_cell HX.out
  have hl := blk_lt HX.out
  go_wp2
  go_ret
  exact ⟨by first | rfl | simp, D0.out⟩

set_option maxRecDepth 100000 in
set_option maxHeartbeats 2000000 in
theorem mailRightLow (kd : Int) (op st cod tag n sq : Int) (k1 k2 : ByteArray) (fu : Bool) (su : Int) (ca : Option Addr) (cn cc : Nat) (ka : Option Addr) (kn kc : Nat) (w : World) (cs : List Cd) (ks : List Ky) (hc : CAt w ca cs) (hcl : cs.length = cn) (hcc : cn ≤ cc) (hcm : cc ≤ maxLen) (hk : KyAt w ka ks) (hkl : ks.length = kn) (hkc : kn ≤ kc) (hkm : kc ≤ maxLen) (hcs : ∀ x ∈ cs, x.a.size ≤ maxLen ∧ x.i.size ≤ maxLen) (hks : ∀ x ∈ ks, x.1.size ≤ maxLen ∧ x.2.size ≤ maxLen) (hkd : kd < 1) :
    Calls Tryd.prog 19 #[.agg #[.int .i64 kd, .int .i64 op, .int .i64 st, .int .i64 cod, .int .i64 tag, .int .i64 n, .int .i64 sq, .string k1, .string k2, .bool fu, .int .u32 su, .slice ca cn cc, .slice ka kn kc]] w fun r w' => ∃ e', r = .returned e' ∧ FC w' (.iface 43 (.int .i64 12)) [⟨#[107, 105, 110, 100]⟩] e' ∧ Below w.heap.size w w' := by
  have d0 : decide (kd < 1) = true := decide_eq_true hkd
  have D0 := Lib.hid (show Below w.heap.size w (w.alloc (.cells #[.int .i64 kd, .int .i64 op, .int .i64 st, .int .i64 cod, .int .i64 tag, .int .i64 n, .int .i64 sq, .string k1, .string k2, .bool fu, .int .u32 su, .slice ca cn cc, .slice ka kn kc] 29)) from (Below.refl _ _).alloc (Nat.le_refl _) _)
  have HX0 := Lib.hid (blk_new w #[.int .i64 kd, .int .i64 op, .int .i64 st, .int .i64 cod, .int .i64 tag, .int .i64 n, .int .i64 sq, .string k1, .string k2, .bool fu, .int .u32 su, .slice ca cn cc, .slice ka kn kc] 29)
  have HCA0 := Lib.hid (hc.ext D0.out)
  have HKA0 := Lib.hid (SAt.ext hk D0.out)
  have HCL := Lib.hid hcl
  have HKL := Lib.hid hkl
  have HCS := Lib.hid hcs
  have HKS := Lib.hid hks
  clear hc hk hcl hkl hcs hks
  go_enter Tryd.func19, Tryd.ntmps19
  go_upto_region 1 with (fail)
  obtain ⟨p, hp⟩ : ∃ p, w.heap.size = p := ⟨_, rfl⟩
  rw [hp] at HX0
  try rw [hp]
  clear hp
  generalize (w.alloc (.cells #[.int .i64 kd, .int .i64 op, .int .i64 st, .int .i64 cod, .int .i64 tag, .int .i64 n, .int .i64 sq, .string k1, .string k2, .bool fu, .int .u32 su, .slice ca cn cc, .slice ka kn kc] 29)) = w0 at *
  have hk := blk_cell HX0.out
  have hl := blk_lt HX0.out
  go_wp2_with fail
  refine (faultNew ⟨#[107, 105, 110, 100]⟩ 12 w0 (by decide)).mono ?_
  rintro e w1 ⟨e1, rfl, hf, hb⟩
  have HF := Lib.hid hf
  have DD := Lib.hid (ext_trans D0.out hb)
  clear hk hl hb hf
  go_wp2
  go_ret
  exact ⟨_, rfl, HF.out, DD.out⟩

set_option maxRecDepth 100000 in
set_option maxHeartbeats 2000000 in
theorem mailRightHigh (kd : Int) (op st cod tag n sq : Int) (k1 k2 : ByteArray) (fu : Bool) (su : Int) (ca : Option Addr) (cn cc : Nat) (ka : Option Addr) (kn kc : Nat) (w : World) (cs : List Cd) (ks : List Ky) (hc : CAt w ca cs) (hcl : cs.length = cn) (hcc : cn ≤ cc) (hcm : cc ≤ maxLen) (hk : KyAt w ka ks) (hkl : ks.length = kn) (hkc : kn ≤ kc) (hkm : kc ≤ maxLen) (hcs : ∀ x ∈ cs, x.a.size ≤ maxLen ∧ x.i.size ≤ maxLen) (hks : ∀ x ∈ ks, x.1.size ≤ maxLen ∧ x.2.size ≤ maxLen) (hkd : 5 < kd) :
    Calls Tryd.prog 19 #[.agg #[.int .i64 kd, .int .i64 op, .int .i64 st, .int .i64 cod, .int .i64 tag, .int .i64 n, .int .i64 sq, .string k1, .string k2, .bool fu, .int .u32 su, .slice ca cn cc, .slice ka kn kc]] w fun r w' => ∃ e', r = .returned e' ∧ FC w' (.iface 43 (.int .i64 12)) [⟨#[107, 105, 110, 100]⟩] e' ∧ Below w.heap.size w w' := by
  have d0 : decide (kd < 1) = false := decide_eq_false (by omega)
  have d1 : decide (5 < kd) = true := decide_eq_true hkd
  have D0 := Lib.hid (show Below w.heap.size w (w.alloc (.cells #[.int .i64 kd, .int .i64 op, .int .i64 st, .int .i64 cod, .int .i64 tag, .int .i64 n, .int .i64 sq, .string k1, .string k2, .bool fu, .int .u32 su, .slice ca cn cc, .slice ka kn kc] 29)) from (Below.refl _ _).alloc (Nat.le_refl _) _)
  have HX0 := Lib.hid (blk_new w #[.int .i64 kd, .int .i64 op, .int .i64 st, .int .i64 cod, .int .i64 tag, .int .i64 n, .int .i64 sq, .string k1, .string k2, .bool fu, .int .u32 su, .slice ca cn cc, .slice ka kn kc] 29)
  have HCA0 := Lib.hid (hc.ext D0.out)
  have HKA0 := Lib.hid (SAt.ext hk D0.out)
  have HCL := Lib.hid hcl
  have HKL := Lib.hid hkl
  have HCS := Lib.hid hcs
  have HKS := Lib.hid hks
  clear hc hk hcl hkl hcs hks
  go_enter Tryd.func19, Tryd.ntmps19
  go_upto_region 1 with (fail)
  obtain ⟨p, hp⟩ : ∃ p, w.heap.size = p := ⟨_, rfl⟩
  rw [hp] at HX0
  try rw [hp]
  clear hp
  generalize (w.alloc (.cells #[.int .i64 kd, .int .i64 op, .int .i64 st, .int .i64 cod, .int .i64 tag, .int .i64 n, .int .i64 sq, .string k1, .string k2, .bool fu, .int .u32 su, .slice ca cn cc, .slice ka kn kc] 29)) = w0 at *
  have hk := blk_cell HX0.out
  have hl := blk_lt HX0.out
  go_wp2_with fail
  refine (faultNew ⟨#[107, 105, 110, 100]⟩ 12 w0 (by decide)).mono ?_
  rintro e w1 ⟨e1, rfl, hf, hb⟩
  have HF := Lib.hid hf
  have DD := Lib.hid (ext_trans D0.out hb)
  clear hk hl hb hf
  go_wp2
  go_ret
  exact ⟨_, rfl, HF.out, DD.out⟩

set_option maxRecDepth 100000 in
set_option maxHeartbeats 4000000 in
theorem mailRightAsk (op st tag n sq : Int) (k1 k2 : ByteArray) (w : World) (hs0 : 0 ≤ st) (hs1 : st ≤ 255) (hq : -1 ≤ sq) (h1 : 1 ≤ op) (h2 : op < 5) (hn1 : NmOk k1) (hn2 : NmOk k2) :
    Calls Tryd.prog 19 #[.agg #[.int .i64 1, .int .i64 op, .int .i64 st, .int .i64 0, .int .i64 tag, .int .i64 n, .int .i64 sq, .string k1, .string k2, .bool false, .int .u32 0, .slice none 0 0, .slice none 0 0]] w fun r w' => r = .returned .nilIface ∧ Below w.heap.size w w' := by
  have hc : CAt w none [] := .inl rfl
  have hk : KyAt w none [] := .inl rfl
  have hcl : ([] : List Cd).length = 0 := rfl
  have hkl : ([] : List Ky).length = 0 := rfl
  have hcs : True := trivial
  have hks : True := trivial
  have d0 : decide (st < 0) = false := decide_eq_false (by omega)
  have d1 : decide (255 < st) = false := decide_eq_false (by omega)
  have d2 : decide (sq < -1) = false := decide_eq_false (by omega)
  have D0 := Lib.hid (show Below w.heap.size w (w.alloc (.cells #[.int .i64 1, .int .i64 op, .int .i64 st, .int .i64 0, .int .i64 tag, .int .i64 n, .int .i64 sq, .string k1, .string k2, .bool false, .int .u32 0, .slice none 0 0, .slice none 0 0] 29)) from (Below.refl _ _).alloc (Nat.le_refl _) _)
  have HX0 := Lib.hid (blk_new w #[.int .i64 1, .int .i64 op, .int .i64 st, .int .i64 0, .int .i64 tag, .int .i64 n, .int .i64 sq, .string k1, .string k2, .bool false, .int .u32 0, .slice none 0 0, .slice none 0 0] 29)
  have HCA0 := Lib.hid (hc.ext D0.out)
  have HKA0 := Lib.hid (SAt.ext hk D0.out)
  have HCL := Lib.hid hcl
  have HKL := Lib.hid hkl
  have HCS := Lib.hid hcs
  have HKS := Lib.hid hks
  clear hc hk hcl hkl hcs hks
  go_enter Tryd.func19, Tryd.ntmps19
  go_upto_region 1 with (fail)
  obtain ⟨p, hp⟩ : ∃ p, w.heap.size = p := ⟨_, rfl⟩
  rw [hp] at HX0
  try rw [hp]
  clear hp
  generalize (w.alloc (.cells #[.int .i64 1, .int .i64 op, .int .i64 st, .int .i64 0, .int .i64 tag, .int .i64 n, .int .i64 sq, .string k1, .string k2, .bool false, .int .u32 0, .slice none 0 0, .slice none 0 0] 29)) = w0 at *
  have hk := blk_cell HX0.out
  have hl := blk_lt HX0.out
  go_upto_region 3 with (fail)
  haveI hIq : Nonempty (Of w0) := of_some _
  have hG0 := blk_of HX0.out
  first | (refine wp_region_stay w0 (by kernel_rfl) (by kernel_rfl) (by go_grown) ?_) | (refine wp_region_stay_seq w0 (by go_grown) ?_)
  repeat (go_big_quiet_step (first | (go_at_call 38; with_reducible refine stay_call (mailWithout1 op st 0 tag n sq k1 k2 false 0 none 0 0 none 0 0 _)) | (go_at_call 16; with_reducible refine stay_bool (u := true) (mailSame0 1 none 0 0 none 0 0 _ (Nat.le_refl _) (by simp [maxLen]) (Nat.le_refl _) (by simp [maxLen])) (rfl))))
  refine wpQuiet_nil ?_
  intro w1 hb1
  clear hIq hG0
  have HX1 := Lib.hid (blk_ext hb1 HX0.out)
  have D1 := Lib.hid (ext_trans D0.out hb1)
  have HCA1 := Lib.hid (HCA0.out.ext hb1)
  have HKA1 := Lib.hid (SAt.ext HKA0.out hb1)
  clear hk hl hb1 HX0 D0 HCA0 HKA0
  have hk := blk_cell HX1.out
  have hl := blk_lt HX1.out
  go_wp2_with fail
  refine (opRightKey 1 op st 0 tag n sq k1 k2 false 0 none 0 0 none 0 0 _ h1 h2 hn1 hn2).mono ?_
  rintro e w2 ⟨rfl, hb⟩
  have HX2 := Lib.hid (blk_ext hb HX1.out)
  have D2 := Lib.hid (ext_trans D1.out hb)
  have HCA2 := Lib.hid (HCA1.out.ext hb)
  have HKA2 := Lib.hid (SAt.ext HKA1.out hb)
  clear hk hl hb HX1 D1 HCA1 HKA1
  have hk := blk_cell HX2.out
  have hl := blk_lt HX2.out
  go_wp2_with fail
  refine (containsCards none 0 0 [] _ (.inl rfl) rfl (Nat.le_refl _) (by simp [maxLen]) (fun x hx => by cases hx)).mono ?_
  rintro e w3 ⟨rfl, hb⟩
  have HX3 := Lib.hid (blk_ext hb HX2.out)
  have D3 := Lib.hid (ext_trans D2.out hb)
  have HCA3 := Lib.hid (HCA2.out.ext hb)
  have HKA3 := Lib.hid (SAt.ext HKA2.out hb)
  clear hk hl hb HX2 D2 HCA2 HKA2
  have hk := blk_cell HX3.out
  have hl := blk_lt HX3.out
  go_wp2_with fail
  refine (containsKeys none 0 0 [] _ (.inl rfl) rfl (Nat.le_refl _) (by simp [maxLen]) (fun x hx => by cases hx)).mono ?_
  rintro e w4 ⟨rfl, hb⟩
  have HX4 := Lib.hid (blk_ext hb HX3.out)
  have D4 := Lib.hid (ext_trans D3.out hb)
  have HCA4 := Lib.hid (HCA3.out.ext hb)
  have HKA4 := Lib.hid (SAt.ext HKA3.out hb)
  clear hk hl hb HX3 D3 HCA3 HKA3
  have hk := blk_cell HX4.out
  have hl := blk_lt HX4.out
  go_wp2
  go_ret
  exact ⟨rfl, D4.out⟩

set_option maxRecDepth 100000 in
set_option maxHeartbeats 4000000 in
theorem mailRightAsk5 (st tag n sq : Int) (w : World) (hs0 : 0 ≤ st) (hs1 : st ≤ 255) (hq : -1 ≤ sq)  :
    Calls Tryd.prog 19 #[.agg #[.int .i64 1, .int .i64 5, .int .i64 st, .int .i64 0, .int .i64 tag, .int .i64 n, .int .i64 sq, .string ⟨#[]⟩, .string ⟨#[]⟩, .bool false, .int .u32 0, .slice none 0 0, .slice none 0 0]] w fun r w' => r = .returned .nilIface ∧ Below w.heap.size w w' := by
  have hc : CAt w none [] := .inl rfl
  have hk : KyAt w none [] := .inl rfl
  have hcl : ([] : List Cd).length = 0 := rfl
  have hkl : ([] : List Ky).length = 0 := rfl
  have hcs : True := trivial
  have hks : True := trivial
  have d0 : decide (st < 0) = false := decide_eq_false (by omega)
  have d1 : decide (255 < st) = false := decide_eq_false (by omega)
  have d2 : decide (sq < -1) = false := decide_eq_false (by omega)
  have D0 := Lib.hid (show Below w.heap.size w (w.alloc (.cells #[.int .i64 1, .int .i64 5, .int .i64 st, .int .i64 0, .int .i64 tag, .int .i64 n, .int .i64 sq, .string ⟨#[]⟩, .string ⟨#[]⟩, .bool false, .int .u32 0, .slice none 0 0, .slice none 0 0] 29)) from (Below.refl _ _).alloc (Nat.le_refl _) _)
  have HX0 := Lib.hid (blk_new w #[.int .i64 1, .int .i64 5, .int .i64 st, .int .i64 0, .int .i64 tag, .int .i64 n, .int .i64 sq, .string ⟨#[]⟩, .string ⟨#[]⟩, .bool false, .int .u32 0, .slice none 0 0, .slice none 0 0] 29)
  have HCA0 := Lib.hid (hc.ext D0.out)
  have HKA0 := Lib.hid (SAt.ext hk D0.out)
  have HCL := Lib.hid hcl
  have HKL := Lib.hid hkl
  have HCS := Lib.hid hcs
  have HKS := Lib.hid hks
  clear hc hk hcl hkl hcs hks
  go_enter Tryd.func19, Tryd.ntmps19
  go_upto_region 1 with (fail)
  obtain ⟨p, hp⟩ : ∃ p, w.heap.size = p := ⟨_, rfl⟩
  rw [hp] at HX0
  try rw [hp]
  clear hp
  generalize (w.alloc (.cells #[.int .i64 1, .int .i64 5, .int .i64 st, .int .i64 0, .int .i64 tag, .int .i64 n, .int .i64 sq, .string ⟨#[]⟩, .string ⟨#[]⟩, .bool false, .int .u32 0, .slice none 0 0, .slice none 0 0] 29)) = w0 at *
  have hk := blk_cell HX0.out
  have hl := blk_lt HX0.out
  go_upto_region 3 with (fail)
  haveI hIq : Nonempty (Of w0) := of_some _
  have hG0 := blk_of HX0.out
  first | (refine wp_region_stay w0 (by kernel_rfl) (by kernel_rfl) (by go_grown) ?_) | (refine wp_region_stay_seq w0 (by go_grown) ?_)
  repeat (go_big_quiet_step (first | (go_at_call 38; with_reducible refine stay_call (mailWithout1 5 st 0 tag n sq ⟨#[]⟩ ⟨#[]⟩ false 0 none 0 0 none 0 0 _)) | (go_at_call 16; with_reducible refine stay_bool (u := true) (mailSame0 1 none 0 0 none 0 0 _ (Nat.le_refl _) (by simp [maxLen]) (Nat.le_refl _) (by simp [maxLen])) (rfl))))
  refine wpQuiet_nil ?_
  intro w1 hb1
  clear hIq hG0
  have HX1 := Lib.hid (blk_ext hb1 HX0.out)
  have D1 := Lib.hid (ext_trans D0.out hb1)
  have HCA1 := Lib.hid (HCA0.out.ext hb1)
  have HKA1 := Lib.hid (SAt.ext HKA0.out hb1)
  clear hk hl hb1 HX0 D0 HCA0 HKA0
  have hk := blk_cell HX1.out
  have hl := blk_lt HX1.out
  go_wp2_with fail
  refine (opRightFetch 1 st 0 tag n sq false 0 none 0 0 none 0 0 _).mono ?_
  rintro e w2 ⟨rfl, hb⟩
  have HX2 := Lib.hid (blk_ext hb HX1.out)
  have D2 := Lib.hid (ext_trans D1.out hb)
  have HCA2 := Lib.hid (HCA1.out.ext hb)
  have HKA2 := Lib.hid (SAt.ext HKA1.out hb)
  clear hk hl hb HX1 D1 HCA1 HKA1
  have hk := blk_cell HX2.out
  have hl := blk_lt HX2.out
  go_wp2_with fail
  refine (containsCards none 0 0 [] _ (.inl rfl) rfl (Nat.le_refl _) (by simp [maxLen]) (fun x hx => by cases hx)).mono ?_
  rintro e w3 ⟨rfl, hb⟩
  have HX3 := Lib.hid (blk_ext hb HX2.out)
  have D3 := Lib.hid (ext_trans D2.out hb)
  have HCA3 := Lib.hid (HCA2.out.ext hb)
  have HKA3 := Lib.hid (SAt.ext HKA2.out hb)
  clear hk hl hb HX2 D2 HCA2 HKA2
  have hk := blk_cell HX3.out
  have hl := blk_lt HX3.out
  go_wp2_with fail
  refine (containsKeys none 0 0 [] _ (.inl rfl) rfl (Nat.le_refl _) (by simp [maxLen]) (fun x hx => by cases hx)).mono ?_
  rintro e w4 ⟨rfl, hb⟩
  have HX4 := Lib.hid (blk_ext hb HX3.out)
  have D4 := Lib.hid (ext_trans D3.out hb)
  have HCA4 := Lib.hid (HCA3.out.ext hb)
  have HKA4 := Lib.hid (SAt.ext HKA3.out hb)
  clear hk hl hb HX3 D3 HCA3 HKA3
  have hk := blk_cell HX4.out
  have hl := blk_lt HX4.out
  go_wp2
  go_ret
  exact ⟨rfl, D4.out⟩

set_option maxRecDepth 100000 in
set_option maxHeartbeats 4000000 in
theorem mailRightAns (op cod tag sq : Int) (k1 k2 : ByteArray) (fu : Bool) (su : Int) (ca : Option Addr) (cn cc : Nat) (cs : List Cd) (w : World) (hc : CAt w ca cs) (hcl : cs.length = cn) (hcc : cn ≤ cc) (hcm : cc ≤ maxLen) (hn64 : cn ≤ 64) (hcs : ∀ x ∈ cs, x.a.size ≤ maxLen ∧ x.i.size ≤ maxLen) (hr : ∀ x ∈ cs, cdRB x = true) (hd0 : 0 ≤ cod) (hd1 : cod ≤ 255) (hq : -1 ≤ sq) (h1 : 1 ≤ op) (h2 : op < 5) (hn1 : NmOk k1) (hn2 : NmOk k2) :
    Calls Tryd.prog 19 #[.agg #[.int .i64 2, .int .i64 op, .int .i64 0, .int .i64 cod, .int .i64 tag, .int .i64 0, .int .i64 sq, .string k1, .string k2, .bool fu, .int .u32 su, .slice ca cn cc, .slice none 0 0]] w fun r w' => r = .returned .nilIface ∧ Below w.heap.size w w' := by
  have hk : KyAt w none [] := .inl rfl
  have hkl : ([] : List Ky).length = 0 := rfl
  have hks : True := trivial
  have HR9 := Lib.hid hr
  clear hr
  have d0 : decide (cod < 0) = false := decide_eq_false (by omega)
  have d1 : decide (255 < cod) = false := decide_eq_false (by omega)
  have d2 : decide (sq < -1) = false := decide_eq_false (by omega)
  have d3 : decide (64 < (cn : Int)) = false := decide_eq_false (by omega)
  have d4 : decide (64 < cn) = false := decide_eq_false (by omega)
  have D0 := Lib.hid (show Below w.heap.size w (w.alloc (.cells #[.int .i64 2, .int .i64 op, .int .i64 0, .int .i64 cod, .int .i64 tag, .int .i64 0, .int .i64 sq, .string k1, .string k2, .bool fu, .int .u32 su, .slice ca cn cc, .slice none 0 0] 29)) from (Below.refl _ _).alloc (Nat.le_refl _) _)
  have HX0 := Lib.hid (blk_new w #[.int .i64 2, .int .i64 op, .int .i64 0, .int .i64 cod, .int .i64 tag, .int .i64 0, .int .i64 sq, .string k1, .string k2, .bool fu, .int .u32 su, .slice ca cn cc, .slice none 0 0] 29)
  have HCA0 := Lib.hid (hc.ext D0.out)
  have HKA0 := Lib.hid (SAt.ext hk D0.out)
  have HCL := Lib.hid hcl
  have HKL := Lib.hid hkl
  have HCS := Lib.hid hcs
  have HKS := Lib.hid hks
  clear hc hk hcl hkl hcs hks
  go_enter Tryd.func19, Tryd.ntmps19
  go_upto_region 1 with (fail)
  obtain ⟨p, hp⟩ : ∃ p, w.heap.size = p := ⟨_, rfl⟩
  rw [hp] at HX0
  try rw [hp]
  clear hp
  generalize (w.alloc (.cells #[.int .i64 2, .int .i64 op, .int .i64 0, .int .i64 cod, .int .i64 tag, .int .i64 0, .int .i64 sq, .string k1, .string k2, .bool fu, .int .u32 su, .slice ca cn cc, .slice none 0 0] 29)) = w0 at *
  have hk := blk_cell HX0.out
  have hl := blk_lt HX0.out
  go_upto_region 3 with (fail)
  haveI hIq : Nonempty (Of w0) := of_some _
  have hG0 := blk_of HX0.out
  first | (refine wp_region_stay w0 (by kernel_rfl) (by kernel_rfl) (by go_grown) ?_) | (refine wp_region_stay_seq w0 (by go_grown) ?_)
  repeat (go_big_quiet_step (first | (go_at_call 38; with_reducible refine stay_call (mailWithout2 op 0 cod tag 0 sq k1 k2 fu su ca cn cc none 0 0 _)) | (go_at_call 16; with_reducible refine stay_bool (u := true) (mailSame0 2 none 0 0 none 0 0 _ (Nat.le_refl _) (by simp [maxLen]) (Nat.le_refl _) (by simp [maxLen])) (rfl))))
  refine wpQuiet_nil ?_
  intro w1 hb1
  clear hIq hG0
  have HX1 := Lib.hid (blk_ext hb1 HX0.out)
  have D1 := Lib.hid (ext_trans D0.out hb1)
  have HCA1 := Lib.hid (HCA0.out.ext hb1)
  have HKA1 := Lib.hid (SAt.ext HKA0.out hb1)
  clear hk hl hb1 HX0 D0 HCA0 HKA0
  have hk := blk_cell HX1.out
  have hl := blk_lt HX1.out
  go_wp2_with fail
  refine (opRightKey 2 op 0 cod tag 0 sq k1 k2 fu su ca cn cc none 0 0 _ h1 h2 hn1 hn2).mono ?_
  rintro e w2 ⟨rfl, hb⟩
  have HX2 := Lib.hid (blk_ext hb HX1.out)
  have D2 := Lib.hid (ext_trans D1.out hb)
  have HCA2 := Lib.hid (HCA1.out.ext hb)
  have HKA2 := Lib.hid (SAt.ext HKA1.out hb)
  clear hk hl hb HX1 D1 HCA1 HKA1
  have hk := blk_cell HX2.out
  have hl := blk_lt HX2.out
  go_wp2_with fail
  refine (containsCards ca cn cc cs _ HCA2.out HCL.out hcc hcm HCS.out).mono ?_
  rintro e w3 ⟨rfl, hb⟩
  rw [any_no HR9.out]
  have HX3 := Lib.hid (blk_ext hb HX2.out)
  have D3 := Lib.hid (ext_trans D2.out hb)
  have HCA3 := Lib.hid (HCA2.out.ext hb)
  have HKA3 := Lib.hid (SAt.ext HKA2.out hb)
  clear hk hl hb HX2 D2 HCA2 HKA2
  have hk := blk_cell HX3.out
  have hl := blk_lt HX3.out
  go_wp2_with fail
  refine (containsKeys none 0 0 [] _ (.inl rfl) rfl (Nat.le_refl _) (by simp [maxLen]) (fun x hx => by cases hx)).mono ?_
  rintro e w4 ⟨rfl, hb⟩
  have HX4 := Lib.hid (blk_ext hb HX3.out)
  have D4 := Lib.hid (ext_trans D3.out hb)
  have HCA4 := Lib.hid (HCA3.out.ext hb)
  have HKA4 := Lib.hid (SAt.ext HKA3.out hb)
  clear hk hl hb HX3 D3 HCA3 HKA3
  have hk := blk_cell HX4.out
  have hl := blk_lt HX4.out
  go_wp2
  go_ret
  exact ⟨rfl, D4.out⟩

set_option maxRecDepth 100000 in
set_option maxHeartbeats 4000000 in
theorem mailRightAns5 (cod tag sq : Int) (fu : Bool) (su : Int) (ca : Option Addr) (cn cc : Nat) (cs : List Cd) (w : World) (hc : CAt w ca cs) (hcl : cs.length = cn) (hcc : cn ≤ cc) (hcm : cc ≤ maxLen) (hn64 : cn ≤ 64) (hcs : ∀ x ∈ cs, x.a.size ≤ maxLen ∧ x.i.size ≤ maxLen) (hr : ∀ x ∈ cs, cdRB x = true) (hd0 : 0 ≤ cod) (hd1 : cod ≤ 255) (hq : -1 ≤ sq)  :
    Calls Tryd.prog 19 #[.agg #[.int .i64 2, .int .i64 5, .int .i64 0, .int .i64 cod, .int .i64 tag, .int .i64 0, .int .i64 sq, .string ⟨#[]⟩, .string ⟨#[]⟩, .bool fu, .int .u32 su, .slice ca cn cc, .slice none 0 0]] w fun r w' => r = .returned .nilIface ∧ Below w.heap.size w w' := by
  have hk : KyAt w none [] := .inl rfl
  have hkl : ([] : List Ky).length = 0 := rfl
  have hks : True := trivial
  have HR9 := Lib.hid hr
  clear hr
  have d0 : decide (cod < 0) = false := decide_eq_false (by omega)
  have d1 : decide (255 < cod) = false := decide_eq_false (by omega)
  have d2 : decide (sq < -1) = false := decide_eq_false (by omega)
  have d3 : decide (64 < (cn : Int)) = false := decide_eq_false (by omega)
  have d4 : decide (64 < cn) = false := decide_eq_false (by omega)
  have D0 := Lib.hid (show Below w.heap.size w (w.alloc (.cells #[.int .i64 2, .int .i64 5, .int .i64 0, .int .i64 cod, .int .i64 tag, .int .i64 0, .int .i64 sq, .string ⟨#[]⟩, .string ⟨#[]⟩, .bool fu, .int .u32 su, .slice ca cn cc, .slice none 0 0] 29)) from (Below.refl _ _).alloc (Nat.le_refl _) _)
  have HX0 := Lib.hid (blk_new w #[.int .i64 2, .int .i64 5, .int .i64 0, .int .i64 cod, .int .i64 tag, .int .i64 0, .int .i64 sq, .string ⟨#[]⟩, .string ⟨#[]⟩, .bool fu, .int .u32 su, .slice ca cn cc, .slice none 0 0] 29)
  have HCA0 := Lib.hid (hc.ext D0.out)
  have HKA0 := Lib.hid (SAt.ext hk D0.out)
  have HCL := Lib.hid hcl
  have HKL := Lib.hid hkl
  have HCS := Lib.hid hcs
  have HKS := Lib.hid hks
  clear hc hk hcl hkl hcs hks
  go_enter Tryd.func19, Tryd.ntmps19
  go_upto_region 1 with (fail)
  obtain ⟨p, hp⟩ : ∃ p, w.heap.size = p := ⟨_, rfl⟩
  rw [hp] at HX0
  try rw [hp]
  clear hp
  generalize (w.alloc (.cells #[.int .i64 2, .int .i64 5, .int .i64 0, .int .i64 cod, .int .i64 tag, .int .i64 0, .int .i64 sq, .string ⟨#[]⟩, .string ⟨#[]⟩, .bool fu, .int .u32 su, .slice ca cn cc, .slice none 0 0] 29)) = w0 at *
  have hk := blk_cell HX0.out
  have hl := blk_lt HX0.out
  go_upto_region 3 with (fail)
  haveI hIq : Nonempty (Of w0) := of_some _
  have hG0 := blk_of HX0.out
  first | (refine wp_region_stay w0 (by kernel_rfl) (by kernel_rfl) (by go_grown) ?_) | (refine wp_region_stay_seq w0 (by go_grown) ?_)
  repeat (go_big_quiet_step (first | (go_at_call 38; with_reducible refine stay_call (mailWithout2 5 0 cod tag 0 sq ⟨#[]⟩ ⟨#[]⟩ fu su ca cn cc none 0 0 _)) | (go_at_call 16; with_reducible refine stay_bool (u := true) (mailSame0 2 none 0 0 none 0 0 _ (Nat.le_refl _) (by simp [maxLen]) (Nat.le_refl _) (by simp [maxLen])) (rfl))))
  refine wpQuiet_nil ?_
  intro w1 hb1
  clear hIq hG0
  have HX1 := Lib.hid (blk_ext hb1 HX0.out)
  have D1 := Lib.hid (ext_trans D0.out hb1)
  have HCA1 := Lib.hid (HCA0.out.ext hb1)
  have HKA1 := Lib.hid (SAt.ext HKA0.out hb1)
  clear hk hl hb1 HX0 D0 HCA0 HKA0
  have hk := blk_cell HX1.out
  have hl := blk_lt HX1.out
  go_wp2_with fail
  refine (opRightFetch 2 0 cod tag 0 sq fu su ca cn cc none 0 0 _).mono ?_
  rintro e w2 ⟨rfl, hb⟩
  have HX2 := Lib.hid (blk_ext hb HX1.out)
  have D2 := Lib.hid (ext_trans D1.out hb)
  have HCA2 := Lib.hid (HCA1.out.ext hb)
  have HKA2 := Lib.hid (SAt.ext HKA1.out hb)
  clear hk hl hb HX1 D1 HCA1 HKA1
  have hk := blk_cell HX2.out
  have hl := blk_lt HX2.out
  go_wp2_with fail
  refine (containsCards ca cn cc cs _ HCA2.out HCL.out hcc hcm HCS.out).mono ?_
  rintro e w3 ⟨rfl, hb⟩
  rw [any_no HR9.out]
  have HX3 := Lib.hid (blk_ext hb HX2.out)
  have D3 := Lib.hid (ext_trans D2.out hb)
  have HCA3 := Lib.hid (HCA2.out.ext hb)
  have HKA3 := Lib.hid (SAt.ext HKA2.out hb)
  clear hk hl hb HX2 D2 HCA2 HKA2
  have hk := blk_cell HX3.out
  have hl := blk_lt HX3.out
  go_wp2_with fail
  refine (containsKeys none 0 0 [] _ (.inl rfl) rfl (Nat.le_refl _) (by simp [maxLen]) (fun x hx => by cases hx)).mono ?_
  rintro e w4 ⟨rfl, hb⟩
  have HX4 := Lib.hid (blk_ext hb HX3.out)
  have D4 := Lib.hid (ext_trans D3.out hb)
  have HCA4 := Lib.hid (HCA3.out.ext hb)
  have HKA4 := Lib.hid (SAt.ext HKA3.out hb)
  clear hk hl hb HX3 D3 HCA3 HKA3
  have hk := blk_cell HX4.out
  have hl := blk_lt HX4.out
  go_wp2
  go_ret
  exact ⟨rfl, D4.out⟩

set_option maxRecDepth 100000 in
set_option maxHeartbeats 4000000 in
theorem mailRightCards3 (ca : Option Addr) (cn cc : Nat) (cs : List Cd) (w : World) (hc : CAt w ca cs) (hcl : cs.length = cn) (hcc : cn ≤ cc) (hcm : cc ≤ maxLen) (hn64 : cn ≤ 64) (hcs : ∀ x ∈ cs, x.a.size ≤ maxLen ∧ x.i.size ≤ maxLen) (hr : cs.any (fun x => !(cdRB x)) = false) :
    Calls Tryd.prog 19 #[.agg #[.int .i64 3, .int .i64 0, .int .i64 0, .int .i64 0, .int .i64 0, .int .i64 0, .int .i64 0, .string ⟨#[]⟩, .string ⟨#[]⟩, .bool false, .int .u32 0, .slice ca cn cc, .slice none 0 0]] w fun r w' => r = .returned .nilIface ∧ Below w.heap.size w w' := by
  have hk : KyAt w none [] := .inl rfl
  have hkl : ([] : List Ky).length = 0 := rfl
  have hks : True := trivial
  have HR9 := Lib.hid (show cs.any (fun x => !(cdRB x)) = false from hr)
  clear hr
  have d0 : decide (64 < (cn : Int)) = false := decide_eq_false (by omega)
  have d1 : decide (64 < cn) = false := decide_eq_false (by omega)
  have D0 := Lib.hid (show Below w.heap.size w (w.alloc (.cells #[.int .i64 3, .int .i64 0, .int .i64 0, .int .i64 0, .int .i64 0, .int .i64 0, .int .i64 0, .string ⟨#[]⟩, .string ⟨#[]⟩, .bool false, .int .u32 0, .slice ca cn cc, .slice none 0 0] 29)) from (Below.refl _ _).alloc (Nat.le_refl _) _)
  have HX0 := Lib.hid (blk_new w #[.int .i64 3, .int .i64 0, .int .i64 0, .int .i64 0, .int .i64 0, .int .i64 0, .int .i64 0, .string ⟨#[]⟩, .string ⟨#[]⟩, .bool false, .int .u32 0, .slice ca cn cc, .slice none 0 0] 29)
  have HCA0 := Lib.hid (hc.ext D0.out)
  have HKA0 := Lib.hid (SAt.ext hk D0.out)
  have HCL := Lib.hid hcl
  have HKL := Lib.hid hkl
  have HCS := Lib.hid hcs
  have HKS := Lib.hid hks
  clear hc hk hcl hkl hcs hks
  go_enter Tryd.func19, Tryd.ntmps19
  go_upto_region 1 with (fail)
  obtain ⟨p, hp⟩ : ∃ p, w.heap.size = p := ⟨_, rfl⟩
  rw [hp] at HX0
  try rw [hp]
  clear hp
  generalize (w.alloc (.cells #[.int .i64 3, .int .i64 0, .int .i64 0, .int .i64 0, .int .i64 0, .int .i64 0, .int .i64 0, .string ⟨#[]⟩, .string ⟨#[]⟩, .bool false, .int .u32 0, .slice ca cn cc, .slice none 0 0] 29)) = w0 at *
  have hk := blk_cell HX0.out
  have hl := blk_lt HX0.out
  go_upto_region 3 with (fail)
  haveI hIq : Nonempty (Of w0) := of_some _
  have hG0 := blk_of HX0.out
  first | (refine wp_region_stay w0 (by kernel_rfl) (by kernel_rfl) (by go_grown) ?_) | (refine wp_region_stay_seq w0 (by go_grown) ?_)
  repeat (go_big_quiet_step (first | (go_at_call 38; with_reducible refine stay_call (mailWithout3 0 0 0 0 0 0 ⟨#[]⟩ ⟨#[]⟩ false 0 ca cn cc none 0 0 _)) | (go_at_call 16; with_reducible refine stay_bool (u := true) (mailSame0 3 none 0 0 none 0 0 _ (Nat.le_refl _) (by simp [maxLen]) (Nat.le_refl _) (by simp [maxLen])) (rfl))))
  refine wpQuiet_nil ?_
  intro w1 hb1
  clear hIq hG0
  have HX1 := Lib.hid (blk_ext hb1 HX0.out)
  have D1 := Lib.hid (ext_trans D0.out hb1)
  have HCA1 := Lib.hid (HCA0.out.ext hb1)
  have HKA1 := Lib.hid (SAt.ext HKA0.out hb1)
  clear hk hl hb1 HX0 D0 HCA0 HKA0
  have hk := blk_cell HX1.out
  have hl := blk_lt HX1.out
  go_wp2_with fail
  refine (containsCards ca cn cc cs _ HCA1.out HCL.out hcc hcm HCS.out).mono ?_
  rintro e w2 ⟨rfl, hb⟩
  rw [HR9.out]
  have HX2 := Lib.hid (blk_ext hb HX1.out)
  have D2 := Lib.hid (ext_trans D1.out hb)
  have HCA2 := Lib.hid (HCA1.out.ext hb)
  have HKA2 := Lib.hid (SAt.ext HKA1.out hb)
  clear hk hl hb HX1 D1 HCA1 HKA1
  have hk := blk_cell HX2.out
  have hl := blk_lt HX2.out
  go_wp2_with fail
  refine (containsKeys none 0 0 [] _ (.inl rfl) rfl (Nat.le_refl _) (by simp [maxLen]) (fun x hx => by cases hx)).mono ?_
  rintro e w3 ⟨rfl, hb⟩
  have HX3 := Lib.hid (blk_ext hb HX2.out)
  have D3 := Lib.hid (ext_trans D2.out hb)
  have HCA3 := Lib.hid (HCA2.out.ext hb)
  have HKA3 := Lib.hid (SAt.ext HKA2.out hb)
  clear hk hl hb HX2 D2 HCA2 HKA2
  have hk := blk_cell HX3.out
  have hl := blk_lt HX3.out
  go_wp2
  go_ret
  exact ⟨rfl, D3.out⟩

set_option maxRecDepth 100000 in
set_option maxHeartbeats 4000000 in
theorem mailRightCards3No (ca : Option Addr) (cn cc : Nat) (cs : List Cd) (w : World) (hc : CAt w ca cs) (hcl : cs.length = cn) (hcc : cn ≤ cc) (hcm : cc ≤ maxLen) (hn64 : cn ≤ 64) (hcs : ∀ x ∈ cs, x.a.size ≤ maxLen ∧ x.i.size ≤ maxLen) (hr : cs.any (fun x => !(cdRB x)) = true) :
    Calls Tryd.prog 19 #[.agg #[.int .i64 3, .int .i64 0, .int .i64 0, .int .i64 0, .int .i64 0, .int .i64 0, .int .i64 0, .string ⟨#[]⟩, .string ⟨#[]⟩, .bool false, .int .u32 0, .slice ca cn cc, .slice none 0 0]] w fun r w' => ∃ e', r = .returned e' ∧ FC w' (.iface 43 (.int .i64 1)) [⟨#[99, 97, 114, 100]⟩] e' ∧ Below w.heap.size w w' := by
  have hk : KyAt w none [] := .inl rfl
  have hkl : ([] : List Ky).length = 0 := rfl
  have hks : True := trivial
  have HR9 := Lib.hid (show cs.any (fun x => !(cdRB x)) = true from hr)
  clear hr
  have d0 : decide (64 < (cn : Int)) = false := decide_eq_false (by omega)
  have d1 : decide (64 < cn) = false := decide_eq_false (by omega)
  have D0 := Lib.hid (show Below w.heap.size w (w.alloc (.cells #[.int .i64 3, .int .i64 0, .int .i64 0, .int .i64 0, .int .i64 0, .int .i64 0, .int .i64 0, .string ⟨#[]⟩, .string ⟨#[]⟩, .bool false, .int .u32 0, .slice ca cn cc, .slice none 0 0] 29)) from (Below.refl _ _).alloc (Nat.le_refl _) _)
  have HX0 := Lib.hid (blk_new w #[.int .i64 3, .int .i64 0, .int .i64 0, .int .i64 0, .int .i64 0, .int .i64 0, .int .i64 0, .string ⟨#[]⟩, .string ⟨#[]⟩, .bool false, .int .u32 0, .slice ca cn cc, .slice none 0 0] 29)
  have HCA0 := Lib.hid (hc.ext D0.out)
  have HKA0 := Lib.hid (SAt.ext hk D0.out)
  have HCL := Lib.hid hcl
  have HKL := Lib.hid hkl
  have HCS := Lib.hid hcs
  have HKS := Lib.hid hks
  clear hc hk hcl hkl hcs hks
  go_enter Tryd.func19, Tryd.ntmps19
  go_upto_region 1 with (fail)
  obtain ⟨p, hp⟩ : ∃ p, w.heap.size = p := ⟨_, rfl⟩
  rw [hp] at HX0
  try rw [hp]
  clear hp
  generalize (w.alloc (.cells #[.int .i64 3, .int .i64 0, .int .i64 0, .int .i64 0, .int .i64 0, .int .i64 0, .int .i64 0, .string ⟨#[]⟩, .string ⟨#[]⟩, .bool false, .int .u32 0, .slice ca cn cc, .slice none 0 0] 29)) = w0 at *
  have hk := blk_cell HX0.out
  have hl := blk_lt HX0.out
  go_upto_region 3 with (fail)
  haveI hIq : Nonempty (Of w0) := of_some _
  have hG0 := blk_of HX0.out
  first | (refine wp_region_stay w0 (by kernel_rfl) (by kernel_rfl) (by go_grown) ?_) | (refine wp_region_stay_seq w0 (by go_grown) ?_)
  repeat (go_big_quiet_step (first | (go_at_call 38; with_reducible refine stay_call (mailWithout3 0 0 0 0 0 0 ⟨#[]⟩ ⟨#[]⟩ false 0 ca cn cc none 0 0 _)) | (go_at_call 16; with_reducible refine stay_bool (u := true) (mailSame0 3 none 0 0 none 0 0 _ (Nat.le_refl _) (by simp [maxLen]) (Nat.le_refl _) (by simp [maxLen])) (rfl))))
  refine wpQuiet_nil ?_
  intro w1 hb1
  clear hIq hG0
  have HX1 := Lib.hid (blk_ext hb1 HX0.out)
  have D1 := Lib.hid (ext_trans D0.out hb1)
  have HCA1 := Lib.hid (HCA0.out.ext hb1)
  have HKA1 := Lib.hid (SAt.ext HKA0.out hb1)
  clear hk hl hb1 HX0 D0 HCA0 HKA0
  have hk := blk_cell HX1.out
  have hl := blk_lt HX1.out
  go_wp2_with fail
  refine (containsCards ca cn cc cs _ HCA1.out HCL.out hcc hcm HCS.out).mono ?_
  rintro e w2 ⟨rfl, hb⟩
  rw [HR9.out]
  have HX2 := Lib.hid (blk_ext hb HX1.out)
  have D2 := Lib.hid (ext_trans D1.out hb)
  have HCA2 := Lib.hid (HCA1.out.ext hb)
  have HKA2 := Lib.hid (SAt.ext HKA1.out hb)
  clear hk hl hb HX1 D1 HCA1 HKA1
  have hk := blk_cell HX2.out
  have hl := blk_lt HX2.out
  go_wp2_with fail
  refine (faultNew ⟨#[99, 97, 114, 100]⟩ 1 w2 (by decide)).mono ?_
  rintro e w3 ⟨e1, rfl, hf, hb⟩
  have HF := Lib.hid hf
  have DD := Lib.hid (ext_trans D2.out hb)
  clear hk hl hb hf
  go_wp2
  go_ret
  exact ⟨_, rfl, HF.out, DD.out⟩

set_option maxRecDepth 100000 in
set_option maxHeartbeats 4000000 in
theorem mailRightCards4 (ca : Option Addr) (cn cc : Nat) (cs : List Cd) (w : World) (hc : CAt w ca cs) (hcl : cs.length = cn) (hcc : cn ≤ cc) (hcm : cc ≤ maxLen) (hn64 : cn ≤ 64) (hcs : ∀ x ∈ cs, x.a.size ≤ maxLen ∧ x.i.size ≤ maxLen) (hr : cs.any (fun x => !(cdRB x)) = false) :
    Calls Tryd.prog 19 #[.agg #[.int .i64 4, .int .i64 0, .int .i64 0, .int .i64 0, .int .i64 0, .int .i64 0, .int .i64 0, .string ⟨#[]⟩, .string ⟨#[]⟩, .bool false, .int .u32 0, .slice ca cn cc, .slice none 0 0]] w fun r w' => r = .returned .nilIface ∧ Below w.heap.size w w' := by
  have hk : KyAt w none [] := .inl rfl
  have hkl : ([] : List Ky).length = 0 := rfl
  have hks : True := trivial
  have HR9 := Lib.hid (show cs.any (fun x => !(cdRB x)) = false from hr)
  clear hr
  have d0 : decide (64 < (cn : Int)) = false := decide_eq_false (by omega)
  have d1 : decide (64 < cn) = false := decide_eq_false (by omega)
  have D0 := Lib.hid (show Below w.heap.size w (w.alloc (.cells #[.int .i64 4, .int .i64 0, .int .i64 0, .int .i64 0, .int .i64 0, .int .i64 0, .int .i64 0, .string ⟨#[]⟩, .string ⟨#[]⟩, .bool false, .int .u32 0, .slice ca cn cc, .slice none 0 0] 29)) from (Below.refl _ _).alloc (Nat.le_refl _) _)
  have HX0 := Lib.hid (blk_new w #[.int .i64 4, .int .i64 0, .int .i64 0, .int .i64 0, .int .i64 0, .int .i64 0, .int .i64 0, .string ⟨#[]⟩, .string ⟨#[]⟩, .bool false, .int .u32 0, .slice ca cn cc, .slice none 0 0] 29)
  have HCA0 := Lib.hid (hc.ext D0.out)
  have HKA0 := Lib.hid (SAt.ext hk D0.out)
  have HCL := Lib.hid hcl
  have HKL := Lib.hid hkl
  have HCS := Lib.hid hcs
  have HKS := Lib.hid hks
  clear hc hk hcl hkl hcs hks
  go_enter Tryd.func19, Tryd.ntmps19
  go_upto_region 1 with (fail)
  obtain ⟨p, hp⟩ : ∃ p, w.heap.size = p := ⟨_, rfl⟩
  rw [hp] at HX0
  try rw [hp]
  clear hp
  generalize (w.alloc (.cells #[.int .i64 4, .int .i64 0, .int .i64 0, .int .i64 0, .int .i64 0, .int .i64 0, .int .i64 0, .string ⟨#[]⟩, .string ⟨#[]⟩, .bool false, .int .u32 0, .slice ca cn cc, .slice none 0 0] 29)) = w0 at *
  have hk := blk_cell HX0.out
  have hl := blk_lt HX0.out
  go_upto_region 3 with (fail)
  haveI hIq : Nonempty (Of w0) := of_some _
  have hG0 := blk_of HX0.out
  first | (refine wp_region_stay w0 (by kernel_rfl) (by kernel_rfl) (by go_grown) ?_) | (refine wp_region_stay_seq w0 (by go_grown) ?_)
  repeat (go_big_quiet_step (first | (go_at_call 38; with_reducible refine stay_call (mailWithout4 0 0 0 0 0 0 ⟨#[]⟩ ⟨#[]⟩ false 0 ca cn cc none 0 0 _)) | (go_at_call 16; with_reducible refine stay_bool (u := true) (mailSame0 4 none 0 0 none 0 0 _ (Nat.le_refl _) (by simp [maxLen]) (Nat.le_refl _) (by simp [maxLen])) (rfl))))
  refine wpQuiet_nil ?_
  intro w1 hb1
  clear hIq hG0
  have HX1 := Lib.hid (blk_ext hb1 HX0.out)
  have D1 := Lib.hid (ext_trans D0.out hb1)
  have HCA1 := Lib.hid (HCA0.out.ext hb1)
  have HKA1 := Lib.hid (SAt.ext HKA0.out hb1)
  clear hk hl hb1 HX0 D0 HCA0 HKA0
  have hk := blk_cell HX1.out
  have hl := blk_lt HX1.out
  go_wp2_with fail
  refine (containsCards ca cn cc cs _ HCA1.out HCL.out hcc hcm HCS.out).mono ?_
  rintro e w2 ⟨rfl, hb⟩
  rw [HR9.out]
  have HX2 := Lib.hid (blk_ext hb HX1.out)
  have D2 := Lib.hid (ext_trans D1.out hb)
  have HCA2 := Lib.hid (HCA1.out.ext hb)
  have HKA2 := Lib.hid (SAt.ext HKA1.out hb)
  clear hk hl hb HX1 D1 HCA1 HKA1
  have hk := blk_cell HX2.out
  have hl := blk_lt HX2.out
  go_wp2_with fail
  refine (containsKeys none 0 0 [] _ (.inl rfl) rfl (Nat.le_refl _) (by simp [maxLen]) (fun x hx => by cases hx)).mono ?_
  rintro e w3 ⟨rfl, hb⟩
  have HX3 := Lib.hid (blk_ext hb HX2.out)
  have D3 := Lib.hid (ext_trans D2.out hb)
  have HCA3 := Lib.hid (HCA2.out.ext hb)
  have HKA3 := Lib.hid (SAt.ext HKA2.out hb)
  clear hk hl hb HX2 D2 HCA2 HKA2
  have hk := blk_cell HX3.out
  have hl := blk_lt HX3.out
  go_wp2
  go_ret
  exact ⟨rfl, D3.out⟩

set_option maxRecDepth 100000 in
set_option maxHeartbeats 4000000 in
theorem mailRightCards4No (ca : Option Addr) (cn cc : Nat) (cs : List Cd) (w : World) (hc : CAt w ca cs) (hcl : cs.length = cn) (hcc : cn ≤ cc) (hcm : cc ≤ maxLen) (hn64 : cn ≤ 64) (hcs : ∀ x ∈ cs, x.a.size ≤ maxLen ∧ x.i.size ≤ maxLen) (hr : cs.any (fun x => !(cdRB x)) = true) :
    Calls Tryd.prog 19 #[.agg #[.int .i64 4, .int .i64 0, .int .i64 0, .int .i64 0, .int .i64 0, .int .i64 0, .int .i64 0, .string ⟨#[]⟩, .string ⟨#[]⟩, .bool false, .int .u32 0, .slice ca cn cc, .slice none 0 0]] w fun r w' => ∃ e', r = .returned e' ∧ FC w' (.iface 43 (.int .i64 1)) [⟨#[99, 97, 114, 100]⟩] e' ∧ Below w.heap.size w w' := by
  have hk : KyAt w none [] := .inl rfl
  have hkl : ([] : List Ky).length = 0 := rfl
  have hks : True := trivial
  have HR9 := Lib.hid (show cs.any (fun x => !(cdRB x)) = true from hr)
  clear hr
  have d0 : decide (64 < (cn : Int)) = false := decide_eq_false (by omega)
  have d1 : decide (64 < cn) = false := decide_eq_false (by omega)
  have D0 := Lib.hid (show Below w.heap.size w (w.alloc (.cells #[.int .i64 4, .int .i64 0, .int .i64 0, .int .i64 0, .int .i64 0, .int .i64 0, .int .i64 0, .string ⟨#[]⟩, .string ⟨#[]⟩, .bool false, .int .u32 0, .slice ca cn cc, .slice none 0 0] 29)) from (Below.refl _ _).alloc (Nat.le_refl _) _)
  have HX0 := Lib.hid (blk_new w #[.int .i64 4, .int .i64 0, .int .i64 0, .int .i64 0, .int .i64 0, .int .i64 0, .int .i64 0, .string ⟨#[]⟩, .string ⟨#[]⟩, .bool false, .int .u32 0, .slice ca cn cc, .slice none 0 0] 29)
  have HCA0 := Lib.hid (hc.ext D0.out)
  have HKA0 := Lib.hid (SAt.ext hk D0.out)
  have HCL := Lib.hid hcl
  have HKL := Lib.hid hkl
  have HCS := Lib.hid hcs
  have HKS := Lib.hid hks
  clear hc hk hcl hkl hcs hks
  go_enter Tryd.func19, Tryd.ntmps19
  go_upto_region 1 with (fail)
  obtain ⟨p, hp⟩ : ∃ p, w.heap.size = p := ⟨_, rfl⟩
  rw [hp] at HX0
  try rw [hp]
  clear hp
  generalize (w.alloc (.cells #[.int .i64 4, .int .i64 0, .int .i64 0, .int .i64 0, .int .i64 0, .int .i64 0, .int .i64 0, .string ⟨#[]⟩, .string ⟨#[]⟩, .bool false, .int .u32 0, .slice ca cn cc, .slice none 0 0] 29)) = w0 at *
  have hk := blk_cell HX0.out
  have hl := blk_lt HX0.out
  go_upto_region 3 with (fail)
  haveI hIq : Nonempty (Of w0) := of_some _
  have hG0 := blk_of HX0.out
  first | (refine wp_region_stay w0 (by kernel_rfl) (by kernel_rfl) (by go_grown) ?_) | (refine wp_region_stay_seq w0 (by go_grown) ?_)
  repeat (go_big_quiet_step (first | (go_at_call 38; with_reducible refine stay_call (mailWithout4 0 0 0 0 0 0 ⟨#[]⟩ ⟨#[]⟩ false 0 ca cn cc none 0 0 _)) | (go_at_call 16; with_reducible refine stay_bool (u := true) (mailSame0 4 none 0 0 none 0 0 _ (Nat.le_refl _) (by simp [maxLen]) (Nat.le_refl _) (by simp [maxLen])) (rfl))))
  refine wpQuiet_nil ?_
  intro w1 hb1
  clear hIq hG0
  have HX1 := Lib.hid (blk_ext hb1 HX0.out)
  have D1 := Lib.hid (ext_trans D0.out hb1)
  have HCA1 := Lib.hid (HCA0.out.ext hb1)
  have HKA1 := Lib.hid (SAt.ext HKA0.out hb1)
  clear hk hl hb1 HX0 D0 HCA0 HKA0
  have hk := blk_cell HX1.out
  have hl := blk_lt HX1.out
  go_wp2_with fail
  refine (containsCards ca cn cc cs _ HCA1.out HCL.out hcc hcm HCS.out).mono ?_
  rintro e w2 ⟨rfl, hb⟩
  rw [HR9.out]
  have HX2 := Lib.hid (blk_ext hb HX1.out)
  have D2 := Lib.hid (ext_trans D1.out hb)
  have HCA2 := Lib.hid (HCA1.out.ext hb)
  have HKA2 := Lib.hid (SAt.ext HKA1.out hb)
  clear hk hl hb HX1 D1 HCA1 HKA1
  have hk := blk_cell HX2.out
  have hl := blk_lt HX2.out
  go_wp2_with fail
  refine (faultNew ⟨#[99, 97, 114, 100]⟩ 1 w2 (by decide)).mono ?_
  rintro e w3 ⟨e1, rfl, hf, hb⟩
  have HF := Lib.hid hf
  have DD := Lib.hid (ext_trans D2.out hb)
  clear hk hl hb hf
  go_wp2
  go_ret
  exact ⟨_, rfl, HF.out, DD.out⟩

set_option maxRecDepth 100000 in
set_option maxHeartbeats 4000000 in
theorem mailRightPull (ka : Option Addr) (kn kc : Nat) (ks : List Ky) (w : World) (hk : KyAt w ka ks) (hkl : ks.length = kn) (hkc : kn ≤ kc) (hkm : kc ≤ maxLen) (hn64 : kn ≤ 64) (hks : ∀ x ∈ ks, x.1.size ≤ maxLen ∧ x.2.size ≤ maxLen) (hr : ks.any (fun x => !(kyB x)) = false) :
    Calls Tryd.prog 19 #[.agg #[.int .i64 5, .int .i64 0, .int .i64 0, .int .i64 0, .int .i64 0, .int .i64 0, .int .i64 0, .string ⟨#[]⟩, .string ⟨#[]⟩, .bool false, .int .u32 0, .slice none 0 0, .slice ka kn kc]] w fun r w' => r = .returned .nilIface ∧ Below w.heap.size w w' := by
  have hc : CAt w none [] := .inl rfl
  have hcl : ([] : List Cd).length = 0 := rfl
  have hcs : True := trivial
  have HR9 := Lib.hid (show ks.any (fun x => !(kyB x)) = false from hr)
  clear hr
  have d0 : decide (64 < (kn : Int)) = false := decide_eq_false (by omega)
  have d1 : decide (64 < kn) = false := decide_eq_false (by omega)
  have D0 := Lib.hid (show Below w.heap.size w (w.alloc (.cells #[.int .i64 5, .int .i64 0, .int .i64 0, .int .i64 0, .int .i64 0, .int .i64 0, .int .i64 0, .string ⟨#[]⟩, .string ⟨#[]⟩, .bool false, .int .u32 0, .slice none 0 0, .slice ka kn kc] 29)) from (Below.refl _ _).alloc (Nat.le_refl _) _)
  have HX0 := Lib.hid (blk_new w #[.int .i64 5, .int .i64 0, .int .i64 0, .int .i64 0, .int .i64 0, .int .i64 0, .int .i64 0, .string ⟨#[]⟩, .string ⟨#[]⟩, .bool false, .int .u32 0, .slice none 0 0, .slice ka kn kc] 29)
  have HCA0 := Lib.hid (hc.ext D0.out)
  have HKA0 := Lib.hid (SAt.ext hk D0.out)
  have HCL := Lib.hid hcl
  have HKL := Lib.hid hkl
  have HCS := Lib.hid hcs
  have HKS := Lib.hid hks
  clear hc hk hcl hkl hcs hks
  go_enter Tryd.func19, Tryd.ntmps19
  go_upto_region 1 with (fail)
  obtain ⟨p, hp⟩ : ∃ p, w.heap.size = p := ⟨_, rfl⟩
  rw [hp] at HX0
  try rw [hp]
  clear hp
  generalize (w.alloc (.cells #[.int .i64 5, .int .i64 0, .int .i64 0, .int .i64 0, .int .i64 0, .int .i64 0, .int .i64 0, .string ⟨#[]⟩, .string ⟨#[]⟩, .bool false, .int .u32 0, .slice none 0 0, .slice ka kn kc] 29)) = w0 at *
  have hk := blk_cell HX0.out
  have hl := blk_lt HX0.out
  go_upto_region 3 with (fail)
  haveI hIq : Nonempty (Of w0) := of_some _
  have hG0 := blk_of HX0.out
  first | (refine wp_region_stay w0 (by kernel_rfl) (by kernel_rfl) (by go_grown) ?_) | (refine wp_region_stay_seq w0 (by go_grown) ?_)
  repeat (go_big_quiet_step (first | (go_at_call 38; with_reducible refine stay_call (mailWithout5 0 0 0 0 0 0 ⟨#[]⟩ ⟨#[]⟩ false 0 none 0 0 ka kn kc _)) | (go_at_call 16; with_reducible refine stay_bool (u := true) (mailSame0 5 none 0 0 none 0 0 _ (Nat.le_refl _) (by simp [maxLen]) (Nat.le_refl _) (by simp [maxLen])) (rfl))))
  refine wpQuiet_nil ?_
  intro w1 hb1
  clear hIq hG0
  have HX1 := Lib.hid (blk_ext hb1 HX0.out)
  have D1 := Lib.hid (ext_trans D0.out hb1)
  have HCA1 := Lib.hid (HCA0.out.ext hb1)
  have HKA1 := Lib.hid (SAt.ext HKA0.out hb1)
  clear hk hl hb1 HX0 D0 HCA0 HKA0
  have hk := blk_cell HX1.out
  have hl := blk_lt HX1.out
  go_wp2_with fail
  refine (containsCards none 0 0 [] _ (.inl rfl) rfl (Nat.le_refl _) (by simp [maxLen]) (fun x hx => by cases hx)).mono ?_
  rintro e w2 ⟨rfl, hb⟩
  have HX2 := Lib.hid (blk_ext hb HX1.out)
  have D2 := Lib.hid (ext_trans D1.out hb)
  have HCA2 := Lib.hid (HCA1.out.ext hb)
  have HKA2 := Lib.hid (SAt.ext HKA1.out hb)
  clear hk hl hb HX1 D1 HCA1 HKA1
  have hk := blk_cell HX2.out
  have hl := blk_lt HX2.out
  go_wp2_with fail
  refine (containsKeys ka kn kc ks _ HKA2.out HKL.out hkc hkm HKS.out).mono ?_
  rintro e w3 ⟨rfl, hb⟩
  rw [HR9.out]
  have HX3 := Lib.hid (blk_ext hb HX2.out)
  have D3 := Lib.hid (ext_trans D2.out hb)
  have HCA3 := Lib.hid (HCA2.out.ext hb)
  have HKA3 := Lib.hid (SAt.ext HKA2.out hb)
  clear hk hl hb HX2 D2 HCA2 HKA2
  have hk := blk_cell HX3.out
  have hl := blk_lt HX3.out
  go_wp2
  go_ret
  exact ⟨rfl, D3.out⟩

set_option maxRecDepth 100000 in
set_option maxHeartbeats 4000000 in
theorem mailRightPullNo (ka : Option Addr) (kn kc : Nat) (ks : List Ky) (w : World) (hk : KyAt w ka ks) (hkl : ks.length = kn) (hkc : kn ≤ kc) (hkm : kc ≤ maxLen) (hn64 : kn ≤ 64) (hks : ∀ x ∈ ks, x.1.size ≤ maxLen ∧ x.2.size ≤ maxLen) (hr : ks.any (fun x => !(kyB x)) = true) :
    Calls Tryd.prog 19 #[.agg #[.int .i64 5, .int .i64 0, .int .i64 0, .int .i64 0, .int .i64 0, .int .i64 0, .int .i64 0, .string ⟨#[]⟩, .string ⟨#[]⟩, .bool false, .int .u32 0, .slice none 0 0, .slice ka kn kc]] w fun r w' => ∃ e', r = .returned e' ∧ FC w' (.iface 43 (.int .i64 1)) [⟨#[99, 97, 114, 100]⟩] e' ∧ Below w.heap.size w w' := by
  have hc : CAt w none [] := .inl rfl
  have hcl : ([] : List Cd).length = 0 := rfl
  have hcs : True := trivial
  have HR9 := Lib.hid (show ks.any (fun x => !(kyB x)) = true from hr)
  clear hr
  have d0 : decide (64 < (kn : Int)) = false := decide_eq_false (by omega)
  have d1 : decide (64 < kn) = false := decide_eq_false (by omega)
  have D0 := Lib.hid (show Below w.heap.size w (w.alloc (.cells #[.int .i64 5, .int .i64 0, .int .i64 0, .int .i64 0, .int .i64 0, .int .i64 0, .int .i64 0, .string ⟨#[]⟩, .string ⟨#[]⟩, .bool false, .int .u32 0, .slice none 0 0, .slice ka kn kc] 29)) from (Below.refl _ _).alloc (Nat.le_refl _) _)
  have HX0 := Lib.hid (blk_new w #[.int .i64 5, .int .i64 0, .int .i64 0, .int .i64 0, .int .i64 0, .int .i64 0, .int .i64 0, .string ⟨#[]⟩, .string ⟨#[]⟩, .bool false, .int .u32 0, .slice none 0 0, .slice ka kn kc] 29)
  have HCA0 := Lib.hid (hc.ext D0.out)
  have HKA0 := Lib.hid (SAt.ext hk D0.out)
  have HCL := Lib.hid hcl
  have HKL := Lib.hid hkl
  have HCS := Lib.hid hcs
  have HKS := Lib.hid hks
  clear hc hk hcl hkl hcs hks
  go_enter Tryd.func19, Tryd.ntmps19
  go_upto_region 1 with (fail)
  obtain ⟨p, hp⟩ : ∃ p, w.heap.size = p := ⟨_, rfl⟩
  rw [hp] at HX0
  try rw [hp]
  clear hp
  generalize (w.alloc (.cells #[.int .i64 5, .int .i64 0, .int .i64 0, .int .i64 0, .int .i64 0, .int .i64 0, .int .i64 0, .string ⟨#[]⟩, .string ⟨#[]⟩, .bool false, .int .u32 0, .slice none 0 0, .slice ka kn kc] 29)) = w0 at *
  have hk := blk_cell HX0.out
  have hl := blk_lt HX0.out
  go_upto_region 3 with (fail)
  haveI hIq : Nonempty (Of w0) := of_some _
  have hG0 := blk_of HX0.out
  first | (refine wp_region_stay w0 (by kernel_rfl) (by kernel_rfl) (by go_grown) ?_) | (refine wp_region_stay_seq w0 (by go_grown) ?_)
  repeat (go_big_quiet_step (first | (go_at_call 38; with_reducible refine stay_call (mailWithout5 0 0 0 0 0 0 ⟨#[]⟩ ⟨#[]⟩ false 0 none 0 0 ka kn kc _)) | (go_at_call 16; with_reducible refine stay_bool (u := true) (mailSame0 5 none 0 0 none 0 0 _ (Nat.le_refl _) (by simp [maxLen]) (Nat.le_refl _) (by simp [maxLen])) (rfl))))
  refine wpQuiet_nil ?_
  intro w1 hb1
  clear hIq hG0
  have HX1 := Lib.hid (blk_ext hb1 HX0.out)
  have D1 := Lib.hid (ext_trans D0.out hb1)
  have HCA1 := Lib.hid (HCA0.out.ext hb1)
  have HKA1 := Lib.hid (SAt.ext HKA0.out hb1)
  clear hk hl hb1 HX0 D0 HCA0 HKA0
  have hk := blk_cell HX1.out
  have hl := blk_lt HX1.out
  go_wp2_with fail
  refine (containsCards none 0 0 [] _ (.inl rfl) rfl (Nat.le_refl _) (by simp [maxLen]) (fun x hx => by cases hx)).mono ?_
  rintro e w2 ⟨rfl, hb⟩
  have HX2 := Lib.hid (blk_ext hb HX1.out)
  have D2 := Lib.hid (ext_trans D1.out hb)
  have HCA2 := Lib.hid (HCA1.out.ext hb)
  have HKA2 := Lib.hid (SAt.ext HKA1.out hb)
  clear hk hl hb HX1 D1 HCA1 HKA1
  have hk := blk_cell HX2.out
  have hl := blk_lt HX2.out
  go_wp2_with fail
  refine (containsKeys ka kn kc ks _ HKA2.out HKL.out hkc hkm HKS.out).mono ?_
  rintro e w3 ⟨rfl, hb⟩
  rw [HR9.out]
  have HX3 := Lib.hid (blk_ext hb HX2.out)
  have D3 := Lib.hid (ext_trans D2.out hb)
  have HCA3 := Lib.hid (HCA2.out.ext hb)
  have HKA3 := Lib.hid (SAt.ext HKA2.out hb)
  clear hk hl hb HX2 D2 HCA2 HKA2
  have hk := blk_cell HX3.out
  have hl := blk_lt HX3.out
  go_wp2_with fail
  refine (faultNew ⟨#[99, 97, 114, 100]⟩ 1 w3 (by decide)).mono ?_
  rintro e w4 ⟨e1, rfl, hf, hb⟩
  have HF := Lib.hid hf
  have DD := Lib.hid (ext_trans D3.out hb)
  clear hk hl hb hf
  go_wp2
  go_ret
  exact ⟨_, rfl, HF.out, DD.out⟩

set_option maxRecDepth 100000 in
set_option maxHeartbeats 4000000 in
theorem mailRightPullCards (ca : Option Addr) (cn cc : Nat) (cs : List Cd) (w : World) (hc : CAt w ca cs) (hcl : cs.length = cn) (hcc : cn ≤ cc) (hcm : cc ≤ maxLen) (hn0 : 0 < cn) (hcs : ∀ x ∈ cs, x.a.size ≤ maxLen ∧ x.i.size ≤ maxLen) :
    Calls Tryd.prog 19 #[.agg #[.int .i64 5, .int .i64 0, .int .i64 0, .int .i64 0, .int .i64 0, .int .i64 0, .int .i64 0, .string ⟨#[]⟩, .string ⟨#[]⟩, .bool false, .int .u32 0, .slice ca cn cc, .slice none 0 0]] w fun r w' => ∃ e', r = .returned e' ∧ FC w' (.iface 43 (.int .i64 12)) [⟨#[122, 101, 114, 111]⟩] e' ∧ Below w.heap.size w w' := by
  have hk : KyAt w none [] := .inl rfl
  have hkl : ([] : List Ky).length = 0 := rfl
  have hks : True := trivial
  have HZ := Lib.hid (show (decide (cn = 0) && decide (0 = 0)) = false from by simp; omega)
  have D0 := Lib.hid (show Below w.heap.size w (w.alloc (.cells #[.int .i64 5, .int .i64 0, .int .i64 0, .int .i64 0, .int .i64 0, .int .i64 0, .int .i64 0, .string ⟨#[]⟩, .string ⟨#[]⟩, .bool false, .int .u32 0, .slice ca cn cc, .slice none 0 0] 29)) from (Below.refl _ _).alloc (Nat.le_refl _) _)
  have HX0 := Lib.hid (blk_new w #[.int .i64 5, .int .i64 0, .int .i64 0, .int .i64 0, .int .i64 0, .int .i64 0, .int .i64 0, .string ⟨#[]⟩, .string ⟨#[]⟩, .bool false, .int .u32 0, .slice ca cn cc, .slice none 0 0] 29)
  have HCA0 := Lib.hid (hc.ext D0.out)
  have HKA0 := Lib.hid (SAt.ext hk D0.out)
  have HCL := Lib.hid hcl
  have HKL := Lib.hid hkl
  have HCS := Lib.hid hcs
  have HKS := Lib.hid hks
  clear hc hk hcl hkl hcs hks
  go_enter Tryd.func19, Tryd.ntmps19
  go_upto_region 1 with (fail)
  obtain ⟨p, hp⟩ : ∃ p, w.heap.size = p := ⟨_, rfl⟩
  rw [hp] at HX0
  try rw [hp]
  clear hp
  generalize (w.alloc (.cells #[.int .i64 5, .int .i64 0, .int .i64 0, .int .i64 0, .int .i64 0, .int .i64 0, .int .i64 0, .string ⟨#[]⟩, .string ⟨#[]⟩, .bool false, .int .u32 0, .slice ca cn cc, .slice none 0 0] 29)) = w0 at *
  have hk := blk_cell HX0.out
  have hl := blk_lt HX0.out
  go_upto_region 3 with (fail)
  haveI hIq : Nonempty (Of w0) := of_some _
  have hG0 := blk_of HX0.out
  first | (refine wp_region_stay w0 (by kernel_rfl) (by kernel_rfl) (by go_grown) ?_) | (refine wp_region_stay_seq w0 (by go_grown) ?_)
  repeat (go_big_quiet_step (first | (go_at_call 38; with_reducible refine stay_call (mailWithout5 0 0 0 0 0 0 ⟨#[]⟩ ⟨#[]⟩ false 0 ca cn cc none 0 0 _)) | (go_at_call 16; with_reducible refine stay_bool (u := false) (mailSame0 5 ca cn cc none 0 0 _ hcc hcm (Nat.le_refl _) (by simp [maxLen])) (HZ.out))))
  refine wpQuiet_nil ?_
  intro w1 hb1
  clear hIq hG0
  have HX1 := Lib.hid (blk_ext hb1 HX0.out)
  have D1 := Lib.hid (ext_trans D0.out hb1)
  have HCA1 := Lib.hid (HCA0.out.ext hb1)
  have HKA1 := Lib.hid (SAt.ext HKA0.out hb1)
  clear hk hl hb1 HX0 D0 HCA0 HKA0
  have hk := blk_cell HX1.out
  have hl := blk_lt HX1.out
  go_wp2_with fail
  refine (faultNew ⟨#[122, 101, 114, 111]⟩ 12 w1 (by decide)).mono ?_
  rintro e w2 ⟨e1, rfl, hf, hb⟩
  have HF := Lib.hid hf
  have DD := Lib.hid (ext_trans D1.out hb)
  clear hk hl hb hf
  go_wp2
  go_ret
  exact ⟨_, rfl, HF.out, DD.out⟩

end Go.Proofs.YtfdalmodnkkfiaaDoor
