/- Messages are read: Read; what an error tells. -/
import Derived.Test.YtfdalmodnkkfiaaDoorMlT1
import Derived.Test.YtfdalmodnkkfiaaDoorMlT2
import Derived.Test.YtfdalmodnkkfiaaDoorMlT3
import Derived.Test.YtfdalmodnkkfiaaDoorMlT4
import Derived.Test.YtfdalmodnkkfiaaDoorMlT5
import Derived.Test.YtfdalmodnkkfiaaDoorMlT0
namespace Go.Proofs.YtfdalmodnkkfiaaDoor
open Go.RowKit
set_option linter.unusedVariables false
set_option linter.unusedSimpArgs false

theorem mailTake (a : Option Addr) (n cap : Nat) (xs : List Int) (w : World) (h : BAt w a xs) (hl : xs.length = n) (hn : n ≤ 1000000) (hw : Wb xs) :
    Calls Tryd.prog 27 #[.slice a n cap] w fun r w' => ∃ M e', r = .returned (.tuple #[.agg M, e']) ∧ Below w.heap.size w w' ∧ ((rOk (rM ((xs, false), false)).2 = true ∧ ∃ ca cn cc ka kn kc, M = #[.int .i64 (rM ((xs, false), false)).1.kd, .int .i64 (rM ((xs, false), false)).1.op, .int .i64 (rM ((xs, false), false)).1.st, .int .i64 (rM ((xs, false), false)).1.cod, .int .i64 (rM ((xs, false), false)).1.tag, .int .i64 (rM ((xs, false), false)).1.n, .int .i64 (rM ((xs, false), false)).1.sq, .string (rM ((xs, false), false)).1.k.1, .string (rM ((xs, false), false)).1.k.2, .bool (rM ((xs, false), false)).1.fu, .int .u32 (rM ((xs, false), false)).1.su, .slice ca cn cc, .slice ka kn kc] ∧ e' = .nilIface ∧ MgMem w' (rM ((xs, false), false)).1 ca cn cc ka kn kc) ∨ (rOk (rM ((xs, false), false)).2 = false ∧ M = #[.int .i64 0, .int .i64 0, .int .i64 0, .int .i64 0, .int .i64 0, .int .i64 0, .int .i64 0, .string ⟨#[]⟩, .string ⟨#[]⟩, .bool false, .int .u32 0, .slice none 0 0, .slice none 0 0] ∧ FC w' (.iface 43 (.int .i64 12)) [⟨#[98, 121, 116, 101, 115]⟩] e')) := by
  obtain ⟨k, s, hks⟩ : ∃ k s, rB ((xs, false), false) = (k, s) := ⟨_, _, rfl⟩
  have hu : ∀ (P : Int → Prop), P k → ∀ kd s1, rB ((xs, false), false) = (kd, s1) → P kd := fun P hp kd s1 e => by rw [hks] at e; cases e; exact hp
  by_cases h1 : k = 1
  · exact mailTake1 a n cap xs w h hl hn hw (hu (· = 1) h1)
  by_cases h2 : k = 2
  · exact mailTake2 a n cap xs w h hl hn hw (hu (· = 2) h2)
  by_cases h3 : k = 3
  · exact mailTake3 a n cap xs w h hl hn hw (hu (· = 3) h3)
  by_cases h4 : k = 4
  · exact mailTake4 a n cap xs w h hl hn hw (hu (· = 4) h4)
  by_cases h5 : k = 5
  · exact mailTake5 a n cap xs w h hl hn hw (hu (· = 5) h5)
  · exact mailTake0 a n cap xs w h hl hn hw (hu (fun kd => ¬ kd = 1 ∧ ¬ kd = 2 ∧ ¬ kd = 3 ∧ ¬ kd = 4 ∧ ¬ kd = 5) ⟨h1, h2, h3, h4, h5⟩)
theorem MgMem.keptT {w w' : World} {m : Mg} {ca : Option Addr} {cn cc : Nat} {ka : Option Addr} {kn kc : Nat} {t : Nat} {cs : Array Value} (h : MgMem w m ca cn cc ka kn kc) (hx : w.heap[t]? = some (.cells cs 29 (0, 0))) (hk : Kept t w w') : MgMem w' m ca cn cc ka kn kc := by
  obtain ⟨h1, h2, h3, h4, h5, h6⟩ := h
  exact ⟨h1.keptT hx (by decide) hk, h2, h3, h4, KyAt.keptT h5 hx (by decide) hk, h6⟩
set_option maxRecDepth 100000 in
set_option maxHeartbeats 4000000 in
theorem mailReadOk (a : Option Addr) (n cap : Nat) (xs : List Int) (m : Mg) (w : World) (h : BAt w a xs) (hl : xs.length = n) (hn : n ≤ 1000000) (hw : Wb xs) (hok : rM ((xs, false), false) = (m, (([], false), false))) (hm : MgOk m) :
    Calls Tryd.prog 8 #[.slice a n cap] w fun r w' => ∃ ca cn cc ka kn kc, r = .returned (.tuple #[.agg #[.int .i64 m.kd, .int .i64 m.op, .int .i64 m.st, .int .i64 m.cod, .int .i64 m.tag, .int .i64 m.n, .int .i64 m.sq, .string m.k.1, .string m.k.2, .bool m.fu, .int .u32 m.su, .slice ca cn cc, .slice ka kn kc], .nilIface]) ∧ MgMem w' m ca cn cc ka kn kc ∧ Below w.heap.size w w' := by
  have HA := Lib.hid h
  have HL := Lib.hid hl
  have HWB := Lib.hid hw
  have HOK := Lib.hid hok
  have hE := (Below.refl w.heap.size w).alloc (Nat.le_refl _) (.cells #[.int .i64 0, .int .i64 0, .int .i64 0, .int .i64 0, .int .i64 0, .int .i64 0, .int .i64 0, .string ⟨#[]⟩, .string ⟨#[]⟩, .bool false, .int .u32 0, .slice none 0 0, .slice none 0 0] 29)
  have D0 := Lib.hid hE
  have HZ0 := Lib.hid (blk_new w #[.int .i64 0, .int .i64 0, .int .i64 0, .int .i64 0, .int .i64 0, .int .i64 0, .int .i64 0, .string ⟨#[]⟩, .string ⟨#[]⟩, .bool false, .int .u32 0, .slice none 0 0, .slice none 0 0] 29)
  have hnn := run_nil_nil
  clear h hl hw hok hE
  go_enter Tryd.func8, Tryd.ntmps8
  go_upto_region 1 with (fail)
  obtain ⟨z, hz⟩ : ∃ t, w.heap.size = t := ⟨_, rfl⟩
  have zn := Lib.hid (show w.heap.size ≤ z by omega)
  rw [hz] at HZ0
  try rw [hz]
  clear hz
  generalize (w.alloc (.cells #[.int .i64 0, .int .i64 0, .int .i64 0, .int .i64 0, .int .i64 0, .int .i64 0, .int .i64 0, .string ⟨#[]⟩, .string ⟨#[]⟩, .bool false, .int .u32 0, .slice none 0 0, .slice none 0 0] 29)) = w0 at *
  go_wp2_with fail
  refine (mailTake a n cap xs w0 (HA.out.ext D0.out) HL.out hn HWB.out).mono ?_
  rintro r w1 ⟨M, e1, rfl, hb, hq⟩
  obtain ⟨ca, cn, cc, ka, kn, kc, rfl, rfl, hmem⟩ : ∃ ca cn cc ka kn kc, M = #[.int .i64 m.kd, .int .i64 m.op, .int .i64 m.st, .int .i64 m.cod, .int .i64 m.tag, .int .i64 m.n, .int .i64 m.sq, .string m.k.1, .string m.k.2, .bool m.fu, .int .u32 m.su, .slice ca cn cc, .slice ka kn kc] ∧ e1 = .nilIface ∧ MgMem w1 m ca cn cc ka kn kc := by
    rcases hq with ⟨-, ca, cn, cc, ka, kn, kc, h1, h2, h3⟩ | ⟨h1, -⟩
    · rw [HOK.out] at h1 h3
      exact ⟨ca, cn, cc, ka, kn, kc, h1, h2, h3⟩
    · rw [HOK.out] at h1
      cases h1
  have HM := Lib.hid hm
  have hE := (Below.refl w1.heap.size w1).alloc (Nat.le_refl _) (.cells #[.int .i64 m.kd, .int .i64 m.op, .int .i64 m.st, .int .i64 m.cod, .int .i64 m.tag, .int .i64 m.n, .int .i64 m.sq, .string m.k.1, .string m.k.2, .bool m.fu, .int .u32 m.su, .slice ca cn cc, .slice ka kn kc] 29)
  have HX := Lib.hid (blk_new w1 #[.int .i64 m.kd, .int .i64 m.op, .int .i64 m.st, .int .i64 m.cod, .int .i64 m.tag, .int .i64 m.n, .int .i64 m.sq, .string m.k.1, .string m.k.2, .bool m.fu, .int .u32 m.su, .slice ca cn cc, .slice ka kn kc] 29)
  have D2 := Lib.hid (ext_trans (ext_trans D0.out hb) hE)
  have HZ2 := Lib.hid (blk_ext hE (blk_ext hb HZ0.out))
  have HMM := Lib.hid (hmem.ext hE)
  clear hq hmem hb hE D0 HZ0 hm
  go_upto_region 2 with (fail)
  obtain ⟨q, hq⟩ : ∃ q, w1.heap.size = q := ⟨_, rfl⟩
  rw [hq] at HX
  try rw [hq]
  clear hq
  generalize (w1.alloc (.cells #[.int .i64 m.kd, .int .i64 m.op, .int .i64 m.st, .int .i64 m.cod, .int .i64 m.tag, .int .i64 m.n, .int .i64 m.sq, .string m.k.1, .string m.k.2, .bool m.fu, .int .u32 m.su, .slice ca cn cc, .slice ka kn kc] 29)) = w2 at *
  go_wp2_with fail
  refine (faultHas 12 false [] .nilIface .nilIface w2 rfl .nil (by simp) (.inr ⟨fun d => by simp, rfl⟩)).mono ?_
  rintro r w3 ⟨rfl, hb⟩
  have HX3 := Lib.hid (blk_ext hb HX.out)
  have D3 := Lib.hid (ext_trans D2.out hb)
  have HZ3 := Lib.hid (blk_ext hb HZ2.out)
  have HMM3 := Lib.hid (HMM.out.ext hb)
  clear hb HX D2 HZ2 HMM
  have hc := blk_cell HX3.out
  have hl := blk_lt HX3.out
  go_wp2_with fail
  refine (mailRightOk m ca cn cc ka kn kc w3 HMM3.out HM.out).mono ?_
  rintro r w4 ⟨rfl, hb⟩
  have HX4 := Lib.hid (blk_ext hb HX3.out)
  have D4 := Lib.hid (ext_trans D3.out hb)
  have HZ4 := Lib.hid (blk_ext hb HZ3.out)
  have HMM4 := Lib.hid (HMM3.out.ext hb)
  clear hb HX3 D3 HZ3 HMM3 hc hl
  go_wp2_with fail
  refine (code_nil w4).mono ?_
  rintro r wx ⟨rfl, hw9⟩
  obtain rfl := hw9.symm
  have hc := blk_cell HX4.out
  have hl := blk_lt HX4.out
  have hcz := blk_cell HZ4.out
  have hfz := blk_free HZ4.out
  have hlz := blk_lt HZ4.out
  go_wp2_with fail
  have hk2 := blk_cell (blk_fill13 (v0 := .int .i64 m.kd) (v1 := .int .i64 m.op) (v2 := .int .i64 m.st) (v3 := .int .i64 m.cod) (v4 := .int .i64 m.tag) (v5 := .int .i64 m.n) (v6 := .int .i64 m.sq) (v7 := .string m.k.1) (v8 := .string m.k.2) (v9 := .bool m.fu) (v10 := .int .u32 m.su) (v11 := .slice ca cn cc) (v12 := .slice ka kn kc) HZ4.out rfl)
  refine bodyPost_ret (v := .tuple #[.agg #[.int .i64 m.kd, .int .i64 m.op, .int .i64 m.st, .int .i64 m.cod, .int .i64 m.tag, .int .i64 m.n, .int .i64 m.sq, .string m.k.1, .string m.k.2, .bool m.fu, .int .u32 m.su, .slice ca cn cc, .slice ka kn kc], .nilIface]) (by simp [results, Tryd.results8, go_sem, hk2]) rfl ⟨ca, cn, cc, ka, kn, kc, rfl, HMM4.out.keptT HZ4.out kept13, below_fill13 D4.out zn.out⟩

set_option maxRecDepth 100000 in
set_option maxHeartbeats 4000000 in
theorem mailReadNo (a : Option Addr) (n cap : Nat) (xs : List Int) (w : World) (hG : EG w) (h : BAt w a xs) (hl : xs.length = n) (hn : n ≤ 1000000) (hw : Wb xs) (hok : rOk (rM ((xs, false), false)).2 = false) :
    Calls Tryd.prog 8 #[.slice a n cap] w fun r w' => ∃ e', r = .returned (.tuple #[.agg #[.int .i64 0, .int .i64 0, .int .i64 0, .int .i64 0, .int .i64 0, .int .i64 0, .int .i64 0, .string ⟨#[]⟩, .string ⟨#[]⟩, .bool false, .int .u32 0, .slice none 0 0, .slice none 0 0], e']) ∧ FC w' (.iface 43 (.int .i64 12)) [⟨#[114, 101, 97, 100]⟩, ⟨#[98, 121, 116, 101, 115]⟩] e' ∧ Below w.heap.size w w' := by
  have HG := Lib.hid hG
  clear hG
  have HA := Lib.hid h
  have HL := Lib.hid hl
  have HWB := Lib.hid hw
  have HOK := Lib.hid hok
  have hE := (Below.refl w.heap.size w).alloc (Nat.le_refl _) (.cells #[.int .i64 0, .int .i64 0, .int .i64 0, .int .i64 0, .int .i64 0, .int .i64 0, .int .i64 0, .string ⟨#[]⟩, .string ⟨#[]⟩, .bool false, .int .u32 0, .slice none 0 0, .slice none 0 0] 29)
  have D0 := Lib.hid hE
  have HZ0 := Lib.hid (blk_new w #[.int .i64 0, .int .i64 0, .int .i64 0, .int .i64 0, .int .i64 0, .int .i64 0, .int .i64 0, .string ⟨#[]⟩, .string ⟨#[]⟩, .bool false, .int .u32 0, .slice none 0 0, .slice none 0 0] 29)
  have hnn := run_nil_nil
  clear h hl hw hok hE
  go_enter Tryd.func8, Tryd.ntmps8
  go_upto_region 1 with (fail)
  obtain ⟨z, hz⟩ : ∃ t, w.heap.size = t := ⟨_, rfl⟩
  have zn := Lib.hid (show w.heap.size ≤ z by omega)
  rw [hz] at HZ0
  try rw [hz]
  clear hz
  generalize (w.alloc (.cells #[.int .i64 0, .int .i64 0, .int .i64 0, .int .i64 0, .int .i64 0, .int .i64 0, .int .i64 0, .string ⟨#[]⟩, .string ⟨#[]⟩, .bool false, .int .u32 0, .slice none 0 0, .slice none 0 0] 29)) = w0 at *
  go_wp2_with fail
  refine (mailTake a n cap xs w0 (HA.out.ext D0.out) HL.out hn HWB.out).mono ?_
  rintro r w1 ⟨M, e1, rfl, hb, hq⟩
  obtain ⟨rfl, hf⟩ : M = #[.int .i64 0, .int .i64 0, .int .i64 0, .int .i64 0, .int .i64 0, .int .i64 0, .int .i64 0, .string ⟨#[]⟩, .string ⟨#[]⟩, .bool false, .int .u32 0, .slice none 0 0, .slice none 0 0] ∧ FC w1 (.iface 43 (.int .i64 12)) [⟨#[98, 121, 116, 101, 115]⟩] e1 := by
    rcases hq with ⟨h1, -⟩ | ⟨-, h2, h3⟩
    · rw [HOK.out] at h1
      cases h1
    · exact ⟨h2, h3⟩
  have hE := (Below.refl w1.heap.size w1).alloc (Nat.le_refl _) (.cells #[.int .i64 0, .int .i64 0, .int .i64 0, .int .i64 0, .int .i64 0, .int .i64 0, .int .i64 0, .string ⟨#[]⟩, .string ⟨#[]⟩, .bool false, .int .u32 0, .slice none 0 0, .slice none 0 0] 29)
  have D2 := Lib.hid (ext_trans (ext_trans D0.out hb) hE)
  have HZ2 := Lib.hid (blk_ext hE (blk_ext hb HZ0.out))
  have HF := Lib.hid (hf.ext hE)
  clear hq hf hb hE D0 HZ0
  go_upto_region 2 with (fail)
  generalize (w1.alloc (.cells #[.int .i64 0, .int .i64 0, .int .i64 0, .int .i64 0, .int .i64 0, .int .i64 0, .int .i64 0, .string ⟨#[]⟩, .string ⟨#[]⟩, .bool false, .int .u32 0, .slice none 0 0, .slice none 0 0] 29)) = w2 at *
  go_wp2_with fail
  refine (faultHas 12 true [⟨#[98, 121, 116, 101, 115]⟩] (.iface 43 (.int .i64 12)) e1 w2 HF.out (.no 12) (by simp) (.inl ⟨12, rfl, by simp⟩)).mono ?_
  rintro r w3 ⟨rfl, hb⟩
  have D3 := Lib.hid (ext_trans D2.out hb)
  have HZ3 := Lib.hid (blk_ext hb HZ2.out)
  have HF3 := Lib.hid (HF.out.ext hb)
  clear hb D2 HZ2 HF
  go_wp2_with fail
  refine (faultCode_hit [⟨#[98, 121, 116, 101, 115]⟩] 12 e1 w3 (HG.out.ext D3.out) HF3.out (by simp)).mono ?_
  rintro r w4 ⟨rfl, hb⟩
  have D4 := Lib.hid (ext_trans D3.out hb)
  have HZ4 := Lib.hid (blk_ext hb HZ3.out)
  have HF4 := Lib.hid (HF3.out.ext hb)
  clear hb D3 HZ3 HF3
  go_wp2_with fail
  refine (faultWrap ⟨#[114, 101, 97, 100]⟩ [⟨#[98, 121, 116, 101, 115]⟩] (.iface 43 (.int .i64 12)) e1 w4 (.no 12) HF4.out (FC.not_nil HF4.out)).mono ?_
  rintro r w5 ⟨e2, rfl, hf, hb⟩
  have D5 := Lib.hid (ext_trans D4.out hb)
  have HZ5 := Lib.hid (blk_ext hb HZ4.out)
  have HF5 := Lib.hid hf
  clear hb hf D4 HZ4 HF4
  have hcz := blk_cell HZ5.out
  have hfz := blk_free HZ5.out
  have hlz := blk_lt HZ5.out
  go_wp2_with fail
  have hk2 := blk_cell (blk_fill13 (v0 := .int .i64 0) (v1 := .int .i64 0) (v2 := .int .i64 0) (v3 := .int .i64 0) (v4 := .int .i64 0) (v5 := .int .i64 0) (v6 := .int .i64 0) (v7 := .string ⟨#[]⟩) (v8 := .string ⟨#[]⟩) (v9 := .bool false) (v10 := .int .u32 0) (v11 := .slice none 0 0) (v12 := .slice none 0 0) HZ5.out rfl)
  refine bodyPost_ret (v := .tuple #[.agg #[.int .i64 0, .int .i64 0, .int .i64 0, .int .i64 0, .int .i64 0, .int .i64 0, .int .i64 0, .string ⟨#[]⟩, .string ⟨#[]⟩, .bool false, .int .u32 0, .slice none 0 0, .slice none 0 0], e2]) (by simp [results, Tryd.results8, go_sem, hk2]) rfl ⟨e2, rfl, FC.over HZ5.out (by decide) kept13 HF5.out, below_fill13 D5.out zn.out⟩

theorem tx_1 (w : World) (a : ByteArray) (T : TypeId) : TxAt (w.alloc (.cells #[.string a] T)) (.slice (some ⟨w.heap.size, 0, none⟩) 1 1) [a] := by
  refine ⟨_, _, rfl, by simp, by unfold maxLen; simp, .inr ⟨_, _, rfl, fun i s hi => ?_⟩⟩
  rw [blk_cell (blk_new _ _ _)]
  match i, hi with
  | 0, hi => simpa using hi
  | n + 1, hi => simp at hi
theorem tx_2 (w : World) (a b : ByteArray) (T : TypeId) : TxAt (w.alloc (.cells #[.string a, .string b] T)) (.slice (some ⟨w.heap.size, 0, none⟩) 2 2) [a, b] := by
  refine ⟨_, _, rfl, by simp, by unfold maxLen; simp, .inr ⟨_, _, rfl, fun i s hi => ?_⟩⟩
  rw [blk_cell (blk_new _ _ _)]
  match i, hi with
  | 0, hi => simpa using hi
  | 1, hi => simpa using hi
  | n + 2, hi => simp at hi
set_option maxRecDepth 100000 in
set_option maxHeartbeats 2000000 in
theorem whyWrite (op9 : ByteArray) (c9 : Int) (e : Value) (w : World) (hG : EG w) (hc : c9 ≠ 0) (hf : FC w (.iface 43 (.int .i64 c9)) [⟨#[119, 114, 105, 116, 101]⟩, op9] e) :
    Calls Tryd.prog 15 #[e, .string ⟨#[119, 114, 105, 116, 101]⟩, .string op9, .int .i64 c9] w fun r w' => r = .returned (.bool true) ∧ Below w.heap.size w w' := by
  have hc0 : (c9 == 0) = false := by simpa using hc
  have hcc : (c9 == c9) = true := by simp
  have D0 := Lib.hid (show Below w.heap.size w ((w.alloc (.cells #[.string op9] 9)).alloc (.cells #[.string ⟨#[119, 114, 105, 116, 101]⟩, .string op9] 9)) from ((Below.refl _ _).alloc (Nat.le_refl _) _).alloc (by simp) _)
  have HT := Lib.hid (tx_2 (w.alloc (.cells #[.string op9] 9)) ⟨#[119, 114, 105, 116, 101]⟩ op9 9)
  have HF := Lib.hid (hf.ext D0.out)
  have HG := Lib.hid (hG.ext D0.out)
  obtain ⟨p9, e9, rfl, -, -⟩ := hf
  have hz := neqF (.pointer (some ⟨p9, 0, none⟩))
  clear hG hc
  go_enter Tryd.func15, Tryd.ntmps15
  go_upto_region 6 with (fail)
  obtain ⟨v9, hv9⟩ : ∃ v : Value, v = .slice (some ⟨(w.alloc (.cells #[.string op9] 9)).heap.size, 0, none⟩) 2 2 := ⟨_, rfl⟩
  rw [← hv9] at HT
  try simp only [World.alloc, Array.size_push] at hv9
  try rw [← hv9]
  generalize ((w.alloc (.cells #[.string op9] 9)).alloc (.cells #[.string ⟨#[119, 114, 105, 116, 101]⟩, .string op9] 9)) = w1 at *
  go_wp2_with fail
  refine (faultCode_hit [⟨#[119, 114, 105, 116, 101]⟩, op9] c9 _ w1 HG.out HF.out (by simp)).mono ?_
  rintro r w2 ⟨rfl, hb2⟩
  have D2 := Lib.hid (ext_trans D0.out hb2)
  go_wp2_with fail
  refine (faultPath [⟨#[119, 114, 105, 116, 101]⟩, op9] (.iface 43 (.int .i64 c9)) _ w2 (HG.out.ext hb2) (HF.out.ext hb2) (.no c9) (by simp)).mono ?_
  rintro r w3 ⟨v, rfl, ho, hb3⟩
  have HP := Lib.hid (OwnT.tx ho)
  have D3 := Lib.hid (ext_trans D2.out hb3)
  have HT3 := Lib.hid ((HT.out.ext hb2).ext hb3)
  clear ho hb2 hb3 HT D0 D2
  try rw [hv9] at HT3
  go_wp2_with fail
  refine (sameTexts v _ [⟨#[119, 114, 105, 116, 101]⟩, op9] w3 HP.out HT3.out).mono ?_
  rintro r w4 ⟨rfl, hb4⟩
  go_wp2
  go_ret
  exact ⟨rfl, ext_trans D3.out hb4⟩

set_option maxRecDepth 100000 in
set_option maxHeartbeats 2000000 in
theorem whyRead (op9 : ByteArray) (c9 : Int) (e : Value) (w : World) (hG : EG w) (hc : c9 ≠ 0) (hf : FC w (.iface 43 (.int .i64 c9)) [⟨#[114, 101, 97, 100]⟩, op9] e) :
    Calls Tryd.prog 15 #[e, .string ⟨#[114, 101, 97, 100]⟩, .string op9, .int .i64 c9] w fun r w' => r = .returned (.bool true) ∧ Below w.heap.size w w' := by
  have hc0 : (c9 == 0) = false := by simpa using hc
  have hcc : (c9 == c9) = true := by simp
  have D0 := Lib.hid (show Below w.heap.size w ((w.alloc (.cells #[.string op9] 9)).alloc (.cells #[.string ⟨#[114, 101, 97, 100]⟩, .string op9] 9)) from ((Below.refl _ _).alloc (Nat.le_refl _) _).alloc (by simp) _)
  have HT := Lib.hid (tx_2 (w.alloc (.cells #[.string op9] 9)) ⟨#[114, 101, 97, 100]⟩ op9 9)
  have HF := Lib.hid (hf.ext D0.out)
  have HG := Lib.hid (hG.ext D0.out)
  obtain ⟨p9, e9, rfl, -, -⟩ := hf
  have hz := neqF (.pointer (some ⟨p9, 0, none⟩))
  clear hG hc
  go_enter Tryd.func15, Tryd.ntmps15
  go_upto_region 6 with (fail)
  obtain ⟨v9, hv9⟩ : ∃ v : Value, v = .slice (some ⟨(w.alloc (.cells #[.string op9] 9)).heap.size, 0, none⟩) 2 2 := ⟨_, rfl⟩
  rw [← hv9] at HT
  try simp only [World.alloc, Array.size_push] at hv9
  try rw [← hv9]
  generalize ((w.alloc (.cells #[.string op9] 9)).alloc (.cells #[.string ⟨#[114, 101, 97, 100]⟩, .string op9] 9)) = w1 at *
  go_wp2_with fail
  refine (faultCode_hit [⟨#[114, 101, 97, 100]⟩, op9] c9 _ w1 HG.out HF.out (by simp)).mono ?_
  rintro r w2 ⟨rfl, hb2⟩
  have D2 := Lib.hid (ext_trans D0.out hb2)
  go_wp2_with fail
  refine (faultPath [⟨#[114, 101, 97, 100]⟩, op9] (.iface 43 (.int .i64 c9)) _ w2 (HG.out.ext hb2) (HF.out.ext hb2) (.no c9) (by simp)).mono ?_
  rintro r w3 ⟨v, rfl, ho, hb3⟩
  have HP := Lib.hid (OwnT.tx ho)
  have D3 := Lib.hid (ext_trans D2.out hb3)
  have HT3 := Lib.hid ((HT.out.ext hb2).ext hb3)
  clear ho hb2 hb3 HT D0 D2
  try rw [hv9] at HT3
  go_wp2_with fail
  refine (sameTexts v _ [⟨#[114, 101, 97, 100]⟩, op9] w3 HP.out HT3.out).mono ?_
  rintro r w4 ⟨rfl, hb4⟩
  go_wp2
  go_ret
  exact ⟨rfl, ext_trans D3.out hb4⟩

set_option maxRecDepth 100000 in
set_option maxHeartbeats 2000000 in
theorem whyOne (op9 : ByteArray) (c9 : Int) (e : Value) (w : World) (hG : EG w) (hc : c9 ≠ 0) (hf : FC w (.iface 43 (.int .i64 c9)) [op9] e) :
    Calls Tryd.prog 15 #[e, .string ⟨#[]⟩, .string op9, .int .i64 c9] w fun r w' => r = .returned (.bool true) ∧ Below w.heap.size w w' := by
  have hc0 : (c9 == 0) = false := by simpa using hc
  have hcc : (c9 == c9) = true := by simp
  have D0 := Lib.hid (show Below w.heap.size w (w.alloc (.cells #[.string op9] 9)) from (Below.refl _ _).alloc (Nat.le_refl _) _)
  have HT := Lib.hid (tx_1 w op9 9)
  have HF := Lib.hid (hf.ext D0.out)
  have HG := Lib.hid (hG.ext D0.out)
  obtain ⟨p9, e9, rfl, -, -⟩ := hf
  have hz := neqF (.pointer (some ⟨p9, 0, none⟩))
  clear hG hc
  go_enter Tryd.func15, Tryd.ntmps15
  go_upto_region 6 with (fail)
  obtain ⟨v9, hv9⟩ : ∃ v : Value, v = .slice (some ⟨w.heap.size, 0, none⟩) 1 1 := ⟨_, rfl⟩
  rw [← hv9] at HT
  try simp only [World.alloc, Array.size_push] at hv9
  try rw [← hv9]
  generalize (w.alloc (.cells #[.string op9] 9)) = w1 at *
  go_wp2_with fail
  refine (faultCode_hit [op9] c9 _ w1 HG.out HF.out (by simp)).mono ?_
  rintro r w2 ⟨rfl, hb2⟩
  have D2 := Lib.hid (ext_trans D0.out hb2)
  go_wp2_with fail
  refine (faultPath [op9] (.iface 43 (.int .i64 c9)) _ w2 (HG.out.ext hb2) (HF.out.ext hb2) (.no c9) (by simp)).mono ?_
  rintro r w3 ⟨v, rfl, ho, hb3⟩
  have HP := Lib.hid (OwnT.tx ho)
  have D3 := Lib.hid (ext_trans D2.out hb3)
  have HT3 := Lib.hid ((HT.out.ext hb2).ext hb3)
  clear ho hb2 hb3 HT D0 D2
  try rw [hv9] at HT3
  go_wp2_with fail
  refine (sameTexts v _ [op9] w3 HP.out HT3.out).mono ?_
  rintro r w4 ⟨rfl, hb4⟩
  go_wp2
  go_ret
  exact ⟨rfl, ext_trans D3.out hb4⟩

end Go.Proofs.YtfdalmodnkkfiaaDoor
