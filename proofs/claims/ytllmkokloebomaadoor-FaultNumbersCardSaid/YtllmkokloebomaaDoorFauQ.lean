/- FaultWraps. -/
import Derived.Test.YtllmkokloebomaaDoorFauP
import Derived.Test.YtllmkokloebomaaDoorFauK
namespace Go.Proofs.YtllmkokloebomaaDoor
open Go.RowKit Go.Extern.Stop Go.Stop Go.Extern
set_option linter.unusedVariables false
set_option linter.unusedSimpArgs false

section
variable {P : Program} (w : World)
/-- append of a row of texts, whether it is nil, empty or not -/
theorem run_append_texts (base : Nat) (t ty e : TypeId) (i : TypeInfo) (ht : P.underlying t = some (.slice e)) (hi : P.info? e = some i) (hz : i.zero = some (.string ⟨#[]⟩))
    (hsize : i.size = 1) (hby : i.bytes = 16) (v : Value) (n : Nat) (xs : List ByteArray) (hown : w.ownsRow base e 1 v n (flat eb xs))
    (A : Option Addr) (m c : Nat) (ys : List ByteArray) (hr : TxAt w (.slice A m c) ys)
    (h63 : n + m ≤ maxLen) (hbytes : (n + m) * 16 ≤ 140737488355328) (hbase : base ≤ w.heap.size) :
    ∃ v' w', (Builtin.append_ #[t, t] ty #[v, .slice A m c]).run P w = .ok v' w' ∧ w'.ownsRow base e 1 v' (n + m) (flat eb (xs ++ ys)) ∧ w.grownBy w' v.ownBlock := by
  obtain ⟨hm, hmc, b0, o0, hxx⟩ := hr.at
  have hfl : ∀ l : List ByteArray, flat eb l = l.map Value.string := fun l => by
    induction l with
    | nil => rfl
    | cons x l ih => rw [flat_cons, ih]; rfl
  rcases A with _ | ⟨b, o, s⟩
  · have h0 : ys = [] := by
      rcases hxx with h | ⟨h, _⟩
      · exact List.eq_nil_of_length_eq_zero (by omega)
      · cases h
    subst h0
    simp at hm
    subst hm
    refine ⟨v, w, ?_, by simpa using hown, World.grownBy.refl w _⟩
    rcases hown.2 with ⟨rfl, rfl⟩ | ⟨g, cap, cur, rfl, _, _, hnc, _⟩
    · simp [Builtin.append_, run_underlying ht, sizeOf, typeInfo, hi, Builtin.lenOf, Builtin.firstCells]
    · simp [Builtin.append_, run_underlying ht, sizeOf, typeInfo, hi, Builtin.lenOf, Builtin.firstCells, hnc, storeCells]
  · have hcells : ∀ j u, (flat eb ys)[j]? = some u → w.cell? ((⟨b, o, s⟩ : Addr).add j) = some u := by
      intro j u hu
      rw [hfl] at hu
      rcases hxx with h | ⟨he, hc⟩
      · have : ys = [] := List.eq_nil_of_length_eq_zero (by omega)
        subst this; simp at hu
      · simp at he
        obtain ⟨rfl, rfl, rfl⟩ := he
        rw [List.getElem?_map] at hu
        obtain ⟨x, hx, rfl⟩ := Option.map_eq_some_iff.1 hu
        rw [add_off]
        exact hc j x hx
    obtain ⟨v', w', hrun, h2, h3, -, -⟩ := run_append_own_at (P := P) w base t ty e i (.string ⟨#[]⟩) 1 16 ht hi hz hsize hby rfl (by decide) v n (flat eb xs) hown ⟨b, o, s⟩ m c (flat eb ys) (by rw [hfl, List.length_map]; omega) hcells (fun u hu => by rw [hfl] at hu; obtain ⟨x, _, rfl⟩ := List.mem_map.1 hu; rfl) h63 (by omega) hbase
    exact ⟨v', w', hrun, by rw [flat_app]; exact h2, h3⟩
theorem wpList_append_texts {ops : Array Oper} {rest : List Oper} {o : Oper} {a : Act} {Q : Exit → Act → World → Prop} (hgd : o.guard = none) (s x : Operand) (t : TypeId)
    (ho : o.op = .call { callee := .builtin .append, args := #[s, x], argTypes := #[t, t] })
    (base : Nat) (e : TypeId) (i : TypeInfo) (ht : P.underlying t = some (.slice e)) (hi : P.info? e = some i) (hz : i.zero = some (.string ⟨#[]⟩)) (hsize : i.size = 1) (hby : i.bytes = 16)
    (v : Value) (n : Nat) (xs : List ByteArray) (hs : a.eval s = v) (hown : w.ownsRow base e 1 v n (flat eb xs))
    (A : Option Addr) (m c : Nat) (ys : List ByteArray) (hx : a.eval x = .slice A m c) (hr : TxAt w (.slice A m c) ys)
    (h63 : n + m ≤ maxLen) (hbytes : (n + m) * 16 ≤ 140737488355328) (hbase : base ≤ w.heap.size)
    (h : ∀ v' w', w'.ownsRow base e 1 v' (n + m) (flat eb (xs ++ ys)) → w.grownBy w' v.ownBlock → wpList P ops Q rest (a.put o.dst v') w') : wpList P ops Q (o :: rest) a w := by
  refine wpList_plain hgd fun K hK => ?_
  obtain ⟨v', w', hrun, h2, h3⟩ := run_append_texts (P := P) w base t o.type e i ht hi hz hsize hby v n xs hown A m c ys hr h63 hbytes hbase
  unfold Oper.wp execOp
  simp only [ho, resolve, invoke, builtin, Sem.run_bind, Sem.run_pure, Result.andThen_ok, List.map_toArray, List.map_cons, List.map_nil, hs, hx, hrun]
  exact hK _ _ (h v' w' h2 h3)
end
theorem tx_one (w : World) (a : ByteArray) (T : TypeId) : TxAt (w.alloc (.cells #[.string a] T)) (.slice (some ⟨w.heap.size, 0, none⟩) 1 1) [a] := by
  refine ⟨_, _, rfl, by simp, by unfold maxLen; simp, .inr ⟨_, _, rfl, fun i s hi => ?_⟩⟩
  rw [blk_cell (blk_new _ _ _)]
  match i, hi with
  | 0, hi => simpa using hi
  | n + 1, hi => simp at hi
theorem FC.ptr {w : World} {base : Value} {ls : List ByteArray} {e : Value} (h : FC w base ls e) (hn : 0 < ls.length) : ∃ q, e = .iface 29 (.pointer (some ⟨q, 0, none⟩)) := by
  cases ls with
  | nil => simp at hn
  | cons x l => obtain ⟨q, e', h1, -⟩ := h; exact ⟨q, h1⟩
theorem OwnT.tail {base : Nat} {w : World} {g n c m : Nat} {x : ByteArray} {ls : List ByteArray} (h : OwnT base w (.slice (some ⟨g, 0, none⟩) n c) (x :: ls)) (hm : m = ls.length) (hc : n ≤ c) (hcm : c ≤ maxLen) (hn : n = ls.length + 1) : TxAt w (.slice (some ⟨g, 1, none⟩) m (c - 1)) ls := by
  subst hm
  refine ⟨_, _, rfl, by omega, by omega, .inr ⟨g, 1, rfl, fun i s hi => ?_⟩⟩
  have := OwnR.at (enc := eb) (k := 1) (fun _ => rfl) h (i := i + 1) (by simpa using hi) 0 (.string s) rfl
  rw [Nat.add_comm 1 i]
  simpa using this
theorem eqF0 (v : Value) (w : World) : (binOp .eql 26 (.iface 29 v) .nilIface).run Tryd.prog w = .ok (.bool false) w := by kernel_rfl

set_option maxRecDepth 100000 in
set_option maxHeartbeats 8000000 in
theorem wraps_small (a : Option Addr) (n c : Nat) (ls : List ByteArray) (op : ByteArray) (cd : Int) (w : World) (hG : EG w) (hx : TxAt w (.slice a n c) ls) (hn9 : n ≤ 9) (hc : (Lit.int .i64 cd).wf = true) (hs : (ls.map ByteArray.size).sum ≤ 1100000) (hop : op.size ≤ 1100000) :
    Calls Tryd.prog 5 #[.slice a n c, .string op, .int .i64 cd] w fun r w' => r = .returned (.bool true) ∧ Below w.heap.size w w' := by
  obtain ⟨i0, hi, hz0, hz1, hz2⟩ := info_parts2 info_str2
  obtain ⟨hl, hnc, -⟩ := hx.at
  have hcb := bounds_i64 hc
  obtain ⟨Y, hY⟩ : ∃ Y, bits .and .i64 cd 15 = Y := ⟨_, rfl⟩
  have hY0 : 0 ≤ Y ∧ Y < 16 := by rw [← hY, and_15]; omega
  obtain ⟨hy0, hy1⟩ := hY0
  obtain ⟨LS, hLS⟩ : ∃ LS, ls ++ [⟨#[108, 97, 115, 116]⟩] = LS := ⟨_, rfl⟩
  have HLL := Lib.hid (show LS.length = n + 1 from by rw [← hLS]; simp [hl])
  have HCW := Lib.hid (show (Lit.int .i64 (1 + Y)).wf = true from wf_of _ (by omega))
  have HC0 := Lib.hid (show (1 + Y) ≠ 0 from by omega)
  obtain ⟨A, hA⟩ : ∃ A, fT LS (errT (1 + Y)) = A := ⟨_, rfl⟩
  have HAS := Lib.hid (show A.size ≤ 8000000 from by
    rw [← hA, fT_size, ← hLS]
    have h1 := errT_size (1 + Y) HCW.out
    have h2 : (⟨#[108, 97, 115, 116]⟩ : ByteArray).size = 4 := rfl
    simp only [List.map_append, List.map_cons, List.map_nil, List.sum_append, List.sum_cons, List.sum_nil, List.length_append, List.length_cons, List.length_nil, h2]
    omega)
  have HSA := Lib.hid (show (LS.map ByteArray.size).sum ≤ 1200000 from by
    rw [← hLS]
    have h2 : (⟨#[108, 97, 115, 116]⟩ : ByteArray).size = 4 := rfl
    simp only [List.map_append, List.map_cons, List.map_nil, List.sum_append, List.sum_cons, List.sum_nil, h2]
    omega)
  have HA := Lib.hid hA
  have HOP := Lib.hid hop
  have HG := Lib.hid hG
  have HX := Lib.hid hx
  have HLS := Lib.hid hLS
  have HL9 := Lib.hid (show LS.length ≤ 90 from by rw [HLL.out]; omega)
  clear hG hx hs hl hA hLS hop
  have hd9 : decide (9 < (n : Int)) = false := decide_eq_false (by omega)
  have D0 := Lib.hid ((Below.refl w.heap.size w).alloc (Nat.le_refl _) (.cells #[] 9))
  have Q1 := Lib.hid (show 0 + n ≤ maxLen from by unfold maxLen; omega)
  have Q2 := Lib.hid (show (0 + n) * 16 ≤ 140737488355328 from by omega)
  have Q3 := Lib.hid (show n + 1 ≤ maxLen from by unfold maxLen; omega)
  have Q4 := Lib.hid (show (n + 1) * 16 ≤ 140737488355328 from by omega)
  go_enter Tryd.func5, Tryd.ntmps5
  go_wp2_with (at_builtin; (refine wpList_append_texts _ rfl _ _ 22 rfl (w.heap.size) 9 i0 Tryd.underlying22 hi hz0 hz1 hz2 _ 0 [] rfl (World.ownsRow_made w #[] 0 (Nat.le_refl _) (by simp [maxLen]) rfl) a n c ls rfl (HX.out.ext D0.out) Q1.out Q2.out D0.out.size ?_))
  intro v1 w1 ho1 hg1
  have HB1 := Lib.hid (D0.out.grown hg1 D0.out.size (fun q hq => own_ge (World.ownsRow_made w #[] 0 (Nat.le_refl _) (by simp [maxLen]) rfl : (w.alloc (.cells #[] 9)).ownsRow w.heap.size 9 1 (.slice (some ⟨w.heap.size, 0, none⟩) 0 0) 0 _) hq))
  have HO1 := Lib.hid ho1
  have Z1 := HB1.out.size
  clear ho1 hg1
  go_wp2_with (at_builtin; refine wpList_append_texts _ rfl _ _ 22 rfl (w.heap.size) 9 i0 Tryd.underlying22 hi hz0 hz1 hz2 _ n ls rfl (ownsRow_ext HO1.out ((Below.refl _ _).alloc (Nat.le_refl _) _)) (some ⟨w1.heap.size, 0, none⟩) 1 1 [⟨#[108, 97, 115, 116]⟩] rfl (tx_one _ _ _) Q3.out Q4.out (Nat.le_trans Z1 (by simp)) ?_)
  intro v2 w2 ho2 hg2
  have HB2 := Lib.hid ((HB1.out.alloc Z1 (.cells #[.string ⟨#[108, 97, 115, 116]⟩] 9)).grown hg2 (by simp; omega) (fun q hq => own_ge HO1.out hq))
  have HO2 := Lib.hid (show OwnT w.heap.size w2 v2 LS from by unfold OwnT OwnR; rw [HLL.out, ← HLS.out]; have := ho2; (try simp only [List.nil_append, Nat.zero_add] at this); exact this)
  obtain ⟨va, vc, rfl, -, -, -⟩ := OwnR.form HO2.out
  clear ho2 hg2 HO1
  have HT2 := Lib.hid (OwnT.tx HO2.out)
  obtain ⟨N, hN⟩ : ∃ N, LS.length = N := ⟨_, rfl⟩
  rw [hN] at HT2 ⊢
  have HN := Lib.hid hN
  have hN9 : N ≤ 90 := by rw [← hN]; exact HL9.out
  have hN1 : 0 < N := by rw [← hN, HLL.out]; omega
  clear hN
  obtain ⟨C, hC⟩ : ∃ C, 1 + Y = C := ⟨_, rfl⟩
  try rw [hC]
  have HCC := Lib.hid hC
  go_wp2_with fail
  refine (chain_ok va N vc LS C w2 HT2.out hN9 hN1 (by rw [← HCC.out]; exact HC0.out)).mono ?_
  rintro r w3 ⟨e, rfl, hf, hb3⟩
  obtain ⟨q, rfl⟩ := hf.ptr (by rw [HN.out]; exact hN1)
  have HB3 := Lib.hid (ext_trans HB2.out hb3)
  have HF3 := Lib.hid hf
  clear hf hb3
  go_wp2_with fail
  refine (wrapF op ⟨q, 0, none⟩ w3).mono ?_
  rintro r v ⟨rfl, hv⟩
  obtain ⟨z, hz0⟩ : ∃ z, w3.heap.size = z := ⟨_, rfl⟩
  try rw [hz0]
  have D4 := (Below.refl w3.heap.size w3).alloc (Nat.le_refl _) (.cells #[.string op, .iface 29 (.pointer (some ⟨q, 0, none⟩))] 31)
  rw [← hv] at D4
  have HV := Lib.hid (ext_trans HB3.out D4)
  have HFE := Lib.hid (HF3.out.ext D4)
  have HZ := Lib.hid (show v.heap[z]? = some (.cells #[.string op, .iface 29 (.pointer (some ⟨q, 0, none⟩))] 31 (0, 0)) from by rw [hv, ← hz0]; exact blk_new _ _ _)
  have HFW := Lib.hid (show FC v (.iface 23 (.int .i64 C)) (op :: LS) (.iface 29 (.pointer (some ⟨z, 0, none⟩))) from ⟨z, _, rfl, HZ.out, HFE.out⟩)
  have HGV := Lib.hid (HG.out.ext HV.out)
  have HLE := Lib.hid (show LS.length ≤ 100 from by rw [HN.out]; omega)
  have HLW := Lib.hid (show (op :: LS).length ≤ 100 from by rw [List.length_cons, HN.out]; omega)
  have hzn := run_fault_nil
  have hnz := neqF0
  have hme := mErrF
  have hrC : (Lit.int .i64 C).wf = true := by rw [← HCC.out]; exact HCW.out
  have HRC := Lib.hid hrC
  clear hv hz0 D4 hrC HT2 HO2
  have hCC : (C == C) = true := by simp
  go_wp2_with fail
  refine (faultCode_hit (op :: LS) C _ v (HGV.out.ext (Below.refl v.heap.size v)) (HFW.out.ext (Below.refl v.heap.size v)) HLW.out).mono ?_
  rintro r w1 ⟨rfl, hb⟩
  have HB1 := Lib.hid (ext_trans (Below.refl v.heap.size v) hb)
  clear hb
  go_wp2_with fail
  refine (faultCode_hit LS C _ w1 (HGV.out.ext HB1.out) (HFE.out.ext HB1.out) HLE.out).mono ?_
  rintro r w2 ⟨rfl, hb⟩
  have HB2 := Lib.hid (ext_trans HB1.out hb)
  clear hb
  go_wp2_with fail
  refine (faultPath LS (.iface 23 (.int .i64 C)) _ w2 (HGV.out.ext HB2.out) (HFE.out.ext HB2.out) (.no C) HLE.out).mono ?_
  rintro r x3 ⟨pv, rfl, ho3, hb3⟩
  have HP := Lib.hid (OwnT.tx ho3)
  obtain ⟨pa, pc, rfl, -, -, -⟩ := OwnR.form ho3
  have HX3 := Lib.hid (ext_trans HB2.out hb3)
  rw [HN.out] at HP ⊢
  clear ho3 hb3
  go_wp2_with fail
  refine (faultPath (op :: LS) (.iface 23 (.int .i64 C)) _ x3 (HGV.out.ext HX3.out) (HFW.out.ext HX3.out) (.no C) HLW.out).mono ?_
  rintro r x4 ⟨qv, rfl, ho4, hb4⟩
  have HP4 := Lib.hid (HP.out.ext hb4)
  obtain ⟨qa, qc, rfl, hqc, hqm, hqf⟩ := OwnR.form ho4
  obtain ⟨g, rfl, -, hgl⟩ := hqf.resolve_left (fun h => by cases h.2.2)
  have HX4 := Lib.hid (ext_trans HX3.out hb4)
  have hgc0 : x4.cell? ⟨g, 0, none⟩ = some (.string op) := by
    have := OwnR.at (enc := eb) (k := 1) (fun _ => rfl) ho4 (i := 0) rfl 0 (.string op) rfl
    simpa using this
  obtain ⟨M, hM⟩ : ∃ M, (op :: LS).length = M := ⟨_, rfl⟩
  have hMN : M = N + 1 := by rw [← hM, List.length_cons, HN.out]
  rw [hM] at hqc ho4 ⊢
  have HQT := Lib.hid (OwnT.tail (m := M - 1) ho4 (by rw [hMN, HN.out]; omega) (by omega) hqm (by rw [hMN, HN.out]))
  have hM1 : 1 ≤ M := by omega
  have hM2 : M ≤ qc := hqc
  have hq2 : (1 = qc) = False := by simp; omega
  have hq3 : (qc = 1) = False := by simp; omega
  have hqm9 : (qc : Int) ≤ 9223372036854775807 := by unfold maxLen at hqm; omega
  have hln : ((M : Int) == (N : Int) + 1) = true := by simp; omega
  have HMN := Lib.hid hMN
  clear ho4 hb4 hqf hM hMN HP hqc hqm
  go_wp2_with fail
  refine (errUnwrap_fault z op _ x4 (blk_ext HX4.out HZ.out)).mono ?_
  rintro r x5 ⟨rfl, hx5⟩
  obtain rfl := hx5.symm
  go_wp2_with fail
  refine (sameTexts _ _ LS x4 HQT.out HP4.out).mono ?_
  rintro r x5 ⟨rfl, hb5⟩
  have HX5 := Lib.hid (ext_trans HX4.out hb5)
  have HP5 := Lib.hid (HP4.out.ext hb5)
  clear hb5
  go_wp2_with fail
  refine (faultPath LS (.iface 23 (.int .i64 C)) _ x5 (HGV.out.ext HX5.out) (HFE.out.ext HX5.out) (.no C) HLE.out).mono ?_
  rintro r x6 ⟨uv, rfl, ho6, hb6⟩
  have HU6 := Lib.hid (OwnT.tx ho6)
  have HX6 := Lib.hid (ext_trans HX5.out hb6)
  have HP6 := Lib.hid (HP5.out.ext hb6)
  clear ho6 hb6
  go_wp2_with fail
  refine (sameTexts _ _ LS x6 HU6.out HP6.out).mono ?_
  rintro r x7 ⟨rfl, hb7⟩
  have HX7 := Lib.hid (ext_trans HX6.out hb7)
  clear hb7
  have hAF : fT LS (errT C) = A := by rw [← HCC.out]; exact HA.out
  obtain ⟨X, hXe⟩ : ∃ X, op ++ ⟨#[58, 32]⟩ = X := ⟨_, rfl⟩
  obtain ⟨A2, hA2⟩ : ∃ A2, X ++ A = A2 := ⟨_, rfl⟩
  have hA2F : fT (op :: LS) (errT C) = A2 := by simp only [fT]; rw [hXe, hAF, hA2]
  have h2z : (⟨#[58, 32]⟩ : ByteArray).size = 2 := rfl
  have hXs : X.size = op.size + 2 := by rw [← hXe, ByteArray.size_append, h2z]
  have hA2s : A2.size ≤ 8000000 := by
    have h5 := congrArg ByteArray.size hA2F
    rw [fT_size] at h5
    have h6 := congrArg ByteArray.size hAF
    rw [fT_size] at h6
    have := HOP.out
    have := HSA.out
    have := errT_size C HRC.out
    have := HLE.out
    simp only [List.map_cons, List.sum_cons, List.length_cons] at h5
    omega
  have hadd1 : ∀ u : World, (Op.stringOp .add op ⟨#[58, 32]⟩).run Tryd.prog u = .ok (.string X) u := fun u => by rw [← hXe]; exact run_string_add_sum u _ _ (by have := HOP.out; omega)
  have hadd2 : ∀ u : World, (Op.stringOp .add X A).run Tryd.prog u = .ok (.string A2) u := fun u => by rw [← hA2]; exact run_string_add_sum u _ _ (by have := HOP.out; have := HAS.out; omega)
  have HA2F := Lib.hid hA2F
  have HA2S := Lib.hid hA2s
  have HAF := Lib.hid hAF
  clear hXe hA2 hA2F h2z hXs hA2s hAF
  go_wp2_with fail
  refine (faultError (op :: LS) (.iface 23 (.int .i64 C)) (errT C) A2 z x7 (HGV.out.ext HX7.out) (HFW.out.ext HX7.out) (.no C) HLW.out HA2F.out HA2S.out (fun w' _ => faultWordsE C w' HRC.out)).mono ?_
  rintro r x8 ⟨rfl, hb8⟩
  have HX8 := Lib.hid (ext_trans HX7.out hb8)
  clear hb8
  go_wp2_with fail
  refine (faultError LS (.iface 23 (.int .i64 C)) (errT C) A q x8 (HGV.out.ext HX8.out) (HFE.out.ext HX8.out) (.no C) HLE.out HAF.out HAS.out (fun w' _ => faultWordsE C w' HRC.out)).mono ?_
  rintro r x9 ⟨rfl, hb9⟩
  have HX9 := Lib.hid (ext_trans HX8.out hb9)
  clear hb9
  go_wp2_with fail
  refine (known1 x9 (HGV.out.ext HX9.out)).mono ?_
  rintro r x10 ⟨rfl, hb10⟩
  go_wp2
  go_ret
  exact ⟨rfl, ext_trans HV.out (ext_trans HX9.out hb10)⟩

set_option maxRecDepth 100000 in
set_option maxHeartbeats 8000000 in
theorem wraps_cut (a : Option Addr) (m c : Nat) (ls : List ByteArray) (op : ByteArray) (cd : Int) (w : World) (hG : EG w) (hx : TxAt w (.slice a 9 c) ls) (hm : 9 < m) (hmc : m ≤ c) (hcm : c ≤ 9223372036854775807) (hc : (Lit.int .i64 cd).wf = true) (hs : (ls.map ByteArray.size).sum ≤ 1100000) (hop : op.size ≤ 1100000) :
    Calls Tryd.prog 5 #[.slice a m c, .string op, .int .i64 cd] w fun r w' => r = .returned (.bool true) ∧ Below w.heap.size w w' := by
  obtain ⟨i0, hi, hz0, hz1, hz2⟩ := info_parts2 info_str2
  obtain ⟨hl, hnc, -⟩ := hx.at
  have hcb := bounds_i64 hc
  obtain ⟨Y, hY⟩ : ∃ Y, bits .and .i64 cd 15 = Y := ⟨_, rfl⟩
  have hY0 : 0 ≤ Y ∧ Y < 16 := by rw [← hY, and_15]; omega
  obtain ⟨hy0, hy1⟩ := hY0
  obtain ⟨LS, hLS⟩ : ∃ LS, ls ++ [⟨#[108, 97, 115, 116]⟩] = LS := ⟨_, rfl⟩
  have HLL := Lib.hid (show LS.length = 9 + 1 from by rw [← hLS]; simp [hl])
  have HCW := Lib.hid (show (Lit.int .i64 (1 + Y)).wf = true from wf_of _ (by omega))
  have HC0 := Lib.hid (show (1 + Y) ≠ 0 from by omega)
  obtain ⟨A, hA⟩ : ∃ A, fT LS (errT (1 + Y)) = A := ⟨_, rfl⟩
  have HAS := Lib.hid (show A.size ≤ 8000000 from by
    rw [← hA, fT_size, ← hLS]
    have h1 := errT_size (1 + Y) HCW.out
    have h2 : (⟨#[108, 97, 115, 116]⟩ : ByteArray).size = 4 := rfl
    simp only [List.map_append, List.map_cons, List.map_nil, List.sum_append, List.sum_cons, List.sum_nil, List.length_append, List.length_cons, List.length_nil, h2]
    omega)
  have HSA := Lib.hid (show (LS.map ByteArray.size).sum ≤ 1200000 from by
    rw [← hLS]
    have h2 : (⟨#[108, 97, 115, 116]⟩ : ByteArray).size = 4 := rfl
    simp only [List.map_append, List.map_cons, List.map_nil, List.sum_append, List.sum_cons, List.sum_nil, h2]
    omega)
  have HA := Lib.hid hA
  have HOP := Lib.hid hop
  have HG := Lib.hid hG
  have HX := Lib.hid hx
  have HLS := Lib.hid hLS
  have HL9 := Lib.hid (show LS.length ≤ 90 from by rw [HLL.out]; omega)
  clear hG hx hs hl hA hLS hop
  skip
  have D0 := Lib.hid ((Below.refl w.heap.size w).alloc (Nat.le_refl _) (.cells #[] 9))
  have Q1 := Lib.hid (show 0 + 9 ≤ maxLen from by unfold maxLen; omega)
  have Q2 := Lib.hid (show (0 + 9) * 16 ≤ 140737488355328 from by omega)
  have Q3 := Lib.hid (show 9 + 1 ≤ maxLen from by unfold maxLen; omega)
  have Q4 := Lib.hid (show (9 + 1) * 16 ≤ 140737488355328 from by omega)
  go_enter Tryd.func5, Tryd.ntmps5
  go_wp2_with (at_builtin; (refine wpList_append_texts _ rfl _ _ 22 rfl (w.heap.size) 9 i0 Tryd.underlying22 hi hz0 hz1 hz2 _ 0 [] rfl (World.ownsRow_made w #[] 0 (Nat.le_refl _) (by simp [maxLen]) rfl) a 9 c ls rfl (HX.out.ext D0.out) Q1.out Q2.out D0.out.size ?_))
  intro v1 w1 ho1 hg1
  have HB1 := Lib.hid (D0.out.grown hg1 D0.out.size (fun q hq => own_ge (World.ownsRow_made w #[] 0 (Nat.le_refl _) (by simp [maxLen]) rfl : (w.alloc (.cells #[] 9)).ownsRow w.heap.size 9 1 (.slice (some ⟨w.heap.size, 0, none⟩) 0 0) 0 _) hq))
  have HO1 := Lib.hid ho1
  have Z1 := HB1.out.size
  clear ho1 hg1
  go_wp2_with (at_builtin; refine wpList_append_texts _ rfl _ _ 22 rfl (w.heap.size) 9 i0 Tryd.underlying22 hi hz0 hz1 hz2 _ 9 ls rfl (ownsRow_ext HO1.out ((Below.refl _ _).alloc (Nat.le_refl _) _)) (some ⟨w1.heap.size, 0, none⟩) 1 1 [⟨#[108, 97, 115, 116]⟩] rfl (tx_one _ _ _) Q3.out Q4.out (Nat.le_trans Z1 (by simp)) ?_)
  intro v2 w2 ho2 hg2
  have HB2 := Lib.hid ((HB1.out.alloc Z1 (.cells #[.string ⟨#[108, 97, 115, 116]⟩] 9)).grown hg2 (by simp; omega) (fun q hq => own_ge HO1.out hq))
  have HO2 := Lib.hid (show OwnT w.heap.size w2 v2 LS from by unfold OwnT OwnR; rw [HLL.out, ← HLS.out]; have := ho2; (try simp only [List.nil_append, Nat.zero_add] at this); exact this)
  obtain ⟨va, vc, rfl, -, -, -⟩ := OwnR.form HO2.out
  clear ho2 hg2 HO1
  have HT2 := Lib.hid (OwnT.tx HO2.out)
  obtain ⟨N, hN⟩ : ∃ N, LS.length = N := ⟨_, rfl⟩
  rw [hN] at HT2 ⊢
  have HN := Lib.hid hN
  have hN9 : N ≤ 90 := by rw [← hN]; exact HL9.out
  have hN1 : 0 < N := by rw [← hN, HLL.out]; omega
  clear hN
  obtain ⟨C, hC⟩ : ∃ C, 1 + Y = C := ⟨_, rfl⟩
  try rw [hC]
  have HCC := Lib.hid hC
  go_wp2_with fail
  refine (chain_ok va N vc LS C w2 HT2.out hN9 hN1 (by rw [← HCC.out]; exact HC0.out)).mono ?_
  rintro r w3 ⟨e, rfl, hf, hb3⟩
  obtain ⟨q, rfl⟩ := hf.ptr (by rw [HN.out]; exact hN1)
  have HB3 := Lib.hid (ext_trans HB2.out hb3)
  have HF3 := Lib.hid hf
  clear hf hb3
  go_wp2_with fail
  refine (wrapF op ⟨q, 0, none⟩ w3).mono ?_
  rintro r v ⟨rfl, hv⟩
  obtain ⟨z, hz0⟩ : ∃ z, w3.heap.size = z := ⟨_, rfl⟩
  try rw [hz0]
  have D4 := (Below.refl w3.heap.size w3).alloc (Nat.le_refl _) (.cells #[.string op, .iface 29 (.pointer (some ⟨q, 0, none⟩))] 31)
  rw [← hv] at D4
  have HV := Lib.hid (ext_trans HB3.out D4)
  have HFE := Lib.hid (HF3.out.ext D4)
  have HZ := Lib.hid (show v.heap[z]? = some (.cells #[.string op, .iface 29 (.pointer (some ⟨q, 0, none⟩))] 31 (0, 0)) from by rw [hv, ← hz0]; exact blk_new _ _ _)
  have HFW := Lib.hid (show FC v (.iface 23 (.int .i64 C)) (op :: LS) (.iface 29 (.pointer (some ⟨z, 0, none⟩))) from ⟨z, _, rfl, HZ.out, HFE.out⟩)
  have HGV := Lib.hid (HG.out.ext HV.out)
  have HLE := Lib.hid (show LS.length ≤ 100 from by rw [HN.out]; omega)
  have HLW := Lib.hid (show (op :: LS).length ≤ 100 from by rw [List.length_cons, HN.out]; omega)
  have hzn := run_fault_nil
  have hnz := neqF0
  have hme := mErrF
  have hrC : (Lit.int .i64 C).wf = true := by rw [← HCC.out]; exact HCW.out
  have HRC := Lib.hid hrC
  clear hv hz0 D4 hrC HT2 HO2
  have hCC : (C == C) = true := by simp
  go_wp2_with fail
  refine (faultCode_hit (op :: LS) C _ v (HGV.out.ext (Below.refl v.heap.size v)) (HFW.out.ext (Below.refl v.heap.size v)) HLW.out).mono ?_
  rintro r w1 ⟨rfl, hb⟩
  have HB1 := Lib.hid (ext_trans (Below.refl v.heap.size v) hb)
  clear hb
  go_wp2_with fail
  refine (faultCode_hit LS C _ w1 (HGV.out.ext HB1.out) (HFE.out.ext HB1.out) HLE.out).mono ?_
  rintro r w2 ⟨rfl, hb⟩
  have HB2 := Lib.hid (ext_trans HB1.out hb)
  clear hb
  go_wp2_with fail
  refine (faultPath LS (.iface 23 (.int .i64 C)) _ w2 (HGV.out.ext HB2.out) (HFE.out.ext HB2.out) (.no C) HLE.out).mono ?_
  rintro r x3 ⟨pv, rfl, ho3, hb3⟩
  have HP := Lib.hid (OwnT.tx ho3)
  obtain ⟨pa, pc, rfl, -, -, -⟩ := OwnR.form ho3
  have HX3 := Lib.hid (ext_trans HB2.out hb3)
  rw [HN.out] at HP ⊢
  clear ho3 hb3
  go_wp2_with fail
  refine (faultPath (op :: LS) (.iface 23 (.int .i64 C)) _ x3 (HGV.out.ext HX3.out) (HFW.out.ext HX3.out) (.no C) HLW.out).mono ?_
  rintro r x4 ⟨qv, rfl, ho4, hb4⟩
  have HP4 := Lib.hid (HP.out.ext hb4)
  obtain ⟨qa, qc, rfl, hqc, hqm, hqf⟩ := OwnR.form ho4
  obtain ⟨g, rfl, -, hgl⟩ := hqf.resolve_left (fun h => by cases h.2.2)
  have HX4 := Lib.hid (ext_trans HX3.out hb4)
  have hgc0 : x4.cell? ⟨g, 0, none⟩ = some (.string op) := by
    have := OwnR.at (enc := eb) (k := 1) (fun _ => rfl) ho4 (i := 0) rfl 0 (.string op) rfl
    simpa using this
  obtain ⟨M, hM⟩ : ∃ M, (op :: LS).length = M := ⟨_, rfl⟩
  have hMN : M = N + 1 := by rw [← hM, List.length_cons, HN.out]
  rw [hM] at hqc ho4 ⊢
  have HQT := Lib.hid (OwnT.tail (m := M - 1) ho4 (by rw [hMN, HN.out]; omega) (by omega) hqm (by rw [hMN, HN.out]))
  have hM1 : 1 ≤ M := by omega
  have hM2 : M ≤ qc := hqc
  have hq2 : (1 = qc) = False := by simp; omega
  have hq3 : (qc = 1) = False := by simp; omega
  have hqm9 : (qc : Int) ≤ 9223372036854775807 := by unfold maxLen at hqm; omega
  have hln : ((M : Int) == (N : Int) + 1) = true := by simp; omega
  have HMN := Lib.hid hMN
  clear ho4 hb4 hqf hM hMN HP hqc hqm
  go_wp2_with fail
  refine (errUnwrap_fault z op _ x4 (blk_ext HX4.out HZ.out)).mono ?_
  rintro r x5 ⟨rfl, hx5⟩
  obtain rfl := hx5.symm
  go_wp2_with fail
  refine (sameTexts _ _ LS x4 HQT.out HP4.out).mono ?_
  rintro r x5 ⟨rfl, hb5⟩
  have HX5 := Lib.hid (ext_trans HX4.out hb5)
  have HP5 := Lib.hid (HP4.out.ext hb5)
  clear hb5
  go_wp2_with fail
  refine (faultPath LS (.iface 23 (.int .i64 C)) _ x5 (HGV.out.ext HX5.out) (HFE.out.ext HX5.out) (.no C) HLE.out).mono ?_
  rintro r x6 ⟨uv, rfl, ho6, hb6⟩
  have HU6 := Lib.hid (OwnT.tx ho6)
  have HX6 := Lib.hid (ext_trans HX5.out hb6)
  have HP6 := Lib.hid (HP5.out.ext hb6)
  clear ho6 hb6
  go_wp2_with fail
  refine (sameTexts _ _ LS x6 HU6.out HP6.out).mono ?_
  rintro r x7 ⟨rfl, hb7⟩
  have HX7 := Lib.hid (ext_trans HX6.out hb7)
  clear hb7
  have hAF : fT LS (errT C) = A := by rw [← HCC.out]; exact HA.out
  obtain ⟨X, hXe⟩ : ∃ X, op ++ ⟨#[58, 32]⟩ = X := ⟨_, rfl⟩
  obtain ⟨A2, hA2⟩ : ∃ A2, X ++ A = A2 := ⟨_, rfl⟩
  have hA2F : fT (op :: LS) (errT C) = A2 := by simp only [fT]; rw [hXe, hAF, hA2]
  have h2z : (⟨#[58, 32]⟩ : ByteArray).size = 2 := rfl
  have hXs : X.size = op.size + 2 := by rw [← hXe, ByteArray.size_append, h2z]
  have hA2s : A2.size ≤ 8000000 := by
    have h5 := congrArg ByteArray.size hA2F
    rw [fT_size] at h5
    have h6 := congrArg ByteArray.size hAF
    rw [fT_size] at h6
    have := HOP.out
    have := HSA.out
    have := errT_size C HRC.out
    have := HLE.out
    simp only [List.map_cons, List.sum_cons, List.length_cons] at h5
    omega
  have hadd1 : ∀ u : World, (Op.stringOp .add op ⟨#[58, 32]⟩).run Tryd.prog u = .ok (.string X) u := fun u => by rw [← hXe]; exact run_string_add_sum u _ _ (by have := HOP.out; omega)
  have hadd2 : ∀ u : World, (Op.stringOp .add X A).run Tryd.prog u = .ok (.string A2) u := fun u => by rw [← hA2]; exact run_string_add_sum u _ _ (by have := HOP.out; have := HAS.out; omega)
  have HA2F := Lib.hid hA2F
  have HA2S := Lib.hid hA2s
  have HAF := Lib.hid hAF
  clear hXe hA2 hA2F h2z hXs hA2s hAF
  go_wp2_with fail
  refine (faultError (op :: LS) (.iface 23 (.int .i64 C)) (errT C) A2 z x7 (HGV.out.ext HX7.out) (HFW.out.ext HX7.out) (.no C) HLW.out HA2F.out HA2S.out (fun w' _ => faultWordsE C w' HRC.out)).mono ?_
  rintro r x8 ⟨rfl, hb8⟩
  have HX8 := Lib.hid (ext_trans HX7.out hb8)
  clear hb8
  go_wp2_with fail
  refine (faultError LS (.iface 23 (.int .i64 C)) (errT C) A q x8 (HGV.out.ext HX8.out) (HFE.out.ext HX8.out) (.no C) HLE.out HAF.out HAS.out (fun w' _ => faultWordsE C w' HRC.out)).mono ?_
  rintro r x9 ⟨rfl, hb9⟩
  have HX9 := Lib.hid (ext_trans HX8.out hb9)
  clear hb9
  go_wp2_with fail
  refine (known1 x9 (HGV.out.ext HX9.out)).mono ?_
  rintro r x10 ⟨rfl, hb10⟩
  go_wp2
  go_ret
  exact ⟨rfl, ext_trans HV.out (ext_trans HX9.out hb10)⟩
end Go.Proofs.YtllmkokloebomaaDoor
