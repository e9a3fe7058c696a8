/- 'CacheNumbers': the walk. -/
import Derived.Test.YtkhcgopehmndgaaCnH
import Derived.Test.YtkhcgopehmndgaaCacL
import Derived.Test.YtkhcgopehmndgaaSplit
import Derived.IntWalk
import Derived.WalkArith
namespace Go.Proofs.Ytkhcgopehmndgaa
open Go.RowKit
set_option linter.unusedVariables false
set_option linter.unusedSimpArgs false


theorem info_intC : (Try.prog.info? 3).map (fun i => (i.zero, i.size, i.bytes)) = some (some (.int .i64 0), 1, 8) := by kernel_rfl
theorem mul_loC {a b : Nat} : (0 : Int) ≤ (a : Int) * b := Int.mul_nonneg (by omega) (by omega)
theorem mul_hiC {a b x y : Nat} (ha : a ≤ x) (hb : b ≤ y) : (a : Int) * b ≤ (x : Int) * y := by exact_mod_cast Nat.mul_le_mul ha hb
theorem ms_lit (w : World) (l : List Mv) : MsAt (w.alloc (.cells (flat mvc l).toArray 36)) (some ⟨w.heap.size, 0, none⟩) l := by
  refine .inr ⟨_, _, rfl, ⟨_, blk_new _ _ _⟩, fun q u hq => ?_⟩
  rw [Nat.zero_add, blk_cell (blk_new w (flat mvc l).toArray 36)]
  simpa using hq
/-- append behind a row that is cut off: it makes a new row -/
theorem wp_append_cut {P : Program} {w : World} {o : Oper} {a : Act} {K : Act → World → Prop} {Q : Exit → Act → World → Prop} (s x : Operand) (t : TypeId)
    (ho : o.op = .call { callee := .builtin .append, args := #[s, x], argTypes := #[t, t] })
    (base : Nat) (e : TypeId) (i : TypeInfo) (z : Value) (size bytes : Nat) (ht : P.underlying t = some (.slice e)) (hi : P.info? e = some i) (hz : i.zero = some z)
    (hsize : i.size = size) (hby : i.bytes = bytes) (hzs : z.cells.size = size) (hsz : 0 < size)
    (ad0 : Addr) (n cap : Nat) (xs : List Value) (hs : a.eval s = .slice (some ad0) n cap) (hlo : xs.length = n * size) (holds : ∀ j u, xs[j]? = some u → w.cell? (ad0.add j) = some u)
    (ad : Addr) (m c : Nat) (news : List Value) (hx : a.eval x = .slice (some ad) m c) (hl : news.length = m * size) (hnews : ∀ j u, news[j]? = some u → w.cell? (ad.add j) = some u) (hcap : cap < n + m)
    (h63 : n + m ≤ maxLen) (hbytes : (n + m) * bytes ≤ 140737488355328) (hbase : base ≤ w.heap.size)
    (h : ∀ v' w', w'.ownsRow base e size v' (n + m) (xs ++ news) → w.grownBy w' none → K (a.put o.dst v') w') : o.wp P a w K Q := by
  subst hsize
  subst hby
  have hlen : (xs ++ news).length = (n + m) * i.size := by rw [List.length_append, hlo, hl, Nat.add_mul]
  have hge := grownCap_ge w (n + m) cap e
  have hcm : grownCap w (n + m) cap e ≤ maxLen := grownCap_le_maxLen w (n + m) cap e h63
  have hr := run_append_grow (P := P) (w := w) t o.type e i z ht hi hz ad0 n cap xs hlo holds ad m c news hl hnews hcap (by simp only [maxLen] at h63; omega) (growslice_fits hcap hbytes)
  unfold Oper.wp execOp
  simp only [ho, resolve, invoke, builtin, Sem.run_bind, Sem.run_pure, Result.andThen_ok, List.map_toArray, List.map_cons, List.map_nil, hs, hx, hr]
  refine h _ _ ⟨hlen, .inr ⟨w.heap.size, _, _, rfl, hbase, heap_alloc_new w.drew _, hge, hcm, ?_, ?_⟩⟩ ⟨rfl, rfl, rfl, by simp, fun k hk _ => heap_alloc_old w.drew _ (by simpa using hk)⟩
  · simp only [Array.size_append, List.size_toArray, size_zeroCells, hzs, hlo, hl, ← Nat.add_mul]
    congr 1
    omega
  · simp only [Array.toList_append, List.append_assoc]
    rw [← List.append_assoc, ← hlen]
    exact List.take_left

theorem ms_cells {w : World} {b o : Nat} {vs : List Mv} (h : MsAt w (some ⟨b, o, none⟩) vs) (j : Nat) (u : Value) (hj : (flat mvc vs)[j]? = some u) : w.cell? ((⟨b, o, none⟩ : Addr).add j) = some u := by
  rcases h with h | ⟨b', o', e, -, h⟩
  · rw [h] at hj; simp [flat] at hj
  · simp at e
    obtain ⟨rfl, rfl⟩ := e
    rw [add_off]
    exact h j u hj
set_option maxRecDepth 100000 in
set_option maxHeartbeats 8000000 in
theorem law21numbers (w : World) :
    Calls Try.prog 3 #[] w fun r w' => r = .returned (.bool true) ∧ Below w.heap.size w w' := by
  obtain ⟨q0, qi, qz0, qz1, qz2⟩ := info_parts info_intC
  obtain ⟨i0, hi, hz0, hz1, hz2⟩ := info_parts' info_mv
  go_enter Try.func3, Try.ntmps3
  go_wp2_with fail
  go_loopw [1] (fun i wr => ∃ k : Nat, k ≤ 50 ∧ i = .int .i64 k ∧ Below w.heap.size w wr) (fun i _ => 50 - (intOf i).toNat)
  case atStart => exact ⟨0, by omega, rfl, Below.refl _ _⟩
  case round =>
    obtain ⟨w1, rfl⟩ : ∃ y : World, y = wr := ⟨_, rfl⟩
    obtain ⟨k, hk, rfl, B1⟩ := hrel
    by_cases hlk : k < 50
    · have hdk : decide ((k : Int) < 50) = true := by simp; omega
      have Z1 := B1.size
      go_wp2_with fail
      go_loopw [2, 3] (fun v i wr => ∃ (j : Nat) (xs : List Int), j ≤ 700 ∧ i = .int .i64 j ∧ xs.length = j ∧ (∀ x ∈ xs, (Lit.int .i64 x).wf = true) ∧ wr.ownsRow w1.heap.size 3 1 v j (xs.map (Value.int .i64)) ∧ Below w1.heap.size w1 wr) (fun _ i _ => 700 - (intOf i).toNat)
      case atStart => exact ⟨0, [], by omega, rfl, rfl, by simp, World.ownsRow_nil _ _ _ _, Below.refl _ _⟩
      case round =>
        obtain ⟨w2, rfl⟩ : ∃ y : World, y = wr := ⟨_, rfl⟩
        obtain ⟨j, xs, hj, rfl, hxl, hxw, hown, B2⟩ := hrel
        have HX := Lib.hid hxl
        have HW := Lib.hid hxw
        have HO := Lib.hid hown
        have Z2 := B2.size
        clear hxl hxw hown
        by_cases hlj : j < 700
        · have hdj : decide ((j : Int) < 700) = true := by simp; omega
          have m1 := mul_loC (a := j) (b := j)
          have m2 : (j : Int) * j ≤ 490000 := by have := mul_hiC (a := j) (b := j) (x := 700) (y := 700) (by omega) (by omega); omega
          have m3 := mul_loC (a := j) (b := k)
          have m4 : (j : Int) * k ≤ 35000 := by have := mul_hiC (a := j) (b := k) (x := 700) (y := 50) (by omega) (by omega); omega
          have hv0 : 0 ≤ (((j : Int) * j * 7 + k * 71 + j * k) % 211) := Int.emod_nonneg _ (by omega)
          have hv1 : (((j : Int) * j * 7 + k * 71 + j * k) % 211) < 211 := Int.emod_lt_of_pos _ (by omega)
          have hvw : (Lit.int .i64 (((j : Int) * j * 7 + k * 71 + j * k) % 211)).wf = true := WalkArith.wf_i64 (by omega)
          have HV := Lib.hid hvw
          clear hv0 hv1 hvw
          go_wp2_with (first | (at_builtin; refine wpList_append_own _ rfl _ _ 22 rfl (w1.heap.size) 3 q0 (.int .i64 0) 1 8 Try.underlying22 qi qz0 qz1 qz2 rfl (by decide) _ _ _ rfl (HO.out.alloc _) ⟨w2.heap.size, 0, none⟩ 1 1 [.int .i64 (((j : Int) * j * 7 + k * 71 + j * k) % 211)] rfl rfl ?c1 ?c2 ?c3 ?c4 ?c5 ?_))
          case c1 =>
            intro j' u hj'
            match j', hj' with
            | 0, hj' => simp at hj'; subst hj'; simp [Addr.add, go_sem]
          case c2 => intro u hu; simp at hu; subst hu; rfl
          case c3 => unfold maxLen; omega
          case c4 => omega
          case c5 => simp; omega
          intro v' w3 hown' hgrow _
          have B3 := (B2.alloc B2.size _).grown hgrow (by simp; omega) (fun q hq => own_ge HO.out hq)
          have O3 := Lib.hid hown'
          clear hown' hgrow
          go_wp2
          go_roundw
          case rel => exact ⟨j + 1, xs ++ [(((j : Int) * j * 7 + k * 71 + j * k) % 211)], by omega, by go_num, by simp [HX.out], by intro y hy; rcases List.mem_append.1 hy with h | h; (· exact HW.out y h); (· simp at h; subst h; exact HV.out), by simpa using O3.out, B3⟩
          case measure => simp [intOf]; omega
        · have hdj : decide ((j : Int) < 700) = false := by simp; omega
          obtain ⟨at_, ct, rfl, hrow⟩ := isRow_of_owns HO.out HX.out HW.out
          have HR := Lib.hid hrow
          have D2 := Lib.hid (ext_trans B1 B2)
          clear hrow B2
          go_wp2_with fail
          refine (law21feeds at_ j ct xs _ HR.out).mono ?_
          rintro r w4 ⟨v, vs, rfl, ho, hll, hm, hb⟩
          obtain ⟨a, c, rfl, hnc, hcm, hat, -, hform⟩ := OwnR.read mv_len ho
          obtain ⟨nv, hnv⟩ : ∃ n, vs.length = n := ⟨_, rfl⟩
          have HNV := Lib.hid hnv
          rw [hnv] at hnc hll ⊢
          have HA := Lib.hid hat
          have HM := Lib.hid hm
          have HB4 := Lib.hid hb
          have D4 := Lib.hid (ext_trans D2.out hb)
          unfold maxLen at hcm
          clear ho hm hb hat hnv
          obtain ⟨b1, hb1⟩ : ∃ b, ((k : Int) % 2 == 0) = b := ⟨_, rfl⟩
          obtain ⟨b2, hb2⟩ : ∃ b, ((k : Int) % 3 == 0) = b := ⟨_, rfl⟩
          by_cases h2 : 2 < nv
          · have h2d : decide (2 < (nv : Int)) = true := by simp; omega
            obtain ⟨g, rfl⟩ : ∃ g, a = some ⟨g, 0, none⟩ := by
              rcases hform with ⟨-, -, h3⟩ | h3
              · have := HNV.out; rw [h3] at this; simp at this; omega
              · exact h3
            have HT1 := Lib.hid (show (vs.take 1).length = 1 from by rw [List.length_take, HNV.out]; omega)
            have HD1 := Lib.hid (show (vs.drop 2).length = nv - 2 from by rw [List.length_drop, HNV.out])
            clear hform
            go_upto_region 10 with (fail)
            haveI hIt : Nonempty (In (fun _ : World => True)) := ⟨⟨w4, trivial⟩⟩
            refine Hist.wp_region_hist (fun _ => True) (by kernel_rfl) (by kernel_rfl) (by kernel_rfl) trivial ?_
            have D5 := Lib.hid ((Below.refl w4.heap.size w4).drew)
            generalize w4.drew = w5 at *
            repeat (first | (refine Hist.wpG_plain 0 _ (by decide +kernel) rfl (by rfl) (by rfl) (fun K hK => ?_); go_big_quiet_op; refine hK _ ?_; clear hK K) | (refine Hist.wpG_skip (by rfl) (by rfl) ?_; try simp only [Act.put, List.setIfInBounds_toArray, List.set_cons_succ, List.set_cons_zero]))
            refine Hist.wpG_call (by rfl) (by rfl) (fun K hK => ?_)
            go_big_op
            refine (law21play (some ⟨g, 0, none⟩) none nv c 0 0 vs _ (HA.out.ext D5.out) HNV.out hnc (by omega) (fun x hx => (HM.out x hx).ext D5.out) (fun j hj => absurd hj (by omega)) (by omega)).mono ?_
            rintro e w6 ⟨rfl, hb⟩
            have D6 := Lib.hid (ext_trans D5.out hb)
            refine hK _ _ ⟨fun _ => True, (by simp only [List.cons_append, List.nil_append, List.forall_mem_cons]; repeat' (first | (exact trivial) | (intro _ h; cases h; done) | constructor)), ?_⟩
            clear hK K
            clear hb D5
            repeat (first | (refine Hist.wpG_plain 1 _ (by decide +kernel) rfl (by rfl) (by rfl) (fun K hK => ?_); go_big_quiet_op; refine hK _ ?_; clear hK K) | (refine Hist.wpG_plain 0 _ (by decide +kernel) rfl (by rfl) (by rfl) (fun K hK => ?_); go_big_quiet_op; refine hK _ ?_; clear hK K) | (refine Hist.wpG_skip (by rfl) (by rfl) ?_; try simp only [Act.put, List.setIfInBounds_toArray, List.set_cons_succ, List.set_cons_zero]))
            refine Hist.wpG_call (by rfl) (by rfl) (fun K hK => ?_)
            go_big_op
            have D7 := Lib.hid (show Below w4.heap.size w4 (w6.alloc (.cells #[.bool b1, .bool false, .bool b2, .bool true] 4)) from D6.out.alloc D6.out.size _)
            have HF7 := Lib.hid (show FlAt (w6.alloc (.cells #[.bool b1, .bool false, .bool b2, .bool true] 4)) (some ⟨w6.heap.size, 0, none⟩) 4 from fun j hj => by
              have hx := blk_cell (blk_new w6 #[.bool b1, .bool false, .bool b2, .bool true] 4) (0 + j)
              have hcs : j = 0 ∨ j = 1 ∨ j = 2 ∨ j = 3 := by omega
              rcases hcs with rfl | rfl | rfl | rfl
              · exact ⟨_, _, b1, rfl, hx⟩
              · exact ⟨_, _, false, rfl, hx⟩
              · exact ⟨_, _, b2, rfl, hx⟩
              · exact ⟨_, _, true, rfl, hx⟩)
            refine hK _ _ ⟨fun _ => True, (by simp only [List.cons_append, List.nil_append, List.forall_mem_cons]; repeat' (first | (exact trivial) | (intro _ h; cases h; done) | constructor)), ?_⟩
            clear hK K
            clear D6
            generalize (w6.alloc (.cells #[.bool b1, .bool false, .bool b2, .bool true] 4)) = w7 at *
            generalize w6.heap.size = fb at *
            repeat (first | (refine Hist.wpG_plain 2 _ (by decide +kernel) rfl (by rfl) (by rfl) (fun K hK => ?_); go_big_quiet_op; refine hK _ ?_; clear hK K) | (refine Hist.wpG_plain 1 _ (by decide +kernel) rfl (by rfl) (by rfl) (fun K hK => ?_); go_big_quiet_op; refine hK _ ?_; clear hK K) | (refine Hist.wpG_plain 0 _ (by decide +kernel) rfl (by rfl) (by rfl) (fun K hK => ?_); go_big_quiet_op; refine hK _ ?_; clear hK K) | (refine Hist.wpG_skip (by rfl) (by rfl) ?_; try simp only [Act.put, List.setIfInBounds_toArray, List.set_cons_succ, List.set_cons_zero]))
            refine Hist.wpG_call (by rfl) (by rfl) (fun K hK => ?_)
            go_big_op
            refine (law21play (some ⟨g, 0, none⟩) (some ⟨fb, 0, none⟩) nv c 4 4 vs _ (HA.out.ext D7.out) HNV.out hnc (by omega) (fun x hx => (HM.out x hx).ext D7.out) HF7.out (by omega)).mono ?_
            rintro e w8 ⟨rfl, hb⟩
            have D8 := Lib.hid (ext_trans D7.out hb)
            refine hK _ _ ⟨fun _ => True, (by simp only [List.cons_append, List.nil_append, List.forall_mem_cons]; repeat' (first | (exact trivial) | (intro _ h; cases h; done) | constructor)), ?_⟩
            clear hK K
            clear hb D7 HF7
            repeat (first | (refine Hist.wpG_plain 3 _ (by decide +kernel) rfl (by rfl) (by rfl) (fun K hK => ?_); go_big_quiet_op; refine hK _ ?_; clear hK K) | (refine Hist.wpG_plain 2 _ (by decide +kernel) rfl (by rfl) (by rfl) (fun K hK => ?_); go_big_quiet_op; refine hK _ ?_; clear hK K) | (refine Hist.wpG_plain 1 _ (by decide +kernel) rfl (by rfl) (by rfl) (fun K hK => ?_); go_big_quiet_op; refine hK _ ?_; clear hK K) | (refine Hist.wpG_plain 0 _ (by decide +kernel) rfl (by rfl) (by rfl) (fun K hK => ?_); go_big_quiet_op; refine hK _ ?_; clear hK K) | (refine Hist.wpG_skip (by rfl) (by rfl) ?_; try simp only [Act.put, List.setIfInBounds_toArray, List.set_cons_succ, List.set_cons_zero]))
            refine Hist.wpG_call (by rfl) (by rfl) (fun K hK => ?_)
            refine wp_append_cut _ _ _ rfl w4.heap.size 36 i0 Mv.zero 13 144 Try.underlying23 hi hz0 hz1 hz2 rfl (by decide) ⟨g, 0, none⟩ 1 1 (flat mvc (vs.take 1)) rfl ?c1 ?c2 ⟨g, 26, none⟩ (nv - 2) (c - 2) (flat mvc (vs.drop 2)) rfl ?c3 ?c4 ?c5 ?c6 ?c7 ?c8 ?_
            case c1 => rw [flat_len mv_len, HT1.out]
            case c2 =>
              intro j u hj
              have := ((HA.out.ext D8.out).take mv_len 1)
              exact ms_cells this j u hj
            case c3 => rw [flat_len mv_len, HD1.out]
            case c4 =>
              intro j u hj
              have := ((HA.out.ext D8.out).drop mv_len 2)
              exact ms_cells this j u hj
            case c5 => omega
            case c6 => unfold maxLen; omega
            case c7 => omega
            case c8 => exact D8.out.size
            intro v9 w9 ho hg
            have D9 := Lib.hid (show Below w4.heap.size w4 w9 from D8.out.grown hg D8.out.size (fun q hq => by cases hq))
            have HO9 := Lib.hid (show OwnM w4.heap.size w9 v9 (vs.take 1 ++ vs.drop 2) from by
              unfold OwnM OwnR
              rw [flat_app, List.length_append, HT1.out, HD1.out]
              exact ho)
            obtain ⟨ga, gc, e9, hgc, hgm, hgat, -, -⟩ := OwnR.read mv_len HO9.out
            have HG9 := Lib.hid hgat
            have HL9 := Lib.hid (show (vs.take 1 ++ vs.drop 2).length = 1 + (nv - 2) from by rw [List.length_append, HT1.out, HD1.out])
            rw [HL9.out] at e9 hgc
            subst e9
            refine hK _ _ ⟨fun _ => True, (by simp only [List.cons_append, List.nil_append, List.forall_mem_cons]; repeat' (first | (exact trivial) | (intro _ h; cases h; done) | constructor)), ?_⟩
            clear hK K
            clear ho hg hgat hgm D8 HO9
            try simp only [Act.put, List.setIfInBounds_toArray, List.set_cons_succ, List.set_cons_zero]
            repeat (first | (refine Hist.wpG_plain 4 _ (by decide +kernel) rfl (by rfl) (by rfl) (fun K hK => ?_); go_big_quiet_op; refine hK _ ?_; clear hK K) | (refine Hist.wpG_plain 3 _ (by decide +kernel) rfl (by rfl) (by rfl) (fun K hK => ?_); go_big_quiet_op; refine hK _ ?_; clear hK K) | (refine Hist.wpG_plain 2 _ (by decide +kernel) rfl (by rfl) (by rfl) (fun K hK => ?_); go_big_quiet_op; refine hK _ ?_; clear hK K) | (refine Hist.wpG_plain 1 _ (by decide +kernel) rfl (by rfl) (by rfl) (fun K hK => ?_); go_big_quiet_op; refine hK _ ?_; clear hK K) | (refine Hist.wpG_plain 0 _ (by decide +kernel) rfl (by rfl) (by rfl) (fun K hK => ?_); go_big_quiet_op; refine hK _ ?_; clear hK K) | (refine Hist.wpG_skip (by rfl) (by rfl) ?_; try simp only [Act.put, List.setIfInBounds_toArray, List.set_cons_succ, List.set_cons_zero]))
            refine Hist.wpG_call (by rfl) (by rfl) (fun K hK => ?_)
            go_big_op
            refine (law21play ga none (1 + (nv - 2)) gc 0 0 (vs.take 1 ++ vs.drop 2) _ HG9.out HL9.out hgc (by omega) (fun x hx => (HM.out x (by
              rcases List.mem_append.1 hx with h | h
              · exact List.mem_of_mem_take h
              · exact List.mem_of_mem_drop h)).ext D9.out) (fun j hj => absurd hj (by omega)) (by omega)).mono ?_
            rintro e w10 ⟨rfl, hb⟩
            have DX := Lib.hid (ext_trans D9.out hb)
            refine hK _ _ ⟨fun _ => True, (by simp only [List.cons_append, List.nil_append, List.forall_mem_cons]; repeat' (first | (exact trivial) | (intro _ h; cases h; done) | constructor)), ?_⟩
            clear hK K
            clear hb D9 HG9
            repeat (first | (refine Hist.wpG_plain 5 _ (by decide +kernel) rfl (by rfl) (by rfl) (fun K hK => ?_); go_big_quiet_op; refine hK _ ?_; clear hK K) | (refine Hist.wpG_plain 4 _ (by decide +kernel) rfl (by rfl) (by rfl) (fun K hK => ?_); go_big_quiet_op; refine hK _ ?_; clear hK K) | (refine Hist.wpG_plain 3 _ (by decide +kernel) rfl (by rfl) (by rfl) (fun K hK => ?_); go_big_quiet_op; refine hK _ ?_; clear hK K) | (refine Hist.wpG_plain 2 _ (by decide +kernel) rfl (by rfl) (by rfl) (fun K hK => ?_); go_big_quiet_op; refine hK _ ?_; clear hK K) | (refine Hist.wpG_plain 1 _ (by decide +kernel) rfl (by rfl) (by rfl) (fun K hK => ?_); go_big_quiet_op; refine hK _ ?_; clear hK K) | (refine Hist.wpG_plain 0 _ (by decide +kernel) rfl (by rfl) (by rfl) (fun K hK => ?_); go_big_quiet_op; refine hK _ ?_; clear hK K) | (refine Hist.wpG_skip (by rfl) (by rfl) ?_; try simp only [Act.put, List.setIfInBounds_toArray, List.set_cons_succ, List.set_cons_zero]))
            refine Hist.wpG_nil ?_
            clear hIt
            have DZ := Lib.hid (ext_trans D4.out DX.out)
            have HRZ := Lib.hid (HR.out.ext (ext_trans HB4.out DX.out))
            clear DX
            have HT11 := Lib.hid (tapeK_new (a := at_) (len := j) (cap := ct) w10)
            have HNE := Lib.hid (rowOk_new HRZ.out (.cells #[.slice at_ j ct, .int .i64 0] 29))
            have E11 := Lib.hid (show Below w10.heap.size w10 (w10.alloc (.cells #[.slice at_ j ct, .int .i64 0] 29)) from (Below.refl _ _).alloc (Nat.le_refl _) _)
            go_upto_region 13 with (fail)
            obtain ⟨tb, htb⟩ : ∃ t, w10.heap.size = t := ⟨_, rfl⟩
            have HTB := Lib.hid (show w10.heap.size ≤ tb from by omega)
            rw [htb] at HT11 HNE
            try rw [htb]
            clear htb
            generalize (w10.alloc (.cells #[.slice at_ j ct, .int .i64 0] 29)) = w11 at *
            go_wp2_with fail
            refine (tapeMsg at_ j ct xs tb _ HT11.out HNE.out).mono ?_
            rintro e w12 ⟨m1, ca1, cn1, cc1, ka1, kn1, kc1, rfl, hmem, hok, hT, hx⟩
            have HM1 := Lib.hid (MvM.of hmem hok)
            have HT12 := Lib.hid hT
            have HBR12 := Lib.hid (hx)
            clear hmem hok hT hx HT11
            go_wp2_with fail
            refine (tapeMsg at_ j ct xs tb _ HT12.out (HNE.out.bar HBR12.out)).mono ?_
            rintro e w13 ⟨m2, ca2, cn2, cc2, ka2, kn2, kc2, rfl, hmem, hok, hT, hx⟩
            have HM2 := Lib.hid (MvM.of hmem hok)
            have HT13 := Lib.hid hT
            have HBR13 := Lib.hid (HBR12.out.trans hx)
            have HM1' := Lib.hid (HM1.out.bar HT12.out hx)
            clear HM1
            have HM1 := HM1'
            clear HM1'
            clear hmem hok hT hx HT12
            go_wp2_with fail
            refine (tapeMsg at_ j ct xs tb _ HT13.out (HNE.out.bar HBR13.out)).mono ?_
            rintro e w14 ⟨m3, ca3, cn3, cc3, ka3, kn3, kc3, rfl, hmem, hok, hT, hx⟩
            have HM3 := Lib.hid (MvM.of hmem hok)
            have HT14 := Lib.hid hT
            have HBR14 := Lib.hid (HBR13.out.trans hx)
            have HM1' := Lib.hid (HM1.out.bar HT13.out hx)
            clear HM1
            have HM1 := HM1'
            clear HM1'
            have HM2' := Lib.hid (HM2.out.bar HT13.out hx)
            clear HM2
            have HM2 := HM2'
            clear HM2'
            clear hmem hok hT hx HT13
            have D14 := Lib.hid (show Below w10.heap.size w10 w14 from E11.out.trans (HBR14.out.below HTB.out E11.out.size))
            have D15 := Lib.hid (show Below w.heap.size w w14 from ext_trans DZ.out D14.out)
            clear E11 D14 DZ
            go_wp2_with fail
            refine (law21play (some ⟨w14.heap.size, 0, none⟩) none 3 3 0 0 [⟨m1, ca1, cn1, cc1, ka1, kn1, kc1⟩, ⟨m2, ca2, cn2, cc2, ka2, kn2, kc2⟩, ⟨m3, ca3, cn3, cc3, ka3, kn3, kc3⟩] _ (ms_lit w14 _) rfl (by omega) (by omega) (fun x hx => by
              have E15 := (Below.refl w14.heap.size w14).alloc (Nat.le_refl _) (.cells (flat mvc [⟨m1, ca1, cn1, cc1, ka1, kn1, kc1⟩, ⟨m2, ca2, cn2, cc2, ka2, kn2, kc2⟩, ⟨m3, ca3, cn3, cc3, ka3, kn3, kc3⟩]).toArray 36)
              simp only [List.mem_cons, List.not_mem_nil, or_false] at hx
              rcases hx with rfl | rfl | rfl
              · exact HM1.out.ext E15
              · exact HM2.out.ext E15
              · exact HM3.out.ext E15) (fun j hj => absurd hj (by omega)) (by omega)).mono ?_
            rintro e w16 ⟨rfl, hb⟩
            have DF := Lib.hid (show Below w.heap.size w w16 from D15.out.trans ((((Below.refl w14.heap.size w14).alloc (Nat.le_refl _) _).trans (hb.mono (by simp))).mono D15.out.size))
            clear hb D15
            go_wp2
            go_roundw
            case rel => exact ⟨k + 1, by omega, by go_num, DF.out⟩
            case measure => simp [intOf]; omega
          · have h2d : decide (2 < (nv : Int)) = false := by simp; omega
            clear hform
            go_upto_region 10 with (fail)
            haveI hIt : Nonempty (In (fun _ : World => True)) := ⟨⟨w4, trivial⟩⟩
            refine Hist.wp_region_hist (fun _ => True) (by kernel_rfl) (by kernel_rfl) (by kernel_rfl) trivial ?_
            have D5 := Lib.hid ((Below.refl w4.heap.size w4).drew)
            generalize w4.drew = w5 at *
            repeat (first | (refine Hist.wpG_plain 0 _ (by decide +kernel) rfl (by rfl) (by rfl) (fun K hK => ?_); go_big_quiet_op; refine hK _ ?_; clear hK K) | (refine Hist.wpG_skip (by rfl) (by rfl) ?_; try simp only [Act.put, List.setIfInBounds_toArray, List.set_cons_succ, List.set_cons_zero]))
            refine Hist.wpG_call (by rfl) (by rfl) (fun K hK => ?_)
            go_big_op
            refine (law21play a none nv c 0 0 vs _ (HA.out.ext D5.out) HNV.out hnc (by omega) (fun x hx => (HM.out x hx).ext D5.out) (fun j hj => absurd hj (by omega)) (by omega)).mono ?_
            rintro e w6 ⟨rfl, hb⟩
            have D6 := Lib.hid (ext_trans D5.out hb)
            refine hK _ _ ⟨fun _ => True, (by simp only [List.cons_append, List.nil_append, List.forall_mem_cons]; repeat' (first | (exact trivial) | (intro _ h; cases h; done) | constructor)), ?_⟩
            clear hK K
            clear hb D5
            repeat (first | (refine Hist.wpG_plain 1 _ (by decide +kernel) rfl (by rfl) (by rfl) (fun K hK => ?_); go_big_quiet_op; refine hK _ ?_; clear hK K) | (refine Hist.wpG_plain 0 _ (by decide +kernel) rfl (by rfl) (by rfl) (fun K hK => ?_); go_big_quiet_op; refine hK _ ?_; clear hK K) | (refine Hist.wpG_skip (by rfl) (by rfl) ?_; try simp only [Act.put, List.setIfInBounds_toArray, List.set_cons_succ, List.set_cons_zero]))
            refine Hist.wpG_call (by rfl) (by rfl) (fun K hK => ?_)
            go_big_op
            have D7 := Lib.hid (show Below w4.heap.size w4 (w6.alloc (.cells #[.bool b1, .bool false, .bool b2, .bool true] 4)) from D6.out.alloc D6.out.size _)
            have HF7 := Lib.hid (show FlAt (w6.alloc (.cells #[.bool b1, .bool false, .bool b2, .bool true] 4)) (some ⟨w6.heap.size, 0, none⟩) 4 from fun j hj => by
              have hx := blk_cell (blk_new w6 #[.bool b1, .bool false, .bool b2, .bool true] 4) (0 + j)
              have hcs : j = 0 ∨ j = 1 ∨ j = 2 ∨ j = 3 := by omega
              rcases hcs with rfl | rfl | rfl | rfl
              · exact ⟨_, _, b1, rfl, hx⟩
              · exact ⟨_, _, false, rfl, hx⟩
              · exact ⟨_, _, b2, rfl, hx⟩
              · exact ⟨_, _, true, rfl, hx⟩)
            refine hK _ _ ⟨fun _ => True, (by simp only [List.cons_append, List.nil_append, List.forall_mem_cons]; repeat' (first | (exact trivial) | (intro _ h; cases h; done) | constructor)), ?_⟩
            clear hK K
            clear D6
            generalize (w6.alloc (.cells #[.bool b1, .bool false, .bool b2, .bool true] 4)) = w7 at *
            generalize w6.heap.size = fb at *
            repeat (first | (refine Hist.wpG_plain 2 _ (by decide +kernel) rfl (by rfl) (by rfl) (fun K hK => ?_); go_big_quiet_op; refine hK _ ?_; clear hK K) | (refine Hist.wpG_plain 1 _ (by decide +kernel) rfl (by rfl) (by rfl) (fun K hK => ?_); go_big_quiet_op; refine hK _ ?_; clear hK K) | (refine Hist.wpG_plain 0 _ (by decide +kernel) rfl (by rfl) (by rfl) (fun K hK => ?_); go_big_quiet_op; refine hK _ ?_; clear hK K) | (refine Hist.wpG_skip (by rfl) (by rfl) ?_; try simp only [Act.put, List.setIfInBounds_toArray, List.set_cons_succ, List.set_cons_zero]))
            refine Hist.wpG_call (by rfl) (by rfl) (fun K hK => ?_)
            go_big_op
            refine (law21play a (some ⟨fb, 0, none⟩) nv c 4 4 vs _ (HA.out.ext D7.out) HNV.out hnc (by omega) (fun x hx => (HM.out x hx).ext D7.out) HF7.out (by omega)).mono ?_
            rintro e w8 ⟨rfl, hb⟩
            have D8 := Lib.hid (ext_trans D7.out hb)
            refine hK _ _ ⟨fun _ => True, (by simp only [List.cons_append, List.nil_append, List.forall_mem_cons]; repeat' (first | (exact trivial) | (intro _ h; cases h; done) | constructor)), ?_⟩
            clear hK K
            clear hb D7 HF7
            repeat (first | (refine Hist.wpG_plain 3 _ (by decide +kernel) rfl (by rfl) (by rfl) (fun K hK => ?_); go_big_quiet_op; refine hK _ ?_; clear hK K) | (refine Hist.wpG_plain 2 _ (by decide +kernel) rfl (by rfl) (by rfl) (fun K hK => ?_); go_big_quiet_op; refine hK _ ?_; clear hK K) | (refine Hist.wpG_plain 1 _ (by decide +kernel) rfl (by rfl) (by rfl) (fun K hK => ?_); go_big_quiet_op; refine hK _ ?_; clear hK K) | (refine Hist.wpG_plain 0 _ (by decide +kernel) rfl (by rfl) (by rfl) (fun K hK => ?_); go_big_quiet_op; refine hK _ ?_; clear hK K) | (refine Hist.wpG_skip (by rfl) (by rfl) ?_; try simp only [Act.put, List.setIfInBounds_toArray, List.set_cons_succ, List.set_cons_zero]))
            refine wpG_callskip (fun _ => True) (by rfl) (by rfl) (by simp only [List.cons_append, List.nil_append, List.forall_mem_cons]; repeat' (first | (exact trivial) | (intro _ h; cases h; done) | constructor)) ?_
            try simp only [Act.put, List.setIfInBounds_toArray, List.set_cons_succ, List.set_cons_zero]
            repeat (first | (refine Hist.wpG_plain 4 _ (by decide +kernel) rfl (by rfl) (by rfl) (fun K hK => ?_); go_big_quiet_op; refine hK _ ?_; clear hK K) | (refine Hist.wpG_plain 3 _ (by decide +kernel) rfl (by rfl) (by rfl) (fun K hK => ?_); go_big_quiet_op; refine hK _ ?_; clear hK K) | (refine Hist.wpG_plain 2 _ (by decide +kernel) rfl (by rfl) (by rfl) (fun K hK => ?_); go_big_quiet_op; refine hK _ ?_; clear hK K) | (refine Hist.wpG_plain 1 _ (by decide +kernel) rfl (by rfl) (by rfl) (fun K hK => ?_); go_big_quiet_op; refine hK _ ?_; clear hK K) | (refine Hist.wpG_plain 0 _ (by decide +kernel) rfl (by rfl) (by rfl) (fun K hK => ?_); go_big_quiet_op; refine hK _ ?_; clear hK K) | (refine Hist.wpG_skip (by rfl) (by rfl) ?_; try simp only [Act.put, List.setIfInBounds_toArray, List.set_cons_succ, List.set_cons_zero]))
            refine wpG_callskip (fun _ => True) (by rfl) (by rfl) (by simp only [List.cons_append, List.nil_append, List.forall_mem_cons]; repeat' (first | (exact trivial) | (intro _ h; cases h; done) | constructor)) ?_
            try simp only [Act.put, List.setIfInBounds_toArray, List.set_cons_succ, List.set_cons_zero]
            repeat (first | (refine Hist.wpG_plain 5 _ (by decide +kernel) rfl (by rfl) (by rfl) (fun K hK => ?_); go_big_quiet_op; refine hK _ ?_; clear hK K) | (refine Hist.wpG_plain 4 _ (by decide +kernel) rfl (by rfl) (by rfl) (fun K hK => ?_); go_big_quiet_op; refine hK _ ?_; clear hK K) | (refine Hist.wpG_plain 3 _ (by decide +kernel) rfl (by rfl) (by rfl) (fun K hK => ?_); go_big_quiet_op; refine hK _ ?_; clear hK K) | (refine Hist.wpG_plain 2 _ (by decide +kernel) rfl (by rfl) (by rfl) (fun K hK => ?_); go_big_quiet_op; refine hK _ ?_; clear hK K) | (refine Hist.wpG_plain 1 _ (by decide +kernel) rfl (by rfl) (by rfl) (fun K hK => ?_); go_big_quiet_op; refine hK _ ?_; clear hK K) | (refine Hist.wpG_plain 0 _ (by decide +kernel) rfl (by rfl) (by rfl) (fun K hK => ?_); go_big_quiet_op; refine hK _ ?_; clear hK K) | (refine Hist.wpG_skip (by rfl) (by rfl) ?_; try simp only [Act.put, List.setIfInBounds_toArray, List.set_cons_succ, List.set_cons_zero]))
            refine Hist.wpG_nil ?_
            have DX := D8
            clear D8
            obtain ⟨w10, hw10⟩ : ∃ y : World, y = w8 := ⟨_, rfl⟩
            rw [← hw10] at DX ⊢
            clear hw10
            clear hIt
            have DZ := Lib.hid (ext_trans D4.out DX.out)
            have HRZ := Lib.hid (HR.out.ext (ext_trans HB4.out DX.out))
            clear DX
            have HT11 := Lib.hid (tapeK_new (a := at_) (len := j) (cap := ct) w10)
            have HNE := Lib.hid (rowOk_new HRZ.out (.cells #[.slice at_ j ct, .int .i64 0] 29))
            have E11 := Lib.hid (show Below w10.heap.size w10 (w10.alloc (.cells #[.slice at_ j ct, .int .i64 0] 29)) from (Below.refl _ _).alloc (Nat.le_refl _) _)
            go_upto_region 13 with (fail)
            obtain ⟨tb, htb⟩ : ∃ t, w10.heap.size = t := ⟨_, rfl⟩
            have HTB := Lib.hid (show w10.heap.size ≤ tb from by omega)
            rw [htb] at HT11 HNE
            try rw [htb]
            clear htb
            generalize (w10.alloc (.cells #[.slice at_ j ct, .int .i64 0] 29)) = w11 at *
            go_wp2_with fail
            refine (tapeMsg at_ j ct xs tb _ HT11.out HNE.out).mono ?_
            rintro e w12 ⟨m1, ca1, cn1, cc1, ka1, kn1, kc1, rfl, hmem, hok, hT, hx⟩
            have HM1 := Lib.hid (MvM.of hmem hok)
            have HT12 := Lib.hid hT
            have HBR12 := Lib.hid (hx)
            clear hmem hok hT hx HT11
            go_wp2_with fail
            refine (tapeMsg at_ j ct xs tb _ HT12.out (HNE.out.bar HBR12.out)).mono ?_
            rintro e w13 ⟨m2, ca2, cn2, cc2, ka2, kn2, kc2, rfl, hmem, hok, hT, hx⟩
            have HM2 := Lib.hid (MvM.of hmem hok)
            have HT13 := Lib.hid hT
            have HBR13 := Lib.hid (HBR12.out.trans hx)
            have HM1' := Lib.hid (HM1.out.bar HT12.out hx)
            clear HM1
            have HM1 := HM1'
            clear HM1'
            clear hmem hok hT hx HT12
            go_wp2_with fail
            refine (tapeMsg at_ j ct xs tb _ HT13.out (HNE.out.bar HBR13.out)).mono ?_
            rintro e w14 ⟨m3, ca3, cn3, cc3, ka3, kn3, kc3, rfl, hmem, hok, hT, hx⟩
            have HM3 := Lib.hid (MvM.of hmem hok)
            have HT14 := Lib.hid hT
            have HBR14 := Lib.hid (HBR13.out.trans hx)
            have HM1' := Lib.hid (HM1.out.bar HT13.out hx)
            clear HM1
            have HM1 := HM1'
            clear HM1'
            have HM2' := Lib.hid (HM2.out.bar HT13.out hx)
            clear HM2
            have HM2 := HM2'
            clear HM2'
            clear hmem hok hT hx HT13
            have D14 := Lib.hid (show Below w10.heap.size w10 w14 from E11.out.trans (HBR14.out.below HTB.out E11.out.size))
            have D15 := Lib.hid (show Below w.heap.size w w14 from ext_trans DZ.out D14.out)
            clear E11 D14 DZ
            go_wp2_with fail
            refine (law21play (some ⟨w14.heap.size, 0, none⟩) none 3 3 0 0 [⟨m1, ca1, cn1, cc1, ka1, kn1, kc1⟩, ⟨m2, ca2, cn2, cc2, ka2, kn2, kc2⟩, ⟨m3, ca3, cn3, cc3, ka3, kn3, kc3⟩] _ (ms_lit w14 _) rfl (by omega) (by omega) (fun x hx => by
              have E15 := (Below.refl w14.heap.size w14).alloc (Nat.le_refl _) (.cells (flat mvc [⟨m1, ca1, cn1, cc1, ka1, kn1, kc1⟩, ⟨m2, ca2, cn2, cc2, ka2, kn2, kc2⟩, ⟨m3, ca3, cn3, cc3, ka3, kn3, kc3⟩]).toArray 36)
              simp only [List.mem_cons, List.not_mem_nil, or_false] at hx
              rcases hx with rfl | rfl | rfl
              · exact HM1.out.ext E15
              · exact HM2.out.ext E15
              · exact HM3.out.ext E15) (fun j hj => absurd hj (by omega)) (by omega)).mono ?_
            rintro e w16 ⟨rfl, hb⟩
            have DF := Lib.hid (show Below w.heap.size w w16 from D15.out.trans ((((Below.refl w14.heap.size w14).alloc (Nat.le_refl _) _).trans (hb.mono (by simp))).mono D15.out.size))
            clear hb D15
            go_wp2
            go_roundw
            case rel => exact ⟨k + 1, by omega, by go_num, DF.out⟩
            case measure => simp [intOf]; omega
    · have hdk : decide ((k : Int) < 50) = false := by simp; omega
      have D1 := Lib.hid B1
      clear B1
      go_wp2_with fail
      refine (law21known _).mono ?_
      rintro e w2 ⟨rfl, hb⟩
      have DE := Lib.hid (ext_trans D1.out hb)
      clear hb D1
      go_wp2
      go_ret
      exact ⟨rfl, DE.out⟩

end Go.Proofs.Ytkhcgopehmndgaa
