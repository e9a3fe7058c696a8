/- 'MergeOrder': the walk. -/
import Derived.Test.YtkhmaaalmlnblaaMgN
namespace Go.Proofs.Ytkhmaaalmlnblaa
open Go.RowKit
set_option linter.unusedVariables false
set_option linter.unusedSimpArgs false


/-- two blocks may change -/
structure RimD (a b : Nat) (w w' : World) : Prop where
  os : w'.os = w.os
  tape : w'.tape = w.tape
  output : w'.output = w.output
  size : w.heap.size ≤ w'.heap.size
  block : ∀ k, k ≠ a → k ≠ b → k < w.heap.size → w'.heap[k]? = w.heap[k]?
theorem RimD.trans {a b : Nat} {u v w : World} (h : RimD a b u v) (k : RimD a b v w) : RimD a b u w :=
  ⟨k.os.trans h.os, k.tape.trans h.tape, k.output.trans h.output, Nat.le_trans h.size k.size, fun i hi hj hl => (k.block i hi hj (Nat.lt_of_lt_of_le hl h.size)).trans (h.block i hi hj hl)⟩
theorem RimD.fst {a b : Nat} {u v : World} (h : Rim a u v) : RimD a b u v := ⟨h.os, h.tape, h.output, h.size, fun k hk _ hl => h.block k hk hl⟩
theorem RimD.snd {a b : Nat} {u v : World} (h : Rim b u v) : RimD a b u v := ⟨h.os, h.tape, h.output, h.size, fun k _ hk hl => h.block k hk hl⟩
theorem RimD.below {a b n : Nat} {w w' : World} (h : RimD a b w w') (ha : n ≤ a) (hb : n ≤ b) (hz : n ≤ w.heap.size) : Below n w w' := ⟨h.os, h.tape, h.output, h.size, fun k hk => h.block k (by omega) (by omega) (by omega)⟩
theorem DkP.blk0 {w : World} {db : Nat} {nd t0 k0 n0 : Int} {es : List En} {g l tt : Int} {ks : List Ky} (h : DkP w db nd t0 k0 n0 es g l tt ks) : ∃ cs, w.heap[db]? = some (.cells cs 74 (0, 0)) := by
  obtain ⟨_, _, _, _, h1, -⟩ := h
  exact ⟨_, h1⟩
/-- what is put into one desk leaves the other one -/
theorem DkP.apart {w w' : World} {db eb : Nat} {nd t0 k0 n0 g l tt nd' t0' k0' n0' g' l' tt' : Int} {es es' : List En} {ks ks' : List Ky} (h : DkP w db nd t0 k0 n0 es g l tt ks) (h' : DkP w eb nd' t0' k0' n0' es' g' l' tt' ks') (hr : Rim eb w w') (hn : db ≠ eb) : DkP w' db nd t0 k0 n0 es g l tt ks := by
  obtain ⟨cs, hc⟩ := h'.blk0
  exact h.rimT hr hn hc (by decide) (by decide)
theorem rw_at {w : World} {ob oo J : Nat} {rs : List Rw} {r : Rw} (h : RwsAt w (some ⟨ob, oo, none⟩) rs) (hr : rs[J]? = some r) : w.cell? ⟨ob, oo + J, none⟩ = some (.slice r.a r.n r.c) := by
  have h9 := SAt.get rwE_len h.1 hr 0 (.slice r.a r.n r.c) rfl
  simpa using h9
theorem rws_keep {w w' : World} {a : Option Addr} {rs : List Rw} (h : RwsAt w a rs) (hk : ∀ (b : Nat) (cur : Array Value) (T : TypeId), w.heap[b]? = some (.cells cur T (0, 0)) → T ≠ 74 → w'.heap[b]? = w.heap[b]?) : RwsAt w' a rs :=
  ⟨h.1.keep fun b cur hc _ => hk b cur _ hc (by decide), fun r hr => by
    obtain ⟨k1, k2, k3, k4, k5⟩ := h.2 r hr
    exact ⟨k1, k2, k3, k4, k5.keep fun b cur hc _ => hk b cur _ hc (by decide)⟩⟩
theorem MS.rws {w w1 wr : World} {ob lc n : Nat} {rs : List Rw} {A : List Cd} (h : MS w w1 (some ⟨ob, 0, none⟩) lc n wr rs A) : RwsAt wr (some ⟨ob, 0, none⟩) rs := by
  obtain ⟨a, c, e, h1⟩ := h.ro.rows h.out
  simp only [Value.slice.injEq] at e
  rw [e.1]
  exact h1
theorem alls_len9 : ∀ (rs : List Rw), (∀ r ∈ rs, r.ls.length ≤ 9) → (alls rs).length ≤ 9 * rs.length := by
  intro rs
  induction rs with
  | nil => intro _; simp [alls]
  | cons r rs ih =>
    intro h
    have h1 := ih fun x hx => h x (by simp [hx])
    have h2 := h r (by simp)
    have e : alls (r :: rs) = r.ls ++ alls rs := by simp [alls]
    rw [e, List.length_append, List.length_cons]
    omega
theorem IOk.mono {C : List Cd} {n m : Nat} {es : List En} {ks : List Ky} {out : List Cd} {k : Nat} (h : IOk C n ⟨es, ks, out, k⟩) (hm : n ≤ m) : IOk C m ⟨es, ks, [], 0⟩ := ⟨h.dom, h.few, Nat.le_trans h.ks hm, by simp, rfl⟩
theorem iok_nil : IOk [] 0 (⟨[], [], [], 0⟩ : Is) := ⟨⟨List.Pairwise.nil, fun x hx => (by cases hx), fun x hx => (by cases hx), fun x hx => (by cases hx)⟩, by simp, by simp, by simp, rfl⟩
theorem own_addr0 {base n c : Nat} {w : World} {a : Option Addr} {ls : List Cd} (h : OwnC base w (.slice a n c) ls) (hl : 0 < ls.length) : ∃ g, a = some ⟨g, 0, none⟩ := by
  obtain ⟨a', c', e, -, -, h1⟩ := OwnR.form h
  simp only [Value.slice.injEq] at e
  rw [e.1]
  rcases h1 with ⟨-, -, e1⟩ | ⟨g, e1, -, -⟩
  · rw [e1] at hl; simp at hl
  · exact ⟨g, e1⟩
theorem ownW_addr {base n c : Nat} {w : World} {a : Option Addr} {rs : List Rw} (h : OwnW base w (.slice a n c) rs) (hl : 0 < rs.length) : ∃ g, a = some ⟨g, 0, none⟩ := by
  obtain ⟨a', c', e, -, -, h1⟩ := OwnR.form h
  simp only [Value.slice.injEq] at e
  rw [e.1]
  rcases h1 with ⟨-, -, e1⟩ | ⟨g, e1, -, -⟩
  · rw [e1] at hl; simp at hl
  · exact ⟨g, e1⟩
theorem wrap_nat (q : Nat) (h : q ≤ 1000000) : wrap64 ((q : Nat) : Int) = (q : Int) := by
  unfold wrap64
  omega
set_option maxRecDepth 100000 in
set_option maxHeartbeats 8000000 in
theorem mergeOrder_walk (ta : Option Addr) (tlen tcap : Nat) (tz : List Int) (w : World) (hr : IsRow .i64 w ta tlen tcap tz) (hr8 : tlen * 8 ≤ 140737488351232) :
    Calls Try.prog 3 #[.slice ta tlen tcap] w fun r w' => r = .returned (.bool true) ∧ Below w.heap.size w w' := by
  obtain ⟨i0, hi, hz0, hz1, hz2⟩ := info_parts' info_card
  obtain ⟨j0, hj, hy0, hy1, hy2⟩ := info_parts' info_cs
  go_enter Try.func3, Try.ntmps3
  go_wp2_with fail
  refine (law19rows ta tlen tcap tz w hr hr8).mono ?_
  rintro r w1 ⟨v, q, rs0, rfl, ho, hro, hn1, hn9, hpr, hb⟩
  obtain ⟨la, lc, rfl, -, hlm, hlf⟩ := OwnR.form ho
  obtain ⟨n, hn⟩ : ∃ n, rs0.length = n := ⟨_, rfl⟩
  rw [hn] at ho hn1 hn9 ⊢
  obtain ⟨ob, rfl⟩ := ownW_addr ho (by omega)
  have HS0 := Lib.hid (show MS w w1 (some ⟨ob, 0, none⟩) lc n w1 rs0 [] from ⟨hn, ho, hro, fun r hr => ⟨(hpr r hr).1, fun c hc => ((hpr r hr).2 c hc).g⟩, fun x hx k hk => (World.ownsRow.lt (hro.1 x hx).1 k hk).2, fun j c hj => by simp at hj, hb⟩)
  have HWZ := Lib.hid hb.size
  have HOB := Lib.hid (show w.heap.size ≤ ob ∧ ob < w1.heap.size from World.ownsRow.lt ho ob rfl)
  clear ho hro hpr hb hn hlf hr
  go_wp2_with fail
  go_loopw [5, 23] (fun v j wr => ∃ (I : Nat) (rs : List Rw) (A : List Cd), j = .int .i64 (I : Int) ∧ I ≤ n ∧ MS w w1 (some ⟨ob, 0, none⟩) lc n wr rs A ∧ A = alls (rs.take I) ∧ A.length ≤ 9 * I ∧ OwnC w1.heap.size wr v A ∧ w1.heap.size ≤ wr.heap.size) (fun v j _ => n - (intOf j).toNat)
  case atStart => exact ⟨0, rs0, [], rfl, by omega, HS0.out, by simp [alls], by simp, OwnR.nil _ _, Nat.le_refl _⟩
  case round =>
    obtain ⟨w2, rfl⟩ : ∃ y : World, y = wr := ⟨_, rfl⟩
    obtain ⟨I, rs, A, rfl, hI, hs, hA, hAl, ho, hz⟩ := hrel
    have HS2 := Lib.hid hs
    have HA2 := Lib.hid hA
    have HO2 := Lib.hid ho
    obtain ⟨va, vc, rfl, -, -, -⟩ := OwnR.form ho
    clear hs hA ho HS0
    by_cases hlt : I < n
    · obtain ⟨r, hr⟩ : ∃ r, rs[I]? = some r := ⟨_, List.getElem?_eq_getElem (by have := HS2.out.len; omega)⟩
      have y0 := rw_at HS2.out.rws hr
      rw [Nat.zero_add] at y0
      obtain ⟨ra, p, rc, rl⟩ := r
      have hp9 : p ≤ 9 := (HS2.out.pr _ (List.mem_of_getElem? hr)).1
      have HRI := Lib.hid hr
      have hdI : decide ((I : Int) < (n : Int)) = true := by simp; omega
      simp only [] at y0
      clear hr
      go_wp2_with fail
      go_loopw [5, 31] (fun v j wr => ∃ (K : Nat) (rs : List Rw) (A : List Cd), j = .int .i64 (K : Int) ∧ K ≤ p ∧ MS w w1 (some ⟨ob, 0, none⟩) lc n wr rs A ∧ A = upto9 rs I K ∧ A.length ≤ 9 * I + K ∧ (∃ rl, rs[I]? = some ⟨ra, p, rc, rl⟩) ∧ OwnC w1.heap.size wr v A ∧ w1.heap.size ≤ wr.heap.size) (fun v j _ => p - (intOf j).toNat)
      case atStart => exact ⟨0, rs, A, rfl, by omega, HS2.out, by rw [upto_zero]; exact HA2.out, by omega, ⟨rl, HRI.out⟩, HO2.out, hz⟩
      case round =>
        obtain ⟨w3, rfl⟩ : ∃ y : World, y = wr := ⟨_, rfl⟩
        clear HS2 HA2 HO2 HRI y0 hAl hz
        obtain ⟨K, rs, A, rfl, hK, hs, hA, hAl, ⟨rl, hr⟩, ho, hz⟩ := hrel
        have HS3 := Lib.hid hs
        have HA3 := Lib.hid hA
        have HRI := Lib.hid hr
        obtain ⟨va, vc, rfl, hvc, -, -⟩ := OwnR.form ho
        obtain ⟨m, hm⟩ : ∃ m, A.length = m := ⟨_, rfl⟩
        rw [hm] at ho hvc hAl ⊢
        have HO3 := Lib.hid ho
        have HM := Lib.hid hm
        clear hs hA ho hm
        have hrl : rl.length = p := (HS3.out.ro.1 _ (List.mem_of_getElem? hr)).2
        by_cases hlK : K < p
        · obtain ⟨c, hc⟩ : ∃ c, rl[K]? = some c := ⟨_, List.getElem?_eq_getElem (by omega)⟩
          have hown := (HS3.out.ro.1 _ (List.mem_of_getElem? hr)).1
          obtain ⟨g, rfl⟩ := own_addr0 hown (by show 0 < rl.length; omega)
          obtain ⟨-, -, -, cur, hcur, -, hbg⟩ := OwnR.num hown
          have hgw : g < w1.heap.size := HS3.out.lt _ (List.mem_of_getElem? hr) g rfl
          have hcat : CAt w3 (some ⟨g, 0, none⟩) rl := OwnC.cat hown
          obtain ⟨z0, z1, z2, z3, z4, z5, z6, z7, z8⟩ := CAt.at hcat hc
          simp only [Nat.zero_add] at z0 z1 z2 z3 z4 z5 z6 z7 z8
          have y0 := rw_at HS3.out.rws hr
          rw [Nat.zero_add] at y0
          simp only [] at y0
          have hgf := blk_free hcur
          have hgl := blk_lt hcur
          have HC := Lib.hid hc
          have HST := MS.step HS3.out hr rfl hc
          rw [HM.out] at HST
          have HS4 := Lib.hid HST
          have HO4 := Lib.hid (show OwnC w1.heap.size (w3.setCell ⟨g, K * 9 + 7, none⟩ (.int .i64 (m : Int))) (.slice va m vc) A from ownsRow_keep HO3.out ((Kept.refl g w3).setCell _ _) (fun q => by have h9 := own_ge HO3.out q.symm; omega))
          have hz4 : w1.heap.size ≤ (w3.setCell ⟨g, K * 9 + 7, none⟩ (.int .i64 (m : Int))).heap.size := by rw [((Kept.refl g w3).setCell (K * 9 + 7) (.int .i64 (m : Int))).size]; exact hz
          have hdK : decide ((K : Int) < (p : Int)) = true := by simp; omega
          clear hc hown hcur hcat HST HS3 HO3 hr
          go_upto_region 10 with (fail)
          clear y0 z0 z1 z2 z3 z4 z5 z6 z7 z8 hgf hgl
          generalize (w3.setCell ⟨g, K * 9 + 7, none⟩ (.int .i64 (m : Int))) = w4 at *
          have hI3 : I < rs.length := (List.getElem?_eq_some_iff.1 HRI.out).1
          have hr4 := List.getElem?_set_self (a := (⟨some ⟨g, 0, none⟩, p, rc, rl.set K { c with n := (m : Int) }⟩ : Rw)) hI3
          have y0 := rw_at HS4.out.rws hr4
          rw [Nat.zero_add] at y0
          simp only [] at y0
          have hc4 : (rl.set K { c with n := (m : Int) })[K]? = some { c with n := (m : Int) } := List.getElem?_set_self (by omega)
          obtain ⟨z0, z1, z2, z3, z4, z5, z6, z7, z8⟩ := CAt.at (OwnC.cat (HS4.out.ro.1 _ (List.mem_of_getElem? hr4)).1) hc4
          simp only [Nat.zero_add] at z0 z1 z2 z3 z4 z5 z6 z7 z8
          have D5 := (Below.refl w4.heap.size w4).alloc (Nat.le_refl _) (.cells #[.string c.a, .string c.i, .int .i64 c.s, .int .i64 c.o, .int .i64 c.l, .int .i64 c.t, .int .i64 c.k, .int .i64 (m : Int), .bool c.g] 33)
          have HX5 := Lib.hid (blk_new w4 #[.string c.a, .string c.i, .int .i64 c.s, .int .i64 c.o, .int .i64 c.l, .int .i64 c.t, .int .i64 c.k, .int .i64 (m : Int), .bool c.g] 33)
          have HS5 := Lib.hid (HS4.out.ext D5)
          have HO5 := Lib.hid (show (w4.alloc (.cells #[.string c.a, .string c.i, .int .i64 c.s, .int .i64 c.o, .int .i64 c.l, .int .i64 c.t, .int .i64 c.k, .int .i64 (m : Int), .bool c.g] 33)).ownsRow w1.heap.size 33 9 (.slice va m vc) m (flat cc A) from by have h9 := OwnR.ext HO4.out D5; unfold OwnR at h9; rw [HM.out] at h9; exact h9)
          have hz5 := Nat.le_trans hz4 D5.size
          have HR4 := Lib.hid hr4
          clear D5 HS4 HO4 hc4 hr4
          go_wp2_with (at_builtin; refine wpList_append_own _ rfl _ _ 27 rfl (w1.heap.size) 33 i0 Cd.zero.v 9 88 Try.underlying27 hi hz0 hz1 hz2 rfl (by decide) (.slice va m vc) m (flat cc A) rfl HO5.out ⟨w4.heap.size, 0, none⟩ 1 1 (cc { c with n := (m : Int) }) rfl rfl ?c1 ?c2 ?c3 ?c4 ?c5 ?_)
          case c1 =>
            intro j u hj
            first
              | (rw [add_off, Nat.zero_add, blk_cell HX5.out]; simpa [cc] using hj)
              | (simpa [cc] using hj)
          case c2 => exact cc_one { c with n := (m : Int) }
          case c3 => unfold maxLen; omega
          case c4 => omega
          case c5 => first | omega | exact hz5
          intro v6 w6 ho6 hg6 _
          have HO6 := Lib.hid (show OwnC w1.heap.size w6 v6 (A ++ [{ c with n := (m : Int) }]) from by unfold OwnC OwnR; rw [flat_snoc, List.length_append, HM.out]; exact ho6)
          have HS6 := Lib.hid (HS5.out.grown hg6 HO5.out HWZ.out)
          have hz6 := Nat.le_trans hz5 hg6.size
          clear ho6 hg6 HX5 HS5 HO5 y0 z0 z1 z2 z3 z4 z5 z6 z7 z8 hz4 hz5
          go_wp2
          go_roundw
          case rel => exact ⟨K + 1, _, _, by go_num, by omega, HS6.out, by rw [upto_set HRI.out HC.out, ← HA3.out], by rw [List.length_append, HM.out]; simp only [List.length_cons, List.length_nil]; omega, ⟨_, HR4.out⟩, HO6.out, hz6⟩
          case measure => simp [intOf]; omega
        · have hdK : decide ((K : Int) < (p : Int)) = false := by simp; omega
          clear hr
          go_wp2
          go_roundw
          case rel => exact ⟨I + 1, rs, A, by go_num, by omega, HS3.out, by rw [HA3.out, upto_all HRI.out (by show rl.length ≤ K; omega)], by rw [HM.out]; omega, by rw [HM.out] at *; exact HO3.out, hz⟩
          case measure => simp [intOf]; omega
    · have hdI : decide ((I : Int) < (n : Int)) = false := by simp; omega
      have hall : rs.take I = rs := List.take_of_length_le (by have := HS2.out.len; omega)
      have HS3 := Lib.hid (show MS w w1 (some ⟨ob, 0, none⟩) lc n w2 rs (alls rs) from by have h9 := HS2.out; rw [HA2.out, hall] at h9; exact h9)
      obtain ⟨R, hR⟩ : ∃ R, rs.reverse = R := ⟨_, rfl⟩
      have HRR := Lib.hid hR
      have hRl : R.length = n := by rw [← hR, List.length_reverse]; exact HS3.out.len
      have HRL := Lib.hid hRl
      have HONE := Lib.hid (num_one HS3.out.num)
      have HL9 := Lib.hid (show (alls rs).length ≤ 81 from by
        have h9 := alls_len9 rs fun r hr => by rw [(HS3.out.ro.1 r hr).2]; exact (HS3.out.pr r hr).1
        rw [HS3.out.len] at h9
        omega)
      have HLR := Lib.hid (show (alls R).length ≤ 81 from by
        have h9 := alls_len9 R fun r hr => by
          rw [← hR, List.mem_reverse] at hr
          rw [(HS3.out.ro.1 r hr).2]; exact (HS3.out.pr r hr).1
        omega)
      have HCG := Lib.hid (show ∀ c ∈ alls rs, CdG c from fun c hc => by
        unfold alls at hc
        obtain ⟨r, h1, h2⟩ := List.mem_flatMap.1 hc
        exact (HS3.out.pr r h1).2 c h2)
      have HN9 := Lib.hid (show ∀ r ∈ rs, r.n ≤ 9 from fun r hr => (HS3.out.pr r hr).1)
      have HOZ := Lib.hid (show ob < w2.heap.size by have := HOB.out; omega)
      clear HS2 HA2 HO2 hAl hall hR hRl
      go_wp2_with fail
      clear hlt hdI
      go_loopw [8, 58] (fun v j wr => ∃ I : Nat, I ≤ n ∧ j = .int .i64 (I : Int) ∧ OwnW w2.heap.size wr v (R.take I) ∧ Below w2.heap.size w2 wr) (fun v j _ => n - (intOf j).toNat)
      case atStart => exact ⟨0, by omega, rfl, by simpa using OwnR.nil _ _, Below.refl _ _⟩
      case round =>
        obtain ⟨w3, rfl⟩ : ∃ y : World, y = wr := ⟨_, rfl⟩
        obtain ⟨I, hI, rfl, ho, hb⟩ := hrel
        have HO3 := Lib.hid ho
        have HB3 := Lib.hid hb
        obtain ⟨va, vc, rfl, -, -, -⟩ := OwnR.form ho
        have htl : (R.take I).length = I := by rw [List.length_take, HRL.out]; omega
        rw [htl] at HO3 ⊢
        have HTL := Lib.hid htl
        clear ho hb htl
        by_cases hlt : I < n
        · obtain ⟨q, hq⟩ : ∃ q, n = I + 1 + q := ⟨n - 1 - I, by omega⟩
          obtain ⟨r, hr⟩ : ∃ r, rs[q]? = some r := ⟨_, List.getElem?_eq_getElem (by have := HS3.out.len; omega)⟩
          have hrr : R[I]? = some r := by
            rw [← HRR.out, List.getElem?_reverse (by have := HS3.out.len; omega), HS3.out.len, show n - 1 - I = q by omega]
            exact hr
          have y0 := rw_at (HS3.out.rws.ext HB3.out) hr
          rw [Nat.zero_add] at y0
          have HTK := Lib.hid (show R.take (I + 1) = R.take I ++ [r] from by rw [List.take_add_one, hrr]; rfl)
          have e1 : wrap64 ((n : Int) - 1) = ((I + q : Nat) : Int) := by rw [hq, show (((I + 1 + q : Nat) : Int) - 1) = ((I + q : Nat) : Int) by omega]; exact wrap_nat _ (by omega)
          have e2 : wrap64 (((I + q : Nat) : Int) - (I : Int)) = (q : Int) := by rw [show (((I + q : Nat) : Int) - (I : Int)) = ((q : Nat) : Int) by omega]; exact wrap_nat _ (by omega)
          have e3 : (n : Int) - 1 - (I : Int) = (q : Int) := by omega
          have hqn : q < n := by omega
          have hqn2 : (q : Int) < (n : Int) := by omega
          obtain ⟨ra, p, rc, rl⟩ := r
          simp only [] at y0
          have D4 := (Below.refl w3.heap.size w3).alloc (Nat.le_refl _) (.cells #[.slice ra p rc] 27)
          have HX4 := Lib.hid (blk_new w3 #[.slice ra p rc] 27)
          have HO4 := Lib.hid (show (w3.alloc (.cells #[.slice ra p rc] 27)).ownsRow w2.heap.size 27 1 (.slice va I vc) I (flat rwE (R.take I)) from by have h9 := OwnR.ext HO3.out D4; unfold OwnR at h9; rw [HTL.out] at h9; exact h9)
          have HB4 := Lib.hid (ext_trans HB3.out D4)
          have hbz := HB4.out.size
          have hdI : decide ((I : Int) < (n : Int)) = true := by simp; omega
          clear hr hrr D4 HO3 HB3 hq
          go_wp2_with (at_builtin; refine wpList_append_own _ rfl _ _ 23 rfl (w2.heap.size) 27 j0 (.slice none 0 0) 1 24 Try.underlying23 hj hy0 hy1 hy2 rfl (by decide) (.slice va I vc) I (flat rwE (R.take I)) rfl HO4.out ⟨w3.heap.size, 0, none⟩ 1 1 (rwE ⟨ra, p, rc, rl⟩) rfl rfl ?c1 ?c2 ?c3 ?c4 ?c5 ?_)
          case c1 => intro j u hj; rw [add_off, Nat.zero_add, blk_cell HX4.out]; simpa [rwE] using hj
          case c2 => exact rwE_one ⟨ra, p, rc, rl⟩
          case c3 => unfold maxLen; omega
          case c4 => omega
          case c5 => first | exact hbz | (have h9 := HB3.out.size; omega) | omega
          intro v5 w5 ho5 hg5 _
          have HO5 := Lib.hid (show OwnW w2.heap.size w5 v5 (R.take (I + 1)) from by rw [HTK.out]; unfold OwnW OwnR; rw [flat_snoc, List.length_append, HTL.out]; exact ho5)
          have HB5 := Lib.hid (HB4.out.grown hg5 HB4.out.size (fun q hq => own_ge HO4.out hq))
          clear ho5 hg5 HX4 HO4 HB4 hbz y0 e1 e2 e3 hqn hqn2 hdI
          go_wp2
          go_roundw
          case rel => exact ⟨I + 1, by omega, by go_num, HO5.out, HB5.out⟩
          case measure => simp [intOf]; omega
        · have hdI : decide ((I : Int) < (n : Int)) = false := by simp; omega
          obtain rfl : I = n := by omega
          have HO4 := Lib.hid (show OwnW w2.heap.size w3 (.slice va I vc) R from by have h9 := HO3.out; rw [List.take_of_length_le (by have := HRL.out; omega)] at h9; exact h9)
          obtain ⟨bb, rfl⟩ := ownW_addr HO4.out (by have := HRL.out; omega)
          have HMW := Lib.hid HS3.out.rws
          have HS4 := Lib.hid (HS3.out.ext HB3.out)
          have HBB := Lib.hid (World.ownsRow.lt HO4.out bb rfl).1
          have HJB := Lib.hid (show jnL (srt klt (alls R)) = (jnL (srt klt (alls rs))) from (joined_dom (alls R)).one (joined_dom (alls rs)) (fun c => by rw [← HRR.out]; exact alls_mem rs c) (by rw [← HRR.out]; exact fun x hx y hy => HONE.out x ((alls_mem rs x).1 hx) y ((alls_mem rs y).1 hy)))
          have HJC := Lib.hid (show jnL (srt klt (alls (rs ++ R))) = (jnL (srt klt (alls rs))) from (joined_dom (alls (rs ++ R))).one (joined_dom (alls rs)) (fun c => by rw [alls_two, List.mem_append, ← HRR.out, alls_mem]; exact ⟨fun h => h.elim id id, .inl⟩) (fun x hx y hy => by
            rw [alls_two, List.mem_append, ← HRR.out, alls_mem] at hx hy
            exact HONE.out x (hx.elim id id) y (hy.elim id id)))
          have HDJ := Lib.hid (joined_dom (alls rs))
          have HSW := Lib.hid HS4.out.out
          have HRB := Lib.hid (show RwsAt w3 (some ⟨bb, 0, none⟩) R from by
            obtain ⟨a9, c9, e9, -, -, h9, -⟩ := OwnR.read rwE_len HO4.out
            simp only [Value.slice.injEq] at e9
            rw [e9.1]
            exact ⟨h9, fun r hr => HS4.out.rws.2 r (by rw [← HRR.out, List.mem_reverse] at hr; exact hr)⟩)
          have HBD := Lib.hid HS4.out.bel
          have HLW := Lib.hid HS4.out.rws
          have HLN := Lib.hid HS4.out.len
          clear HO3 HS3 HS4 HMW HB3 hlt
          obtain ⟨J, hJ⟩ : ∃ J, (jnL (srt klt (alls rs))) = J := ⟨_, rfl⟩
          rw [hJ] at HJB HJC HDJ
          have HJJ := Lib.hid hJ
          clear hJ
          go_wp2_with fail
          clear hdI
          refine (mergeJoin (some ⟨ob, 0, none⟩) I lc rs (alls rs) w3 HLW.out HLN.out (by omega) rfl (by have := HL9.out; omega)).mono ?_
          rintro r w4 ⟨v4, rfl, ho4, hb4⟩
          rw [HJJ.out] at ho4
          obtain ⟨m, hm⟩ : ∃ m, J.length = m := ⟨_, rfl⟩
          obtain ⟨xa, xc, rfl, hxc, hxm, hxat, -, -⟩ := OwnC.read ho4
          rw [hm] at hxc ⊢
          have HM := Lib.hid hm
          have HX4 := Lib.hid hxat
          have HLW4 := Lib.hid (HLW.out.ext hb4)
          have HRB4 := Lib.hid (HRB.out.ext hb4)
          have HSW4 := Lib.hid (show OwnW w.heap.size w4 (.slice (some ⟨ob, 0, none⟩) I lc) rs from OwnR.ext HSW.out hb4)
          have HBW4 := Lib.hid (show OwnW w2.heap.size w4 (.slice (some ⟨bb, 0, none⟩) I vc) R from OwnR.ext HO4.out hb4)
          have HBD4 := Lib.hid (ext_trans HBD.out hb4)
          clear ho4 hxat hb4 hm HLW HRB HSW HO4 HBD
          go_wp2_with fail
          refine (mergeJoin (some ⟨bb, 0, none⟩) I vc R (alls R) w4 HRB4.out HRL.out (by omega) rfl (by have := HLR.out; omega)).mono ?_
          rintro r w5 ⟨v5, rfl, ho5, hb5⟩
          rw [HJB.out] at ho5
          obtain ⟨ya, yc, rfl, hyc, hym, hyat, -, -⟩ := OwnC.read ho5
          rw [HM.out] at hyc ⊢
          have HX5 := Lib.hid (HX4.out.ext hb5)
          have HY5 := Lib.hid hyat
          have HLW5 := Lib.hid (HLW4.out.ext hb5)
          have HRB5 := Lib.hid (HRB4.out.ext hb5)
          have HSW5 := Lib.hid (show w5.ownsRow w.heap.size 27 1 (.slice (some ⟨ob, 0, none⟩) I lc) I (flat rwE rs) from by have h9 := OwnR.ext HSW4.out hb5; unfold OwnR at h9; rw [HLN.out] at h9; exact h9)
          have HBW5 := Lib.hid (show OwnW w2.heap.size w5 (.slice (some ⟨bb, 0, none⟩) I vc) R from OwnR.ext HBW4.out hb5)
          have HBD5 := Lib.hid (ext_trans HBD4.out hb5)
          have hbz := HBD5.out.size
          have HRC := Lib.hid (show ∀ (j : Nat) (u : Value), (flat rwE R)[j]? = some u → w5.cell? ((⟨bb, 0, none⟩ : Addr).add j) = some u from fun j u hj => by
            rcases HRB5.out.1 with h | ⟨b9, o9, e9, -, hq9⟩
            · rw [h] at hj; simp [flat] at hj
            · simp at e9
              rw [add_off, e9.1, e9.2]
              exact hq9 j u hj)
          clear ho5 hyat hb5 HX4 HLW4 HRB4 HSW4 HBW4 HBD4
          go_wp2_with (at_builtin; refine wpList_append_two _ rfl _ _ 23 rfl (w.heap.size) 27 j0 (.slice none 0 0) 1 24 Try.underlying23 hj hy0 hy1 hy2 rfl (by decide) (.slice (some ⟨ob, 0, none⟩) I lc) I (flat rwE rs) rfl HSW5.out ⟨bb, 0, none⟩ I vc (flat rwE R) rfl ?c0 HRC.out ?c2 ?c3 ?c4 ?c5 ?_)
          case c0 => rw [flat_len rwE_len, HRL.out]
          case c2 => exact flat_one rwE_one R
          case c3 => omega
          case c4 => omega
          case c5 => exact hbz
          intro v6 w6 hn6 ho6 hg6
          have hkb : ∀ (b : Nat) (cur : Array Value) (T : TypeId), w5.heap[b]? = some (.cells cur T (0, 0)) → T ≠ 27 → w6.heap[b]? = w5.heap[b]? := fun b cur T hc hT => hg6.block b (blk_lt hc) (own_ne HSW5.out hc hT)
          have HX6 := Lib.hid (HX5.out.keep fun b cur hc _ => hkb b cur _ hc (by decide))
          have HY6 := Lib.hid (HY5.out.keep fun b cur hc _ => hkb b cur _ hc (by decide))
          have hrk : ∀ r ∈ rs, RwOk w6 r := fun r hr => by
            obtain ⟨k1, k2, k3, k4, k5⟩ := HLW5.out.2 r hr
            exact ⟨k1, k2, k3, k4, k5.keep fun b cur hc _ => hkb b cur _ hc (by decide)⟩
          have hrk2 : ∀ r ∈ R, RwOk w6 r := fun r hr => hrk r (by rw [← HRR.out, List.mem_reverse] at hr; exact hr)
          have HL6 := Lib.hid (show RwsAt w6 (some ⟨ob, 0, none⟩) rs from by
            have h9 : OwnW w.heap.size w6 (.slice (some ⟨ob, 0, none⟩) I lc) rs := by unfold OwnW OwnR; rw [HLN.out]; exact ho6
            obtain ⟨a9, c9, e9, -, -, h8, -⟩ := OwnR.read rwE_len h9
            simp only [Value.slice.injEq] at e9
            rw [e9.1]
            exact ⟨h8, hrk⟩)
          have HR6 := Lib.hid (show RwsAt w6 (some ⟨bb, 0, none⟩) R from by
            have h9 : OwnW w2.heap.size w6 (.slice (some ⟨bb, 0, none⟩) I vc) R := World.ownsRow.kept HBW5.out hg6 (.inr (by show some bb ≠ some ob; have h1 := HBB.out; have h2 := HOZ.out; intro q; cases q; omega))
            obtain ⟨a9, c9, e9, -, -, h8, -⟩ := OwnR.read rwE_len h9
            simp only [Value.slice.injEq] at e9
            rw [e9.1]
            exact ⟨h8, hrk2⟩)
          have HN6 := Lib.hid (show OwnW w.heap.size w6 v6 (rs ++ R) from by unfold OwnW OwnR; rw [flat_app, List.length_append, HLN.out, HRL.out]; exact hn6)
          have hnl : (rs ++ R).length = I + I := by rw [List.length_append, HLN.out, HRL.out]
          obtain ⟨na, nc, rfl, -, -, hnat, -⟩ := OwnR.read rwE_len HN6.out
          rw [hnl]
          have HNW := Lib.hid (show RwsAt w6 na (rs ++ R) from ⟨hnat, fun r hr => (List.mem_append.1 hr).elim (hrk r) (hrk2 r)⟩)
          have HNL := Lib.hid hnl
          have HBD6 := Lib.hid (HBD5.out.grown hg6 hbz (fun q hq => own_ge HSW5.out hq))
          clear hn6 ho6 hg6 hkb hrk hrk2 hnl hnat hbz HX5 HY5 HLW5 HRB5 HSW5 HBW5 HBD5 HRC HN6
          go_wp2_with fail
          refine (mergeJoin na (I + I) nc (rs ++ R) (alls (rs ++ R)) w6 HNW.out HNL.out (by omega) rfl (by rw [alls_two, List.length_append]; have h1 := HL9.out; have h2 := HLR.out; omega)).mono ?_
          rintro r w7 ⟨v7, rfl, ho7, hb7⟩
          rw [HJC.out] at ho7
          obtain ⟨za, zc, rfl, hzc, hzm, hzat, -, -⟩ := OwnC.read ho7
          rw [HM.out] at hzc ⊢
          have HZ7 := Lib.hid hzat
          have HX7 := Lib.hid (HX6.out.ext hb7)
          have HY7 := Lib.hid (HY6.out.ext hb7)
          have HL7 := Lib.hid (HL6.out.ext hb7)
          have HR7 := Lib.hid (HR6.out.ext hb7)
          have HBD7 := Lib.hid (ext_trans HBD6.out hb7)
          clear ho7 hzat hb7 HX6 HY6 HL6 HR6 HNW HNL HBD6 HJB HJC
          go_wp2_with fail
          refine (deskNew 0 0 w7 (by omega) (by omega) (by omega) (by omega)).mono ?_
          rintro r w8 ⟨db, rfl, hdb, hp8, hb8⟩
          have HDB := Lib.hid (Nat.le_trans HBD7.out.size hdb)
          have HP8 := Lib.hid hp8
          have HZ8 := Lib.hid (HZ7.out.ext hb8)
          have HX8 := Lib.hid (HX7.out.ext hb8)
          have HY8 := Lib.hid (HY7.out.ext hb8)
          have HL8 := Lib.hid (HL7.out.ext hb8)
          have HR8 := Lib.hid (HR7.out.ext hb8)
          have HBD8 := Lib.hid (ext_trans HBD7.out hb8)
          clear hdb hp8 hb8 HZ7 HX7 HY7 HL7 HR7 HBD7
          go_wp2_with fail
          refine (deskNew 1 0 w8 (by omega) (by omega) (by omega) (by omega)).mono ?_
          rintro r w9 ⟨eb, rfl, heb, hq9, hb9⟩
          have HEB := Lib.hid (Nat.le_trans HBD8.out.size heb)
          have HNE := Lib.hid (show db ≠ eb by have := HP8.out.lt; omega)
          have HP9 := Lib.hid (HP8.out.ext hb9)
          have HQ9 := Lib.hid hq9
          have HZ9 := Lib.hid (HZ8.out.ext hb9)
          have HX9 := Lib.hid (HX8.out.ext hb9)
          have HY9 := Lib.hid (HY8.out.ext hb9)
          have HL9' := Lib.hid (HL8.out.ext hb9)
          have HR9 := Lib.hid (HR8.out.ext hb9)
          have HBD9 := Lib.hid (ext_trans HBD8.out hb9)
          clear heb hq9 hb9 HP8 HZ8 HX8 HY8 HL8 HR8 HBD8
          have HLL9 := HL9'
          clear HL9'
          go_wp2_with fail
          refine (deskShelf db 0 0 0 0 [] 0 0 0 [] w9 HP9.out).mono ?_
          rintro r w10 ⟨rfl, hb⟩
          have HP10 := Lib.hid (HP9.out.ext hb)
          have HQ10 := Lib.hid (HQ9.out.ext hb)
          have HZ10 := Lib.hid (HZ9.out.ext hb)
          have HX10 := Lib.hid (HX9.out.ext hb)
          have HY10 := Lib.hid (HY9.out.ext hb)
          have HR10 := Lib.hid (HR9.out.ext hb)
          have HBD10 := Lib.hid (ext_trans HBD9.out hb)
          have HLL10 := Lib.hid (HLL9.out.ext hb)
          clear HP9 HQ9 HZ9 HX9 HY9 HR9 HBD9 HLL9 hb
          go_wp2_with fail
          refine (deskShelf eb 1 0 1 0 [] 0 0 0 [] w10 HQ10.out).mono ?_
          rintro r w11 ⟨rfl, hb⟩
          have HP11 := Lib.hid (HP10.out.ext hb)
          have HQ11 := Lib.hid (HQ10.out.ext hb)
          have HZ11 := Lib.hid (HZ10.out.ext hb)
          have HX11 := Lib.hid (HX10.out.ext hb)
          have HY11 := Lib.hid (HY10.out.ext hb)
          have HR11 := Lib.hid (HR10.out.ext hb)
          have HBD11 := Lib.hid (ext_trans HBD10.out hb)
          have HLL11 := Lib.hid (HLL10.out.ext hb)
          clear HP10 HQ10 HZ10 HX10 HY10 HR10 HBD10 HLL10 hb
          go_wp2_with fail
          go_loopw [101] (fun j wr => ∃ (K : Nat) (E G : List En) (KE KG : List Ky), j = .int .i64 (K : Int) ∧ K ≤ I ∧ DkP wr db 0 0 0 0 E 0 0 0 KE ∧ DkP wr eb 1 0 1 0 G 0 0 0 KG ∧ IOk (alls (rs.take K)) (9 * K) ⟨E, KE, [], 0⟩ ∧ IOk (alls (R.take K)) (9 * K) ⟨G, KG, [], 0⟩ ∧ RimD db eb w11 wr) (fun j _ => I - (intOf j).toNat)
          case atStart => exact ⟨0, [], [], [], [], rfl, by omega, HP11.out, HQ11.out, by simpa [alls] using iok_nil, by simpa [alls] using iok_nil, ⟨rfl, rfl, rfl, Nat.le_refl _, fun _ _ _ _ => rfl⟩⟩
          case round =>
            obtain ⟨u1, rfl⟩ : ∃ y : World, y = wr := ⟨_, rfl⟩
            obtain ⟨K, E, G, KE, KG, rfl, hK, hp1, hq1, hi1, hi2, hr1⟩ := hrel
            have HP1 := Lib.hid hp1
            have HQ1 := Lib.hid hq1
            have HI1 := Lib.hid hi1
            have HI2 := Lib.hid hi2
            have HR1 := Lib.hid hr1
            have hkb : ∀ (b : Nat) (cur : Array Value) (T : TypeId), w11.heap[b]? = some (.cells cur T (0, 0)) → T ≠ 74 → u1.heap[b]? = w11.heap[b]? := fun b cur T hc hT => HR1.out.block b (by rintro rfl; obtain ⟨cs, h9⟩ := HP11.out.blk0; rw [h9] at hc; simp at hc; exact hT hc.2.symm) (by rintro rfl; obtain ⟨cs, h9⟩ := HQ11.out.blk0; rw [h9] at hc; simp at hc; exact hT hc.2.symm) (blk_lt hc)
            have HKB := Lib.hid hkb
            clear hp1 hq1 hi1 hi2 hr1 hkb
            by_cases hlt : K < I
            · obtain ⟨r, hr⟩ : ∃ r, rs[K]? = some r := ⟨_, List.getElem?_eq_getElem (by have := HLN.out; omega)⟩
              obtain ⟨s, hs⟩ : ∃ s, R[K]? = some s := ⟨_, List.getElem?_eq_getElem (by have := HRL.out; omega)⟩
              have hl1 := rws_keep HLL11.out HKB.out
              have hl2 := rws_keep HR11.out HKB.out
              have y0 := rw_at hl1 hr
              have y1 := rw_at hl2 hs
              rw [Nat.zero_add] at y0 y1
              obtain ⟨k1, k2, k3, k4, k5⟩ := hl1.2 r (List.mem_of_getElem? hr)
              obtain ⟨m1, m2, m3, m4, m5⟩ := hl2.2 s (List.mem_of_getElem? hs)
              have HA1 := Lib.hid (alls_take hr)
              have HA2 := Lib.hid (alls_take hs)
              have HG1 := Lib.hid (show ∀ c ∈ alls (rs.take K) ++ r.ls, CdG c from fun c hc => HCG.out c (by rw [← HA1.out] at hc; unfold alls at hc ⊢; obtain ⟨x, h1, h2⟩ := List.mem_flatMap.1 hc; exact List.mem_flatMap.2 ⟨x, List.mem_of_mem_take h1, h2⟩))
              have HG2 := Lib.hid (show ∀ c ∈ alls (R.take K) ++ s.ls, CdG c from fun c hc => HCG.out c (by rw [← HA2.out] at hc; rw [← alls_mem, HRR.out]; unfold alls at hc ⊢; obtain ⟨x, h1, h2⟩ := List.mem_flatMap.1 hc; exact List.mem_flatMap.2 ⟨x, List.mem_of_mem_take h1, h2⟩))
              have hn1 : r.n ≤ 9 ∧ s.n ≤ 9 := ⟨HN9.out r (List.mem_of_getElem? hr), HN9.out s (by have h9 := List.mem_of_getElem? hs; rw [← HRR.out, List.mem_reverse] at h9; exact h9)⟩
              have HS1 := Lib.hid (And.intro k1 (And.intro m1 hn1))
              have HK5 := Lib.hid k5
              have HM5 := Lib.hid m5
              have HY1 := Lib.hid y1
              have hdK : decide ((K : Int) < (I : Int)) = true := by simp; omega
              clear hr hs hl1 hl2 k1 k2 k3 k4 k5 m1 m2 m3 m4 m5 y1 hn1
              go_wp2_with fail
              refine (mergeInto db 0 0 0 0 E 0 0 0 KE r.a r.n r.c r.ls 5 u1 HP1.out HI1.out.asc (by have h9 : E.length ≤ 20 := HI1.out.few; omega) HK5.out HS1.out.1 (by have := HS1.out.2.2.1; omega) (fun x hx => .inl (HG1.out x (List.mem_append_right _ hx)).1) (by have h9 : KE.length ≤ 9 * K := HI1.out.ks; omega) (by decide) (by decide)).mono ?_
              rintro r' u2 ⟨v2, rfl, -, hp2, hr2⟩
              have hio := HI1.out.all (now := 5) r.ls (fun x hx => (HG1.out x hx).2)
              obtain ⟨S2, hS2⟩ : ∃ S2, intoL 5 ⟨E, KE, [], 0⟩ r.ls = S2 := ⟨_, rfl⟩
              rw [hS2] at hp2 hio ⊢
              obtain ⟨E2, KE2, O2, F2⟩ := S2
              simp only [] at hp2 ⊢
              have HI3 := Lib.hid (show IOk (alls (rs.take (K + 1))) (9 * (K + 1)) ⟨E2, KE2, [], 0⟩ from by rw [HA1.out]; exact hio.mono (by have h1 := HS1.out.1; have h2 := HS1.out.2.2.1; omega))
              have HP2 := Lib.hid hp2
              have HQ2 := Lib.hid (HQ1.out.apart HP1.out hr2 (Ne.symm HNE.out))
              have HR2 := Lib.hid (HR1.out.trans (RimD.fst hr2))
              have HM6 := Lib.hid (show CAt u2 s.a s.ls from HM5.out.keep fun b cur hc _ => HP1.out.other hr2 hc (by decide))
              obtain ⟨a9, c9, e9, -⟩ : ∃ (a : Option Addr) (c : Nat), (some (⟨bb, 0, none⟩ : Addr)) = a ∧ True := ⟨_, 0, rfl, trivial⟩
              have y1 : u2.cell? ⟨bb, K, none⟩ = some (.slice s.a s.n s.c) := by
                obtain ⟨cur9, h9⟩ : ∃ cur, u1.heap[bb]? = some (.cells cur 27 (0, 0)) := by
                  rcases (rws_keep HR11.out HKB.out).1 with h | ⟨b8, o8, e8, ⟨cur8, h8⟩, -⟩
                  · have := HRL.out; rw [h] at this; simp at this; omega
                  · simp at e8; rw [e8.1]; exact ⟨_, h8⟩
                exact (World.cell?_of_block (w := u1) (HP1.out.other hr2 h9 (by decide))).trans HY1.out
              clear hp2 hr2 hio hS2 HP1 HQ1 HI1 HR1 HK5 HM5 HY1 y0 HKB e9
              go_wp2_with fail
              refine (mergeInto eb 1 0 1 0 G 0 0 0 KG s.a s.n s.c s.ls 9 u2 HQ2.out HI2.out.asc (by have h9 : G.length ≤ 20 := HI2.out.few; omega) HM6.out HS1.out.2.1 (by have := HS1.out.2.2.2; omega) (fun x hx => .inl (HG2.out x (List.mem_append_right _ hx)).1) (by have h9 : KG.length ≤ 9 * K := HI2.out.ks; omega) (by decide) (by decide)).mono ?_
              rintro r' u3 ⟨v3, rfl, -, hp3, hr3⟩
              have hio := HI2.out.all (now := 9) s.ls (fun x hx => (HG2.out x hx).2)
              obtain ⟨S3, hS3⟩ : ∃ S3, intoL 9 ⟨G, KG, [], 0⟩ s.ls = S3 := ⟨_, rfl⟩
              rw [hS3] at hp3 hio ⊢
              obtain ⟨G3, KG3, O3, F3⟩ := S3
              simp only [] at hp3 ⊢
              have HI4 := Lib.hid (show IOk (alls (R.take (K + 1))) (9 * (K + 1)) ⟨G3, KG3, [], 0⟩ from by rw [HA2.out]; exact hio.mono (by have h1 := HS1.out.2.1; have h2 := HS1.out.2.2.2; omega))
              have HQ3 := Lib.hid hp3
              have HP3 := Lib.hid (HP2.out.apart HQ2.out hr3 HNE.out)
              have HR3 := Lib.hid (HR2.out.trans (RimD.snd hr3))
              clear hp3 hr3 hio hS3 HP2 HQ2 HI2 HR2 HM6 y1
              go_wp2
              go_roundw
              case rel => exact ⟨K + 1, E2, G3, KE2, KG3, by go_num, by omega, HP3.out, HQ3.out, HI3.out, HI4.out, HR3.out⟩
              case measure => simp [intOf]; omega
            · have hdK : decide ((K : Int) < (I : Int)) = false := by simp; omega
              have e1 : rs.take K = rs := List.take_of_length_le (by have := HLN.out; omega)
              have e2 : R.take K = R := List.take_of_length_le (by have := HRL.out; omega)
              have hd1 := HI1.out.dom
              have hd2 := HI2.out.dom
              rw [e1] at hd1
              rw [e2] at hd2
              have HE := Lib.hid (show E.map (·.c) = J from by rw [← HJJ.out]; exact hd1.one (joined_dom (alls rs)) (fun c => Iff.rfl) HONE.out)
              have HGJ := Lib.hid (show G.map (·.c) = J from by rw [← HJJ.out]; exact hd2.one (joined_dom (alls rs)) (fun c => by rw [← HRR.out]; exact alls_mem rs c) (by rw [← HRR.out]; exact fun x hx y hy => HONE.out x ((alls_mem rs x).1 hx) y ((alls_mem rs y).1 hy)))
              have hm20 : m ≤ 20 := by
                have h1 := HI1.out.few
                have h2 := congrArg List.length HE.out
                rw [List.length_map, HM.out] at h2
                show m ≤ 20
                simp only [] at h1
                omega
              have hgl : G.length ≤ 900 := by have h1 := HI2.out.few; simp only [] at h1; omega
              have hel : E.length ≤ 900 := by have h1 := HI1.out.few; simp only [] at h1; omega
              have HSD := Lib.hid (show ∀ x ∈ J, CdS x from fun x hx => (HCG.out x (HDJ.out.sub x hx)).s)
              have HAd1 := Lib.hid (HX11.out.keep fun b cur hc _ => HKB.out b cur _ hc (by decide))
              have HBd1 := Lib.hid (HY11.out.keep fun b cur hc _ => HKB.out b cur _ hc (by decide))
              have HCd1 := Lib.hid (HZ11.out.keep fun b cur hc _ => HKB.out b cur _ hc (by decide))
              have HB1 := Lib.hid (HBD11.out.trans (HR1.out.below HDB.out HEB.out HBD11.out.size))
              have hdm : decide ((m : Int) ≤ 20) = true := by simp; omega
              clear hd1 hd2 e1 e2 hdK HI1 HI2 HR1 HKB
              go_wp2_with fail
              refine (same5 xa ya m xc yc J u1 HAd1.out HBd1.out HM.out hxc hyc hxm hym).mono ?_
              rintro r u2 ⟨rfl, hb⟩
              have HP2 := Lib.hid (HP1.out.ext hb)
              have HQ2 := Lib.hid (HQ1.out.ext hb)
              have HAd2 := Lib.hid (HAd1.out.ext hb)
              have HBd2 := Lib.hid (HBd1.out.ext hb)
              have HCd2 := Lib.hid (HCd1.out.ext hb)
              have HB2 := Lib.hid (ext_trans HB1.out hb)
              clear HP1 HQ1 HAd1 HBd1 HCd1 HB1 hb
              go_wp2_with fail
              refine (same5 xa za m xc zc J u2 HAd2.out HCd2.out HM.out hxc hzc hxm hzm).mono ?_
              rintro r u3 ⟨rfl, hb⟩
              have HP3 := Lib.hid (HP2.out.ext hb)
              have HQ3 := Lib.hid (HQ2.out.ext hb)
              have HAd3 := Lib.hid (HAd2.out.ext hb)
              have HBd3 := Lib.hid (HBd2.out.ext hb)
              have HCd3 := Lib.hid (HCd2.out.ext hb)
              have HB3 := Lib.hid (ext_trans HB2.out hb)
              clear HP2 HQ2 HAd2 HBd2 HCd2 HB2 hb
              go_wp2_with fail
              refine (deskShelf db 0 0 0 0 E 0 0 0 KE u3 HP3.out).mono ?_
              rintro r u4 ⟨rfl, hb⟩
              have HP4 := Lib.hid (HP3.out.ext hb)
              have HQ4 := Lib.hid (HQ3.out.ext hb)
              have HAd4 := Lib.hid (HAd3.out.ext hb)
              have HBd4 := Lib.hid (HBd3.out.ext hb)
              have HCd4 := Lib.hid (HCd3.out.ext hb)
              have HB4 := Lib.hid (ext_trans HB3.out hb)
              clear HP3 HQ3 HAd3 HBd3 HCd3 HB3 hb
              go_wp2_with fail
              refine (deskCards db 0 0 0 0 E 0 0 0 KE u4 HP4.out hel).mono ?_
              rintro r u5 ⟨vd, rfl, hod, hb⟩
              rw [HE.out] at hod
              obtain ⟨da, dc, rfl, hdc, hdm9, hdat, -, -⟩ := OwnC.read hod
              rw [HM.out] at hdc ⊢
              have HDA := Lib.hid hdat
              clear hod hdat
              have HP5 := Lib.hid (HP4.out.ext hb)
              have HQ5 := Lib.hid (HQ4.out.ext hb)
              have HAd5 := Lib.hid (HAd4.out.ext hb)
              have HBd5 := Lib.hid (HBd4.out.ext hb)
              have HCd5 := Lib.hid (HCd4.out.ext hb)
              have HB5 := Lib.hid (ext_trans HB4.out hb)
              clear HP4 HQ4 HAd4 HBd4 HCd4 HB4 hb
              go_wp2_with fail
              refine (same5 da xa m dc xc J u5 HDA.out HAd5.out HM.out hdc hxc hdm9 hxm).mono ?_
              rintro r u6 ⟨rfl, hb⟩
              clear HDA
              have HP6 := Lib.hid (HP5.out.ext hb)
              have HQ6 := Lib.hid (HQ5.out.ext hb)
              have HAd6 := Lib.hid (HAd5.out.ext hb)
              have HBd6 := Lib.hid (HBd5.out.ext hb)
              have HCd6 := Lib.hid (HCd5.out.ext hb)
              have HB6 := Lib.hid (ext_trans HB5.out hb)
              clear HP5 HQ5 HAd5 HBd5 HCd5 HB5 hb
              go_wp2_with fail
              refine (deskShelf eb 1 0 1 0 G 0 0 0 KG u6 HQ6.out).mono ?_
              rintro r u7 ⟨rfl, hb⟩
              have HP7 := Lib.hid (HP6.out.ext hb)
              have HQ7 := Lib.hid (HQ6.out.ext hb)
              have HAd7 := Lib.hid (HAd6.out.ext hb)
              have HBd7 := Lib.hid (HBd6.out.ext hb)
              have HCd7 := Lib.hid (HCd6.out.ext hb)
              have HB7 := Lib.hid (ext_trans HB6.out hb)
              clear HP6 HQ6 HAd6 HBd6 HCd6 HB6 hb
              go_wp2_with fail
              refine (deskCards eb 1 0 1 0 G 0 0 0 KG u7 HQ7.out hgl).mono ?_
              rintro r u8 ⟨ve, rfl, hoe, hb⟩
              rw [HGJ.out] at hoe
              obtain ⟨ea, ec9, rfl, hec, hem9, heat, -, -⟩ := OwnC.read hoe
              rw [HM.out] at hec ⊢
              have HEA := Lib.hid heat
              clear hoe heat
              have HP8 := Lib.hid (HP7.out.ext hb)
              have HQ8 := Lib.hid (HQ7.out.ext hb)
              have HAd8 := Lib.hid (HAd7.out.ext hb)
              have HBd8 := Lib.hid (HBd7.out.ext hb)
              have HCd8 := Lib.hid (HCd7.out.ext hb)
              have HB8 := Lib.hid (ext_trans HB7.out hb)
              clear HP7 HQ7 HAd7 HBd7 HCd7 HB7 hb
              go_wp2_with fail
              refine (same5 ea xa m ec9 xc J u8 HEA.out HAd8.out HM.out hec hxc hem9 hxm).mono ?_
              rintro r u9 ⟨rfl, hb⟩
              clear HEA
              have HP9 := Lib.hid (HP8.out.ext hb)
              have HQ9 := Lib.hid (HQ8.out.ext hb)
              have HAd9 := Lib.hid (HAd8.out.ext hb)
              have HBd9 := Lib.hid (HBd8.out.ext hb)
              have HCd9 := Lib.hid (HCd8.out.ext hb)
              have HB9 := Lib.hid (ext_trans HB8.out hb)
              clear HP8 HQ8 HAd8 HBd8 HCd8 HB8 hb
              go_wp2_with fail
              refine (refSeal9 xa m xc J u9 HAd9.out HM.out hm20 hxc HSD.out).mono ?_
              rintro r u10 ⟨rfl, hb⟩
              have HP10 := Lib.hid (HP9.out.ext hb)
              have HQ10 := Lib.hid (HQ9.out.ext hb)
              have HAd10 := Lib.hid (HAd9.out.ext hb)
              have HBd10 := Lib.hid (HBd9.out.ext hb)
              have HCd10 := Lib.hid (HCd9.out.ext hb)
              have HB10 := Lib.hid (ext_trans HB9.out hb)
              clear HP9 HQ9 HAd9 HBd9 HCd9 HB9 hb
              go_wp2_with fail
              refine (refSeal9 ya m yc J u10 HBd10.out HM.out hm20 hyc HSD.out).mono ?_
              rintro r u11 ⟨rfl, hb⟩
              have HP11 := Lib.hid (HP10.out.ext hb)
              have HQ11 := Lib.hid (HQ10.out.ext hb)
              have HAd11 := Lib.hid (HAd10.out.ext hb)
              have HBd11 := Lib.hid (HBd10.out.ext hb)
              have HCd11 := Lib.hid (HCd10.out.ext hb)
              have HB11 := Lib.hid (ext_trans HB10.out hb)
              clear HP10 HQ10 HAd10 HBd10 HCd10 HB10 hb
              go_wp2_with fail
              refine (law19known u11).mono ?_
              rintro r u12 ⟨rfl, hb⟩
              have HP12 := Lib.hid (HP11.out.ext hb)
              have HQ12 := Lib.hid (HQ11.out.ext hb)
              have HAd12 := Lib.hid (HAd11.out.ext hb)
              have HBd12 := Lib.hid (HBd11.out.ext hb)
              have HCd12 := Lib.hid (HCd11.out.ext hb)
              have HB12 := Lib.hid (ext_trans HB11.out hb)
              clear HP11 HQ11 HAd11 HBd11 HCd11 HB11 hb
              go_wp2
              go_ret
              exact ⟨rfl, HB12.out⟩

end Go.Proofs.Ytkhmaaalmlnblaa
