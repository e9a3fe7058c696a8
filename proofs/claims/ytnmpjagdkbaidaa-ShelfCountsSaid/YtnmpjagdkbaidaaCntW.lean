/- 'ShelfCounts': the walk. -/
import Derived.Test.YtnmpjagdkbaidaaMapD
import Derived.Test.YtnmpjagdkbaidaaTapeF
import Derived.Test.YtnmpjagdkbaidaaTapeCd
import Derived.Test.YtnmpjagdkbaidaaShfG
import Derived.Test.YtnmpjagdkbaidaaShfK
import Derived.Test.YtnmpjagdkbaidaaMask
import Derived.Maps.RangeWalk
namespace Go.Proofs.Ytnmpjagdkbaidaa
open Go.RowKit
set_option linter.unusedVariables false
set_option linter.unusedSimpArgs false

/-- a shelf, a tape and a map side by side -/
def PC (w0 : World) (ra : Option Addr) (rlen rcap sb tb mb n : Nat) (es fs : List En) (w : World) : Prop := ShP w sb 32 es ∧ TapeK ra rlen rcap w tb ∧ MpD w mb n fs ∧ Below w0.heap.size w0 w ∧ w0.heap.size ≤ sb ∧ w0.heap.size ≤ tb ∧ w0.heap.size ≤ mb
section
variable {w0 w w' : World} {ra : Option Addr} {rlen rcap sb tb mb n m : Nat} {es fs gs : List En}
theorem MpD.mono (h : MpD w mb n es) (hn : n ≤ m) : MpD w mb m es := by
  obtain ⟨D, ⟨ms, clock, e1, e2, e3, e4⟩, h2⟩ := h
  exact ⟨D, ⟨ms, clock, e1, e2, by omega, e4⟩, h2⟩
theorem PC.ext (h : PC w0 ra rlen rcap sb tb mb n es fs w) (hb : Below w.heap.size w w') : PC w0 ra rlen rcap sb tb mb n es fs w' :=
  ⟨h.1.ext hb, h.2.1.ext hb, h.2.2.1.ext hb, h.2.2.2.1.trans (hb.mono h.2.2.2.1.size), h.2.2.2.2⟩
theorem PC.bar (h : PC w0 ra rlen rcap sb tb mb n es fs w) (hr : Bar tb w w') (ht : TapeK ra rlen rcap w' tb) : PC w0 ra rlen rcap sb tb mb n es fs w' := by
  obtain ⟨h1, h2, h3, h4, h5, h6, h7⟩ := h
  have h1' : ShP w' sb 32 es := by
    obtain ⟨a2, c2, k1, k2, k3⟩ := h1
    exact ⟨a2, c2, (hr.block sb (h2.ne (by decide) k1) (blk_lt k1)).trans k1, k2.keep fun b cur hc _ => hr.block b (h2.ne (by decide) hc) (blk_lt hc), k3⟩
  have h3' : MpD w' mb n fs := by
    obtain ⟨q, e1, -⟩ := h2
    exact h3.blk (hr.block mb (Ne.symm (h3.ne e1)) h3.lt)
  exact ⟨h1', ht, h3', h4.trans (hr.below h6 h4.size), h5, h6, h7⟩
theorem PC.s (h : PC w0 ra rlen rcap sb tb mb n es fs w) (hs : ShP w' sb 32 gs) (hr : Rim sb w w') : PC w0 ra rlen rcap sb tb mb n gs fs w' := by
  obtain ⟨h1, h2, h3, h4, h5, h6, h7⟩ := h
  obtain ⟨a2, c2, k1, k2, k3⟩ := h1
  have hne : tb ≠ sb := Ne.symm (h2.ne (by decide) k1)
  have h2' : TapeK ra rlen rcap w' tb := by
    obtain ⟨q, e1, e2⟩ := h2
    exact ⟨q, (hr.block tb hne (blk_lt e1)).trans e1, e2⟩
  exact ⟨hs, h2', h3.blk (hr.block mb (Ne.symm (h3.ne k1)) h3.lt), h4.trans (hr.below h5 h4.size), h5, h6, h7⟩
theorem PC.grown (h : PC w0 ra rlen rcap sb tb mb n es fs w) (hm : MpD w' mb m gs) (hg : w.grownBy w' (some mb)) : PC w0 ra rlen rcap sb tb mb m es gs w' := by
  obtain ⟨h1, h2, h3, h4, h5, h6, h7⟩ := h
  have hk : ∀ (b : Nat) (cur : Array Value) (T : TypeId), w.heap[b]? = some (.cells cur T (0, 0)) → w'.heap[b]? = w.heap[b]? := fun b cur T hc => hg.block b (blk_lt hc) (by have := h3.ne hc; simpa using this)
  have h1' : ShP w' sb 32 es := by
    obtain ⟨a2, c2, k1, k2, k3⟩ := h1
    exact ⟨a2, c2, (hk sb _ _ k1).trans k1, k2.keep fun b cur hc _ => hk b _ _ hc, k3⟩
  have h2' : TapeK ra rlen rcap w' tb := by
    obtain ⟨q, e1, e2⟩ := h2
    exact ⟨q, (hk tb _ _ e1).trans e1, e2⟩
  exact ⟨h1', h2', hm, h4.grown hg h4.size (fun k hk => by simp at hk; omega), h5, h6, h7⟩
theorem ranges_ext {k : TypeId} {R : Value → Option (DataW Cd × List MemPlace)} {b r c : Nat} {D : DataW Cd} {left : Lit → Bool} (h : w.ranges Try.prog k R b r n D left c) (hb : Below w.heap.size w w') : w'.ranges Try.prog k R b r n D left c :=
  h.kept (row := none) ⟨hb.os, hb.tape, hb.output, hb.size, fun k hk _ => hb.block k hk⟩ (by simp) (by simp)
end

set_option maxRecDepth 100000 in
set_option maxHeartbeats 4000000 in
theorem shelfCounts_walk (ra : Option Addr) (rlen rcap : Nat) (rz : List Int) (w : World) (hr : IsRow .i64 w ra rlen rcap rz) (hr8 : rlen * 8 ≤ 140737488351232) :
    Calls Try.prog 6 #[.slice ra rlen rcap] w fun r w' => r = .returned (.bool true) ∧ Below w.heap.size w w' := by
  go_enter Try.func6, Try.ntmps6
  go_wp2_with fail
  refine (shNew 32 _ (by omega)).mono ?_
  rintro r w1 ⟨rfl, hs1, hb1⟩
  obtain ⟨sb, hsb⟩ : ∃ sb, w.heap.size = sb := ⟨_, rfl⟩
  rw [hsb] at hs1 ⊢
  have HSB := Lib.hid hsb
  have HS1 := Lib.hid hs1
  have HB1 := Lib.hid hb1
  have HR := Lib.hid hr
  have HT2 := Lib.hid (tapeK_new (a := ra) (len := rlen) (cap := rcap) w1)
  have hrow := (rowOk_new (hr.ext hb1) (.cells #[.slice ra rlen rcap, .int .i64 0] 39)).2
  have D2 := Lib.hid (show Below w1.heap.size w1 (w1.alloc (.cells #[.slice ra rlen rcap, .int .i64 0] 39)) from (Below.refl _ _).alloc (Nat.le_refl _) _)
  obtain ⟨tb, htb⟩ : ∃ tb, w1.heap.size = tb := ⟨_, rfl⟩
  have HTB := Lib.hid htb
  have htb0 : w.heap.size ≤ tb := by rw [← htb]; exact hb1.size
  rw [htb] at HT2 hrow
  have HNE := Lib.hid hrow
  clear hrow hs1 hb1 hr
  go_upto_region 3 with (fail)
  clear htb
  generalize (w1.alloc (.cells #[.slice ra rlen rcap, .int .i64 0] 39)) = w2 at *
  have HM3 := Lib.hid (MpD.made w2)
  have D3 := Lib.hid (show Below w2.heap.size w2 (w2.alloc (.map #[] 0)) from (Below.refl _ _).alloc (Nat.le_refl _) _)
  have HP3 := Lib.hid (show PC w ra rlen rcap sb tb w2.heap.size 0 [] [] (w2.alloc (.map #[] 0)) from ⟨(HS1.out.ext D2.out).ext D3.out, HT2.out.ext D3.out, HM3.out, (HB1.out.trans (D2.out.mono HB1.out.size)).trans (D3.out.mono (HB1.out.trans (D2.out.mono HB1.out.size)).size), by have := HSB.out; omega, htb0, (HB1.out.trans (D2.out.mono HB1.out.size)).size⟩)
  have hmk := @run_makeMap Try.prog
  go_wp2_with fail
  clear hmk
  obtain ⟨mb, hmb⟩ : ∃ mb, w2.heap.size = mb := ⟨_, rfl⟩
  rw [hmb] at HP3 ⊢
  clear hmb HM3 D3 D2 HT2 HS1 HB1
  generalize (w2.alloc (.map #[] 0)) = wz at *
  go_loopw [6] (fun i wr => ∃ (I : Nat) (es : List En), I ≤ 40 ∧ i = .int .i64 (I : Int) ∧ PC w ra rlen rcap sb tb mb I es es wr ∧ Asc es ∧ (∀ e ∈ es, KA e.c.a ∧ KI e.c.i)) (fun i _ => 40 - (intOf i).toNat)
  case atStart => exact ⟨0, [], by omega, rfl, HP3.out, List.Pairwise.nil, fun e he => (by cases he)⟩
  case round =>
    obtain ⟨w4, rfl⟩ : ∃ y : World, y = wr := ⟨_, rfl⟩
    obtain ⟨I, es, hI, rfl, hp, has, hkk⟩ := hrel
    have HP2 := Lib.hid hp
    have HAS := Lib.hid has
    have HKK := Lib.hid hkk
    have HFEW := Lib.hid (few has hkk)
    clear hp has hkk HP3
    by_cases hlt : I < 40
    · have hd1 : decide ((I : Int) < 40) = true := by simp; omega
      go_wp2_with fail
      refine (tapeCardF ra rlen rcap rz tb _ HP2.out.2.1 (show RowOk ra rlen rcap rz _ tb from ⟨HR.out.ext HP2.out.2.2.2.1, HNE.out⟩)).mono ?_
      rintro e w3 ⟨x, rfl, -, hka, hki, ht, hb⟩
      have HKA := Lib.hid hka
      have HKI := Lib.hid hki
      have HKS := Lib.hid (show KyS (x.a, x.i) from ⟨by have := hka.size; show x.a.size ≤ 1000; omega, by have := hki.size; show x.i.size ≤ 1000; omega⟩)
      have HP3 := Lib.hid (HP2.out.bar hb ht)
      have HX4 := Lib.hid (blk_new w3 #[.string x.a, .string x.i, .int .i64 x.s, .int .i64 x.o, .int .i64 x.l, .int .i64 x.t, .int .i64 x.k, .int .i64 x.n, .bool x.g] 31)
      have HP4 := Lib.hid (HP3.out.ext (show Below w3.heap.size w3 (w3.alloc (.cells #[.string x.a, .string x.i, .int .i64 x.s, .int .i64 x.o, .int .i64 x.l, .int .i64 x.t, .int .i64 x.k, .int .i64 x.n, .bool x.g] 31)) from (Below.refl _ _).alloc (Nat.le_refl _) _))
      have hlt3 := (show sb < w3.heap.size from HP3.out.1.lt)
      clear hka hki ht hb HP2 HP3
      go_upto_region 10 with (fail)
      obtain ⟨p, hp⟩ : ∃ p, w3.heap.size = p := ⟨_, rfl⟩
      rw [hp] at HX4 hlt3 ⊢
      have HNE2 := Lib.hid (show p ≠ sb by omega)
      clear hp hlt3
      generalize (w3.alloc (.cells #[.string x.a, .string x.i, .int .i64 x.s, .int .i64 x.o, .int .i64 x.l, .int .i64 x.t, .int .i64 x.k, .int .i64 x.n, .bool x.g] 31)) = wq at *
      go_wp2_with fail
      refine (tapeNextK ra rlen rcap rz tb 4 _ HP4.out.2.1 (show RowOk ra rlen rcap rz _ tb from ⟨HR.out.ext HP4.out.2.2.2.1, HNE.out⟩) (by omega) (by omega)).mono ?_
      rintro e w5 ⟨v, rfl, v0, v1, ht, hb⟩
      have HP5 := Lib.hid (HP4.out.bar hb ht)
      have HX5 := Lib.hid (hb.blk (HP4.out.2.1.ne (by decide) HX4.out) HX4.out)
      have hk5 := blk_cell HX5.out
      have hl5 := blk_lt HX5.out
      clear ht hb HP4 HX4
      by_cases hv : v = 0
      · subst hv
        cases hin : isIn (x.a, x.i) es
        · go_wp2_with (at_lookup; refine wpMapLookC _ rfl _ _ rfl mb I es rfl HP5.out.2.2.1 HAS.out (x.a, x.i) rfl HKS.out ?_; rw [hin]; intro cq; have D5 := Lib.hid (show Below w5.heap.size w5 (w5.alloc (.cells #[.string cq.a, .string cq.i, .int .i64 cq.s, .int .i64 cq.o, .int .i64 cq.l, .int .i64 cq.t, .int .i64 cq.k, .int .i64 cq.n, .bool cq.g] 31)) from (Below.refl _ _).alloc (Nat.le_refl _) _))
          refine (shDropNo sb 32 es (x.a, x.i) _ (HP5.out.ext D5.out).1 HAS.out (by have := HFEW.out; omega) hin).mono ?_
          rintro r w6 ⟨rfl, hb6⟩
          have HP6 := Lib.hid ((HP5.out.ext D5.out).ext hb6)
          have HX6 := Lib.hid (blk_ext hb6 (blk_ext D5.out HX5.out))
          clear hb6
          clear HX5 HP5 D5 hk5 hl5
          have hk6 := blk_cell HX6.out
          have hl6 := blk_lt HX6.out
          go_wp2_with (at_delete; refine wpMapDelC _ rfl _ _ rfl mb I es es rfl HP6.out.2.2.1 (x.a, x.i) rfl HKS.out (fun y => ⟨fun hy => ⟨hy, isIn_none HAS.out hin hy⟩, fun hy => hy.1⟩) ?_; intro w7 hm7 hg7)
          have HP7 := Lib.hid (HP6.out.grown (hm7.mono (Nat.le_succ I)) hg7)
          clear hm7 hg7 HP6 HX6 hk6 hl6
          go_wp2
          go_roundw
          case rel => exact ⟨I + 1, es, by omega, by go_num, HP7.out, HAS.out, HKK.out⟩
          case measure => simp [intOf]; omega
        · go_wp2_with (at_lookup; refine wpMapLookC _ rfl _ _ rfl mb I es rfl HP5.out.2.2.1 HAS.out (x.a, x.i) rfl HKS.out ?_; rw [hin]; intro cq; have D5 := Lib.hid (show Below w5.heap.size w5 (w5.alloc (.cells #[.string cq.a, .string cq.i, .int .i64 cq.s, .int .i64 cq.o, .int .i64 cq.l, .int .i64 cq.t, .int .i64 cq.k, .int .i64 cq.n, .bool cq.g] 31)) from (Below.refl _ _).alloc (Nat.le_refl _) _))
          refine (shDropYes sb 32 es (x.a, x.i) _ (HP5.out.ext D5.out).1 HAS.out (by have := HFEW.out; omega) hin).mono ?_
          rintro r w6 ⟨rfl, hs6, hr6⟩
          have HP6 := Lib.hid ((HP5.out.ext D5.out).s hs6 hr6)
          have HX6 := Lib.hid ((hr6.block p (by have := HNE2.out; omega) (blk_lt (blk_ext D5.out HX5.out))).trans (blk_ext D5.out HX5.out))
          clear hs6 hr6
          clear HX5 HP5 D5 hk5 hl5
          have hk6 := blk_cell HX6.out
          have hl6 := blk_lt HX6.out
          go_wp2_with (at_delete; refine wpMapDelC _ rfl _ _ rfl mb I es (delAt es (low (x.a, x.i) es)) rfl HP6.out.2.2.1 (x.a, x.i) rfl HKS.out (fun y => mem_del HAS.out hin) ?_; intro w7 hm7 hg7)
          have HP7 := Lib.hid (HP6.out.grown (hm7.mono (Nat.le_succ I)) hg7)
          clear hm7 hg7 HP6 HX6 hk6 hl6
          go_wp2
          go_roundw
          case rel => exact ⟨I + 1, (delAt es (low (x.a, x.i) es)), by omega, by go_num, HP7.out, asc_del HAS.out _, fun y hy => HKK.out y ((mem_del HAS.out hin).1 hy).1⟩
          case measure => simp [intOf]; omega
      · have hv2 : (v == 0) = false := by simp [hv]
        cases hin : isIn (enK (⟨x, (I : Int)⟩ : En)) es
        · go_wp2_with fail
          refine (shPutNew sb 32 es (⟨x, (I : Int)⟩ : En) _ HP5.out.1 HAS.out (by have := HFEW.out; omega) hin (by have := HFEW.out; omega)).mono ?_
          rintro r w6 ⟨rfl, hs6, hr6⟩
          have HP6 := Lib.hid (HP5.out.s hs6 hr6)
          have HX6 := Lib.hid ((hr6.block p (by have := HNE2.out; omega) (blk_lt HX5.out)).trans HX5.out)
          clear hs6 hr6 HX5 HP5 hk5 hl5
          have hk6 := blk_cell HX6.out
          have hl6 := blk_lt HX6.out
          go_wp2_with (at_mapUpdate; refine wpMapStoreC _ rfl _ _ _ rfl mb I es (insAt es (low (enK (⟨x, (I : Int)⟩ : En)) es) (⟨x, (I : Int)⟩ : En)) rfl HP6.out.2.2.1 (by unfold maxLen; omega) (⟨x, (I : Int)⟩ : En) rfl rfl HKS.out (fun y => mem_ins HAS.out hin _) ?_; intro w7 hm7 hg7)
          have HP7 := Lib.hid (HP6.out.grown hm7 hg7)
          clear hm7 hg7 HP6 HX6 hk6 hl6
          go_wp2
          go_roundw
          case rel => exact ⟨I + 1, (insAt es (low (enK (⟨x, (I : Int)⟩ : En)) es) (⟨x, (I : Int)⟩ : En)), by omega, by go_num, HP7.out, asc_ins HAS.out hin, fun y hy => by rcases (mem_ins HAS.out hin _).1 hy with rfl | hy; (· exact ⟨HKA.out, HKI.out⟩); (· exact HKK.out y hy.1)⟩
          case measure => simp [intOf]; omega
        · go_wp2_with fail
          refine (shPutIn sb 32 es (⟨x, (I : Int)⟩ : En) _ HP5.out.1 HAS.out (by have := HFEW.out; omega) hin).mono ?_
          rintro r w6 ⟨rfl, hs6, hr6⟩
          have HP6 := Lib.hid (HP5.out.s hs6 hr6)
          have HX6 := Lib.hid ((hr6.block p (by have := HNE2.out; omega) (blk_lt HX5.out)).trans HX5.out)
          clear hs6 hr6 HX5 HP5 hk5 hl5
          have hk6 := blk_cell HX6.out
          have hl6 := blk_lt HX6.out
          go_wp2_with (at_mapUpdate; refine wpMapStoreC _ rfl _ _ _ rfl mb I es (es.set (low (enK (⟨x, (I : Int)⟩ : En)) es) (⟨x, (I : Int)⟩ : En)) rfl HP6.out.2.2.1 (by unfold maxLen; omega) (⟨x, (I : Int)⟩ : En) rfl rfl HKS.out (fun y => mem_set HAS.out hin) ?_; intro w7 hm7 hg7)
          have HP7 := Lib.hid (HP6.out.grown hm7 hg7)
          clear hm7 hg7 HP6 HX6 hk6 hl6
          go_wp2
          go_roundw
          case rel => exact ⟨I + 1, (es.set (low (enK (⟨x, (I : Int)⟩ : En)) es) (⟨x, (I : Int)⟩ : En)), by omega, by go_num, HP7.out, asc_put HAS.out hin, fun y hy => by rcases (mem_set HAS.out hin).1 hy with rfl | hy; (· exact ⟨HKA.out, HKI.out⟩); (· exact HKK.out y hy.1)⟩
          case measure => simp [intOf]; omega
    · have hd1 : decide ((I : Int) < 40) = false := by simp; omega
      obtain ⟨D, ho, hho⟩ := HP2.out.2.2.1
      have HHO := Lib.hid hho
      have HSZ := Lib.hid (hho.size ho HAS.out)
      clear hho
      go_wp2_with (first | (at_range; refine wpList_range_own _ rfl _ 54 rfl 27 31 keyedK Try.underlying54 RC mb I D rfl ho ?_; intro w6 hrg hg6 hs6) | go_in)
      have HB6 := Lib.hid (show Below w4.heap.size w4 w6 from (Below.refl _ _).grown hg6 (Nat.le_refl _) (fun k hk => by cases hk))
      go_frame
      go_loopw [10] (fun l wr => ∃ (left : Lit → Bool) (cn : Nat), wr.ranges Try.prog 27 RC mb w4.heap.size I D left cn ∧ Hid (∀ z, left z = true → Maps.has D z = true) ∧ Hid (Below w4.heap.size w4 wr) ∧ l = .int .i64 (lv left es : Int)) (fun _ wr => wr.rangeLeft mb w4.heap.size)
      case atStart => exact ⟨_, _, hrg, Lib.hid (fun z h => h), HB6, by rw [lv_start HHO.out]; rfl⟩
      case round =>
        obtain ⟨w7, rfl⟩ : ∃ y : World, y = wr := ⟨_, rfl⟩
        obtain ⟨left, cn, hrg1, HLF, HBR, rfl⟩ := hrel
        obtain ⟨V, hV⟩ : ∃ V, lv left es = V := ⟨_, rfl⟩
        have HV := Lib.hid hV
        have hV20 : V ≤ 20 := by
          have h1 := List.length_filter_le (fun e => !left (klit (enK e)) && !e.c.g) es
          have h2 := HFEW.out
          unfold lv at hV
          omega
        rw [hV]
        clear hV
        go_wp2_with (first | (at_next; refine wpList_next_ranges _ rfl _ rfl 27 keyedK RC (fun x : Value => x) (fun c : Cd => .agg #[.string c.a, .string c.i, .int .i64 c.s, .int .i64 c.o, .int .i64 c.l, .int .i64 c.t, .int .i64 c.k, .int .i64 c.n, .bool c.g]) (fun key kl h => ⟨key, rfl⟩) (fun v y h => by obtain ⟨c, e, -⟩ := RC_inv h; exact ⟨c, e⟩) mb w4.heap.size I D _ _ rfl hrg1 ?_ ?_) | go_in)
        · intro _ hl0
          have HVE := Lib.hid (show ((livN es : Nat) : Int) = (V : Int) from by rw [← HV.out, lv_end left hl0])
          have ho7 := Lib.hid hrg1.owns
          clear hl0 hrg1
          have HP7 := Lib.hid (HP2.out.ext HBR.out)
          go_wp2_with fail
          refine (shLen sb 32 es _ HP7.out.1 (by have := HFEW.out; omega)).mono ?_
          rintro r w8 ⟨rfl, hb8⟩
          have ho8 : OwnMC w8 mb I D := by
            obtain ⟨ms, clock, e1, e2⟩ := ho7.out
            exact ⟨ms, clock, ext_block hb8 e1, e2⟩
          have hlen : ∀ ty, (Builtin.len_ #[54] ty #[.map (some mb)]).run Try.prog w8 = .ok (.int .i64 (es.length : Int)) w8 := fun ty => by rw [← HSZ.out]; exact ho8.len Try.underlying54 ty
          have HP8 := Lib.hid (HP7.out.ext hb8)
          clear hb8 HP7
          go_wp2_with fail
          refine (shLive sb 32 es _ HP8.out.1 (by have := HFEW.out; omega)).mono ?_
          rintro r w9 ⟨rfl, hb9⟩
          rw [HVE.out]
          have HP9 := Lib.hid (HP8.out.ext hb9)
          clear hb9 HP8 hlen ho8
          go_wp2_with fail
          refine (law10known _).mono ?_
          rintro r w10 ⟨rfl, hb10⟩
          have HP10 := Lib.hid (HP9.out.ext hb10)
          clear hb10 HP9
          go_wp2
          go_ret
          exact ⟨rfl, HP10.out.2.2.2.1⟩
        · intro key c kl y ys w8 cn1 hkey hlk hv hat hrg2 hlt3 hg2 hs2 hen
          obtain ⟨e0, he0, hkl, hks⟩ := HHO.out.no (HLF.out kl hlk)
          have hkey0 : key = .agg #[.string e0.c.a, .string e0.c.i] := keyedK.inj hkey (by rw [hkl]; exact key_of (enK e0) hks)
          have hc0 : c = e0.c := by
            have h1 : RC (.agg #[.string c.a, .string c.i, .int .i64 c.s, .int .i64 c.o, .int .i64 c.l, .int .i64 c.t, .int .i64 c.k, .int .i64 c.n, .bool c.g]) = some (y, ys) := hv
            rw [RC_mk] at h1
            have h2 : y = .held c := by simpa using (congrArg (Option.map Prod.fst) h1).symm
            have h3 := (HHO.out.1 e0 he0).2.2 (.held c)
            rw [← hkl, hat, h2] at h3
            simpa using h3
          subst hkey0
          subst hc0
          have HST := Lib.hid (show lv (fun z => left z && !z.sameKey kl) es = V + (if e0.c.g then 0 else 1) from by rw [hkl, lv_step HHO.out HAS.out left e0 he0 (by rw [← hkl]; exact hlk), HV.out])
          have HIN := Lib.hid (isIn_of HAS.out he0)
          have HRG2 := Lib.hid hrg2
          have HLT3 := Lib.hid hlt3
          have HLE1 := Lib.hid hrg1.left_eq
          have HB8 := Lib.hid (show Below w4.heap.size w4 w8 from HBR.out.grown hg2 HBR.out.size (fun j hj => by simp at hj; omega))
          have HP8 := Lib.hid (HP2.out.ext HB8.out)
          have D12 := Lib.hid (show Below w8.heap.size w8 ((w8.alloc (.cells #[.string e0.c.a, .string e0.c.i] 27)).alloc (.cells #[.string e0.c.a, .string e0.c.i, .int .i64 e0.c.s, .int .i64 e0.c.o, .int .i64 e0.c.l, .int .i64 e0.c.t, .int .i64 e0.c.k, .int .i64 e0.c.n, .bool e0.c.g] 31)) from ((Below.refl _ _).alloc (Nat.le_refl _) _).alloc (by simp) _)
          have HC12 := Lib.hid (show ((w8.alloc (.cells #[.string e0.c.a, .string e0.c.i] 27)).alloc (.cells #[.string e0.c.a, .string e0.c.i, .int .i64 e0.c.s, .int .i64 e0.c.o, .int .i64 e0.c.l, .int .i64 e0.c.t, .int .i64 e0.c.k, .int .i64 e0.c.n, .bool e0.c.g] 31)).heap[w8.heap.size + 1]? = some (.cells #[.string e0.c.a, .string e0.c.i, .int .i64 e0.c.s, .int .i64 e0.c.o, .int .i64 e0.c.l, .int .i64 e0.c.t, .int .i64 e0.c.k, .int .i64 e0.c.n, .bool e0.c.g] 31 (0, 0)) from blk_new_at (by simp) _ _)
          have HLF2 := Lib.hid (show ∀ z, (left z && !z.sameKey kl) = true → Maps.has D z = true from fun z hz => HLF.out z (by simp only [Bool.and_eq_true] at hz; exact hz.1))
          obtain ⟨L2, hL2⟩ : ∃ L2 : Lit → Bool, L2 = fun z => left z && !z.sameKey kl := ⟨_, rfl⟩
          rw [← hL2] at HST HRG2
          have HLF3 := Lib.hid (show ∀ z, L2 z = true → Maps.has D z = true from by rw [hL2]; exact HLF2.out)
          clear hkey hv hat hrg2 hlt3 hlk hkl hks hrg1 hg2 hs2 HLF2 hL2 HV he0
          obtain ⟨⟨ca, ci, cs, co, cl, ct, ck, cn', cg⟩, sn⟩ := e0
          simp only at hen HST HC12 D12 HIN
          go_wp2_with fail
          refine (shGetYes sb 32 es (ca, ci) _ (HP8.out.ext D12.out).1 ⟨⟨ca, ci, cs, co, cl, ct, ck, cn', cg⟩, sn⟩ HAS.out (by have := HFEW.out; omega) HIN.out.2 HIN.out.1).mono ?_
          rintro r w9 ⟨rfl, hb9⟩
          have HB9 := Lib.hid (ext_trans D12.out hb9)
          have HC9 := Lib.hid (blk_ext hb9 HC12.out)
          obtain ⟨q12, hq12⟩ : ∃ q, w8.heap.size + 1 = q := ⟨_, rfl⟩
          rw [hq12] at HC9 ⊢
          have hc9 := blk_cell HC9.out
          have hl9 := blk_lt HC9.out
          clear hb9 hen HC12 D12 HIN hq12
          have HF := Lib.hid (show Below w8.heap.size w8 (w9.alloc (.cells #[.string ca, .string ci, .int .i64 cs, .int .i64 co, .int .i64 cl, .int .i64 ct, .int .i64 ck, .int .i64 cn', .bool cg, .int .i64 sn] 48)) from HB9.out.alloc HB9.out.size _)
          cases cg
          all_goals
            go_wp2_with fail
            go_roundw
            case rel => exact ⟨L2, cn1, ranges_ext HRG2.out HF.out, HLF3, Lib.hid (ext_trans HB8.out HF.out), by rw [HST.out]; go_num⟩
            case measure => rw [(ranges_ext HRG2.out HF.out).left_eq, HLE1.out]; exact HLT3.out

end Go.Proofs.Ytnmpjagdkbaidaa
