/- Rows of cards handed to both desks, one after another. -/
import Derived.Test.YtloeabdohgdmkaaRiWZ
import Derived.Test.YtloeabdohgdmkaaRjKZ
import Derived.IntWalk
import Derived.WalkArith
namespace Go.Proofs.Ytloeabdohgdmkaa
open Go.RowKit
set_option linter.unusedVariables false
set_option linter.unusedSimpArgs false

set_option maxRecDepth 100000 in
set_option maxHeartbeats 1000000 in
theorem deskStamp (db : Nat) (nd t0 k0 n0 : Int) (es : List En) (g l tt : Int) (ks : List Ky) (w : World) (h : DkP w db nd t0 k0 n0 es g l tt ks) :
    Calls Try.prog 24 #[.pointer (some ⟨db, 0, none⟩)] w fun r w' => r = .returned (.agg #[.int .i64 t0, .int .i64 k0, .int .i64 n0]) ∧ Below w.heap.size w w' := by
  have D0 : Below w.heap.size w (w.alloc (.cells #[.int .i64 0, .int .i64 0, .int .i64 0] 32)) := (Below.refl _ _).alloc (Nat.le_refl _) _
  have HZ := Lib.hid (blk_new w #[.int .i64 0, .int .i64 0, .int .i64 0] 32)
  have HP := Lib.hid (h.ext D0)
  have HB0 := Lib.hid D0
  clear D0 h
  go_enter Try.func24, Try.ntmps24
  go_upto_region 1 with (fail)
  obtain ⟨p, hp⟩ : ∃ p, w.heap.size = p := ⟨_, rfl⟩
  have hle : w.heap.size ≤ p := by omega
  rw [hp] at HZ
  try rw [hp]
  clear hp
  generalize (w.alloc (.cells #[.int .i64 0, .int .i64 0, .int .i64 0] 32)) = w1 at *
  obtain ⟨a, c, ka, kc, h1, -⟩ := HP.out
  have hc := blk_cell h1
  have hl := blk_lt h1
  have hzc := blk_cell HZ.out
  have hzf := blk_free HZ.out
  have hzl := blk_lt HZ.out
  go_wp2
  have hc9 := blk_cell (blk_fill3 (v0 := .int .i64 t0) (v1 := .int .i64 k0) (v2 := .int .i64 n0) HZ.out rfl)
  exact bodyPost_ret (v := .agg #[.int .i64 t0, .int .i64 k0, .int .i64 n0]) (by simp [results, Try.results24, go_sem, hc9]) rfl ⟨rfl, below_fill3 HB0.out hle⟩

theorem Below.rim {m b : Nat} {u w w' : World} (h : Below m u w) (hr : Rim b w w') (hb : m ≤ b) (hm : m ≤ w.heap.size) : Below m u w' :=
  ⟨hr.os.trans h.os, hr.tape.trans h.tape, hr.output.trans h.output, Nat.le_trans h.size hr.size, fun k hk => (hr.block k (by omega) (by omega)).trans (h.block k hk)⟩
theorem Below.rim4 {m rb sb gb wb : Nat} {u w w' : World} (h : Below m u w) (hr : Rim4 rb sb gb wb w w') (h1 : m ≤ rb) (h2 : m ≤ sb) (h3 : m ≤ gb) (h4 : m ≤ wb) (hm : m ≤ w.heap.size) : Below m u w' :=
  ⟨hr.os.trans h.os, hr.tape.trans h.tape, hr.output.trans h.output, Nat.le_trans h.size hr.size, fun k hk => (hr.block k (by omega) (by omega) (by omega) (by omega) (by omega)).trans (h.block k hk)⟩
/-- the project's desk beside a write to the document's own -/
theorem DkP.rim4 {w w' : World} {db : Nat} {nd t0 k0 n0 : Int} {es : List En} {g l tt : Int} {ks : List Ky} {rb sb gb wb : Nat} {nd' t0' n0' : Int} {es' : List En} {g' l' tt' : Int} {ks' : List Ky} (h : DkP w db nd t0 k0 n0 es g l tt ks) (h2 : RDk w rb sb gb wb nd' t0' n0' es' g' l' tt' ks') (hr : Rim4 rb sb gb wb w w') : DkP w' db nd t0 k0 n0 es g l tt ks := by
  obtain ⟨a, c, ka, kc, h1, ⟨h2', h3⟩, h4, h5, h6, h7, h8, h9⟩ := h
  have hb : ∀ (b : Nat) (cs : Array Value) (T : TypeId), w.heap[b]? = some (.cells cs T (0, 0)) → T ≠ 72 → T ≠ 67 → T ≠ 104 → T ≠ 75 → w'.heap[b]? = w.heap[b]? := fun b cs T hc k1 k2 k3 k4 => h2.keepB hr hc k1 k2 k3 k4
  refine ⟨a, c, ka, kc, (hb db _ _ h1 (by decide) (by decide) (by decide) (by decide)).trans h1, ⟨h2'.keep fun b cur hc _ => hb b _ _ hc (by decide) (by decide) (by decide) (by decide), h3⟩, h4, h5, h6.keep fun b o e p v hv => ?_, h7, h8, fun b o e => ?_⟩
  · obtain ⟨cs, hc⟩ := h9 b o e
    exact (World.cell?_of_block (w := w) (hb b _ _ hc (by decide) (by decide) (by decide) (by decide))).trans hv
  · obtain ⟨cs, hc⟩ := h9 b o e
    exact ⟨cs, (hb b _ _ hc (by decide) (by decide) (by decide) (by decide)).trans hc⟩
/-- the document's own desk beside a write to the project's -/
theorem RDk.desk {w w' : World} {db : Nat} {nd t0 k0 n0 : Int} {es : List En} {g l tt : Int} {ks : List Ky} {rb sb gb wb : Nat} {nd' t0' n0' : Int} {es' : List En} {g' l' tt' : Int} {ks' : List Ky} (h2 : RDk w rb sb gb wb nd' t0' n0' es' g' l' tt' ks') (h : DkP w db nd t0 k0 n0 es g l tt ks) (hr : Rim db w w') : RDk w' rb sb gb wb nd' t0' n0' es' g' l' tt' ks' := by
  obtain ⟨a, c, ka, kc, h1, -⟩ := h
  exact h2.rim hr h1 (by decide) (by decide) (by decide) (by decide) (by decide) (by decide)
theorem ns_at {w : World} {b o i : Nat} {ns : List Int} {x : Int} (h : SAt enI 1 2 w (some ⟨b, o, none⟩) ns) (hi : ns[i]? = some x) : w.cell? ⟨b, o + i, none⟩ = some (.int .i64 x) := by
  have := h.get (fun y => (rfl : (enI y).length = 1)) hi 0 (.int .i64 x) rfl
  simpa using this
set_option maxRecDepth 100000 in
set_option maxHeartbeats 8000000 in
theorem law19play (a na : Option Addr) (n c nn nc : Nat) (rs : List Rw) (ns : List Int) (w : World) (hA : RwsAt w a rs) (hl : rs.length = n) (hnc : n ≤ c) (hn : n ≤ 1000) (hN : SAt enI 1 2 w na ns) (hnl : ns.length = nn) (hrr : ∀ r ∈ rs, ∀ x ∈ r.ls, CdR x) (ht : (alls rs).length ≤ 900) :
    Calls Try.prog 6 #[.slice a n c, .slice na nn nc] w fun r w' => r = .returned (.bool true) ∧ Below w.heap.size w w' := by
  have HA := Lib.hid hA
  have HL := Lib.hid hl
  have HN := Lib.hid hN
  have HNL := Lib.hid hnl
  have HRR := Lib.hid hrr
  have HT := Lib.hid ht
  clear hA hl hN hnl hrr ht
  go_enter Try.func6, Try.ntmps6
  go_wp2_with fail
  refine (deskNew 2 0 w (by omega) (by omega) (by omega) (by omega)).mono ?_
  rintro e w1 ⟨db, rfl, hdb, hp1, hb1⟩
  have HP1 := Lib.hid hp1
  have HB1 := Lib.hid hb1
  have HDB := Lib.hid hdb
  clear hp1 hb1 hdb
  go_wp2_with fail
  refine (rdNew 2 0 w1 (by omega) (by omega) (by omega) (by omega)).mono ?_
  rintro e w2 ⟨rb, sb, gb, wb, rfl, hr2, hge, hb2⟩
  have HP2 := Lib.hid (HP1.out.ext hb2)
  have HR2 := Lib.hid hr2
  have HB2 := Lib.hid (ext_trans HB1.out hb2)
  have HRB := Lib.hid (show w.heap.size ≤ rb ∧ w.heap.size ≤ sb ∧ w.heap.size ≤ gb ∧ w.heap.size ≤ wb from by have := HB1.out.size; omega)
  clear hr2 hb2 hge HP1 HB1
  go_wp2_with fail
  go_loopw [7] (fun i wr => ∃ (I : Nat) (es : List En) (ks : List Ky), I ≤ n ∧ i = .int .i64 (I : Int) ∧ Asc es ∧ es.length ≤ 32 ∧ ks.length ≤ (alls (rs.take I)).length ∧ DkP wr db 2 0 2 0 es 0 0 0 ks ∧ RDk wr rb sb gb wb 2 0 0 es 0 0 0 ks ∧ Below w.heap.size w wr) (fun i _ => n - (intOf i).toNat)
  case atStart => exact ⟨0, [], [], by omega, rfl, List.Pairwise.nil, by simp, by simp, HP2.out, HR2.out, HB2.out⟩
  case round =>
    obtain ⟨w3, rfl⟩ : ∃ y : World, y = wr := ⟨_, rfl⟩
    obtain ⟨I, es, ks, hI, rfl, has, hel, hks, hp3, hr3, hb3⟩ := hrel
    have HAS := Lib.hid has
    have HKS := Lib.hid hks
    have HP3 := Lib.hid hp3
    have HR3 := Lib.hid hr3
    have HB3 := Lib.hid hb3
    clear has hks hp3 hr3 hb3
    by_cases hlt : I < n
    · have hltd : (I : Int) < (n : Int) := by omega
      by_cases hlt2 : I < nn
      · have hlt2d : (I : Int) < (nn : Int) := by omega
        by_cases h12 : I < 12
        · have h12d : (I : Int) < 12 := by omega
          obtain ⟨r, hr⟩ : ∃ x, rs[I]? = some x := ⟨_, List.getElem?_eq_getElem (by have := HL.out; omega)⟩
          obtain ⟨nv, hv⟩ : ∃ x, ns[I]? = some x := ⟨_, List.getElem?_eq_getElem (by have := HNL.out; omega)⟩
          go_wp2_with fail
          refine (deskShelf db 2 0 2 0 es 0 0 0 ks _ HP3.out).mono ?_
          rintro e w4 ⟨rfl, hb⟩
          have HP4 := Lib.hid (HP3.out.ext hb)
          have HR4 := Lib.hid (HR3.out.ext hb)
          have HB4 := Lib.hid (HB3.out.trans (hb.mono HB3.out.size))
          clear hb HP3 HR3 HB3
          go_wp2_with fail
          refine (deskRecent db 2 0 2 0 es 0 0 0 ks _ HP4.out).mono ?_
          rintro e w5 ⟨rfl, hb⟩
          have HP5 := Lib.hid (HP4.out.ext hb)
          have HR5 := Lib.hid (HR4.out.ext hb)
          have HB5 := Lib.hid (HB4.out.trans (hb.mono HB4.out.size))
          clear hb HP4 HR4 HB4
          obtain ⟨ab, ao, rfl⟩ : ∃ b o, a = some ⟨b, o, none⟩ := by
            rcases HA.out.1 with h | ⟨b, o, e, _⟩
            · rw [h] at hr; simp at hr
            · exact ⟨b, o, e⟩
          obtain ⟨nb, no, rfl⟩ : ∃ b o, na = some ⟨b, o, none⟩ := by
            rcases HN.out with h | ⟨b, o, e, _⟩
            · rw [h] at hv; simp at hv
            · exact ⟨b, o, e⟩
          have x0 := HA.out.at hr
          have x1 := ns_at HN.out hv
          have HRO := Lib.hid (HA.out.2 r (List.mem_of_getElem? hr))
          have HRC := Lib.hid (HRR.out r (List.mem_of_getElem? hr))
          have HST := Lib.hid (alls_take hr)
          have hle := alls_le rs (I + 1)
          rw [HST.out, List.length_append] at hle
          have HLE := Lib.hid hle
          obtain ⟨⟨ra, rn, rc, rl⟩, hrr⟩ : ∃ r', r' = r := ⟨_, rfl⟩
          subst hrr
          simp only [] at x0 hle
          obtain ⟨f1, f2, f3, f4, f5⟩ := HRO.out
          simp only [] at f1 f2 f3 f4 f5
          have HRL := Lib.hid f5
          have HRN := Lib.hid f1
          have HRC2 := Lib.hid (show ∀ y ∈ rl, CdR y from HRC.out)
          have hrn : rn ≤ 900 := by have := HT.out; rw [← f1]; omega
          have HKB := Lib.hid (show ks.length + rl.length ≤ 900 from by have := HT.out; have := HKS.out; omega)
          have HK2 := Lib.hid (show ks.length + rl.length ≤ (alls (rs.take (I + 1))).length from by rw [HST.out, List.length_append]; show ks.length + rl.length ≤ (alls (rs.take I)).length + rl.length; have := HKS.out; omega)
          obtain ⟨nx, hnx⟩ : ∃ nx, max nv 0 = nx := ⟨_, rfl⟩
          obtain ⟨now, hnow⟩ : ∃ now, min nx 1099511627776 = now := ⟨_, rfl⟩
          obtain ⟨ny, hny⟩ : ∃ ny, min nv 1099511627776 = ny := ⟨_, rfl⟩
          have hnow2 : max ny 0 = now := by omega
          have HM := Lib.hid (And.intro hnx (And.intro hnow (And.intro hny hnow2)))
          have HIB := Lib.hid (show IB ks.length (0 + rl.length) (intoL now ⟨es, ks, [], 0⟩ rl) from IB.all rl (⟨HAS.out, hel, Nat.le_refl _, Nat.le_refl _, Nat.le_refl _⟩ : IB ks.length 0 (⟨es, ks, [], 0⟩ : Is)))
          obtain ⟨S, hS⟩ : ∃ S, intoL now ⟨es, ks, [], 0⟩ rl = S := ⟨_, rfl⟩
          rw [hS] at HIB
          have HS := Lib.hid hS
          haveI hI0 : Nonempty (In (Below w.heap.size w)) := ⟨⟨w, Below.refl _ _⟩⟩
          have hC0 := fun g : In (Below w.heap.size w) => ext_cell g.h x0
          have hC1 := fun g : In (Below w.heap.size w) => ext_cell g.h x1
          clear hr hv hle f1 f2 f3 f4 f5 hS HRO HRC hnx hnow hny hnow2 x0 x1
          go_upto_region 7 with (fail)
          refine Hist.wp_region_hist (Below w.heap.size w) (by kernel_rfl) (by kernel_rfl) (by kernel_rfl) (HB5.out.trans (((Below.refl w5.heap.size w5).drew).mono HB5.out.size)) ?_
          have HP6 := Lib.hid (HP5.out.ext ((Below.refl w5.heap.size w5).drew))
          have HR6 := Lib.hid (HR5.out.ext ((Below.refl w5.heap.size w5).drew))
          have HB6 := Lib.hid (show Below w.heap.size w w5.drew from HB5.out.trans (((Below.refl w5.heap.size w5).drew).mono HB5.out.size))
          clear HP5 HR5 HB5
          generalize w5.drew = w6 at *
          repeat (first | (refine Hist.wpG_plain 0 _ (by decide +kernel) rfl (by rfl) (by rfl) (fun K hK => ?_); go_big_quiet_op; refine hK _ ?_; clear hK K))
          refine Hist.wpG_call (by rfl) (by rfl) (fun K hK => ?_)
          go_big_op
          refine (mergeIntoV db 2 0 2 0 es 0 0 0 ks ra rn rc rl now _ HP6.out HAS.out hel (HRL.out.ext HB6.out) HRN.out (by omega) (fun y hy => .inl (HRC2.out y hy)) (by have := HKB.out; omega) nv nx HM.out.1 HM.out.2.1).mono ?_
          rintro e w7 ⟨v7, rfl, ho7, hp7, hr7⟩
          rw [HS.out] at ho7 hp7 ⊢
          obtain ⟨va, vc, rfl, hvc, hvm, -, -, -⟩ := ho7.read
          have HB7 := Lib.hid (Below.rim HB6.out hr7 HDB.out HB6.out.size)
          have HR7 := Lib.hid (HR6.out.desk HP6.out hr7)
          have HP7 := Lib.hid hp7
          have HO7 := Lib.hid ho7
          refine hK _ _ ⟨(Below w.heap.size w), (by simp only [List.cons_append, List.nil_append, List.forall_mem_cons]; repeat' (first | exact HB7.out | (intro _ h; cases h; done) | (exact trivial) | constructor)), ?_⟩
          clear hK K hp7 hr7 ho7 HP6 HR6 HB6
          repeat (first | (refine Hist.wpG_plain 1 _ (by decide +kernel) rfl (by rfl) (by rfl) (fun K hK => ?_); go_big_quiet_op; refine hK _ ?_; clear hK K) | (refine Hist.wpG_plain 0 _ (by decide +kernel) rfl (by rfl) (by rfl) (fun K hK => ?_); go_big_quiet_op; refine hK _ ?_; clear hK K))
          refine Hist.wpG_nil ?_
          go_upto_region 8 with (fail)
          refine Hist.wp_region_hist (Below w.heap.size w) (by kernel_rfl) (by kernel_rfl) (by kernel_rfl) (HB7.out.trans (((Below.refl w7.heap.size w7).drew).mono HB7.out.size)) ?_
          have HP8 := Lib.hid (HP7.out.ext ((Below.refl w7.heap.size w7).drew))
          have HR8 := Lib.hid (HR7.out.ext ((Below.refl w7.heap.size w7).drew))
          have HO8 := Lib.hid (OwnR.ext HO7.out ((Below.refl w7.heap.size w7).drew))
          have HB8 := Lib.hid (show Below w.heap.size w w7.drew from HB7.out.trans (((Below.refl w7.heap.size w7).drew).mono HB7.out.size))
          clear HP7 HR7 HB7 HO7
          generalize w7.drew = w8 at *
          repeat (first | (refine Hist.wpG_plain 0 _ (by decide +kernel) rfl (by rfl) (by rfl) (fun K hK => ?_); go_big_quiet_op; refine hK _ ?_; clear hK K))
          refine Hist.wpG_call (by rfl) (by rfl) (fun K hK => ?_)
          go_big_op
          refine (refInto rb sb gb wb 2 0 0 es 0 0 0 ks ra rn rc rl now _ HR8.out HAS.out hel (HRL.out.ext HB8.out) HRN.out (by omega) HRC2.out (by have := HKB.out; omega) nv _ HM.out.2.2.1 HM.out.2.2.2).mono ?_
          rintro e w9 ⟨v9, rfl, ho9, hp9, hr9⟩
          rw [HS.out] at ho9 hp9 ⊢
          obtain ⟨ua, uc, rfl, huc, hum, huat, -, -⟩ := ho9.read
          have HB9 := Lib.hid (Below.rim4 HB8.out hr9 HRB.out.1 HRB.out.2.1 HRB.out.2.2.1 HRB.out.2.2.2 HB8.out.size)
          have HP9 := Lib.hid (HP8.out.rim4 HR8.out hr9)
          have HO9 := Lib.hid (show OwnC _ w9 (.slice va S.out.length vc) S.out from own_blocks HO8.out fun b cur hc => HR8.out.keepB hr9 hc (by decide) (by decide) (by decide) (by decide))
          have HR9 := Lib.hid hp9
          have HU9 := Lib.hid huat
          refine hK _ _ ⟨(Below w.heap.size w), (by simp only [List.cons_append, List.nil_append, List.forall_mem_cons]; repeat' (first | exact HB9.out | (intro _ h; cases h; done) | (exact trivial) | constructor)), ?_⟩
          clear hK K hp9 hr9 ho9 huat HP8 HR8 HB8 HO8
          repeat (first | (refine Hist.wpG_plain 1 _ (by decide +kernel) rfl (by rfl) (by rfl) (fun K hK => ?_); go_big_quiet_op; refine hK _ ?_; clear hK K) | (refine Hist.wpG_plain 0 _ (by decide +kernel) rfl (by rfl) (by rfl) (fun K hK => ?_); go_big_quiet_op; refine hK _ ?_; clear hK K))
          refine Hist.wpG_nil ?_
          clear hI0 hC0 hC1
          have HV9 := Lib.hid (show CAt w9 va S.out from by
            obtain ⟨a', c', e1, -, -, h3, -, -⟩ := (show OwnC _ w9 (.slice va S.out.length vc) S.out from HO9.out).read
            rw [Value.slice.injEq] at e1
            rw [e1.1]; exact h3)
          obtain ⟨m, hm⟩ : ∃ m, S.out.length = m := ⟨_, rfl⟩
          rw [hm] at hvc huc
          try rw [hm]
          have HMM := Lib.hid hm
          obtain ⟨rf, hrf⟩ : ∃ rf, S.ref = rf := ⟨_, rfl⟩
          try rw [hrf]
          have HVM := Lib.hid hvm
          have HUM := Lib.hid hum
          clear HO9 hm hvm hum hrf
          go_wp2_with fail
          refine (deskShelf db 2 0 2 0 S.es 0 0 0 S.ks _ HP9.out).mono ?_
          rintro e w10 ⟨rfl, hb⟩
          have HP10 := Lib.hid (HP9.out.ext hb)
          have HR10 := Lib.hid (HR9.out.ext hb)
          have HB10 := Lib.hid (HB9.out.trans (hb.mono HB9.out.size))
          have HV10 := Lib.hid (HV9.out.ext hb)
          have HU10 := Lib.hid (HU9.out.ext hb)
          clear hb HP9 HR9 HB9 HV9 HU9
          obtain ⟨Dk0, hds, -⟩ := HP10.out.s
          go_wp2_with fail
          refine (dkAll Dk0 db 32 S.es _ hds (by have := HIB.out.len; omega)).mono ?_
          rintro e w11 ⟨v11, rfl, ho, hb⟩
          obtain ⟨ea, ecp, rfl, hec, hem, heat, -, -⟩ := OwnR.read ec_len ho
          have HP11 := Lib.hid (HP10.out.ext hb)
          have HR11 := Lib.hid (HR10.out.ext hb)
          have HB11 := Lib.hid (HB10.out.trans (hb.mono HB10.out.size))
          have HV11 := Lib.hid (HV10.out.ext hb)
          have HU11 := Lib.hid (HU10.out.ext hb)
          have HE11 := Lib.hid heat
          clear hb hds ho heat HP10 HR10 HB10 HV10 HU10
          obtain ⟨sa, sc, k1, k2, k3, k4, -⟩ := HR11.out.s
          unfold BoxR at k1
          obtain ⟨wa, wc, j1, -⟩ := HR11.out.r
          obtain ⟨le, hle⟩ : ∃ n, S.es.length = n := ⟨_, rfl⟩
          obtain ⟨lk, hlk⟩ : ∃ n, S.ks.length = n := ⟨_, rfl⟩
          rw [hle] at k1 hec k3
          try rw [hle]
          rw [hlk] at j1
          have HLN := Lib.hid hle
          have HLK := Lib.hid hlk
          have HK1 := Lib.hid k1
          have HK2E := Lib.hid k2
          have HJ1 := Lib.hid j1
          have hle32 : le ≤ 32 := by rw [← hle]; exact HIB.out.len
          clear hle hlk
          go_upto_region 10 with (fail)
          haveI hIq : Nonempty (Of w11) := of_some _
          have hG0 := blk_of HR11.out.d
          have hG1 := blk_of k1
          have hG2 := blk_of j1
          clear k1 k2 j1
          have q1 : ((rf : Int) != (rf : Int)) = false := by simp
          have q2 : ((le : Int) != (le : Int)) = false := by simp
          have q3 : ((lk : Int) != (lk : Int)) = false := by simp
          first | (refine wp_region_stay w11 (by kernel_rfl) (by kernel_rfl) (by go_grown) ?_) | (refine wp_region_stay_seq w11 (by go_grown) ?_)
          repeat (go_big_quiet_step (first | (go_at_call 13; with_reducible refine stay_call (same5 va ua m vc uc S.out _ (HV11.out.ext (In.h _)) (HU11.out.ext (In.h _)) HMM.out hvc huc HVM.out HUM.out)) | (go_at_call 17; with_reducible refine stay_call (deskRecent db 2 0 2 0 S.es 0 0 0 S.ks _ (HP11.out.ext (In.h _)))) | (go_at_call 18; with_reducible refine stay_as (deskSeq db 2 0 2 0 S.es 0 0 0 S.ks _ (HP11.out.ext (In.h _))) (congrArg (fun n : Nat => Value.int .i64 (n : Int)) HLK.out)) | (go_at_call 24; with_reducible refine stay_call (deskStamp db 2 0 2 0 S.es 0 0 0 S.ks _ (HP11.out.ext (In.h _))))))
          refine wpQuiet_nil ?_
          intro w12 hb12
          clear hIq hG0 hG1 hG2 q1 q2 q3
          have HP12 := Lib.hid (HP11.out.ext hb12)
          have HR12 := Lib.hid (HR11.out.ext hb12)
          have HB12 := Lib.hid (HB11.out.trans (hb12.mono HB11.out.size))
          have HE12 := Lib.hid (HE11.out.ext hb12)
          have HK12 := Lib.hid (blk_ext hb12 HK1.out)
          have HKE12 := Lib.hid (SAt.ext HK2E.out hb12)
          clear hb12 HP11 HR11 HB11 HV11 HU11 HE11 HK1 HK2E HJ1
          go_wp2_with fail
          go_loopw [120] (fun i wr => ∃ J : Nat, J ≤ le ∧ i = .int .i64 (J : Int) ∧ Below w12.heap.size w12 wr) (fun i _ => le - (intOf i).toNat)
          case atStart => exact ⟨0, by omega, rfl, Below.refl _ _⟩
          case round =>
            obtain ⟨w13, rfl⟩ : ∃ y : World, y = wr := ⟨_, rfl⟩
            obtain ⟨J, hJ, rfl, hb13⟩ := hrel
            have HB13 := Lib.hid hb13
            have HRD13 := Lib.hid (HR12.out.ext hb13)
            have HE13 := Lib.hid (HE12.out.ext hb13)
            have HK13 := Lib.hid (blk_ext hb13 HK12.out)
            have HKE13 := Lib.hid (SAt.ext HKE12.out hb13)
            clear hb13
            by_cases hlt : J < le
            · have hlt2 : (J : Int) < (le : Int) := by omega
              obtain ⟨x, hx⟩ : ∃ x, S.es[J]? = some x := ⟨_, List.getElem?_eq_getElem (by have := HLN.out; omega)⟩
              obtain ⟨eb, eo, rfl⟩ : ∃ b o, ea = some ⟨b, o, none⟩ := by
                rcases HE13.out with h | ⟨b, o, e, _⟩
                · rw [h] at hx; simp at hx
                · exact ⟨b, o, e⟩
              obtain ⟨zb, zo, rfl⟩ : ∃ b o, sa = some ⟨b, o, none⟩ := by
                rcases HKE13.out with h | ⟨b, o, e, _⟩
                · rw [h] at hx; simp at hx
                · exact ⟨b, o, e⟩
              obtain ⟨y0, y1, y2, y3, y4, y5, y6, y7, y8, y9⟩ := EAt.at HE13.out hx
              obtain ⟨z0, z1, z2, z3, z4, z5, z6, z7, z8, z9⟩ := REAt.at HKE13.out hx
              clear hx
              go_upto_region 15 with (fail)
              haveI hIq : Nonempty (Of w13) := of_some _
              have hG0 := blk_of HRD13.out.d
              have hG1 := blk_of HK13.out
              have hY0 := of_cell y0
              have hZ0 := of_cell z0
              have hY1 := of_cell y1
              have hZ1 := of_cell z1
              have hY2 := of_cell y2
              have hZ2 := of_cell z2
              have hY3 := of_cell y3
              have hZ3 := of_cell z3
              have hY4 := of_cell y4
              have hZ4 := of_cell z4
              have hY5 := of_cell y5
              have hZ5 := of_cell z5
              have hY6 := of_cell y6
              have hZ6 := of_cell z6
              have hY7 := of_cell y7
              have hZ7 := of_cell z7
              have hY8 := of_cell y8
              have hZ8 := of_cell z8
              have hY9 := of_cell y9
              have hZ9 := of_cell z9
              have qs : (x.seen != x.seen) = false := by simp
              first | (refine wp_region_stay w13 (by kernel_rfl) (by kernel_rfl) (by go_grown) ?_) | (refine wp_region_stay_seq w13 (by go_grown) ?_)
              repeat (go_big_quiet_step (fail))
              refine wpQuiet_nil ?_
              intro w14 hb14
              clear hIq hG0 hG1 hY0 hZ0 hY1 hZ1 hY2 hZ2 hY3 hZ3 hY4 hZ4 hY5 hZ5 hY6 hZ6 hY7 hZ7 hY8 hZ8 hY9 hZ9 qs
              have HB14 := Lib.hid (ext_trans HB13.out hb14)
              clear hb14
              go_wp2
              go_roundw
              case rel => exact ⟨J + 1, by omega, by go_num, HB14.out⟩
              case measure => simp [intOf]; omega
            · obtain rfl : J = le := by omega
              have hlt2 : decide ((J : Int) < (J : Int)) = false := by simp
              have HPF := Lib.hid (HP12.out.ext HB13.out)
              have HBF := Lib.hid (HB12.out.trans (HB13.out.mono HB12.out.size))
              clear HB13 HB12 HP12
              go_wp2
              go_roundw
              case rel => exact ⟨I + 1, S.es, S.ks, by omega, by go_num, HIB.out.asc, HIB.out.len, by have := HIB.out.ks; have := HK2.out; omega, HPF.out, HRD13.out, HBF.out⟩
              case measure => simp [intOf]; omega
        · have h12d : decide ((I : Int) < 12) = false := by simp; omega
          go_wp2_with fail
          refine (mergeJoin a n c rs (alls rs) _ (HA.out.ext HB3.out) HL.out hn rfl (by have := HT.out; omega)).mono ?_
          rintro e w4 ⟨v4, rfl, ho4, hb4⟩
          obtain ⟨ja, jc, rfl, hjc, hjm, hjat, -, -⟩ := ho4.read
          have HB4 := Lib.hid (HB3.out.trans (hb4.mono HB3.out.size))
          have HJ4 := Lib.hid hjat
          clear ho4 hb4 hjat
          go_wp2_with fail
          refine (refJoin a n c rs (alls rs) _ (HA.out.ext HB4.out) HL.out hn rfl (by have := HT.out; omega)).mono ?_
          rintro e w5 ⟨v5, rfl, ho5, hb5⟩
          obtain ⟨ka, kc, rfl, hkc, hkm, hkat, -, -⟩ := ho5.read
          have HB5 := Lib.hid (HB4.out.trans (hb5.mono HB4.out.size))
          have HJ5 := Lib.hid (HJ4.out.ext hb5)
          have HK5 := Lib.hid hkat
          clear ho5 hb5 hkat
          go_wp2_with fail
          refine (same5 ja ka _ jc kc _ _ HJ5.out HK5.out rfl hjc hkc hjm hkm).mono ?_
          rintro e w6 ⟨rfl, hb6⟩
          have HB6 := Lib.hid (HB5.out.trans (hb6.mono HB5.out.size))
          clear hb6
          go_wp2
          go_ret
          exact ⟨rfl, HB6.out⟩
      · have hlt2d : decide ((I : Int) < (nn : Int)) = false := by simp; omega
        go_wp2_with fail
        refine (mergeJoin a n c rs (alls rs) _ (HA.out.ext HB3.out) HL.out hn rfl (by have := HT.out; omega)).mono ?_
        rintro e w4 ⟨v4, rfl, ho4, hb4⟩
        obtain ⟨ja, jc, rfl, hjc, hjm, hjat, -, -⟩ := ho4.read
        have HB4 := Lib.hid (HB3.out.trans (hb4.mono HB3.out.size))
        have HJ4 := Lib.hid hjat
        clear ho4 hb4 hjat
        go_wp2_with fail
        refine (refJoin a n c rs (alls rs) _ (HA.out.ext HB4.out) HL.out hn rfl (by have := HT.out; omega)).mono ?_
        rintro e w5 ⟨v5, rfl, ho5, hb5⟩
        obtain ⟨ka, kc, rfl, hkc, hkm, hkat, -, -⟩ := ho5.read
        have HB5 := Lib.hid (HB4.out.trans (hb5.mono HB4.out.size))
        have HJ5 := Lib.hid (HJ4.out.ext hb5)
        have HK5 := Lib.hid hkat
        clear ho5 hb5 hkat
        go_wp2_with fail
        refine (same5 ja ka _ jc kc _ _ HJ5.out HK5.out rfl hjc hkc hjm hkm).mono ?_
        rintro e w6 ⟨rfl, hb6⟩
        have HB6 := Lib.hid (HB5.out.trans (hb6.mono HB5.out.size))
        clear hb6
        go_wp2
        go_ret
        exact ⟨rfl, HB6.out⟩
    · obtain rfl : I = n := by omega
      have hltd : decide ((I : Int) < (I : Int)) = false := by simp
      go_wp2_with fail
      refine (mergeJoin a I c rs (alls rs) _ (HA.out.ext HB3.out) HL.out hn rfl (by have := HT.out; omega)).mono ?_
      rintro e w4 ⟨v4, rfl, ho4, hb4⟩
      obtain ⟨ja, jc, rfl, hjc, hjm, hjat, -, -⟩ := ho4.read
      have HB4 := Lib.hid (HB3.out.trans (hb4.mono HB3.out.size))
      have HJ4 := Lib.hid hjat
      clear ho4 hb4 hjat
      go_wp2_with fail
      refine (refJoin a I c rs (alls rs) _ (HA.out.ext HB4.out) HL.out hn rfl (by have := HT.out; omega)).mono ?_
      rintro e w5 ⟨v5, rfl, ho5, hb5⟩
      obtain ⟨ka, kc, rfl, hkc, hkm, hkat, -, -⟩ := ho5.read
      have HB5 := Lib.hid (HB4.out.trans (hb5.mono HB4.out.size))
      have HJ5 := Lib.hid (HJ4.out.ext hb5)
      have HK5 := Lib.hid hkat
      clear ho5 hb5 hkat
      go_wp2_with fail
      refine (same5 ja ka _ jc kc _ _ HJ5.out HK5.out rfl hjc hkc hjm hkm).mono ?_
      rintro e w6 ⟨rfl, hb6⟩
      have HB6 := Lib.hid (HB5.out.trans (hb6.mono HB5.out.size))
      clear hb6
      go_wp2
      go_ret
      exact ⟨rfl, HB6.out⟩

end Go.Proofs.Ytloeabdohgdmkaa

/- 'MergeNumbers': the walk. -/
namespace Go.Proofs.Ytloeabdohgdmkaa
open Go.RowKit
set_option linter.unusedVariables false
set_option linter.unusedSimpArgs false


theorem info_intC : (Try.prog.info? 3).map (fun i => (i.zero, i.size, i.bytes)) = some (some (.int .i64 0), 1, 8) := by kernel_rfl
theorem mul_loC {a b : Nat} : (0 : Int) ≤ (a : Int) * b := Int.mul_nonneg (by omega) (by omega)
theorem mul_hiC {a b x y : Nat} (ha : a ≤ x) (hb : b ≤ y) : (a : Int) * b ≤ (x : Int) * y := by exact_mod_cast Nat.mul_le_mul ha hb
theorem alls_nine : ∀ (rs : List Rw), (∀ r ∈ rs, r.ls.length ≤ 9) → (alls rs).length ≤ 9 * rs.length
  | [], _ => by simp [alls]
  | r :: rs, h => by
    have h1 := alls_nine rs (fun x hx => h x (by simp [hx]))
    have h2 := h r (by simp)
    unfold alls at h1 ⊢
    rw [List.flatMap_cons, List.length_append, List.length_cons]
    omega
theorem rw_lit (w : World) (l : List Rw) : SAt rwE 1 28 (w.alloc (.cells (flat rwE l).toArray 28)) (some ⟨w.heap.size, 0, none⟩) l := by
  refine .inr ⟨_, _, rfl, ⟨_, blk_new _ _ _⟩, fun q u hq => ?_⟩
  rw [Nat.zero_add, blk_cell (blk_new w (flat rwE l).toArray 28)]
  simpa using hq
theorem ns_lit (w : World) (l : List Int) : SAt enI 1 2 (w.alloc (.cells (flat enI l).toArray 2)) (some ⟨w.heap.size, 0, none⟩) l := by
  refine .inr ⟨_, _, rfl, ⟨_, blk_new _ _ _⟩, fun q u hq => ?_⟩
  rw [Nat.zero_add, blk_cell (blk_new w (flat enI l).toArray 2)]
  simpa using hq
theorem ids_ok : ∀ i : Fin 36, NmOk (((⟨#[105]⟩ : ByteArray) ++ Utf8.encode (97 + ((i.val : Nat) : Int) % 26)) ++ Utf8.encode (97 + ((i.val : Nat) : Int) / 26)) := by
  unfold NmOk
  decide +kernel
set_option maxRecDepth 100000 in
set_option maxHeartbeats 8000000 in
theorem law19numbers (w : World) :
    Calls Try.prog 3 #[] w fun r w' => r = .returned (.bool true) ∧ Below w.heap.size w w' := by
  obtain ⟨q0, qi, qz0, qz1, qz2⟩ := info_parts info_intC
  obtain ⟨i0, hi, hz0, hz1, hz2⟩ := info_parts' info_card
  go_enter Try.func3, Try.ntmps3
  go_wp2_with fail
  go_loopw [1] (fun i wr => ∃ k : Nat, k ≤ 40 ∧ i = .int .i64 k ∧ Below w.heap.size w wr) (fun i _ => 40 - (intOf i).toNat)
  case atStart => exact ⟨0, by omega, rfl, Below.refl _ _⟩
  case round =>
    obtain ⟨w1, rfl⟩ : ∃ y : World, y = wr := ⟨_, rfl⟩
    obtain ⟨k, hk, rfl, B1⟩ := hrel
    by_cases hlk : k < 40
    · have hdk : decide ((k : Int) < 40) = true := by simp; omega
      have Z1 := B1.size
      go_wp2_with fail
      go_loopw [2, 3] (fun v i wr => ∃ (j : Nat) (xs : List Int), j ≤ 700 ∧ i = .int .i64 j ∧ xs.length = j ∧ (∀ x ∈ xs, (Lit.int .i64 x).wf = true) ∧ wr.ownsRow w1.heap.size 3 1 v j (xs.map (Value.int .i64)) ∧ Below w1.heap.size w1 wr) (fun _ i _ => 700 - (intOf i).toNat)
      case atStart => exact ⟨0, [], by omega, rfl, rfl, by simp, World.ownsRow_nil _ _ _ _, Below.refl _ _⟩
      case round =>
        obtain ⟨w2, rfl⟩ : ∃ y : World, y = wr := ⟨_, rfl⟩
        obtain ⟨j, xs, hj, rfl, hxl, hxw, hown, B2⟩ := hrel
        have HX := Lib.hid hxl
        have HW := Lib.hid hxw
        have HO := Lib.hid hown
        have Z2 := B2.size
        clear hxl hxw hown
        by_cases hlj : j < 700
        · have hdj : decide ((j : Int) < 700) = true := by simp; omega
          have m1 := mul_loC (a := j) (b := j)
          have m2 : (j : Int) * j ≤ 490000 := by have := mul_hiC (a := j) (b := j) (x := 700) (y := 700) (by omega) (by omega); omega
          have m3 := mul_loC (a := j) (b := k)
          have m4 : (j : Int) * k ≤ 28000 := by have := mul_hiC (a := j) (b := k) (x := 700) (y := 40) (by omega) (by omega); omega
          have hv0 : 0 ≤ (((j : Int) * j * 7 + k * 61 + j * k) % 211) := Int.emod_nonneg _ (by omega)
          have hv1 : (((j : Int) * j * 7 + k * 61 + j * k) % 211) < 211 := Int.emod_lt_of_pos _ (by omega)
          have hvw : (Lit.int .i64 (((j : Int) * j * 7 + k * 61 + j * k) % 211)).wf = true := WalkArith.wf_i64 (by omega)
          have HV := Lib.hid hvw
          clear hv0 hv1 hvw
          go_wp2_with (first | (at_builtin; refine wpList_append_own _ rfl _ _ 22 rfl (w1.heap.size) 3 q0 (.int .i64 0) 1 8 Try.underlying22 qi qz0 qz1 qz2 rfl (by decide) _ _ _ rfl (HO.out.alloc _) ⟨w2.heap.size, 0, none⟩ 1 1 [.int .i64 (((j : Int) * j * 7 + k * 61 + j * k) % 211)] rfl rfl ?c1 ?c2 ?c3 ?c4 ?c5 ?_))
          case c1 =>
            intro j' u hj'
            match j', hj' with
            | 0, hj' => simp at hj'; subst hj'; simp [Addr.add, go_sem]
          case c2 => intro u hu; simp at hu; subst hu; rfl
          case c3 => unfold maxLen; omega
          case c4 => omega
          case c5 => simp; omega
          intro v' w3 hown' hgrow _
          have B3 := (B2.alloc B2.size _).grown hgrow (by simp; omega) (fun q hq => own_ge HO.out hq)
          have O3 := Lib.hid hown'
          clear hown' hgrow
          go_wp2
          go_roundw
          case rel => exact ⟨j + 1, xs ++ [(((j : Int) * j * 7 + k * 61 + j * k) % 211)], by omega, by go_num, by simp [HX.out], by intro y hy; rcases List.mem_append.1 hy with h | h; (· exact HW.out y h); (· simp at h; subst h; exact HV.out), by simpa using O3.out, B3⟩
          case measure => simp [intOf]; omega
        · have hdj : decide ((j : Int) < 700) = false := by simp; omega
          obtain ⟨at_, ct, rfl, hrow⟩ := isRow_of_owns HO.out HX.out HW.out
          have HR := Lib.hid hrow
          have D2 := Lib.hid (ext_trans B1 B2)
          clear hrow B2
          go_wp2_with fail
          refine (law19rows at_ j ct xs _ HR.out (by omega)).mono ?_
          rintro r w4 ⟨v, q, rs, ns, rfl, hq, hql, hv, hro, hl1, hl9, hrs, hb⟩
          obtain ⟨a, c, rfl, hat⟩ := hro.rows hv
          obtain ⟨na, nc, rfl, -, -, hnat, -⟩ := OwnR.read (fun y => (rfl : (enI y).length = 1)) hq
          have hnc : rs.length ≤ c := by
            obtain ⟨a', c', e1, h1, -⟩ := OwnR.read rwE_len hv
            rw [Value.slice.injEq] at e1
            rw [e1.2.2]; exact h1
          have HAT := Lib.hid hat
          have HNA := Lib.hid hnat
          have HRS := Lib.hid (show ∀ r ∈ rs, ∀ x ∈ r.ls, CdR x from fun r hr x hx => ((hrs r hr).2 x hx).r)
          have HLEN := Lib.hid (show (alls rs).length ≤ 900 from by
            have h9 := alls_nine rs (fun r hr => by rw [(hro.1 r hr).2]; exact (hrs r hr).1)
            omega)
          have D4 := Lib.hid (D2.out.trans (hb.mono D2.out.size))
          clear hq hql hv hro hl1 hrs hb hat hnat
          go_wp2_with fail
          refine (law19play a na rs.length c ns.length nc rs ns _ HAT.out rfl hnc (by omega) HNA.out rfl HRS.out HLEN.out).mono ?_
          rintro e w5 ⟨rfl, hb⟩
          have HD5 := Lib.hid (D4.out.trans (hb.mono D4.out.size))
          clear hb
          go_wp2
          go_roundw
          case rel => exact ⟨k + 1, by omega, by go_num, HD5.out⟩
          case measure => simp [intOf]; omega
    · have hdk : decide ((k : Int) < 40) = false := by simp; omega
      have Z1 := B1.size
      go_wp2_with fail
      go_loopw [4, 5] (fun v i wr => ∃ (j : Nat) (ls : List Cd), j ≤ 36 ∧ i = .int .i64 j ∧ ls.length = j ∧ (∀ x ∈ ls, CdR x) ∧ OwnC w1.heap.size wr v ls ∧ Below w1.heap.size w1 wr) (fun _ i _ => 36 - (intOf i).toNat)
      case atStart => exact ⟨0, [], by omega, rfl, rfl, by simp, OwnR.nil _ _, Below.refl _ _⟩
      case round =>
        obtain ⟨w2, rfl⟩ : ∃ y : World, y = wr := ⟨_, rfl⟩
        obtain ⟨j, ls, hj, rfl, hll, hcr, ho, B2⟩ := hrel
        obtain ⟨a, c, rfl, hjc, hjm, hat, -, hform⟩ := ho.read
        rw [hll] at hjc ho ⊢
        have HLL := Lib.hid hll
        have HCR := Lib.hid hcr
        have HO := Lib.hid ho
        have HAT := Lib.hid hat
        have B2' := Lib.hid B2
        have Z2 := B2.size
        unfold maxLen at hjm
        clear hcr ho hat B2
        by_cases hlj : j < 36
        · have hdj : decide ((j : Int) < 36) = true := by simp; omega
          have hid := ids_ok ⟨j, hlj⟩
          have r0 : 0 ≤ (j : Int) % 26 := Int.emod_nonneg _ (by omega)
          have r1 : (j : Int) % 26 < 26 := Int.emod_lt_of_pos _ (by omega)
          have r2 : 0 ≤ (j : Int) / 26 := by omega
          have r3 : (j : Int) / 26 < 2 := by omega
          obtain ⟨S1, hS1⟩ : ∃ S, Utf8.encode (97 + (j : Int) % 26) = S := ⟨_, rfl⟩
          obtain ⟨S2, hS2⟩ : ∃ S, Utf8.encode (97 + (j : Int) / 26) = S := ⟨_, rfl⟩
          simp only [] at hid
          rw [hS1, hS2] at hid
          have hu := encode_size_le (97 + (j : Int) % 26)
          have hv := encode_size_le (97 + (j : Int) / 26)
          rw [hS1] at hu
          rw [hS2] at hv
          obtain ⟨X, hX⟩ : ∃ X : ByteArray, ⟨#[105]⟩ ++ S1 = X := ⟨_, rfl⟩
          have hXs : X.size ≤ 100 := by rw [← hX, ByteArray.size_append]; show 1 + S1.size ≤ 100; omega
          have HX := Lib.hid hX
          obtain ⟨IDS, hIDS⟩ : ∃ Y : ByteArray, X ++ S2 = Y := ⟨_, rfl⟩
          have HIDS := Lib.hid hIDS
          rw [hX, hIDS] at hid
          have a1 : ∀ v : World, (Op.stringOp .add ⟨#[105]⟩ S1).run Try.prog v = .ok (.string X) v := fun v => by rw [← HX.out]; exact run_string_add_sum v _ _ (by show 1 + S1.size ≤ _; omega)
          have a2 : ∀ v : World, (Op.stringOp .add X S2).run Try.prog v = .ok (.string IDS) v := fun v => by rw [← HIDS.out]; exact run_string_add_sum v _ _ (by omega)
          have q1 : (j : Int).tmod 26 = (j : Int) % 26 := Int.tmod_eq_emod_of_nonneg (by omega)
          have q2 : (j : Int).tdiv 26 = (j : Int) / 26 := Int.tdiv_eq_ediv_of_nonneg (by omega)
          clear hX hIDS
          have HCD := Lib.hid (show CdR (⟨⟨#[97]⟩, IDS, 1, 0, 3, 0, 0, 0, false⟩ : Cd) from ⟨nm_a19, hid, (by show (1 : Int) ≤ 1; decide), (by show (1 : Int) ≤ 2; decide), (by show (0 : Int) ≤ 0; decide), (by show (0 : Int) ≤ 3; decide), (by show (1 : Int) ≤ 3; decide), (by show (3 : Int) ≤ 1048576; decide), (by show (0 : Int) ≤ 0; decide), (by show (0 : Int) ≤ 0; decide), (by show (0 : Int) < 6; decide), (by show (0 : Int) ≤ 0; decide)⟩)
          have HO' := Lib.hid (show w2.ownsRow w1.heap.size 34 9 (.slice a j c) j (flat cc ls) from by have := HO.out; unfold OwnC OwnR at this; rw [HLL.out] at this; exact this)
          clear hid r0 r1 r2 r3
          go_wp2_with (at_builtin; refine wpList_append_own _ rfl _ _ 28 rfl (w1.heap.size) 34 i0 Cd.zero.v 9 88 Try.underlying28 hi hz0 hz1 hz2 rfl (by decide) _ j (flat cc ls) rfl (HO'.out.alloc (.cells #[.string ⟨#[97]⟩, .string IDS, .int .i64 1, .int .i64 0, .int .i64 3, .int .i64 0, .int .i64 0, .int .i64 0, .bool false] 34)) ⟨w2.heap.size, 0, none⟩ 1 1 (cc (⟨⟨#[97]⟩, IDS, 1, 0, 3, 0, 0, 0, false⟩ : Cd)) rfl rfl ?e1 ?e2 ?e3 ?e4 ?e5 ?_)
          case e1 =>
            intro j' u hj'
            rw [add_off, Nat.zero_add, blk_cell (blk_new w2 #[.string ⟨#[97]⟩, .string IDS, .int .i64 1, .int .i64 0, .int .i64 3, .int .i64 0, .int .i64 0, .int .i64 0, .bool false] 34)]
            simpa [cc] using hj'
          case e2 => exact cc_one _
          case e3 => unfold maxLen; omega
          case e4 => omega
          case e5 => simp; omega
          intro v' w3 ho3 hg3 _
          have B3 := Lib.hid ((B2'.out.alloc B2'.out.size (.cells #[.string ⟨#[97]⟩, .string IDS, .int .i64 1, .int .i64 0, .int .i64 3, .int .i64 0, .int .i64 0, .int .i64 0, .bool false] 34)).grown hg3 (by simp; omega) (fun q hq => own_ge HO'.out hq))
          have O3 := Lib.hid (show OwnC w1.heap.size w3 v' (ls ++ [(⟨⟨#[97]⟩, IDS, 1, 0, 3, 0, 0, 0, false⟩ : Cd)]) from by unfold OwnC OwnR; rw [flat_snoc, List.length_append, HLL.out]; exact ho3)
          clear ho3 hg3
          go_wp2
          go_roundw
          case rel => exact ⟨j + 1, ls ++ [(⟨⟨#[97]⟩, IDS, 1, 0, 3, 0, 0, 0, false⟩ : Cd)], by omega, by go_num, by simp [HLL.out], by intro y hy; rcases List.mem_append.1 hy with h | h; (· exact HCR.out y h); (· simp at h; subst h; exact HCD.out), O3.out, B3.out⟩
          case measure => simp [intOf]; omega
        · have hdj : decide ((j : Int) < 36) = false := by simp; omega
          obtain rfl : j = 36 := by omega
          obtain ⟨g, rfl⟩ : ∃ g, a = some ⟨g, 0, none⟩ := by
            rcases hform with ⟨-, -, h3⟩ | h3
            · rw [h3] at hll; simp at hll
            · exact h3
          have hjm2 : c ≤ maxLen := hjm
          obtain ⟨R1, hR1⟩ : ∃ r : Rw, r = ⟨some ⟨g, 0, none⟩, 36, c, ls⟩ := ⟨_, rfl⟩
          obtain ⟨R2, hR2⟩ : ∃ r : Rw, r = ⟨some ⟨g, 45, none⟩, 31, c - 5, ls.drop 5⟩ := ⟨_, rfl⟩
          have HA5 := Lib.hid (show CAt w2 (some ⟨g, 45, none⟩) (ls.drop 5) from by have := CAt.drop 5 HAT.out; simpa using this)
          have HRW := Lib.hid (show ∀ r ∈ [R1, R2], RwOk w2 r from by
            intro r hr
            simp only [List.mem_cons, List.not_mem_nil, or_false] at hr
            rcases hr with rfl | rfl
            · rw [hR1]; exact ⟨HLL.out, hjc, hjm2, .inr ⟨g, 0, rfl⟩, HAT.out⟩
            · rw [hR2]
              refine ⟨by show (ls.drop 5).length = 31; rw [List.length_drop, HLL.out], by show 31 ≤ c - 5; omega, by show c - 5 ≤ maxLen; unfold maxLen; omega, .inr ⟨g, 45, rfl⟩, HA5.out⟩)
          have HCC := Lib.hid (show ∀ r ∈ [R1, R2], ∀ x ∈ r.ls, CdR x from by
            intro r hr x hx
            simp only [List.mem_cons, List.not_mem_nil, or_false] at hr
            rcases hr with rfl | rfl
            · rw [hR1] at hx; exact HCR.out x hx
            · rw [hR2] at hx; exact HCR.out x (List.mem_of_mem_drop hx))
          have HLN := Lib.hid (show (alls [R1, R2]).length ≤ 900 from by
            rw [hR1, hR2]
            simp only [alls, List.flatMap_cons, List.flatMap_nil, List.length_append, List.length_nil, List.length_drop]
            have := HLL.out
            omega)
          have HAL := Lib.hid (show SAt rwE 1 28 (w2.alloc (.cells #[.slice (some ⟨g, 0, none⟩) 36 c, .slice (some ⟨g, 45, none⟩) 31 (c - 5)] 28)) (some ⟨w2.heap.size, 0, none⟩) [R1, R2] from by
            have := rw_lit w2 [R1, R2]
            rw [hR1, hR2] at this ⊢
            exact this)
          have E3 := Lib.hid (show Below w2.heap.size w2 (w2.alloc (.cells #[.slice (some ⟨g, 0, none⟩) 36 c, .slice (some ⟨g, 45, none⟩) 31 (c - 5)] 28)) from (Below.refl _ _).alloc (Nat.le_refl _) _)
          obtain ⟨w3, hw3⟩ : ∃ y, y = w2.alloc (.cells #[.slice (some ⟨g, 0, none⟩) 36 c, .slice (some ⟨g, 45, none⟩) 31 (c - 5)] 28) := ⟨_, rfl⟩
          rw [← hw3] at HAL E3
          have hz3 : w3.heap.size = w2.heap.size + 1 := by rw [hw3]; exact Array.size_push _
          have HNS := Lib.hid (show SAt enI 1 2 (w3.alloc (.cells #[.int .i64 4, .int .i64 4611686018427387904] 2)) (some ⟨w2.heap.size + 1, 0, none⟩) [4, 4611686018427387904] from by
            have := ns_lit w3 [4, 4611686018427387904]
            rw [hz3] at this
            exact this)
          have E4 := Lib.hid (show Below w3.heap.size w3 (w3.alloc (.cells #[.int .i64 4, .int .i64 4611686018427387904] 2)) from (Below.refl _ _).alloc (Nat.le_refl _) _)
          have D4 := Lib.hid (show Below w.heap.size w (w3.alloc (.cells #[.int .i64 4, .int .i64 4611686018427387904] 2)) from (B1.trans (B2'.out.mono Z1)).trans ((ext_trans E3.out E4.out).mono (Nat.le_trans Z1 Z2)))
          clear HO B2' HCR HA5 hform
          clear hz3
          subst hw3
          go_wp2_with fail
          refine (law19play (some ⟨w2.heap.size, 0, none⟩) (some ⟨w2.heap.size + 1, 0, none⟩) 2 2 2 2 [R1, R2] [4, 4611686018427387904] _ ⟨SAt.ext HAL.out E4.out, fun r hr => ((HRW.out r hr).ext E3.out).ext E4.out⟩ rfl (by omega) (by omega) HNS.out rfl HCC.out HLN.out).mono ?_
          rintro e w5 ⟨rfl, hb⟩
          have D5 := Lib.hid (D4.out.trans (hb.mono D4.out.size))
          clear hb D4 E3 E4 HNS HAL
          have E6 := Lib.hid (show Below w5.heap.size w5 (w5.alloc (.cells #[.slice none 0 0, .slice none 0 0] 28)) from (Below.refl _ _).alloc (Nat.le_refl _) _)
          obtain ⟨RN, hRN⟩ : ∃ r : Rw, r = ⟨none, 0, 0, []⟩ := ⟨_, rfl⟩
          have HAN := Lib.hid (show RwsAt (w5.alloc (.cells #[.slice none 0 0, .slice none 0 0] 28)) (some ⟨w5.heap.size, 0, none⟩) [RN, RN] from ⟨by
            have := rw_lit w5 [RN, RN]
            rw [hRN] at this ⊢
            exact this, fun r hr => by
            simp only [List.mem_cons, List.not_mem_nil, or_false, or_self] at hr
            rw [hr, hRN]
            exact ⟨rfl, Nat.le_refl _, by simp [maxLen], .inl ⟨rfl, rfl⟩, .inl rfl⟩⟩)
          have D6 := Lib.hid (D5.out.trans (E6.out.mono D5.out.size))
          go_wp2_with fail
          refine (law19play (some ⟨w5.heap.size, 0, none⟩) none 2 2 0 0 [RN, RN] [] _ HAN.out rfl (by omega) (by omega) (.inl rfl) rfl (fun r hr x hx => by
            simp only [List.mem_cons, List.not_mem_nil, or_false, or_self] at hr
            rw [hr, hRN] at hx
            cases hx) (by rw [hRN]; simp [alls])).mono ?_
          rintro e w7 ⟨rfl, hb⟩
          have D7 := Lib.hid (D6.out.trans (hb.mono D6.out.size))
          clear hb D5 D6 E6 HAN
          go_wp2_with fail
          refine (law19known _).mono ?_
          rintro e w8 ⟨rfl, hb⟩
          have D8 := Lib.hid (D7.out.trans (hb.mono D7.out.size))
          clear hb
          go_wp2
          go_ret
          exact ⟨rfl, D8.out⟩

end Go.Proofs.Ytloeabdohgdmkaa
