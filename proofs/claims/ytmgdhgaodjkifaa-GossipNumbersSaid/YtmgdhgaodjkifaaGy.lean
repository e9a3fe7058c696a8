/- Several texts as one: GosX, GosY. -/
import Derived.Test.YtmgdhgaodjkifaaGosA
import Derived.Test.YtmgdhgaodjkifaaTapeCd
import Derived.Test.YtmgdhgaodjkifaaGosV
import Derived.Test.YtmgdhgaodjkifaaGosK
import Derived.Test.YtmgdhgaodjkifaaInts
import Derived.Laws.Cover4
/- The law of gossip: keys of a tape. -/
namespace Go.Proofs.Ytmgdhgaodjkifaa
open Go.RowKit
set_option linter.unusedVariables false
set_option linter.unusedSimpArgs false

set_option maxRecDepth 100000 in
set_option maxHeartbeats 2000000 in
theorem law18keys (a0 : Option Addr) (len cap : Nat) (zs : List Int) (b : Nat) (w : World) (hT : TapeK a0 len cap w b) (hRow : RowOk a0 len cap zs w b) :
    Calls Try.prog 9 #[.pointer (some ⟨b, 0, none⟩)] w fun e w' => ∃ v cs, e = .returned v ∧ OwnK w.heap.size w' v cs ∧ cs.length ≤ 8 ∧ (∀ c ∈ cs, KyS c) ∧ TapeK a0 len cap w' b ∧ Bar b w w' := by
  obtain ⟨i0, hi, hz0, hz1, hz2⟩ := info_parts' info_ky
  have HT := Lib.hid hT
  have HR := Lib.hid hRow
  clear hT hRow
  go_enter Try.func9, Try.ntmps9
  go_wp2_with fail
  refine (tapeNextK _ _ _ zs _ 9 _ HT.out HR.out (by omega) (by omega)).mono ?_
  rintro e w1 ⟨q, rfl, hq0, hq1, hT1, hb1⟩
  obtain ⟨N0, rfl⟩ : ∃ N0 : Nat, q = (N0 : Int) := ⟨q.toNat, by omega⟩
  have HT1 := Lib.hid hT1
  have HB1 := Lib.hid hb1
  have hN0 : N0 ≤ 8 := by omega
  clear hT1 hb1 hq0 hq1
  go_wp2_with fail
  go_loopw [3, 4] (fun o n wr => ∃ (N : Nat) (cs : List Ky), n = .int .i64 (N : Int) ∧ OwnK w.heap.size wr o cs ∧ cs.length + N ≤ 8 ∧ (∀ c ∈ cs, KyS c) ∧ TapeK a0 len cap wr b ∧ Bar b w wr) (fun o n _ => (intOf n).toNat)
  case atStart => exact ⟨N0, [], rfl, OwnR.nil _ _, by simpa using hN0, by simp, HT1.out, HB1.out⟩
  case round =>
    obtain ⟨w2, rfl⟩ : ∃ y : World, y = wr := ⟨_, rfl⟩
    obtain ⟨N, cs, rfl, ho, hl, hok, hT2, hb2⟩ := hrel
    obtain ⟨a, c, rfl, hnc, hcm, -, -, -⟩ := ho.read ky_len
    have HO2 := Lib.hid ho
    have HOK := Lib.hid hok
    have HT2 := Lib.hid hT2
    have HB2 := Lib.hid hb2
    obtain ⟨n, hn⟩ : ∃ n, cs.length = n := ⟨_, rfl⟩
    have HN := Lib.hid hn
    rw [hn] at hl hnc ⊢
    unfold maxLen at hcm
    clear ho hok hT2 hb2 hn
    by_cases hlt : N = 0
    · subst hlt
      go_wp2
      go_ret
      exact ⟨_, cs, rfl, by have := HO2.out; rw [HN.out] at this; exact this, by rw [HN.out]; omega, HOK.out, HT2.out, HB2.out⟩
    · have hN : 0 < N := by omega
      have hdN : decide (0 < (N : Int)) = true := by simp; omega
      go_wp2_with fail
      refine (tapeKeyK _ _ _ zs _ _ HT2.out (HR.out.bar HB2.out)).mono ?_
      rintro e w3 ⟨s1, s2, rfl, hx1, hx2, hT3, hb3⟩
      obtain ⟨x, hxe⟩ : ∃ x : Ky, x = (s1, s2) := ⟨_, rfl⟩
      have hx : KyS x := by rw [hxe]; exact ⟨by show s1.size ≤ 1000; omega, by show s2.size ≤ 1000; omega⟩
      have hx3 : s1 = x.1 := by rw [hxe]
      have hx4 : s2 = x.2 := by rw [hxe]
      subst hx3
      subst hx4
      have HX := Lib.hid hx
      have HO3 := Lib.hid (show OwnK w.heap.size w3 (.slice a n c) cs from by have := HT2.out.own hb3 (by decide) HO2.out; unfold OwnK OwnR; rw [HN.out] at this ⊢; exact this)
      have HT3 := Lib.hid hT3
      have HB3 := Lib.hid (HB2.out.trans hb3)
      have Z3 := HB3.out.size
      clear hx hxe hx1 hx2 hT3 hb3 HO2 HT2
      go_wp2_with (at_builtin; refine wpList_append_own _ rfl _ _ 29 rfl (w.heap.size) 32 i0 (.agg #[.string ⟨#[]⟩, .string ⟨#[]⟩]) 2 32 Try.underlying29 hi hz0 hz1 hz2 rfl (by decide) _ n (flat ky cs) rfl (by have := HO3.out.alloc (.cells #[.string x.1, .string x.2] 32); rw [HN.out] at this; exact this) ⟨w3.heap.size, 0, none⟩ 1 1 (ky x) rfl rfl ?c1 ?c2 ?c3 ?c4 ?c5 ?_)
      case c1 =>
        intro j u hj
        rw [add_off, Nat.zero_add, blk_cell (blk_new w3 #[.string x.1, .string x.2] 32)]
        simpa [ky] using hj
      case c2 => exact ky_one x
      case c3 => unfold maxLen; omega
      case c4 => omega
      case c5 => simp; omega
      intro v4 w4 ho4 hg4 _
      have B4 := Lib.hid ((HB3.out.trans (Bar.of ((Below.refl _ _).alloc (Nat.le_refl _) (.cells #[.string x.1, .string x.2] 32)))).grown hg4 (fun q hq => own_ge HO3.out hq))
      have T4 := Lib.hid (show TapeK a0 len cap w4 b from by
        obtain ⟨q, e1, e2⟩ := HT3.out
        exact ⟨q, (hg4.block b (by have := HT3.out.lt; simp; omega) (own_ne (HO3.out.alloc (.cells #[.string x.1, .string x.2] 32)) (blk_alloc e1 _) (by decide))).trans (blk_alloc e1 _), e2⟩)
      have HO4 := Lib.hid (show OwnK w.heap.size w4 v4 (cs ++ [x]) by unfold OwnK OwnR; rw [flat_snoc, List.length_append, HN.out]; exact ho4)
      have HOK4 := Lib.hid (show ∀ c ∈ cs ++ [x], KyS c from fun c hc => by
        rcases List.mem_append.1 hc with hc | hc
        · exact HOK.out c hc
        · simp at hc; subst hc; exact HX.out)
      obtain ⟨M, rfl⟩ : ∃ M, N = M + 1 := ⟨N - 1, by omega⟩
      clear ho4 hg4 HO3 HT3 HB3 hdN
      go_wp2
      go_roundw
      case rel => exact ⟨M, cs ++ [x], by go_num, HO4.out, by rw [List.length_append, HN.out]; simp only [List.length_cons, List.length_nil]; omega, HOK4.out, T4.out, B4.out⟩
      case measure => first | (simp [intOf]; done) | (simp [intOf]; omega)

end Go.Proofs.Ytmgdhgaodjkifaa

/- 'GossipNumbers': the walk. -/
namespace Go.Proofs.Ytmgdhgaodjkifaa
open Go.RowKit
set_option linter.unusedVariables false
set_option linter.unusedSimpArgs false

theorem info_int : (Try.prog.info? 3).map (fun i => (i.zero, i.size, i.bytes)) = some (some (.int .i64 0), 1, 8) := by kernel_rfl
theorem TapeK.cat {a0 : Option Addr} {len cap b : Nat} {w w' : World} (h : TapeK a0 len cap w b) (hr : Bar b w w') {a : Option Addr} {cs : List Cd} (ho : CAt w a cs) : CAt w' a cs :=
  ho.keep fun k cur hc _ => hr.block k (h.ne (by decide) hc) (blk_lt hc)
theorem mul_lo {a b : Nat} : (0 : Int) ≤ (a : Int) * b := Int.mul_nonneg (by omega) (by omega)
theorem mul_hi {a b x y : Nat} (ha : a ≤ x) (hb : b ≤ y) : (a : Int) * b ≤ (x : Int) * y := by exact_mod_cast Nat.mul_le_mul ha hb
theorem wr_small (x : Int) (h0 : 0 ≤ x) (h1 : x < 9000000000) : wrap64 x = x := by unfold wrap64; omega
theorem wr_row (j k : Int) (h0 : 0 ≤ j) (h1 : j ≤ 250) (k0 : 0 ≤ k) (k1 : k ≤ 60) (m1 : 0 ≤ j * j) (m2 : j * j ≤ 62500) (m3 : 0 ≤ j * k) (m4 : j * k ≤ 15000) :
    (wrap64 (wrap64 (wrap64 (wrap64 (j * j) * 7) + wrap64 (k * 59)) + wrap64 (j * k))).tmod 211 = (j * j * 7 + k * 59 + j * k) % 211 := by
  generalize j * j = a at *
  generalize j * k = b at *
  rw [wr_small a m1 (by omega), wr_small (a * 7) (by omega) (by omega), wr_small (k * 59) (by omega) (by omega), wr_small (a * 7 + k * 59) (by omega) (by omega), wr_small b m3 (by omega), wr_small (a * 7 + k * 59 + b) (by omega) (by omega)]
  exact Int.tmod_eq_emod_of_nonneg (by omega)
theorem hf_of {a : Option Addr} {c : Nat} {P : Prop} (h : (a = none ∧ c = 0 ∧ P) ∨ ∃ g, a = some ⟨g, 0, none⟩) : (a = none ∧ c = 0) ∨ ∃ g o, a = some ⟨g, o, none⟩ := by
  rcases h with ⟨e1, e2, _⟩ | ⟨g, e⟩
  · exact .inl ⟨e1, e2⟩
  · exact .inr ⟨g, 0, e⟩

set_option maxRecDepth 100000 in
set_option maxHeartbeats 2000000 in
theorem gossipNumbers_walk (w : World) :
    Calls Try.prog 3 #[] w fun e w' => e = .returned (.bool true) ∧ Below w.heap.size w w' := by
  obtain ⟨i0, hi, hz0, hz1, hz2⟩ := info_parts info_int
  go_enter Try.func3, Try.ntmps3
  go_wp2_with fail
  go_loopw [1] (fun i wr => ∃ k : Nat, k ≤ 60 ∧ i = .int .i64 k ∧ Below w.heap.size w wr) (fun i _ => 60 - (intOf i).toNat)
  case atStart => exact ⟨0, by omega, rfl, Below.refl _ _⟩
  case round =>
    obtain ⟨w1, rfl⟩ : ∃ y : World, y = wr := ⟨_, rfl⟩
    obtain ⟨k, hk, rfl, B1⟩ := hrel
    by_cases hlk : k < 60
    · have hdk : decide ((k : Int) < 60) = true := by simp; omega
      have Z1 := B1.size
      go_wp2_with fail
      go_loopw [2, 3] (fun v i wr => ∃ (j : Nat) (xs : List Int), j ≤ 250 ∧ i = .int .i64 j ∧ xs.length = j ∧ (∀ x ∈ xs, (Lit.int .i64 x).wf = true) ∧ wr.ownsRow w1.heap.size 3 1 v j (xs.map (Value.int .i64)) ∧ Below w1.heap.size w1 wr) (fun _ i _ => 250 - (intOf i).toNat)
      case atStart => exact ⟨0, [], by omega, rfl, rfl, by simp, World.ownsRow_nil _ _ _ _, Below.refl _ _⟩
      case round =>
        obtain ⟨w2, rfl⟩ : ∃ y : World, y = wr := ⟨_, rfl⟩
        obtain ⟨j, xs, hj, rfl, hxl, hxw, hown, B2⟩ := hrel
        have HX := Lib.hid hxl
        have HW := Lib.hid hxw
        have HO := Lib.hid hown
        have Z2 := B2.size
        clear hxl hxw hown
        by_cases hlj : j < 250
        · have hdj : decide ((j : Int) < 250) = true := by simp; omega
          have m1 := mul_lo (a := j) (b := j)
          have m2 : (j : Int) * j ≤ 62500 := by have := mul_hi (a := j) (b := j) (x := 250) (y := 250) (by omega) (by omega); omega
          have m3 := mul_lo (a := j) (b := k)
          have m4 : (j : Int) * k ≤ 15000 := by have := mul_hi (a := j) (b := k) (x := 250) (y := 60) (by omega) (by omega); omega
          have hv0 : 0 ≤ (((j : Int) * j * 7 + k * 59 + j * k) % 211) := Int.emod_nonneg _ (by omega)
          have hv1 : (((j : Int) * j * 7 + k * 59 + j * k) % 211) < 211 := Int.emod_lt_of_pos _ (by omega)
          have hvw : (Lit.int .i64 (((j : Int) * j * 7 + k * 59 + j * k) % 211)).wf = true := WalkArith.wf_i64 (by omega)
          have HV := Lib.hid hvw
          clear hv0 hv1 hvw
          go_wp2_with (first | (at_builtin; refine wpList_append_own _ rfl _ _ 22 rfl (w1.heap.size) 3 i0 (.int .i64 0) 1 8 Try.underlying22 hi hz0 hz1 hz2 rfl (by decide) _ _ _ rfl (HO.out.alloc _) ⟨w2.heap.size, 0, none⟩ 1 1 [.int .i64 (((j : Int) * j * 7 + k * 59 + j * k) % 211)] rfl rfl ?c1 ?c2 ?c3 ?c4 ?c5 ?_))
          case c1 =>
            intro j' u hj'
            match j', hj' with
            | 0, hj' =>
              simp at hj'; subst hj'; simp [Addr.add, go_sem]; try exact wr_row j k (by omega) (by omega) (by omega) (by omega) m1 m2 m3 m4
          case c2 => intro u hu; simp at hu; subst hu; rfl
          case c3 => unfold maxLen; omega
          case c4 => omega
          case c5 => simp; omega
          intro v' w3 hown' hgrow _
          have B3 := (B2.alloc B2.size _).grown hgrow (by simp; omega) (fun q hq => own_ge HO.out hq)
          have O3 := Lib.hid hown'
          clear hown' hgrow
          go_wp2
          go_roundw
          case rel => exact ⟨j + 1, xs ++ [(((j : Int) * j * 7 + k * 59 + j * k) % 211)], by omega, by go_num, by simp [HX.out], by intro y hy; rcases List.mem_append.1 hy with h | h; (· exact HW.out y h); (· simp at h; subst h; exact HV.out), by simpa using O3.out, B3⟩
          case measure => simp [intOf]; omega
        · have hdj : decide ((j : Int) < 250) = false := by simp; omega
          obtain ⟨ra, rcap, rfl, hrow⟩ := isRow_of_owns HO.out HX.out HW.out
          have D2 := ext_trans B1 B2
          have D0 : Below w2.heap.size w2 (w2.alloc (.cells #[.slice ra j rcap, .int .i64 0] 25)) := (Below.refl _ _).alloc (Nat.le_refl _) _
          have HT0 := Lib.hid (tapeK_new (a := ra) (len := j) (cap := rcap) w2)
          have HR0 := Lib.hid (rowOk_new hrow (.cells #[.slice ra j rcap, .int .i64 0] 25))
          have HD0 := Lib.hid (ext_trans D2 D0)
          have Z0 := D2.size
          clear hrow D0 D2 B1 B2 HO HX HW
          go_upto_region 10 with (fail)
          obtain ⟨tb, htb⟩ : ∃ q, w2.heap.size = q := ⟨_, rfl⟩
          rw [htb] at HT0 HR0 Z0 ⊢
          clear htb
          generalize (w2.alloc (.cells #[.slice ra j rcap, .int .i64 0] 25)) = w4 at *
          go_wp2_with fail
          refine (tapeCards ra j rcap xs tb 12 _ HT0.out HR0.out (by omega)).mono ?_
          rintro e w5 ⟨v5, cs, rfl, ho5, hl5, hok5, hT5, hb5⟩
          obtain ⟨a5, c5, rfl, q5, q5', at5, -, f5⟩ := (show OwnC _ _ _ _ from ho5).read
          have A5 := Lib.hid at5
          have F5 := Lib.hid (hf_of f5)
          have K5 := Lib.hid (fun x hx => CdOk.s (hok5 x hx))
          have HT5 := Lib.hid hT5
          have HR5 := Lib.hid (HR0.out.bar hb5)
          have HB5 := Lib.hid (HD0.out.trans (hb5.below Z0 HD0.out.size))
          obtain ⟨n5, hn5⟩ : ∃ q, cs.length = q := ⟨_, rfl⟩
          have N5 := Lib.hid hn5
          rw [hn5] at q5 hl5 ⊢
          clear ho5 hok5 hT5 hb5 at5 f5 hn5 HT0 HR0 HD0
          go_wp2_with fail
          refine (tapeCards ra j rcap xs tb 12 _ HT5.out HR5.out (by omega)).mono ?_
          rintro e w6 ⟨v6, ds, rfl, ho6, hl6, hok6, hT6, hb6⟩
          obtain ⟨a6, c6, rfl, q6, q6', at6, -, f6⟩ := (show OwnC _ _ _ _ from ho6).read
          have A6 := Lib.hid at6
          have F6 := Lib.hid (hf_of f6)
          have A5' := Lib.hid (HT5.out.cat hb6 A5.out)
          have HT6 := Lib.hid hT6
          have HR6 := Lib.hid (HR5.out.bar hb6)
          have HB6 := Lib.hid (HB5.out.trans (hb6.below Z0 HB5.out.size))
          obtain ⟨n6, hn6⟩ : ∃ q, ds.length = q := ⟨_, rfl⟩
          have N6 := Lib.hid hn6
          rw [hn6] at q6 hl6 ⊢
          clear ho6 hok6 hT6 hb6 at6 f6 hn6 HT5 HR5 HB5 A5
          go_wp2_with fail
          refine (law18keys ra j rcap xs tb _ HT6.out HR6.out).mono ?_
          rintro e w7 ⟨v7, ks, rfl, ho7, hl7, hok7, hT7, hb7⟩
          obtain ⟨a7, c7, rfl, q7, q7', at7, -, f7⟩ := ho7.read ky_len
          have A7 := Lib.hid at7
          have K7 := Lib.hid hok7
          have A5'' := Lib.hid (HT6.out.cat hb7 A5'.out)
          have A6' := Lib.hid (HT6.out.cat hb7 A6.out)
          have HB7 := Lib.hid (HB6.out.trans (hb7.below Z0 HB6.out.size))
          obtain ⟨n7, hn7⟩ : ∃ q, ks.length = q := ⟨_, rfl⟩
          have N7 := Lib.hid hn7
          rw [hn7] at q7 hl7 ⊢
          clear ho7 hok7 hT7 hb7 at7 f7 hn7 HT6 HR6 HB6 A5' A6
          go_wp2_with fail
          refine (law18same a5 a6 a7 n5 c5 n6 c6 n7 c7 cs ds ks _ A5''.out A6'.out A7.out N5.out N6.out N7.out (by omega) (by omega) (by omega) q5 q6 F5.out F6.out K5.out K7.out).mono ?_
          rintro e w8 ⟨rfl, hb8⟩
          have HB8 := Lib.hid (ext_trans HB7.out hb8)
          clear hb8
          go_wp2
          go_roundw
          case rel => exact ⟨k + 1, by omega, by go_num, HB8.out⟩
          case measure => simp [intOf]; omega
    · have hdk : decide ((k : Int) < 60) = false := by simp; omega
      obtain ⟨c0, ci, cz0, cz1, cz2⟩ := info_parts' info_card
      go_wp2_with fail
      go_loopw [5, 6] (fun v i wr => ∃ (j : Nat) (cs : List Cd), j ≤ 67 ∧ i = .int .i64 j ∧ cs.length = j ∧ (∀ x ∈ cs, CdS x) ∧ OwnC w1.heap.size wr v cs ∧ Below w1.heap.size w1 wr) (fun _ i _ => 67 - (intOf i).toNat)
      case atStart => exact ⟨0, [], by omega, rfl, rfl, by simp, OwnR.nil _ _, Below.refl _ _⟩
      case round =>
        obtain ⟨w2, rfl⟩ : ∃ y : World, y = wr := ⟨_, rfl⟩
        obtain ⟨j, S, hj, rfl, hcl, hcs, ho, B2⟩ := hrel
        obtain ⟨ka, kc_, rfl, hkc, hkm, hkf⟩ := OwnR.form ho
        have HCS := Lib.hid hcs
        have HOw2 := Lib.hid (show OwnC w1.heap.size w2 (.slice ka j kc_) S from by rw [← hcl]; exact ho)
        have HBw2 := Lib.hid B2
        obtain ⟨p, hp⟩ : ∃ p, p = j := ⟨_, rfl⟩
        have HP := Lib.hid hcl
        rw [hcl] at hkc ⊢
        unfold maxLen at hkm
        clear hcs ho B2 hkf hcl
        by_cases hlj : j < 67
        · have hdj : decide ((j : Int) < 67) = true := by simp; omega
          obtain ⟨U, hU⟩ : ∃ U, Utf8.encode (97 + (j : Int) * 7 % 70) = U := ⟨_, rfl⟩
          obtain ⟨x, hx⟩ : ∃ x : Cd, x = ⟨⟨#[97]⟩, U, 0, 0, 0, 0, 0, 0, false⟩ := ⟨_, rfl⟩
          have HXE := Lib.hid (show cc x = [.string ⟨#[97]⟩, .string U, .int .i64 0, .int .i64 0, .int .i64 0, .int .i64 0, .int .i64 0, .int .i64 0, .bool false] from by rw [hx]; rfl)
          have HXS := Lib.hid (show CdS x from by
            rw [hx]
            have := encode_size_le (97 + (j : Int) * 7 % 70)
            rw [hU] at this
            exact ⟨by show (1 : Nat) ≤ 1000; omega, by show U.size ≤ 1000; omega⟩)
          clear hx hp
          have HOa := Lib.hid (show w2.ownsRow w1.heap.size 36 9 (.slice ka j kc_) j (flat cc S) from by have := HOw2.out; unfold OwnC OwnR at this; rw [HP.out] at this; exact this)
          have ZA := HBw2.out.size
          go_wp2_with (at_builtin; refine wpList_append_own _ rfl _ _ 27 rfl (w1.heap.size) 36 c0 Cd.zero.v 9 88 Try.underlying27 ci cz0 cz1 cz2 rfl (by decide) _ j (flat cc S) rfl (HOa.out.alloc (.cells #[.string ⟨#[97]⟩, .string U, .int .i64 0, .int .i64 0, .int .i64 0, .int .i64 0, .int .i64 0, .int .i64 0, .bool false] 36)) ⟨w2.heap.size, 0, none⟩ 1 1 (cc x) rfl rfl ?e1 ?e2 ?e3 ?e4 ?e5 ?_)
          case e1 =>
            intro j2 u hj
            rw [HXE.out] at hj
            first | exact hj | (rw [add_off, Nat.zero_add, blk_cell (blk_new w2 #[.string ⟨#[97]⟩, .string U, .int .i64 0, .int .i64 0, .int .i64 0, .int .i64 0, .int .i64 0, .int .i64 0, .bool false] 36)]; simpa [cc] using hj)
          case e2 => exact cc_one x
          case e3 => unfold maxLen; omega
          case e4 => omega
          case e5 => first | omega | (simp; omega)
          intro v9 w9 ho9 hg9 _
          have HG9 := Lib.hid ((World.grownBy_alloc w2 (.cells #[.string ⟨#[97]⟩, .string U, .int .i64 0, .int .i64 0, .int .i64 0, .int .i64 0, .int .i64 0, .int .i64 0, .bool false] 36) none).but _ |>.andThen hg9 (fun j hj => .inr hj))
          have HB9 := Lib.hid (HBw2.out.grown HG9.out ZA (fun q hq => own_ge HOa.out hq))
          have HO9 := Lib.hid (show OwnC w1.heap.size w9 v9 (S ++ [x]) by unfold OwnC OwnR; rw [flat_snoc, List.length_append, HP.out]; exact ho9)
          clear ho9 hg9 HOa ZA HG9
          go_wp2
          go_roundw
          case rel => exact ⟨j + 1, S ++ [x], by omega, by go_num, by simp [HP.out], by intro y hy; rcases List.mem_append.1 hy with h | h; (· exact HCS.out y h); (· simp at h; subst h; exact HXS.out), HO9.out, HB9.out⟩
          case measure => simp [intOf]; omega
        · have hdj : decide ((j : Int) < 67) = false := by simp; omega
          have hj67 : j = 67 := by omega
          obtain ⟨a8, c8, e8, q8, q8', at8, -, f8⟩ := (show OwnC _ _ _ _ from HOw2.out).read
          have hl8 : S.length = j := HP.out
          obtain ⟨g, hg⟩ : ∃ g, ka = some ⟨g, 0, none⟩ := by
            rcases f8 with ⟨h1, h2, h3⟩ | ⟨g, h1⟩
            · rw [h3] at hl8; simp at hl8; omega
            · refine ⟨g, ?_⟩
              have h9 := e8
              simp only [Value.slice.injEq] at h9
              rw [h9.1, h1]
          subst hg
          have hka : a8 = some ⟨g, 0, none⟩ := by
            have h9 := e8
            simp only [Value.slice.injEq] at h9
            exact h9.1.symm
          subst hka
          have hkc9 : c8 = kc_ := by
            have h9 := e8
            simp only [Value.slice.injEq] at h9
            exact h9.2.2.symm
          obtain ⟨x, hx⟩ : ∃ x, S[3]? = some x := ⟨_, List.getElem?_eq_getElem (by omega)⟩
          obtain ⟨x0, x1, -, -, -, -, -, -, -⟩ := at8.at hx
          have AT8 := Lib.hid (show CAt w2 (some ⟨g, 0, none⟩) S from at8)
          have ATD := Lib.hid (show CAt w2 (some ⟨g, 9, none⟩) (S.drop 1) from by
            have h9 := CAt.drop 1 AT8.out
            simpa using h9)
          have HXS := Lib.hid (HCS.out x (List.mem_of_getElem? hx))
          have HCD := Lib.hid (show ∀ y ∈ S.drop 1, CdS y from fun y hy => HCS.out y (List.mem_of_mem_drop hy))
          have HLD := Lib.hid (show (S.drop 1).length = 66 from by rw [List.length_drop]; omega)
          have HLS := Lib.hid (show S.length = 67 from by omega)
          have hk66 : 66 ≤ kc_ - 1 := by omega
          have hk67 : 67 ≤ kc_ := by omega
          have hkm1 : kc_ ≤ maxLen := by unfold maxLen; omega
          subst hj67
          clear e8 q8 q8' at8 f8 hl8 hx HP hkc hkc9
          haveI hI0 : Nonempty (In (Below w2.heap.size w2)) := ⟨⟨w2, Below.refl _ _⟩⟩
          have hB0 : ∀ g' : In (Below w2.heap.size w2), g'.w.cell? ⟨g, 27, none⟩ = some (.string x.a) := fun g' => ext_cell g'.h x0
          have hB1 : ∀ g' : In (Below w2.heap.size w2), g'.w.cell? ⟨g, 28, none⟩ = some (.string x.i) := fun g' => ext_cell g'.h x1
          go_upto_region 17 with (fail)
          refine Hist.wp_region_hist (Below w2.heap.size w2) (by kernel_rfl) (by kernel_rfl) (by kernel_rfl) ((Below.refl _ _).drew) ?_
          have D3 := Lib.hid ((Below.refl w2.heap.size w2).drew)
          generalize w2.drew = w3 at *
          repeat (first | (refine Hist.wpG_plain 0 _ (by decide +kernel) rfl (by rfl) (by rfl) (fun K hK => ?_); go_big_quiet_op; refine hK _ ?_; clear hK K))
          refine Hist.wpG_call (by rfl) (by rfl) (fun K hK => ?_)
          go_big_op
          have D4 := Lib.hid (D3.out.alloc D3.out.size (.cells #[.string x.a, .string x.i] 32))
          have HK4 := Lib.hid (show KyAt (w3.alloc (.cells #[.string x.a, .string x.i] 32)) (some ⟨w3.heap.size, 0, none⟩) [kyc x] from ky_lit w3 [kyc x])
          refine hK _ _ ⟨(Below w2.heap.size w2), (by simp only [List.cons_append, List.nil_append, List.forall_mem_cons]; repeat' (first | exact D4.out | (intro _ h; cases h; done) | constructor)), ?_⟩
          clear hK K
          generalize (w3.alloc (.cells #[.string x.a, .string x.i] 32)) = w4 at *
          generalize w3.heap.size = kb at *
          repeat (first | (refine Hist.wpG_plain 1 _ (by decide +kernel) rfl (by rfl) (by rfl) (fun K hK => ?_); go_big_quiet_op; refine hK _ ?_; clear hK K) | (refine Hist.wpG_plain 0 _ (by decide +kernel) rfl (by rfl) (by rfl) (fun K hK => ?_); go_big_quiet_op; refine hK _ ?_; clear hK K))
          refine Hist.wpG_call (by rfl) (by rfl) (fun K hK => ?_)
          go_big_op
          refine (law18same (some ⟨g, 0, none⟩) (some ⟨g, 9, none⟩) (some ⟨kb, 0, none⟩) 67 kc_ 66 (kc_ - 1) 1 1 S (S.drop 1) [kyc x] _ (AT8.out.ext D4.out) (ATD.out.ext D4.out) HK4.out HLS.out HLD.out rfl (by omega) (by omega) (by omega) hk67 hk66 (.inr ⟨_, _, rfl⟩) (.inr ⟨_, _, rfl⟩) HCS.out (fun k hk => by simp at hk; subst hk; exact HXS.out)).mono ?_
          rintro e w5 ⟨rfl, hb5⟩
          have D5 := Lib.hid (ext_trans D4.out hb5)
          refine hK _ _ ⟨(Below w2.heap.size w2), (by simp only [List.cons_append, List.nil_append, List.forall_mem_cons]; repeat' (first | exact D5.out | (intro _ h; cases h; done) | constructor)), ?_⟩
          clear hK K hb5
          repeat (first | (refine Hist.wpG_plain 2 _ (by decide +kernel) rfl (by rfl) (by rfl) (fun K hK => ?_); go_big_quiet_op; refine hK _ ?_; clear hK K) | (refine Hist.wpG_plain 1 _ (by decide +kernel) rfl (by rfl) (by rfl) (fun K hK => ?_); go_big_quiet_op; refine hK _ ?_; clear hK K) | (refine Hist.wpG_plain 0 _ (by decide +kernel) rfl (by rfl) (by rfl) (fun K hK => ?_); go_big_quiet_op; refine hK _ ?_; clear hK K))
          refine Hist.wpG_call (by rfl) (by rfl) (fun K hK => ?_)
          go_big_op
          refine (law18known _).mono ?_
          rintro e w6 ⟨rfl, hb6⟩
          have D6 := Lib.hid (ext_trans D5.out hb6)
          refine hK _ _ ⟨(Below w2.heap.size w2), (by simp only [List.cons_append, List.nil_append, List.forall_mem_cons]; repeat' (first | exact D6.out | (intro _ h; cases h; done) | constructor)), ?_⟩
          clear hK K hb6
          repeat (first | (refine Hist.wpG_plain 3 _ (by decide +kernel) rfl (by rfl) (by rfl) (fun K hK => ?_); go_big_quiet_op; refine hK _ ?_; clear hK K) | (refine Hist.wpG_plain 2 _ (by decide +kernel) rfl (by rfl) (by rfl) (fun K hK => ?_); go_big_quiet_op; refine hK _ ?_; clear hK K) | (refine Hist.wpG_plain 1 _ (by decide +kernel) rfl (by rfl) (by rfl) (fun K hK => ?_); go_big_quiet_op; refine hK _ ?_; clear hK K) | (refine Hist.wpG_plain 0 _ (by decide +kernel) rfl (by rfl) (by rfl) (fun K hK => ?_); go_big_quiet_op; refine hK _ ?_; clear hK K))
          refine Hist.wpG_nil ?_
          clear hI0 hB0 hB1
          go_wp2
          go_ret
          exact ⟨rfl, ext_trans B1 (ext_trans HBw2.out D6.out)⟩

end Go.Proofs.Ytmgdhgaodjkifaa
