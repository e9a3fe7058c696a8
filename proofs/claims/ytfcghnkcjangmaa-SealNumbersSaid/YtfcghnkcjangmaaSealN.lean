/- 'SealNumbers': the walk. -/
import Derived.Test.YtfcghnkcjangmaaSealT
import Derived.Test.YtfcghnkcjangmaaSealQ
namespace Go.Proofs.Ytfcghnkcjangmaa
open Go.RowKit
set_option linter.unusedVariables false
set_option linter.unusedSimpArgs false

theorem info_int : (Try.prog.info? 3).map (fun i => (i.zero, i.size, i.bytes)) = some (some (.int .i64 0), 1, 8) := by kernel_rfl
theorem mul_lo {a b : Nat} : (0 : Int) ≤ (a : Int) * b := Int.mul_nonneg (by omega) (by omega)
theorem mul_hi {a b x y : Nat} (ha : a ≤ x) (hb : b ≤ y) : (a : Int) * b ≤ (x : Int) * y := by exact_mod_cast Nat.mul_le_mul ha hb
def cOne : Cd := ⟨⟨#[97]⟩, ⟨#[97, 120]⟩, 1, 0, 1, 0, 0, 0, false⟩
def cTwo : Cd := ⟨⟨#[97]⟩, ⟨#[98, 89]⟩, 1, 0, 1, 0, 0, 0, false⟩

set_option maxRecDepth 100000 in
set_option maxHeartbeats 4000000 in
theorem sealNumbers_walk (w : World) :
    Calls Try.prog 3 #[] w fun e w' => e = .returned (.bool true) ∧ Below w.heap.size w w' := by
  obtain ⟨i0, hi, hz0, hz1, hz2⟩ := info_parts info_int
  obtain ⟨j0, gi, gz0, gz1, gz2⟩ := info_parts' info_card
  go_enter Try.func3, Try.ntmps3
  go_wp2_with fail
  go_loopw [1] (fun i wr => ∃ k : Nat, k ≤ 50 ∧ i = .int .i64 k ∧ Below w.heap.size w wr) (fun i _ => 50 - (intOf i).toNat)
  case atStart => exact ⟨0, by omega, rfl, Below.refl _ _⟩
  case round =>
    obtain ⟨w1, rfl⟩ : ∃ y : World, y = wr := ⟨_, rfl⟩
    obtain ⟨k, hk, rfl, B1⟩ := hrel
    by_cases hlk : k < 50
    · have hdk : decide ((k : Int) < 50) = true := by simp; omega
      have Z1 := B1.size
      go_wp2_with fail
      go_loopw [2, 3] (fun v i wr => ∃ (j : Nat) (xs : List Int), j ≤ 120 ∧ i = .int .i64 j ∧ xs.length = j ∧ (∀ x ∈ xs, (Lit.int .i64 x).wf = true) ∧ wr.ownsRow w1.heap.size 3 1 v j (xs.map (Value.int .i64)) ∧ Below w1.heap.size w1 wr) (fun _ i _ => 120 - (intOf i).toNat)
      case atStart => exact ⟨0, [], by omega, rfl, rfl, by simp, World.ownsRow_nil _ _ _ _, Below.refl _ _⟩
      case round =>
        obtain ⟨w2, rfl⟩ : ∃ y : World, y = wr := ⟨_, rfl⟩
        obtain ⟨j, xs, hj, rfl, hxl, hxw, hown, B2⟩ := hrel
        have HX := Lib.hid hxl
        have HW := Lib.hid hxw
        have HO := Lib.hid hown
        have Z2 := B2.size
        clear hxl hxw hown
        by_cases hlj : j < 120
        · have hdj : decide ((j : Int) < 120) = true := by simp; omega
          have m1 := mul_lo (a := j) (b := j)
          have m2 : (j : Int) * j ≤ 14400 := by have := mul_hi (a := j) (b := j) (x := 120) (y := 120) (by omega) (by omega); omega
          have m3 := mul_lo (a := j) (b := k)
          have m4 : (j : Int) * k ≤ 6000 := by have := mul_hi (a := j) (b := k) (x := 120) (y := 50) (by omega) (by omega); omega
          have hv0 : 0 ≤ (((j : Int) * j * 7 + k * 41 + j * k) % 211) := Int.emod_nonneg _ (by omega)
          have hv1 : (((j : Int) * j * 7 + k * 41 + j * k) % 211) < 211 := Int.emod_lt_of_pos _ (by omega)
          have hvw : (Lit.int .i64 (((j : Int) * j * 7 + k * 41 + j * k) % 211)).wf = true := WalkArith.wf_i64 (by omega)
          have HV := Lib.hid hvw
          clear hv0 hv1 hvw
          go_wp2_with (first | (at_builtin; refine wpList_append_own _ rfl _ _ 22 rfl (w1.heap.size) 3 i0 (.int .i64 0) 1 8 Try.underlying22 hi hz0 hz1 hz2 rfl (by decide) _ _ _ rfl (HO.out.alloc _) ⟨w2.heap.size, 0, none⟩ 1 1 [.int .i64 (((j : Int) * j * 7 + k * 41 + j * k) % 211)] rfl rfl ?c1 ?c2 ?c3 ?c4 ?c5 ?_))
          case c1 =>
            intro j' u hj'
            match j', hj' with
            | 0, hj' => simp at hj'; subst hj'; simp [Addr.add, go_sem]
          case c2 => intro u hu; simp at hu; subst hu; rfl
          case c3 => unfold maxLen; omega
          case c4 => omega
          case c5 => simp; omega
          intro v' w3 hown' hgrow _
          have B3 := (B2.alloc B2.size _).grown hgrow (by simp; omega) (fun q hq => own_ge HO.out hq)
          have O3 := Lib.hid hown'
          clear hown' hgrow
          go_wp2
          go_roundw
          case rel => exact ⟨j + 1, xs ++ [(((j : Int) * j * 7 + k * 41 + j * k) % 211)], by omega, by go_num, by simp [HX.out], by intro y hy; rcases List.mem_append.1 hy with h | h; (· exact HW.out y h); (· simp at h; subst h; exact HV.out), by simpa using O3.out, B3⟩
          case measure => simp [intOf]; omega
        · have hdj : decide ((j : Int) < 120) = false := by simp; omega
          obtain ⟨at_, ct, rfl, hrow⟩ := isRow_of_owns HO.out HX.out HW.out
          have D2 := ext_trans B1 B2
          have DA : Below w2.heap.size w2 (w2.alloc (.cells #[.slice at_ j ct, .int .i64 0] 25)) := (Below.refl _ _).alloc (Nat.le_refl _) _
          have HT3 := Lib.hid (tapeK_new (a := at_) (len := j) (cap := ct) w2)
          have HR3 := Lib.hid (rowOk_new hrow (.cells #[.slice at_ j ct, .int .i64 0] 25))
          have HB3 := Lib.hid (ext_trans D2 DA)
          have HD2 := Lib.hid D2
          have HZW := Lib.hid (ext_trans D2 DA).size
          clear hrow DA D2 B1 B2 Z1 Z2 HO HX HW
          go_wp2_with fail
          generalize (w2.alloc (.cells #[.slice at_ j ct, .int .i64 0] 25)) = w3 at *
          obtain ⟨tb, htb⟩ : ∃ tb, w2.heap.size = tb := ⟨_, rfl⟩
          have HTB := Lib.hid (show w.heap.size ≤ tb by have := HD2.out.size; omega)
          rw [htb] at HT3 HR3 ⊢
          clear htb
          refine (tapeCards at_ j ct xs tb 9 _ HT3.out HR3.out (by omega)).mono ?_
          rintro e w4 ⟨va, as_, rfl, hoa, hla, hoka, hT4, hb4⟩
          obtain ⟨aa, ac, rfl, hac, ham, haat, hage, haf⟩ := hoa.read
          obtain ⟨n, hn⟩ : ∃ n, as_.length = n := ⟨_, rfl⟩
          have HA4 := Lib.hid haat
          have HO4 := Lib.hid hoa
          have HN := Lib.hid hn
          have HSA := Lib.hid (show ∀ x ∈ as_, CdS x from fun x hx => (hoka x hx).s)
          have HT4 := Lib.hid hT4
          have HR4 := Lib.hid (HR3.out.bar hb4)
          have HB4 := Lib.hid (HB3.out.trans (hb4.below HTB.out HB3.out.size))
          have HZ3 := Lib.hid hb4.size
          rw [hn] at hac hla ⊢
          unfold maxLen at ham
          have HAF := Lib.hid haf
          clear hoa hoka hT4 hb4 haat hn HT3 HR3 HB3 hage haf
          go_wp2_with fail
          refine (tapeCards at_ j ct xs tb 9 _ HT4.out HR4.out (by omega)).mono ?_
          rintro e w5 ⟨vb, bs, rfl, hob, hlb, hokb, hT5, hb5⟩
          obtain ⟨ba, bc_, rfl, hbc, hbm, hbat, -, hbf⟩ := hob.read
          obtain ⟨m, hm⟩ : ∃ m, bs.length = m := ⟨_, rfl⟩
          have HA5 := Lib.hid (HT4.out.cat hb5 HA4.out)
          have HO5 := Lib.hid (show OwnC w3.heap.size w5 (.slice aa n ac) as_ from by have h9 := HO4.out; rw [HN.out] at h9; exact HT4.out.own hb5 (by decide) h9)
          have HB5c := Lib.hid hbat
          have HM := Lib.hid hm
          have HSB := Lib.hid (show ∀ x ∈ bs, CdS x from fun x hx => (hokb x hx).s)
          have HB5 := Lib.hid (HB4.out.trans (hb5.below HTB.out HB4.out.size))
          have HZ5 := Lib.hid (Nat.le_trans HZ3.out hb5.size)
          have HBF := Lib.hid hbf
          rw [hm] at hbc hlb ⊢
          unfold maxLen at hbm
          clear hob hokb hT5 hb5 hbat hm HT4 HR4 HB4 HA4 HO4 HZ3 hbf
          go_wp2_with fail
          go_loopw [7, 43] (fun g i wr => ∃ J : Nat, J ≤ n ∧ i = .int .i64 (J : Int) ∧ OwnC w5.heap.size wr g (as_.reverse.take J) ∧ Below w5.heap.size w5 wr) (fun g i _ => n - (intOf i).toNat)
          case atStart => exact ⟨0, by omega, rfl, OwnR.nil _ _, Below.refl _ _⟩
          case round =>
            obtain ⟨w6, rfl⟩ : ∃ y : World, y = wr := ⟨_, rfl⟩
            obtain ⟨J, hJ, rfl, ho6, hb6⟩ := hrel
            obtain ⟨ga, gc, hgv, hgc, hgm, hgat, -, -⟩ := ho6.read
            obtain ⟨S, hS⟩ : ∃ S, as_.reverse.take J = S := ⟨_, rfl⟩
            rw [hS] at ho6 hgc hgat hgv
            obtain ⟨p, hp⟩ : ∃ p, S.length = p := ⟨_, rfl⟩
            have hpJ : p = J := by rw [← hp, ← hS, List.length_take, List.length_reverse]; have := HN.out; omega
            have HP := Lib.hid hp
            have HPJ := Lib.hid hpJ
            have hp9 : p ≤ 9 := by omega
            rw [hp] at hgc hgv
            subst hgv
            have HO6 := Lib.hid ho6
            have HB6 := Lib.hid hb6
            have HSS := Lib.hid hS
            have HGA := Lib.hid hgat
            unfold maxLen at hgm
            clear ho6 hb6 hS hp hgat hpJ
            by_cases hlt : J < n
            · obtain ⟨q, hq⟩ : ∃ q : Nat, (n : Int) - 1 - (J : Int) = (q : Int) := ⟨n - 1 - J, by omega⟩
              have hqn : q < n := by omega
              have hqn' : (q : Int) < (n : Int) := by omega
              obtain ⟨x, hx⟩ : ∃ x, as_[q]? = some x := ⟨_, List.getElem?_eq_getElem (by have := HN.out; omega)⟩
              have HST := Lib.hid (show as_.reverse.take (J + 1) = S ++ [x] from by
                have h1 : as_.reverse[J]? = some x := by rw [List.getElem?_reverse (by have := HN.out; omega), ← hx]; congr 1; have := HN.out; omega
                rw [List.take_add_one, h1, HSS.out]; rfl)
              obtain ⟨b, o, rfl⟩ : ∃ b o, aa = some ⟨b, o, none⟩ := by
                rcases HA5.out with h | ⟨b, o, e, _⟩
                · rw [h] at hx; simp at hx
                · exact ⟨b, o, e⟩
              obtain ⟨x0, x1, x2, x3, x4, x5, x6, x7, x8⟩ := (HA5.out.ext HB6.out).at hx
              have Z6 := HB6.out.size
              have HO6' := Lib.hid (show w6.ownsRow w5.heap.size 33 9 (.slice ga p gc) p (flat cc S) from by have := HO6.out; unfold OwnC OwnR at this; rw [HP.out] at this; exact this)
              clear hx
              go_wp2_with (at_builtin; refine wpList_append_own _ rfl _ _ 26 rfl (w5.heap.size) 33 j0 Cd.zero.v 9 88 Try.underlying26 gi gz0 gz1 gz2 rfl (by decide) _ p (flat cc S) rfl (HO6'.out.alloc (.cells #[.string x.a, .string x.i, .int .i64 x.s, .int .i64 x.o, .int .i64 x.l, .int .i64 x.t, .int .i64 x.k, .int .i64 x.n, .bool x.g] 33)) ⟨w6.heap.size, 0, none⟩ 1 1 (cc x) rfl rfl ?c1 ?c2 ?c3 ?c4 ?c5 ?_)
              case c1 =>
                intro j u hj
                rw [add_off, Nat.zero_add, blk_cell (blk_new w6 #[.string x.a, .string x.i, .int .i64 x.s, .int .i64 x.o, .int .i64 x.l, .int .i64 x.t, .int .i64 x.k, .int .i64 x.n, .bool x.g] 33)]
                simpa [cc] using hj
              case c2 => exact cc_one _
              case c3 => unfold maxLen; omega
              case c4 => omega
              case c5 => simp; omega
              intro v7 w7 ho7 hg7 _
              have HB7 := Lib.hid ((HB6.out.alloc Z6 (.cells #[.string x.a, .string x.i, .int .i64 x.s, .int .i64 x.o, .int .i64 x.l, .int .i64 x.t, .int .i64 x.k, .int .i64 x.n, .bool x.g] 33)).grown hg7 (by simp; omega) (fun q hq => own_ge HO6'.out hq))
              have HO7 := Lib.hid (show OwnC w5.heap.size w7 v7 (S ++ [x]) by unfold OwnC OwnR; rw [flat_snoc, List.length_append, HP.out]; exact ho7)
              clear ho7 hg7 HO6 HO6' x0 x1 x2 x3 x4 x5 x6 x7 x8 hq HGA
              go_wp2
              go_roundw
              case rel => exact ⟨J + 1, by omega, by go_num, by rw [HST.out]; exact HO7.out, HB7.out⟩
              case measure => simp [intOf]; omega
            · obtain rfl : J = n := by omega
              obtain rfl : p = J := HPJ.out
              have HSR := Lib.hid (show ∀ x ∈ S, CdS x from fun x hx => HSA.out x (by rw [← HSS.out] at hx; simpa using List.mem_of_mem_take hx))
              have HA6 := Lib.hid (HA5.out.ext HB6.out)
              have HC6 := Lib.hid (HB5c.out.ext HB6.out)
              have HO6a := Lib.hid (HO5.out.ext HB6.out)
              have HW6 := Lib.hid (ext_trans HB5.out HB6.out)
              have HZ6 := Lib.hid (Nat.le_trans HZ5.out HB6.out.size)
              clear HO6
              go_wp2_with fail
              refine (law14same aa ba p m ac bc_ as_ bs _ HA6.out HC6.out HN.out HM.out (by omega) (by omega) hac hbc HSA.out HSB.out).mono ?_
              rintro e w7 ⟨rfl, hb7⟩
              have HA7 := Lib.hid (HA6.out.ext hb7)
              have HC7 := Lib.hid (HC6.out.ext hb7)
              have HG7 := Lib.hid (HGA.out.ext hb7)
              have HO7 := Lib.hid (OwnR.ext HO6a.out hb7)
              have HW7 := Lib.hid (ext_trans HW6.out hb7)
              have HZ7 := Lib.hid (Nat.le_trans HZ6.out hb7.size)
              clear hb7
              go_wp2_with fail
              refine (law14same ga aa p p gc ac S as_ _ HG7.out HA7.out HP.out HN.out (by omega) (by omega) hgc hac HSR.out HSA.out).mono ?_
              rintro e w8 ⟨rfl, hb8⟩
              have HC8 := Lib.hid (HC7.out.ext hb8)
              have HA8 := Lib.hid (HA7.out.ext hb8)
              have HO8 := Lib.hid (show w8.ownsRow w3.heap.size 33 9 (.slice aa p ac) p (flat cc as_) from by have := OwnR.ext HO7.out hb8; unfold OwnR at this; rw [HN.out] at this; exact this)
              have HW8 := Lib.hid (ext_trans HW7.out hb8)
              have hz8 := Nat.le_trans HZ7.out hb8.size
              clear hb8
              rcases HBF.out with ⟨rfl, rfl, hbn⟩ | ⟨bg, rfl⟩
              · obtain rfl : m = 0 := by omega
                rcases HAF.out with ⟨rfl, han, hac0⟩ | ⟨ag, rfl⟩
                · obtain rfl : p = 0 := by rw [← HN.out, hac0]; rfl
                  subst han
                  have hap := fun (w : World) (ty : TypeId) => run_append_nil w ty none 0 0 (by omega)
                  go_wp2_with fail
                  refine (law14same none none 0 0 0 0 [] [] _ (.inl rfl) (.inl rfl) rfl rfl (by omega) (by omega) (by omega) (by omega) (fun x hx => by cases hx) (fun x hx => by cases hx)).mono ?_
                  rintro e w9 ⟨rfl, hb9⟩
                  have HW9 := Lib.hid (ext_trans HW8.out hb9)
                  clear hb9
                  go_wp2
                  go_roundw
                  case rel => exact ⟨k + 1, by omega, by go_num, HW9.out⟩
                  case measure => simp [intOf]; omega
                · have hap := fun (w : World) (ty : TypeId) => run_append_nil w ty (some ⟨ag, 0, none⟩) p ac hac
                  go_wp2_with fail
                  refine (law14same (some ⟨ag, 0, none⟩) none p 0 ac 0 as_ [] _ HA8.out (.inl rfl) HN.out rfl (by omega) (by omega) hac (by omega) HSA.out (fun x hx => by cases hx)).mono ?_
                  rintro e w9 ⟨rfl, hb9⟩
                  have HW9 := Lib.hid (ext_trans HW8.out hb9)
                  clear hb9
                  go_wp2
                  go_roundw
                  case rel => exact ⟨k + 1, by omega, by go_num, HW9.out⟩
                  case measure => simp [intOf]; omega
              · go_wp2_with (at_builtin; refine wpList_wanted _ (by rfl) (fun K hK => ?_); refine wp_append_own _ _ _ 26 rfl (w3.heap.size) 33 j0 Cd.zero.v 9 88 Try.underlying26 gi gz0 gz1 gz2 rfl (by decide) (.slice aa p ac) p (flat cc as_) rfl HO8.out ⟨bg, 0, none⟩ m bc_ (flat cc bs) rfl ?c0 ?c1 ?c2 ?c3 ?c4 ?c5 ?_)
                case c0 => rw [flat_len cc_len, HM.out]
                case c1 => intro j u hj; rw [add_off]; exact cat_cells HC8.out j u hj
                case c2 => exact flat_one cc_one _
                case c3 => unfold maxLen; omega
                case c4 => omega
                case c5 => exact hz8
                intro v9 w9 ho9 hg9 _
                have HW9 := Lib.hid (HW8.out.grown hg9 HW8.out.size (fun q hq => Nat.le_trans HZW.out (own_ge HO8.out hq)))
                obtain ⟨a9, c9, rfl, h91, h92, h93, -, -⟩ := OwnC.read (show OwnC w3.heap.size w9 v9 (as_ ++ bs) from by unfold OwnC OwnR; rw [flat_app, List.length_append, HN.out, HM.out]; exact ho9)
                rw [List.length_append, HN.out, HM.out] at h91 ⊢
                have HC9 := Lib.hid h93
                have HSAB := Lib.hid (show ∀ x ∈ as_ ++ bs, CdS x from fun x hx => by
                  rcases List.mem_append.1 hx with hx | hx
                  · exact HSA.out x hx
                  · exact HSB.out x hx)
                refine hK _ _ ?_
                clear hK K ho9 hg9 h93
                try simp only [Act.put, List.setIfInBounds_toArray, List.set_cons_succ, List.set_cons_zero]
                go_wp2_with fail
                refine (law14same a9 none (p + m) 0 c9 0 (as_ ++ bs) [] _ HC9.out (.inl rfl) (by rw [List.length_append, HN.out, HM.out]) rfl (by omega) (by omega) h91 (by omega) HSAB.out (fun x hx => by cases hx)).mono ?_
                rintro e w10 ⟨rfl, hb10⟩
                have HW10 := Lib.hid (ext_trans HW9.out hb10)
                clear hb10
                go_wp2
                go_roundw
                case rel => exact ⟨k + 1, by omega, by go_num, HW10.out⟩
                case measure => simp [intOf]; omega
    · have hdk : decide ((k : Int) < 50) = false := by simp; omega
      have HB1 := Lib.hid B1
      clear B1
      have E1 : Below w1.heap.size w1 ((w1.alloc (.cells #[.string ⟨#[97]⟩, .string ⟨#[97, 120]⟩, .int .i64 1, .int .i64 0, .int .i64 1, .int .i64 0, .int .i64 0, .int .i64 0, .bool false] 33)).alloc (.cells #[.string ⟨#[97]⟩, .string ⟨#[98, 89]⟩, .int .i64 1, .int .i64 0, .int .i64 1, .int .i64 0, .int .i64 0, .int .i64 0, .bool false] 33)) := ((Below.refl _ _).alloc (Nat.le_refl _) _).alloc (by simp) _
      have HCa := Lib.hid (show CAt ((((w1.alloc (.cells #[.string ⟨#[97]⟩, .string ⟨#[97, 120]⟩, .int .i64 1, .int .i64 0, .int .i64 1, .int .i64 0, .int .i64 0, .int .i64 0, .bool false] 33)).alloc (.cells #[.string ⟨#[97]⟩, .string ⟨#[98, 89]⟩, .int .i64 1, .int .i64 0, .int .i64 1, .int .i64 0, .int .i64 0, .int .i64 0, .bool false] 33)).alloc (.cells #[.string ⟨#[97]⟩, .string ⟨#[97, 120]⟩, .int .i64 1, .int .i64 0, .int .i64 1, .int .i64 0, .int .i64 0, .int .i64 0, .bool false] 33)).alloc (.cells #[.string ⟨#[97]⟩, .string ⟨#[98, 89]⟩, .int .i64 1, .int .i64 0, .int .i64 1, .int .i64 0, .int .i64 0, .int .i64 0, .bool false] 33)) (some ⟨w1.heap.size + 2, 0, none⟩) [cOne] from by
        have h1 := (cat_lit ((w1.alloc (.cells #[.string ⟨#[97]⟩, .string ⟨#[97, 120]⟩, .int .i64 1, .int .i64 0, .int .i64 1, .int .i64 0, .int .i64 0, .int .i64 0, .bool false] 33)).alloc (.cells #[.string ⟨#[97]⟩, .string ⟨#[98, 89]⟩, .int .i64 1, .int .i64 0, .int .i64 1, .int .i64 0, .int .i64 0, .int .i64 0, .bool false] 33)) [cOne]).ext ((Below.refl _ _).alloc (Nat.le_refl _) (.cells #[.string ⟨#[97]⟩, .string ⟨#[98, 89]⟩, .int .i64 1, .int .i64 0, .int .i64 1, .int .i64 0, .int .i64 0, .int .i64 0, .bool false] 33))
        have hs : ((w1.alloc (.cells #[.string ⟨#[97]⟩, .string ⟨#[97, 120]⟩, .int .i64 1, .int .i64 0, .int .i64 1, .int .i64 0, .int .i64 0, .int .i64 0, .bool false] 33)).alloc (.cells #[.string ⟨#[97]⟩, .string ⟨#[98, 89]⟩, .int .i64 1, .int .i64 0, .int .i64 1, .int .i64 0, .int .i64 0, .int .i64 0, .bool false] 33)).heap.size = w1.heap.size + 2 := by simp
        rw [hs] at h1
        exact h1)
      have HCb := Lib.hid (show CAt ((((w1.alloc (.cells #[.string ⟨#[97]⟩, .string ⟨#[97, 120]⟩, .int .i64 1, .int .i64 0, .int .i64 1, .int .i64 0, .int .i64 0, .int .i64 0, .bool false] 33)).alloc (.cells #[.string ⟨#[97]⟩, .string ⟨#[98, 89]⟩, .int .i64 1, .int .i64 0, .int .i64 1, .int .i64 0, .int .i64 0, .int .i64 0, .bool false] 33)).alloc (.cells #[.string ⟨#[97]⟩, .string ⟨#[97, 120]⟩, .int .i64 1, .int .i64 0, .int .i64 1, .int .i64 0, .int .i64 0, .int .i64 0, .bool false] 33)).alloc (.cells #[.string ⟨#[97]⟩, .string ⟨#[98, 89]⟩, .int .i64 1, .int .i64 0, .int .i64 1, .int .i64 0, .int .i64 0, .int .i64 0, .bool false] 33)) (some ⟨w1.heap.size + 3, 0, none⟩) [cTwo] from by
        have h1 := cat_lit (((w1.alloc (.cells #[.string ⟨#[97]⟩, .string ⟨#[97, 120]⟩, .int .i64 1, .int .i64 0, .int .i64 1, .int .i64 0, .int .i64 0, .int .i64 0, .bool false] 33)).alloc (.cells #[.string ⟨#[97]⟩, .string ⟨#[98, 89]⟩, .int .i64 1, .int .i64 0, .int .i64 1, .int .i64 0, .int .i64 0, .int .i64 0, .bool false] 33)).alloc (.cells #[.string ⟨#[97]⟩, .string ⟨#[97, 120]⟩, .int .i64 1, .int .i64 0, .int .i64 1, .int .i64 0, .int .i64 0, .int .i64 0, .bool false] 33)) [cTwo]
        have hs : (((w1.alloc (.cells #[.string ⟨#[97]⟩, .string ⟨#[97, 120]⟩, .int .i64 1, .int .i64 0, .int .i64 1, .int .i64 0, .int .i64 0, .int .i64 0, .bool false] 33)).alloc (.cells #[.string ⟨#[97]⟩, .string ⟨#[98, 89]⟩, .int .i64 1, .int .i64 0, .int .i64 1, .int .i64 0, .int .i64 0, .int .i64 0, .bool false] 33)).alloc (.cells #[.string ⟨#[97]⟩, .string ⟨#[97, 120]⟩, .int .i64 1, .int .i64 0, .int .i64 1, .int .i64 0, .int .i64 0, .int .i64 0, .bool false] 33)).heap.size = w1.heap.size + 3 := by simp
        rw [hs] at h1
        exact h1)
      have HB2 := Lib.hid (show Below w.heap.size w ((((w1.alloc (.cells #[.string ⟨#[97]⟩, .string ⟨#[97, 120]⟩, .int .i64 1, .int .i64 0, .int .i64 1, .int .i64 0, .int .i64 0, .int .i64 0, .bool false] 33)).alloc (.cells #[.string ⟨#[97]⟩, .string ⟨#[98, 89]⟩, .int .i64 1, .int .i64 0, .int .i64 1, .int .i64 0, .int .i64 0, .int .i64 0, .bool false] 33)).alloc (.cells #[.string ⟨#[97]⟩, .string ⟨#[97, 120]⟩, .int .i64 1, .int .i64 0, .int .i64 1, .int .i64 0, .int .i64 0, .int .i64 0, .bool false] 33)).alloc (.cells #[.string ⟨#[97]⟩, .string ⟨#[98, 89]⟩, .int .i64 1, .int .i64 0, .int .i64 1, .int .i64 0, .int .i64 0, .int .i64 0, .bool false] 33)) from ext_trans HB1.out ((E1.alloc E1.size _).alloc (E1.alloc E1.size (.cells #[.string ⟨#[97]⟩, .string ⟨#[97, 120]⟩, .int .i64 1, .int .i64 0, .int .i64 1, .int .i64 0, .int .i64 0, .int .i64 0, .bool false] 33)).size _))
      clear E1
      go_wp2_with fail
      refine (law14same (some ⟨w1.heap.size + 2, 0, none⟩) (some ⟨w1.heap.size + 3, 0, none⟩) 1 1 1 1 [cOne] [cTwo] _ HCa.out HCb.out rfl rfl (by omega) (by omega) (by omega) (by omega) (fun x hx => by simp at hx; subst hx; exact ⟨by decide, by decide⟩) (fun x hx => by simp at hx; subst hx; exact ⟨by decide, by decide⟩)).mono ?_
      rintro e w4 ⟨rfl, hb4⟩
      have HB4 := Lib.hid (ext_trans HB2.out hb4)
      clear hb4
      go_wp2_with fail
      refine (law14known _).mono ?_
      rintro e w5 ⟨rfl, hb5⟩
      have HB5 := Lib.hid (ext_trans HB4.out hb5)
      clear hb5
      go_wp2
      go_ret
      exact ⟨rfl, HB5.out⟩

end Go.Proofs.Ytfcghnkcjangmaa
