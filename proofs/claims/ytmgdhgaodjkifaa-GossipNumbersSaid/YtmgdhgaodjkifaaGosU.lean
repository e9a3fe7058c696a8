/- The document's own gossip: an answer. -/
import Derived.Test.YtmgdhgaodjkifaaGosP
import Derived.Test.YtmgdhgaodjkifaaInv
namespace Go.Proofs.Ytmgdhgaodjkifaa
open Go.RowKit
set_option linter.unusedVariables false
set_option linter.unusedSimpArgs false

theorem in_snoc {ks : List Ky} {I : Nat} {y k : Ky} (h : ks[I]? = some y) : k ∈ ks.take (I + 1) ↔ (k ∈ ks.take I ∨ k = y) := by
  rw [List.take_add_one, h, Option.toList_some, List.mem_append, List.mem_singleton]
theorem ans_take {mine : List Cd} {ks : List Ky} {J : Nat} {k : Ky} (h : ks[J]? = some k) : (k ∈ ks.take J → ansL mine (ks.take (J + 1)) = ansL mine (ks.take J)) ∧ (k ∉ ks.take J → ansL mine (ks.take (J + 1)) = ansL mine (ks.take J) ++ (look mine k).toList) := by
  have e : ks.take (J + 1) = ks.take J ++ [k] := by rw [List.take_add_one, h, Option.toList_some]
  rw [e, ansL_snoc]
  exact ⟨fun h => if_pos h, fun h => if_neg h⟩

set_option maxRecDepth 100000 in
set_option maxHeartbeats 2000000 in
theorem refAnswer (a : Option Addr) (n c : Nat) (mine : List Cd) (ka0 : Option Addr) (m kc0 : Nat) (ks : List Ky) (w : World) (h : CAt w a mine) (hl : mine.length = n) (hn : n ≤ 1000) (kh : KyAt w ka0 ks) (kl : ks.length = m) (km : m ≤ 1000) :
    Calls Try.prog 21 #[.slice a n c, .slice ka0 m kc0] w fun e w' => ∃ v', e = .returned v' ∧ OwnC w.heap.size w' v' (ansL mine ks) ∧ Below w.heap.size w w' := by
  obtain ⟨i0, hi, hz0, hz1, hz2⟩ := info_parts' info_card
  have HA := Lib.hid h
  have HN := Lib.hid hl
  have HKA := Lib.hid kh
  have HKN := Lib.hid kl
  clear h hl kh kl
  go_enter Try.func21, Try.ntmps21
  go_wp2_with fail
  go_loopw [5, 14] (fun kv j wr => ∃ J : Nat, J ≤ m ∧ j = .int .i64 (J : Int) ∧ OwnC w.heap.size wr kv (ansL mine (ks.take J)) ∧ Below w.heap.size w wr) (fun kv j _ => m - (intOf j).toNat)
  case atStart => exact ⟨0, by omega, rfl, OwnR.nil _ _, Below.refl _ _⟩
  case round =>
    obtain ⟨w3, rfl⟩ : ∃ y : World, y = wr := ⟨_, rfl⟩
    obtain ⟨J, hJ, rfl, ho, hb⟩ := hrel
    obtain ⟨S, hS⟩ : ∃ S, (ansL mine (ks.take J)) = S := ⟨_, rfl⟩
    rw [hS] at ho
    obtain ⟨ka, kc_, rfl, hkc, hkm, hkf⟩ := OwnR.form ho
    obtain ⟨p, hp⟩ : ∃ p, S.length = p := ⟨_, rfl⟩
    have hp1 : p ≤ 1000 := by
      rw [← hp, ← hS]
      have h1 := ansL_len mine (ks.take J)
      rw [List.length_take] at h1
      omega
    have HP := Lib.hid hp
    rw [hp] at hkc ho ⊢
    unfold maxLen at hkm
    by_cases hlt : J < m
    · obtain ⟨k, hk⟩ : ∃ x, ks[J]? = some x := ⟨_, List.getElem?_eq_getElem (by have := HKN.out; omega)⟩
      obtain ⟨k1, k2⟩ := k
      obtain ⟨hS1, hS2⟩ := ans_take (mine := mine) hk
      rw [hS] at hS1 hS2
      have HS1 := Lib.hid hS1
      have HS2 := Lib.hid hS2
      obtain ⟨rb, ro, eR⟩ : ∃ b o, ka0 = some ⟨b, o, none⟩ := by
        rcases HKA.out with h | ⟨b, o, e, _⟩
        · rw [h] at hk; simp at hk
        · exact ⟨b, o, e⟩
      have HRR := Lib.hid (show KyAt w (some ⟨rb, ro, none⟩) ks from by rw [← eR]; exact HKA.out)
      obtain ⟨x0, x1⟩ := (KyAt.at (SAt.ext HRR.out hb) hk)
      have D0 : Below w3.heap.size w3 (w3.alloc (.cells #[.string k1, .string k2] 32)) := (Below.refl _ _).alloc (Nat.le_refl _) _
      have HX := Lib.hid (blk_new w3 #[.string k1, .string k2] 32)
      have HOw4 := Lib.hid (OwnR.ext ho D0)
      have HBw4 := Lib.hid (ext_trans hb D0)
      clear ho hb hS hp D0 hkf hS1 hS2
      rw [eR]
      go_upto_region 5 with (fail)
      obtain ⟨r, hr⟩ : ∃ r, w3.heap.size = r := ⟨_, rfl⟩
      rw [hr] at HX ⊢
      clear hr
      generalize (w3.alloc (.cells #[.string k1, .string k2] 32)) = w4 at *
      clear x0 x1
      go_wp2_with fail
      go_loopw [8, 9] (fun ov j wr => ∃ (I : Nat) (B : Bool), I ≤ J ∧ ov = .bool B ∧ j = .int .i64 (I : Int) ∧ (B = true ↔ (k1, k2) ∉ ks.take I) ∧ Below w4.heap.size w4 wr) (fun ov j _ => J - (intOf j).toNat)
      case atStart => exact ⟨0, true, by omega, rfl, rfl, by simp, Below.refl _ _⟩
      case round =>
        obtain ⟨w5, rfl⟩ : ∃ y : World, y = wr := ⟨_, rfl⟩
        obtain ⟨I, B, hI, rfl, rfl, hBB, hb5⟩ := hrel
        have HB5 := Lib.hid hb5
        have HX5 := Lib.hid (blk_ext hb5 HX.out)
        have HBQ := Lib.hid hBB
        clear hBB
        by_cases hIJ : I < J
        · obtain ⟨y, hy⟩ : ∃ x, ks[I]? = some x := ⟨_, List.getElem?_eq_getElem (by have := HKN.out; omega)⟩
          have HIN := Lib.hid (in_snoc (k := (k1, k2)) hy)
          obtain ⟨y1, y2⟩ := KyAt.at (SAt.ext HRR.out (ext_trans HBw4.out hb5)) hy
          have y3 : w5.cell? ⟨r, 0, none⟩ = some (.string k1) := by rw [blk_cell HX5.out]; rfl
          have y4 : w5.cell? ⟨r, 1, none⟩ = some (.string k2) := by rw [blk_cell HX5.out]; rfl
          have hd : decide ((I : Int) < (J : Int)) = true := by simp; omega
          have hIm : I < m := by omega
          clear hb5
          cases B with
          | false =>
            go_wp2_with fail
            haveI hIq : Nonempty (Of w5) := of_some _
            have hF0 := of_cell y1
            have hF1 := of_cell y2
            have hF2 := of_cell y3
            have hF3 := of_cell y4
            first | (refine wp_region_stay w5 (by kernel_rfl) (by kernel_rfl) (by go_grown) ?_) | (refine wp_region_stay_seq w5 (by go_grown) ?_)
            repeat (go_big_quiet_step (fail))
            refine wpQuiet_nil ?_
            intro w6 hb6
            clear hIq hF0 hF1 hF2 hF3 y1 y2 y3 y4
            have HB6 := Lib.hid (ext_trans HB5.out hb6)
            clear hb6
            go_wp2
            go_roundw
            case rel => exact ⟨I + 1, false, by omega, rfl, by first | rfl | go_num, ⟨fun h => (by cases h), fun h => absurd (HIN.out.2 (.inl (by have := HBQ.out; simpa using this))) h⟩, HB6.out⟩
            case measure => simp [intOf] <;> omega
          | true =>
            by_cases h1 : y.1 = k1
            · by_cases h2 : y.2 = k2
              · have hE := Lib.hid (show (k1, k2) = y from Prod.ext h1.symm h2.symm)
                rw [h1] at y1
                rw [h2] at y2
                clear h1 h2
                go_wp2_with fail
                haveI hIq : Nonempty (Of w5) := of_some _
                have hF0 := of_cell y1
                have hF1 := of_cell y2
                have hF2 := of_cell y3
                have hF3 := of_cell y4
                first | (refine wp_region_stay w5 (by kernel_rfl) (by kernel_rfl) (by go_grown) ?_) | (refine wp_region_stay_seq w5 (by go_grown) ?_)
                repeat (go_big_quiet_step (fail))
                refine wpQuiet_nil ?_
                intro w6 hb6
                clear hIq hF0 hF1 hF2 hF3 y1 y2 y3 y4
                have HB6 := Lib.hid (ext_trans HB5.out hb6)
                clear hb6
                go_wp2
                go_roundw
                case rel => exact ⟨I + 1, false, by omega, rfl, by first | rfl | go_num, ⟨fun h => (by cases h), fun h => absurd (HIN.out.2 (.inr hE.out)) h⟩, HB6.out⟩
                case measure => simp [intOf] <;> omega
              · have h3 : ¬ y.2.toList = k2.toList := fun e => h2 (str_inj e)
                have hE := Lib.hid (show ¬ (k1, k2) = y from fun e => h2 (by rw [← e]))
                rw [h1] at y1
                clear h1 h2
                go_wp2_with fail
                haveI hIq : Nonempty (Of w5) := of_some _
                have hF0 := of_cell y1
                have hF1 := of_cell y2
                have hF2 := of_cell y3
                have hF3 := of_cell y4
                first | (refine wp_region_stay w5 (by kernel_rfl) (by kernel_rfl) (by go_grown) ?_) | (refine wp_region_stay_seq w5 (by go_grown) ?_)
                repeat (go_big_quiet_step (fail))
                refine wpQuiet_nil ?_
                intro w6 hb6
                clear hIq hF0 hF1 hF2 hF3 y1 y2 y3 y4
                have HB6 := Lib.hid (ext_trans HB5.out hb6)
                clear hb6
                go_wp2
                go_roundw
                case rel => exact ⟨I + 1, true, by omega, rfl, by first | rfl | go_num, ⟨fun _ h => (HIN.out.1 h).elim (HBQ.out.1 (by trivial)) hE.out, fun _ => rfl⟩, HB6.out⟩
                case measure => simp [intOf] <;> omega
            · have h3 : ¬ y.1.toList = k1.toList := fun e => h1 (str_inj e)
              have hE := Lib.hid (show ¬ (k1, k2) = y from fun e => h1 (by rw [← e]))
              clear h1
              go_wp2_with fail
              haveI hIq : Nonempty (Of w5) := of_some _
              have hF0 := of_cell y1
              have hF1 := of_cell y2
              have hF2 := of_cell y3
              have hF3 := of_cell y4
              first | (refine wp_region_stay w5 (by kernel_rfl) (by kernel_rfl) (by go_grown) ?_) | (refine wp_region_stay_seq w5 (by go_grown) ?_)
              repeat (go_big_quiet_step (fail))
              refine wpQuiet_nil ?_
              intro w6 hb6
              clear hIq hF0 hF1 hF2 hF3 y1 y2 y3 y4
              have HB6 := Lib.hid (ext_trans HB5.out hb6)
              clear hb6
              go_wp2
              go_roundw
              case rel => exact ⟨I + 1, true, by omega, rfl, by first | rfl | go_num, ⟨fun _ h => (HIN.out.1 h).elim (HBQ.out.1 (by trivial)) hE.out, fun _ => rfl⟩, HB6.out⟩
              case measure => simp [intOf] <;> omega
        · obtain rfl : J = I := by omega
          have hd : decide ((J : Int) < (J : Int)) = false := by simp
          have HOw5 := Lib.hid (OwnR.ext HOw4.out hb5)
          have HBw5 := Lib.hid (ext_trans HBw4.out hb5)
          have hk5 := blk_cell HX5.out
          have hl5 := blk_lt HX5.out
          clear hb5
          go_wp2_with fail
          refine (refFind a n c mine (k1, k2) _ (HA.out.ext HBw5.out) HN.out hn).mono ?_
          rintro e w6 ⟨rfl, hb6⟩
          have HOw6 := Lib.hid (OwnR.ext HOw5.out hb6)
          have HBw6 := Lib.hid (ext_trans HBw5.out hb6)
          clear hb6 hk5 hl5 HX5 HOw5 HBw5
          cases hlk : look mine (k1, k2) with
          | none =>
            have HT1 := Lib.hid (show (ansL mine (ks.take (J + 1))) = S from by
              by_cases hq : (k1, k2) ∈ ks.take J
              · exact HS1.out hq
              · rw [HS2.out hq, hlk]; simp)
            rw [show lookV none = .tuple #[.agg #[.string ⟨#[]⟩, .string ⟨#[]⟩, .int .i64 0, .int .i64 0, .int .i64 0, .int .i64 0, .int .i64 0, .int .i64 0, .bool false], .bool false] from rfl]
            clear hlk
            have D7 : Below w6.heap.size w6 (w6.alloc (.cells #[.string ⟨#[]⟩, .string ⟨#[]⟩, .int .i64 0, .int .i64 0, .int .i64 0, .int .i64 0, .int .i64 0, .int .i64 0, .bool false] 36)) := (Below.refl _ _).alloc (Nat.le_refl _) _
            have HO7 := Lib.hid (OwnR.ext HOw6.out D7)
            have HB7 := Lib.hid (ext_trans HBw6.out D7)
            clear D7
            go_upto_region 11 with (fail)
            generalize (w6.alloc (.cells #[.string ⟨#[]⟩, .string ⟨#[]⟩, .int .i64 0, .int .i64 0, .int .i64 0, .int .i64 0, .int .i64 0, .int .i64 0, .bool false] 36)) = w7 at *
            go_wp2
            go_roundw
            case rel => exact ⟨J + 1, by omega, by go_num, by rw [HT1.out]; exact HO7.out, HB7.out⟩
            case measure => simp [intOf] <;> omega
          | some x =>
            rw [show lookV (some x) = .tuple #[.agg #[.string x.a, .string x.i, .int .i64 x.s, .int .i64 x.o, .int .i64 x.l, .int .i64 x.t, .int .i64 x.k, .int .i64 x.n, .bool x.g], .bool true] from rfl]
            have D7 : Below w6.heap.size w6 (w6.alloc (.cells #[.string x.a, .string x.i, .int .i64 x.s, .int .i64 x.o, .int .i64 x.l, .int .i64 x.t, .int .i64 x.k, .int .i64 x.n, .bool x.g] 36)) := (Below.refl _ _).alloc (Nat.le_refl _) _
            have HX7 := Lib.hid (blk_new w6 #[.string x.a, .string x.i, .int .i64 x.s, .int .i64 x.o, .int .i64 x.l, .int .i64 x.t, .int .i64 x.k, .int .i64 x.n, .bool x.g] 36)
            have HOw7 := Lib.hid (OwnR.ext HOw6.out D7)
            have HBw7 := Lib.hid (ext_trans HBw6.out D7)
            clear D7
            go_upto_region 11 with (fail)
            obtain ⟨r7, hr7⟩ : ∃ r, w6.heap.size = r := ⟨_, rfl⟩
            rw [hr7] at HX7 ⊢
            clear hr7 HOw6 HBw6
            generalize (w6.alloc (.cells #[.string x.a, .string x.i, .int .i64 x.s, .int .i64 x.o, .int .i64 x.l, .int .i64 x.t, .int .i64 x.k, .int .i64 x.n, .bool x.g] 36)) = w7 at *
            have hk7 := blk_cell HX7.out
            have hl7 := blk_lt HX7.out
            cases B with
            | false =>
              have HT1 := Lib.hid (show (ansL mine (ks.take (J + 1))) = S from HS1.out (by have := HBQ.out; simpa using this))
              go_wp2
              go_roundw
              case rel => exact ⟨J + 1, by omega, by go_num, by rw [HT1.out]; exact HOw7.out, HBw7.out⟩
              case measure => simp [intOf] <;> omega
            | true =>
              have HT1 := Lib.hid (show (ansL mine (ks.take (J + 1))) = S ++ [x] from by rw [HS2.out (HBQ.out.1 (by trivial)), hlk]; rfl)
              have HOa := Lib.hid (show w7.ownsRow w.heap.size 36 9 (.slice ka p kc_) p (flat cc S) from by have := HOw7.out; unfold OwnC OwnR at this; rw [HP.out] at this; exact this)
              have ZA := HBw7.out.size
              go_wp2_with (at_builtin; refine wpList_append_own _ rfl _ _ 27 rfl (w.heap.size) 36 i0 Cd.zero.v 9 88 Try.underlying27 hi hz0 hz1 hz2 rfl (by decide) _ p (flat cc S) rfl (HOa.out.alloc (.cells #[.string x.a, .string x.i, .int .i64 x.s, .int .i64 x.o, .int .i64 x.l, .int .i64 x.t, .int .i64 x.k, .int .i64 x.n, .bool x.g] 36)) ⟨w7.heap.size, 0, none⟩ 1 1 (cc x) rfl rfl ?e1 ?e2 ?e3 ?e4 ?e5 ?_)
              case e1 =>
                intro j u hj
                first | (rw [add_off, Nat.zero_add, blk_cell (blk_new w7 #[.string x.a, .string x.i, .int .i64 x.s, .int .i64 x.o, .int .i64 x.l, .int .i64 x.t, .int .i64 x.k, .int .i64 x.n, .bool x.g] 36)]; simpa [cc] using hj) | exact hj | (simpa [cc] using hj)
              case e2 => exact cc_one x
              case e3 => unfold maxLen; omega
              case e4 => omega
              case e5 => first | omega | (simp; omega)
              intro v9 w9 ho9 hg9 _
              have HG9 := Lib.hid ((World.grownBy_alloc w7 (.cells #[.string x.a, .string x.i, .int .i64 x.s, .int .i64 x.o, .int .i64 x.l, .int .i64 x.t, .int .i64 x.k, .int .i64 x.n, .bool x.g] 36) none).but _ |>.andThen hg9 (fun j hj => .inr hj))
              have HB9 := Lib.hid (HBw7.out.grown HG9.out ZA (fun q hq => own_ge HOa.out hq))
              have HO9 := Lib.hid (show OwnC w.heap.size w9 v9 (S ++ [x]) by unfold OwnC OwnR; rw [flat_snoc, List.length_append, HP.out]; exact ho9)
              clear ho9 hg9 HOa ZA HG9
              go_wp2
              go_roundw
              case rel => exact ⟨J + 1, by omega, by go_num, by rw [HT1.out]; exact HO9.out, HB9.out⟩
              case measure => simp [intOf] <;> omega
    · obtain rfl : J = m := by omega
      have HF := Lib.hid (show S = ansL mine ks from by rw [← hS, List.take_of_length_le (by have := HKN.out; omega)])
      go_wp2
      go_ret
      exact ⟨_, rfl, by rw [← HF.out]; exact ho, hb⟩

end Go.Proofs.Ytmgdhgaodjkifaa
