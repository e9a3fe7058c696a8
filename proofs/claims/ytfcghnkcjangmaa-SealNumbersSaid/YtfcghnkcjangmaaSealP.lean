/- 'SealParts': the walk. -/
import Derived.Test.YtfcghnkcjangmaaSealK
namespace Go.Proofs.Ytfcghnkcjangmaa
open Go.RowKit
set_option linter.unusedVariables false
set_option linter.unusedSimpArgs false

theorem on_ord (T : List Cd) : ∀ out : List Cd, Ord klt (out ++ T) → Ord klt (T.foldl onS out) := by
  induction T with
  | nil => intro out h; simpa using h
  | cons x xs ih =>
    intro out h
    refine ih (onS out x) ?_
    rcases List.eq_nil_or_concat out with rfl | ⟨o, y, rfl⟩
    · simpa [onS_nil] using h
    · rw [List.concat_eq_append] at h ⊢
      cases hk : kq y x
      · rw [onS_other _ _ _ hk]; simpa using h
      · rw [onS_same _ _ _ hk]
        refine List.Pairwise.sublist ?_ h
        rw [List.append_assoc, List.append_assoc]
        exact List.Sublist.append (List.Sublist.refl o) (List.sublist_append_right [y] _)
theorem onc_ord (cs : List Cd) : Ord klt (onc cs) := on_ord _ [] (by simpa using srt_is klt klt_weak cs)
theorem on_mem (T : List Cd) : ∀ out : List Cd, ∀ y ∈ T.foldl onS out, y ∈ out ∨ y ∈ T := by
  induction T with
  | nil => intro out y h; exact .inl h
  | cons x xs ih =>
    intro out y h
    rcases ih (onS out x) y h with h1 | h1
    · have : y ∈ out ∨ y = x := by
        rcases List.eq_nil_or_concat out with rfl | ⟨o, z, rfl⟩
        · simp [onS_nil] at h1; exact .inr h1
        · rw [List.concat_eq_append] at h1 ⊢
          cases hk : kq z x
          · rw [onS_other _ _ _ hk] at h1
            rcases List.mem_append.1 h1 with h2 | h2
            · exact .inl h2
            · exact .inr (by simpa using h2)
          · rw [onS_same _ _ _ hk] at h1
            rcases List.mem_append.1 h1 with h2 | h2
            · exact .inl (List.mem_append.2 (.inl h2))
            · exact .inr (by simpa using h2)
      rcases this with h2 | h2
      · exact .inl h2
      · exact .inr (by simp [h2])
    · exact .inr (by simp [h1])
theorem onc_mem {cs : List Cd} {y : Cd} (h : y ∈ onc cs) : y ∈ cs := by
  rcases on_mem _ [] y h with h1 | h1
  · cases h1
  · exact (srt_mem klt y cs).1 h1
theorem seen_ord (ls : List Cd) (h : Ord klt ls) : seenL ls = ls.filter (fun c => !c.g) := srt_ord klt _ (List.Pairwise.filter _ h)
/-- what one card adds -/
def oneB (c : Cd) : List Int := if c.g then [] else cardB c
theorem seal_one (c : Cd) : sealB [c] = oneB c := by
  unfold sealB seenL oneB
  cases h : c.g <;> simp [List.filter, h, srt, insR_nil]
theorem flat_filter (ls : List Cd) : (ls.filter (fun c => !c.g)).flatMap cardB = ls.flatMap oneB := by
  induction ls with
  | nil => rfl
  | cons x xs ih =>
    cases h : x.g
    · rw [List.filter_cons_of_pos (by simp [h]), List.flatMap_cons, List.flatMap_cons, ih]; simp [oneB, h]
    · rw [List.filter_cons_of_neg (by simp [h]), List.flatMap_cons, ih]; simp [oneB, h]
theorem seal_parts (ls : List Cd) (h : Ord klt ls) : sealB ls = ls.flatMap oneB := by unfold sealB; rw [seen_ord ls h, flat_filter]
theorem oneB_len (c : Cd) : (oneB c).length ≤ 521 := by unfold oneB; split; (· simp); (· exact cardB_len c)
theorem flat1_len (ls : List Cd) : (ls.flatMap oneB).length ≤ 521 * ls.length := by rw [← flat_filter]; have := flatB_len (ls.filter (fun c => !c.g)); have := List.length_filter_le (fun c : Cd => !c.g) ls; omega
theorem drop_one {ls : List Cd} {J : Nat} {x : Cd} (h : ls[J]? = some x) : (ls.drop J).take 1 = [x] := by rw [drop_at h]; rfl

theorem strOfNums_app (xs ys : List Int) : strOfNums xs ++ strOfNums ys = strOfNums (xs ++ ys) := by
  apply ByteArray.ext
  simp [strOfNums]

set_option maxRecDepth 100000 in
set_option maxHeartbeats 2000000 in
theorem sealParts_walk (ra : Option Addr) (rlen rcap : Nat) (rz : List Int) (w : World) (hr : IsRow .i64 w ra rlen rcap rz) (hr8 : rlen * 8 ≤ 140737488351232) :
    Calls Try.prog 5 #[.slice ra rlen rcap] w fun e w' => e = .returned (.bool true) ∧ Below w.heap.size w w' := by
  have D0 : Below w.heap.size w (w.alloc (.cells #[.slice ra rlen rcap, .int .i64 0] 25)) := (Below.refl _ _).alloc (Nat.le_refl _) _
  have HT0 := Lib.hid (tapeK_new (a := ra) (len := rlen) (cap := rcap) w)
  have HR0 := Lib.hid (rowOk_new hr (.cells #[.slice ra rlen rcap, .int .i64 0] 25))
  have HD0 := Lib.hid D0
  clear hr D0
  go_enter Try.func5, Try.ntmps5
  go_wp2_with fail
  generalize (w.alloc (.cells #[.slice ra rlen rcap, .int .i64 0] 25)) = w0 at *
  refine (tapeCards ra rlen rcap rz w.heap.size 12 _ HT0.out HR0.out (by omega)).mono ?_
  rintro e w1 ⟨lv, cs, rfl, ho, hl, hok, -, hb⟩
  obtain ⟨ca, cc', rfl, hcc, hcm, hcat, -, -⟩ := ho.read
  have HCA := Lib.hid hcat
  have HB1 := Lib.hid (HD0.out.trans (hb.below (Nat.le_refl _) HD0.out.size))
  have HOK := Lib.hid hok
  clear ho hok hb hcat HT0 HR0 HD0
  go_wp2_with fail
  refine (onceC ca cs.length cc' cs _ HCA.out rfl (by omega) hcc).mono ?_
  rintro e w2 ⟨v2, rfl, ho2, hb2⟩
  obtain ⟨l, hl2⟩ : ∃ l, onc cs = l := ⟨_, rfl⟩
  have HORD := Lib.hid (show Ord klt l from by rw [← hl2]; exact onc_ord cs)
  have HCS := Lib.hid (show ∀ x ∈ l, CdS x from fun x hx => (HOK.out x (onc_mem (by rw [hl2]; exact hx))).s)
  have hln : l.length ≤ 12 := by rw [← hl2]; have := onc_len cs; omega
  rw [hl2] at ho2
  obtain ⟨la, lc, rfl, hlc, hlm, hlat, -, hlf⟩ := ho2.read
  obtain ⟨n, hn⟩ : ∃ n, l.length = n := ⟨_, rfl⟩
  have HN := Lib.hid hn
  rw [hn] at hlc hln ⊢
  have HL := Lib.hid hlat
  have HB0 := Lib.hid (ext_trans HB1.out hb2)
  unfold maxLen at hlm
  clear ho2 hb2 hl2 hlat hn HCA HB1 HOK
  go_wp2_with fail
  go_loopw [4, 5, 15] (fun b nn i wr => ∃ J : Nat, J ≤ n ∧ i = .int .i64 (J : Int) ∧ b = .string (strOfNums ((l.take J).flatMap oneB)) ∧ nn = .int .i64 ((((l.take J).filter (fun c => !c.g)).length : Nat) : Int) ∧ Below w2.heap.size w2 wr) (fun b nn i _ => n - (intOf i).toNat)
  case atStart => exact ⟨0, by omega, rfl, rfl, rfl, Below.refl _ _⟩
  case round =>
    obtain ⟨w3, rfl⟩ : ∃ y : World, y = wr := ⟨_, rfl⟩
    obtain ⟨J, hJ, rfl, rfl, rfl, hb3⟩ := hrel
    obtain ⟨B, hB⟩ : ∃ B, (l.take J).flatMap oneB = B := ⟨_, rfl⟩
    obtain ⟨N0, hN0⟩ : ∃ N0, ((l.take J).filter (fun c => !c.g)).length = N0 := ⟨_, rfl⟩
    have HB := Lib.hid hB
    have HCT := Lib.hid hN0
    have hBl : B.length ≤ 6252 := by rw [← hB]; have := flat1_len (l.take J); rw [List.length_take] at this; omega
    have hN12 : N0 ≤ 12 := by rw [← hN0]; have := List.length_filter_le (fun c : Cd => !c.g) (l.take J); rw [List.length_take] at this; omega
    rw [hB, hN0]
    have HB2 := Lib.hid hb3
    clear hb3 hB hN0
    have HL2 := Lib.hid (HL.out.ext HB2.out)
    by_cases hlt : J < n
    · obtain ⟨x, hx⟩ : ∃ x, l[J]? = some x := ⟨_, List.getElem?_eq_getElem (by have := HN.out; omega)⟩
      obtain ⟨g, rfl⟩ : ∃ g, la = some ⟨g, 0, none⟩ := by
        rcases hlf with ⟨_, _, e⟩ | ⟨g, e⟩
        · rw [e] at hx; simp at hx
        · exact ⟨g, e⟩
      have HX := Lib.hid hx
      have HXS := Lib.hid (HCS.out x (List.mem_of_getElem? hx))
      have HC1 := Lib.hid (show CAt w3 (some ⟨g, J * 9, none⟩) [x] from by have := (HL2.out.drop J).take 1; rw [drop_one hx, Nat.zero_add] at this; exact this)
      obtain ⟨y0, y1, y2, y3, y4, y5, y6, y7, y8⟩ := HL2.out.at hx
      have hne : ¬ lc = J := by omega
      clear hx hlf y0 y1 y2 y3 y4 y5 y6 y7
      cases hgg : x.g
      · have HXG := Lib.hid hgg
        rw [hgg] at y8
        go_wp2_with fail
        refine (sealBytes (some ⟨g, J * 9, none⟩) 1 (lc - J) [x] _ HC1.out rfl (by omega) (by omega) (fun y hy => by simp at hy; subst hy; exact HXS.out)).mono ?_
        rintro e w5 ⟨v5, rfl, ho5, hb5⟩
        obtain ⟨a5, c5, rfl, -, -, -, hr5, -, -⟩ := own_read ho5
        rw [seal_one] at hr5 ⊢
        obtain ⟨O, hO⟩ : ∃ O, oneB x = O := ⟨_, rfl⟩
        rw [hO] at hr5 ⊢
        obtain ⟨k5, hk5⟩ : ∃ k, O.length = k := ⟨_, rfl⟩
        have hk521 : k5 ≤ 521 := by rw [← hk5, ← hO]; exact oneB_len x
        have hconv := bytes_text (c := c5) w5 hr5 hk5
        have hst := strOfNums_app B O
        have hadd := fun w : World => run_string_add_sum (P := Try.prog) w (strOfNums B) (strOfNums O) (by rw [strOfNums_size, strOfNums_size]; omega)
        have HB5 := Lib.hid (ext_trans HB2.out hb5)
        have HL5 := Lib.hid (HL2.out.ext hb5)
        have HBN := Lib.hid (show (l.take (J + 1)).flatMap oneB = B ++ O from by rw [List.take_add_one, HX.out]; show (l.take J ++ [x]).flatMap oneB = _; rw [List.flatMap_append, HB.out]; simp [hO])
        have hk0 : 0 < k5 := by rw [← hk5, ← hO]; simp [oneB, HXG.out, cardB, txt]
        have hd5 : ((k5 : Int) == 0) = false := by simp; omega
        obtain ⟨z0, z1, z2, z3, z4, z5, z6, z7, z8⟩ := HL5.out.at HX.out
        simp only [Nat.zero_add] at z8
        rw [HXG.out] at z8
        have HCN := Lib.hid (show ((l.take (J + 1)).filter (fun c => !c.g)).length = N0 + 1 from by rw [List.take_add_one, HX.out]; show ((l.take J ++ [x]).filter _).length = _; rw [filt_snoc, List.length_append, HCT.out, HXG.out]; rfl)
        rw [hk5]
        clear ho5 hb5 hr5 hk5 hO y8 z0 z1 z2 z3 z4 z5 z6 z7 HC1 HXS hgg
        generalize strOfNums B = SB at *
        generalize strOfNums O = SO at *
        go_wp2
        go_roundw
        case rel => exact ⟨J + 1, by omega, by go_num, by rw [HBN.out, ← hst], by rw [HCN.out]; go_num, HB5.out⟩
        case measure => simp [intOf]; omega
      · have HXG := Lib.hid hgg
        rw [hgg] at y8
        go_wp2_with fail
        refine (sealBytes (some ⟨g, J * 9, none⟩) 1 (lc - J) [x] _ HC1.out rfl (by omega) (by omega) (fun y hy => by simp at hy; subst hy; exact HXS.out)).mono ?_
        rintro e w5 ⟨v5, rfl, ho5, hb5⟩
        obtain ⟨a5, c5, rfl, -, -, -, hr5, -, -⟩ := own_read ho5
        rw [seal_one] at hr5 ⊢
        obtain ⟨O, hO⟩ : ∃ O, oneB x = O := ⟨_, rfl⟩
        rw [hO] at hr5 ⊢
        obtain ⟨k5, hk5⟩ : ∃ k, O.length = k := ⟨_, rfl⟩
        have hk521 : k5 ≤ 521 := by rw [← hk5, ← hO]; exact oneB_len x
        have hconv := bytes_text (c := c5) w5 hr5 hk5
        have hst := strOfNums_app B O
        have hadd := fun w : World => run_string_add_sum (P := Try.prog) w (strOfNums B) (strOfNums O) (by rw [strOfNums_size, strOfNums_size]; omega)
        have HB5 := Lib.hid (ext_trans HB2.out hb5)
        have HL5 := Lib.hid (HL2.out.ext hb5)
        have HBN := Lib.hid (show (l.take (J + 1)).flatMap oneB = B ++ O from by rw [List.take_add_one, HX.out]; show (l.take J ++ [x]).flatMap oneB = _; rw [List.flatMap_append, HB.out]; simp [hO])
        have hk0 : k5 = 0 := by rw [← hk5, ← hO]; simp [oneB, HXG.out]
        subst hk0
        obtain ⟨z0, z1, z2, z3, z4, z5, z6, z7, z8⟩ := HL5.out.at HX.out
        simp only [Nat.zero_add] at z8
        rw [HXG.out] at z8
        have HCN := Lib.hid (show ((l.take (J + 1)).filter (fun c => !c.g)).length = N0 + 0 from by rw [List.take_add_one, HX.out]; show ((l.take J ++ [x]).filter _).length = _; rw [filt_snoc, List.length_append, HCT.out, HXG.out]; rfl)
        rw [hk5]
        clear ho5 hb5 hr5 hk5 hO y8 z0 z1 z2 z3 z4 z5 z6 z7 HC1 HXS hgg
        generalize strOfNums B = SB at *
        generalize strOfNums O = SO at *
        go_wp2
        go_roundw
        case rel => exact ⟨J + 1, by omega, by go_num, by rw [HBN.out, ← hst], by rw [HCN.out]; rfl, HB5.out⟩
        case measure => simp [intOf]; omega
    · obtain rfl : J = n := by omega
      have HSB := Lib.hid (show sealB l = B from by rw [seal_parts l HORD.out, ← HB.out, List.take_of_length_le (by have := HN.out; omega)])
      have HSN := Lib.hid (show (seenL l).length = N0 from by rw [seen_ord l HORD.out, ← HCT.out, List.take_of_length_le (by have := HN.out; omega)])
      clear hlf
      go_wp2_with fail
      refine (sealBytes la J lc l _ HL2.out HN.out (by omega) hlc HCS.out).mono ?_
      rintro e w5 ⟨v5, rfl, ho5, hb5⟩
      obtain ⟨a5, c5, rfl, -, -, -, hr5, -, -⟩ := own_read ho5
      have hconv := bytes_text (c := c5) w5 hr5 rfl
      rw [HSB.out] at hconv ⊢
      have HB5 := Lib.hid (ext_trans HB2.out hb5)
      have HL5 := Lib.hid (HL2.out.ext hb5)
      clear ho5 hb5 hr5
      generalize strOfNums B = SB at *
      go_wp2_with fail
      refine (sealSeen la J lc l _ HL5.out HN.out (by omega) hlc).mono ?_
      rintro e w6 ⟨v6, rfl, ho6, hb6⟩
      obtain ⟨a6, c6, rfl, -, -, -, -, -⟩ := ho6.read
      rw [HSN.out]
      have HB6 := Lib.hid (ext_trans HB5.out hb6)
      clear ho6 hb6
      go_wp2_with fail
      refine (law14known _).mono ?_
      rintro e w7 ⟨rfl, hb7⟩
      have HB7 := Lib.hid (ext_trans HB0.out (ext_trans HB6.out hb7))
      clear hb7
      go_wp2
      go_ret
      exact ⟨rfl, HB7.out⟩

end Go.Proofs.Ytfcghnkcjangmaa
