/- Layer 13's laws, walked: play. -/
import Derived.Test.YtingmfchlnpgbaaRecentEach
import Derived.Test.YtingmfchlnpgbaaRecentG
import Derived.Test.YtingmfchlnpgbaaHist
namespace Go.Proofs.Ytingmfchlnpgbaa
open Go.RowKit
set_option linter.unusedVariables false

theorem KAt_ne {w : World} {b o c : Nat} {ks : List Ky} {cs : Array Value} {T : TypeId} (h : KAt w (some ⟨b, o, none⟩) ks) (hne : ks ≠ []) (hb : w.heap[c]? = some (.cells cs T (0, 0))) (hs : ∀ (n : Nat) (s : ByteArray), cs[n]? ≠ some (Value.string s)) : b ≠ c := by
  rintro rfl
  rcases h with h | ⟨b', o', e, h⟩
  · exact hne h
  · simp at e
    obtain ⟨rfl, rfl⟩ := e
    cases ks with
    | nil => exact hne rfl
    | cons k ks =>
      have h1 := (h 0 k rfl).1
      rw [blk_cell hb] at h1
      exact hs _ _ h1
theorem str2 {x y : Value} (hx : ∀ s, x ≠ Value.string s) (hy : ∀ s, y ≠ Value.string s) : ∀ (n : Nat) (s : ByteArray), #[x, y][n]? ≠ some (Value.string s) := by
  intro n s h
  match n with
  | 0 => simp at h; exact hx _ h
  | 1 => simp at h; exact hy _ h
  | n + 2 => simp at h
theorem str1 {x : Value} (hx : ∀ s, x ≠ Value.string s) : ∀ (n : Nat) (s : ByteArray), #[x][n]? ≠ some (Value.string s) := by
  intro n s h
  match n with
  | 0 => simp at h; exact hx _ h
  | n + 1 => simp at h
theorem rec_ref_ne {w : World} {rb wb seq : Nat} {ks cs : List Ky} (h : RecAt w rb seq ks) (h' : RefAt w wb cs) : rb ≠ wb := by
  rintro rfl
  obtain ⟨a, c, h1, _⟩ := h
  obtain ⟨a', c', h1', _⟩ := h'
  rw [h1] at h1'
  simp at h1'
theorem RecAt.bar {w w' : World} {rb wb seq : Nat} {ks cs : List Ky} (h : RecAt w rb seq ks) (h' : RefAt w wb cs) (hb : Bar wb w w') : RecAt w' rb seq ks := by
  have hne := rec_ref_ne h h'
  obtain ⟨a, c, h1, h2, h3, h4, h5, h6⟩ := h
  obtain ⟨a', c', h1', _⟩ := h'
  refine ⟨a, c, hb.blk hne h1, h2, h3, ?_, h5, h6⟩
  by_cases h0 : ks = []
  · exact .inl h0
  · exact h4.keep (fun b o e p v hc => hb.cell (by subst e; exact KAt_ne h4 h0 h1' (str1 (by simp))) hc)
theorem RefAt.bar {w w' : World} {rb wb seq : Nat} {ks cs : List Ky} (h : RefAt w wb cs) (h' : RecAt w rb seq ks) (hb : Bar rb w w') : RefAt w' wb cs := by
  have hne := rec_ref_ne h' h
  obtain ⟨a, c, h1, h2, h3, h4, h5, h6⟩ := h
  obtain ⟨a', c', h1', _⟩ := h'
  refine ⟨a, c, hb.blk (Ne.symm hne) h1, h2, h3, ?_, h5, h6⟩
  by_cases h0 : cs = []
  · exact .inl h0
  · exact h4.keep (fun b o e p v hc => hb.cell (by subst e; exact KAt_ne h4 h0 h1' (str2 (by simp) (by simp))) hc)
theorem refNew (w : World) : RefAt (w.alloc (.cells #[.slice none 0 0] 42)) w.heap.size [] :=
  ⟨none, 0, blk_new _ _ _, Nat.le_refl _, by simp [maxLen], .inl rfl, by simp, by simp⟩
theorem refSince_at (rb q m : Nat) (x : Int) (ks bs : List Ky) (w : World) (h : RefAt w rb ks) (hl : ks.length ≤ 1000) (hq : q + m = ks.length) (hm : m ≤ 16) (hx : x = (q : Int)) (hb : ks.drop q = bs) :
    Calls Try.prog 16 #[.pointer (some ⟨rb, 0, none⟩), .int .i64 x] w (Told bs w) := by
  subst hx hb; exact refSince_yes rb q m ks w h hl hq hm
theorem lastK_tail {ks : List Ky} {p m : Nat} (hp : p ≤ ks.length) (hm : m ≤ p) (hm16 : m ≤ 16) : (lastK ks p).drop ((lastK ks p).length - m) = (ks.take p).drop (p - m) := by
  rw [lastK_len ks p hp]
  unfold lastK
  rw [List.drop_drop]
  congr 1
  omega

set_option maxRecDepth 100000 in
set_option maxHeartbeats 4000000 in
theorem law13play (ak : Option Addr) (ck : Nat) (ks : List Ky) (sa : Option Addr) (ls sc : Nat) (zs : List Int) (w : World) (hk : KAt w ak ks) (hkl : ks.length ≤ maxLen) (h0 : IsRow .i64 w sa ls sc zs) :
    Calls Try.prog 7 #[.slice ak ks.length ck, .slice sa ls sc] w fun e w' => e = .returned (.bool true) ∧ Below w.heap.size w w' := by
  have HK := Lib.hid hk
  have hl0 := h0.1
  have hl1 := h0.2.1
  unfold maxLen at hl1 hkl
  have H0 := Lib.hid h0
  clear hk h0
  go_enter Try.func7, Try.ntmps7
  go_wp2_with fail
  refine (recentNew _).mono ?_
  rintro e w1 ⟨rfl, hrx, hbl⟩
  have D1 : Below w.heap.size w (w1.alloc (.cells #[.slice none 0 0] 42)) := hbl.alloc hbl.size _
  have R0 := Lib.hid (hrx.ext ((Below.refl _ _).alloc (Nat.le_refl _) (.cells #[.slice none 0 0] 42)))
  have W0 := Lib.hid (refNew w1)
  have hg1 := hbl.size
  clear hrx hbl
  go_wp2_with fail
  generalize (w1.alloc (.cells #[.slice none 0 0] 42)) = w2 at *
  go_loopw [7] (fun i wr => ∃ p : Nat, p ≤ ks.length ∧ p ≤ 60 ∧ i = .int .i64 p ∧ RecAt wr w.heap.size p (lastK ks p) ∧ RefAt wr w1.heap.size (ks.take p) ∧ Below w.heap.size w wr) (fun i _ => 60 - (intOf i).toNat)
  case atStart => exact ⟨0, by omega, by omega, rfl, by simpa [lastK] using R0.out, by rw [List.take_zero]; exact W0.out, D1⟩
  case round =>
    obtain ⟨w3, rfl⟩ : ∃ y : World, y = wr := ⟨_, rfl⟩
    obtain ⟨p, hp, hp60, rfl, hrec, href, B3⟩ := hrel
    have R3 := Lib.hid hrec
    have W3 := Lib.hid href
    have hrl := hrec.lt
    have hwl := href.lt
    have Z3 := B3.size
    clear hrec href
    by_cases hlp : p < ks.length
    · by_cases hl60 : p < 60
      · obtain ⟨k, hk⟩ : ∃ k, ks[p]? = some k := ⟨ks[p], by simp [hlp]⟩
        rcases HK.out with h | ⟨g, o, rfl, hc⟩
        · rw [h] at hlp; simp at hlp
        · have c0 := (hc p k hk).1
          have c1 := (hc p k hk).2
          have HLs := Lib.hid (lastK_succ hk hlp)
          have HT := Lib.hid (by rw [List.take_add_one, hk]; rfl : ks.take (p + 1) = ks.take p ++ [k])
          have hd : decide ((p : Int) < ks.length) = true := by simp; omega
          have hd60 : decide ((p : Int) < 60) = true := by simp; omega
          have LL := Lib.hid (lastK_len ks p (by omega))
          clear hc hk
          obtain ⟨P, hP⟩ : ∃ P, p + 1 = P := ⟨_, rfl⟩
          have HP := Lib.hid hP
          have hP1 : P ≤ ks.length := by omega
          have hP2 : P ≤ 60 := by omega
          rw [hP] at HLs HT
          clear hP
          go_wp2_with fail
          have S0F0 : ∀ g' : In (Below w.heap.size w), g'.w.cell? ⟨g, o + p * 2, none⟩ = some (.string k.1) := fun g' => ext_cell g'.h c0
          have S0F1 : ∀ g' : In (Below w.heap.size w), g'.w.cell? ⟨g, o + p * 2 + 1, none⟩ = some (.string k.2) := fun g' => ext_cell g'.h c1
          haveI hI0 : Nonempty (In (Below w.heap.size w)) := ⟨⟨w3, B3⟩⟩
          refine Hist.wp_region_hist (Below w.heap.size w) (by kernel_rfl) (by kernel_rfl) (by kernel_rfl) B3.drew ?_
          refine Hist.wpG_letter (fun W => Below w.heap.size w W ∧ RecAt W w.heap.size p (lastK ks p) ∧ RefAt W w1.heap.size (ks.take p)) ⟨B3.drew, R3.out.ext ((Below.refl _ _).drew), W3.out.ext ((Below.refl _ _).drew)⟩ ?_
          rintro x0 ⟨b0, r0, f0⟩
          repeat (first | (refine Hist.wpG_plain 3 _ (by decide +kernel) rfl (by rfl) (by rfl) (fun K hK => ?_); go_big_quiet_op; refine hK _ ?_; clear hK K) | (refine Hist.wpG_plain 2 _ (by decide +kernel) rfl (by rfl) (by rfl) (fun K hK => ?_); go_big_quiet_op; refine hK _ ?_; clear hK K) | (refine Hist.wpG_plain 1 _ (by decide +kernel) rfl (by rfl) (by rfl) (fun K hK => ?_); go_big_quiet_op; refine hK _ ?_; clear hK K) | (refine Hist.wpG_plain 0 _ (by decide +kernel) rfl (by rfl) (by rfl) (fun K hK => ?_); go_big_quiet_op; refine hK _ ?_; clear hK K))
          refine Hist.wpG_call (by rfl) (by rfl) (fun K hK => ?_)
          go_big_op
          refine (recentAdd w.heap.size p (lastK ks p) k _ r0 (by have := LL.out; omega) (by omega)).mono ?_
          rintro e x1 ⟨he1, hr1, hb1⟩
          rw [HP.out] at he1 hr1
          subst he1
          rw [HLs.out] at hr1
          have f1 := f0.bar r0 hb1
          have b1 : Below w.heap.size w x1 := b0.trans (hb1.below (Nat.le_refl _) b0.size)
          refine hK _ _ ⟨Below w.heap.size w, fun T hT => ?_, ?_⟩
          · simp at hT; subst hT; exact b1
          clear hK K b0 r0 f0 hb1
          repeat (first | (refine Hist.wpG_plain 3 _ (by decide +kernel) rfl (by rfl) (by rfl) (fun K hK => ?_); go_big_quiet_op; refine hK _ ?_; clear hK K) | (refine Hist.wpG_plain 2 _ (by decide +kernel) rfl (by rfl) (by rfl) (fun K hK => ?_); go_big_quiet_op; refine hK _ ?_; clear hK K) | (refine Hist.wpG_plain 1 _ (by decide +kernel) rfl (by rfl) (by rfl) (fun K hK => ?_); go_big_quiet_op; refine hK _ ?_; clear hK K) | (refine Hist.wpG_plain 0 _ (by decide +kernel) rfl (by rfl) (by rfl) (fun K hK => ?_); go_big_quiet_op; refine hK _ ?_; clear hK K))
          refine Hist.wpG_call (by rfl) (by rfl) (fun K hK => ?_)
          go_big_op
          refine (refAdd w1.heap.size (ks.take p) k _ f1 (by simp; omega)).mono ?_
          rintro e x2 ⟨he, hf2, hb2⟩
          rw [← HT.out] at he hf2
          rw [List.length_take, show min P ks.length = P from by omega] at he
          subst he
          have r2 := hr1.bar f1 hb2
          have b2 : Below w.heap.size w x2 := b1.trans (hb2.below hg1 b1.size)
          have F2 := Lib.hid hf2
          have R2 := Lib.hid r2
          obtain ⟨aa, cc, hbw, -⟩ := hf2
          rw [List.length_take, show min P ks.length = P from by omega] at hbw
          refine hK _ _ ⟨fun W => Below w.heap.size w W ∧ W.heap[w1.heap.size]? = some (.cells #[.slice aa P cc] 42 (0, 0)), fun T hT => ?_, ?_⟩
          · simp at hT; rcases hT with rfl | rfl; (· exact b2); (· exact ⟨b2, hbw⟩)
          have S2F : ∀ (g' : In (fun W => Below w.heap.size w W ∧ W.heap[w1.heap.size]? = some (.cells #[.slice aa P cc] 42 (0, 0)))) n, g'.w.cell? ⟨w1.heap.size, n, none⟩ = #[.slice aa P cc][n]? := fun g' n => blk_cell g'.h.2 n
          haveI hI2 : Nonempty (In (fun W => Below w.heap.size w W ∧ W.heap[w1.heap.size]? = some (.cells #[.slice aa P cc] 42 (0, 0)))) := ⟨⟨x2, b2, hbw⟩⟩
          have BW := Lib.hid hbw
          clear hK K b1 hr1 f1 hb2 r2 hbw
          repeat (first | (refine Hist.wpG_plain 3 _ (by decide +kernel) rfl (by rfl) (by rfl) (fun K hK => ?_); go_big_quiet_op; refine hK _ ?_; clear hK K) | (refine Hist.wpG_plain 2 _ (by decide +kernel) rfl (by rfl) (by rfl) (fun K hK => ?_); go_big_quiet_op; refine hK _ ?_; clear hK K) | (refine Hist.wpG_plain 1 _ (by decide +kernel) rfl (by rfl) (by rfl) (fun K hK => ?_); go_big_quiet_op; refine hK _ ?_; clear hK K) | (refine Hist.wpG_plain 0 _ (by decide +kernel) rfl (by rfl) (by rfl) (fun K hK => ?_); go_big_quiet_op; refine hK _ ?_; clear hK K))
          refine Hist.wpG_call (by rfl) (by rfl) (fun K hK => ?_)
          go_big_op
          refine (recentSeq w.heap.size P (lastK ks P) _ R2.out).mono ?_
          rintro e x3 ⟨rfl, rfl⟩
          refine hK _ _ ⟨fun W => Below w.heap.size w W ∧ W.heap[w1.heap.size]? = some (.cells #[.slice aa P cc] 42 (0, 0)), fun T hT => ?_, ?_⟩
          · simp at hT; rcases hT with rfl | rfl; (· exact b2); (· exact ⟨b2, BW.out⟩)
          clear hK K
          repeat (first | (refine Hist.wpG_plain 3 _ (by decide +kernel) rfl (by rfl) (by rfl) (fun K hK => ?_); go_big_quiet_op; refine hK _ ?_; clear hK K) | (refine Hist.wpG_plain 2 _ (by decide +kernel) rfl (by rfl) (by rfl) (fun K hK => ?_); go_big_quiet_op; refine hK _ ?_; clear hK K) | (refine Hist.wpG_plain 1 _ (by decide +kernel) rfl (by rfl) (by rfl) (fun K hK => ?_); go_big_quiet_op; refine hK _ ?_; clear hK K) | (refine Hist.wpG_plain 0 _ (by decide +kernel) rfl (by rfl) (by rfl) (fun K hK => ?_); go_big_quiet_op; refine hK _ ?_; clear hK K))
          refine Hist.wpG_nil ?_
          have Zx := b2.size
          clear S0F0 S0F1 S2F hI0 hI2 BW
          go_wp2_with fail
          go_loopw [8] (fun i wr => ∃ s : Nat, s ≤ ls ∧ s ≤ 12 ∧ i = .int .i64 s ∧ Below x2.heap.size x2 wr) (fun i _ => 12 - (intOf i).toNat)
          case atStart => exact ⟨0, by omega, by omega, rfl, Below.refl _ _⟩
          case round =>
            obtain ⟨w4, rfl⟩ : ∃ y : World, y = wr := ⟨_, rfl⟩
            obtain ⟨s, hs, hs12, rfl, B4⟩ := hrel
            have D4 := ext_trans b2 B4
            have R4 := Lib.hid (R2.out.ext B4)
            have F4 := Lib.hid (F2.out.ext B4)
            by_cases hls : s < ls
            · by_cases hl12 : s < 12
              · obtain ⟨sb, so, rfl, hz⟩ := H0.out.2.2.2.2.resolve_left (by omega)
                have hx := ext_cell D4 (hz s hls)
                have hwx := bounds_i64 (getD_wf (j := s) H0.out.2.2.2.1)
                generalize zs.getD s 0 = x at hx hwx
                have hd2 : decide ((s : Int) < ls) = true := by simp; omega
                have LN := Lib.hid (lastK_len ks P (by omega))
                have LT := Lib.hid (by rw [List.length_take]; omega : (ks.take P).length = P)
                clear hz
                by_cases hno : x < 0 ∨ (P : Int) < x ∨ x < (P : Int) - 16
                · have HN := Lib.hid hno
                  clear hno
                  go_wp2_with fail
                  refine (recentSince_no w.heap.size P (lastK ks P) x _ R4.out (by omega) HN.out).mono ?_
                  rintro e w5 ⟨rfl, rfl⟩
                  go_wp2_with fail
                  refine (refSince_no w1.heap.size (ks.take P) x _ F4.out (by have := LT.out; omega) (by rw [LT.out]; exact HN.out)).mono ?_
                  rintro e w5 ⟨rfl, rfl⟩
                  go_wp2_with fail
                  refine (refKeys none none 0 0 [] _ (.inl rfl) (.inl rfl) (by simp)).mono ?_
                  rintro e w5 ⟨rfl, hb⟩
                  have B5 := ext_trans B4 hb
                  clear hb
                  go_wp2
                  go_roundw
                  case rel => exact ⟨s + 1, by omega, by omega, by go_num, B5⟩
                  case measure => simp [intOf]; omega
                · obtain ⟨m, hm⟩ : ∃ m : Nat, x = (P : Int) - m := ⟨((P : Int) - x).toNat, by omega⟩
                  have hmp : m ≤ P := by omega
                  have hm16 : m ≤ 16 := by omega
                  have hq : x = ((P - m : Nat) : Int) := by omega
                  have HM := Lib.hid hm
                  have HQ := Lib.hid hq
                  clear hno hm hq
                  obtain ⟨bs, hbs⟩ : ∃ bs, (ks.take P).drop (P - m) = bs := ⟨_, rfl⟩
                  obtain ⟨got, hgot⟩ : ∃ got, kp bs bs.length = got := ⟨_, rfl⟩
                  have hgl : got.length ≤ 16 := by
                    have h1 := kp_len bs bs.length
                    rw [hgot] at h1
                    have h2 : bs.length ≤ 16 := by rw [← hbs, List.length_drop]; have := LT.out; omega
                    omega
                  have HBS := Lib.hid hbs
                  have HGT := Lib.hid hgot
                  clear hbs hgot
                  go_wp2_with fail
                  refine (recentSince_at w.heap.size P m x (lastK ks P) bs _ R4.out LN.out HM.out hmp hm16 (by omega) ((lastK_tail (by omega) hmp hm16).trans HBS.out)).mono ?_
                  intro e w5 ht
                  obtain ⟨a5, c5, rfl, k5, B5⟩ := ht.read HGT.out
                  have K5 := Lib.hid k5
                  have F5 := Lib.hid (F4.out.ext B5)
                  have D5 := ext_trans B4 B5
                  have hx5 := ext_cell B5 hx
                  clear ht k5 hx
                  go_wp2_with fail
                  refine (refSince_at w1.heap.size (P - m) m x (ks.take P) bs _ F5.out (by have := LT.out; omega) (by have := LT.out; omega) hm16 HQ.out HBS.out).mono ?_
                  intro e w6 ht
                  obtain ⟨a6, c6, rfl, k6, B6⟩ := ht.read HGT.out
                  have K6 := Lib.hid k6
                  have K5' := Lib.hid (K5.out.ext B6)
                  have D6 := ext_trans D5 B6
                  clear ht k6 hx5
                  go_wp2_with fail
                  refine (refKeys a5 a6 c5 c6 got _ K5'.out K6.out (by omega)).mono ?_
                  rintro e w7 ⟨rfl, hb⟩
                  have D7 := ext_trans D6 hb
                  clear hb
                  go_wp2
                  go_roundw
                  case rel => exact ⟨s + 1, by omega, by omega, by go_num, D7⟩
                  case measure => simp [intOf]; omega
              · obtain rfl : s = 12 := by omega
                have hd2 : decide (((12 : Nat) : Int) < ls) = true := by simp; omega
                go_wp2
                go_roundw
                case rel => exact ⟨p + 1, by omega, by omega, by go_num, by rw [HP.out]; exact R4.out, by rw [HP.out]; exact F4.out, D4⟩
                case measure => simp [intOf]; omega
            · obtain rfl : s = ls := by omega
              go_wp2
              go_roundw
              case rel => exact ⟨p + 1, by omega, by omega, by go_num, by rw [HP.out]; exact R4.out, by rw [HP.out]; exact F4.out, D4⟩
              case measure => simp [intOf]; omega
      · obtain rfl : p = 60 := by omega
        have hd : decide (((60 : Nat) : Int) < ks.length) = true := by simp; omega
        go_wp2
        go_ret
        exact ⟨rfl, B3⟩
    · obtain rfl : p = ks.length := by omega
      go_wp2
      go_ret
      exact ⟨rfl, B3⟩

end Go.Proofs.Ytingmfchlnpgbaa
