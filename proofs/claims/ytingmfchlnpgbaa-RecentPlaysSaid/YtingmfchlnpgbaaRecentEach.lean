/- Layer 13's laws, walked: RecentEach. -/
import Derived.Test.YtingmfchlnpgbaaRecentN0
import Derived.Test.YtingmfchlnpgbaaRecentK
namespace Go.Proofs.Ytingmfchlnpgbaa
open Go.RowKit
set_option linter.unusedVariables false

open Classical in
/-- how often a key is among keys -/
noncomputable def cnt (x : Ky) (l : List Ky) : Nat := l.countP (fun y => decide (x = y))
theorem cnt_snoc_eq (x : Ky) (l : List Ky) : cnt x (l ++ [x]) = cnt x l + 1 := by simp [cnt]
theorem cnt_snoc_ne {x y : Ky} (l : List Ky) (h : x ≠ y) : cnt x (l ++ [y]) = cnt x l := by simp [cnt, h]
theorem cnt_kp (x : Ky) (bs : List Ky) (p : Nat) (hp : p ≤ bs.length) : ((x ∈ bs ∧ x ∉ bs.drop p) → cnt x (kp bs p) = 1) ∧ (¬ (x ∈ bs ∧ x ∉ bs.drop p) → cnt x (kp bs p) = 0) := by
  induction p with
  | zero => exact ⟨fun h => absurd h.1 (by simpa using h.2), fun _ => by simp [kp, cnt]⟩
  | succ p ih =>
    obtain ⟨k, hk⟩ : ∃ k, bs[p]? = some k := ⟨bs[p]'(by omega), by simp⟩
    have hd : bs.drop p = k :: bs.drop (p + 1) := by
      rw [List.drop_eq_getElem_cons (by omega)]
      congr 1
      rw [List.getElem?_eq_getElem (by omega)] at hk
      exact Option.some.inj hk
    have hm : k ∈ bs := List.mem_of_getElem? hk
    have ih' := ih (by omega)
    rw [hd] at ih'
    cases hv : hasB (bs.drop (p + 1)) k
    · rw [kp_no hk hv]
      have hn : k ∉ bs.drop (p + 1) := fun h => by rw [hasB_yes h] at hv; cases hv
      by_cases hx : x = k
      · subst hx
        have h0 := ih'.2 (by simp)
        exact ⟨fun _ => by rw [cnt_snoc_eq, h0], fun h => absurd ⟨hm, hn⟩ h⟩
      · rw [cnt_snoc_ne _ hx]
        simpa [hx] using ih'
    · rw [kp_yes hk hv]
      have hy : k ∈ bs.drop (p + 1) := Classical.byContradiction fun h => by rw [hasB_no h] at hv; cases hv
      by_cases hx : x = k
      · subst hx
        have h0 := ih'.2 (by simp)
        exact ⟨fun h => absurd hy h.2, fun _ => h0⟩
      · simpa [hx] using ih'
theorem cnt_all {x : Ky} {bs : List Ky} (h : x ∈ bs) : cnt x (kp bs bs.length) = 1 := (cnt_kp x bs bs.length (Nat.le_refl _)).1 ⟨h, by simp⟩

def lastK (ks : List Ky) (p : Nat) : List Ky := (ks.take p).drop (p - 16)
theorem lastK_len (ks : List Ky) (p : Nat) (h : p ≤ ks.length) : (lastK ks p).length = min p 16 := by simp [lastK]; omega
theorem lastK_succ {ks : List Ky} {p : Nat} {k : Ky} (hk : ks[p]? = some k) (h : p < ks.length) : addK (lastK ks p) k = lastK ks (p + 1) := by
  have hl := lastK_len ks p (by omega)
  unfold addK
  rw [hl]
  unfold lastK
  rw [List.drop_drop, List.take_add_one, hk]
  simp only [Option.toList_some]
  rw [List.drop_append_of_le_length (by simp; omega)]
  congr 2
  omega
theorem lastK_drop {ks : List Ky} {q : Nat} (hq : q ≤ ks.length) (hm : ks.length - q ≤ 16) : (lastK ks ks.length).drop ((lastK ks ks.length).length - (ks.length - q)) = ks.drop q := by
  rw [lastK_len ks _ (Nat.le_refl _)]
  unfold lastK
  rw [List.take_length, List.drop_drop]
  congr 1
  omega

set_option maxRecDepth 100000 in
set_option maxHeartbeats 4000000 in
theorem recentEach_walk (a0 : Option Addr) (len cap : Nat) (zs : List Int) (frm : Int) (w : World) (h0 : IsRow .i64 w a0 len cap zs) (hr : len * 8 ≤ 140737488351232) (hwf : (Lit.int .i64 frm).wf = true) :
    Calls Try.prog 5 #[.slice a0 len cap, .int .i64 frm] w fun e w' => e = .returned (.bool true) ∧ Below w.heap.size w w' := by
  have H0 := Lib.hid h0
  have hf1 := i64_lo hwf
  have hf2 := i64_hi hwf
  clear h0
  go_enter Try.func5, Try.ntmps5
  go_wp2_with fail
  refine (law13keys a0 len cap zs _ H0.out hr).mono ?_
  rintro e w1 ⟨v, ks, rfl, ho, hl50, B1⟩
  obtain ⟨al, cl, rfl, -, hcl, -, hka, hob⟩ := own_read ho
  have K1 := Lib.hid hka
  have LT := Lib.hid (fun b o (e : al = some ⟨b, o, none⟩) => (ho.lt b (hob b o e)).2)
  clear ho hka hob
  go_wp2_with fail
  refine (recentNew _).mono ?_
  rintro e w2 ⟨rfl, hr2, B2⟩
  have R2 := Lib.hid hr2
  have K2 := Lib.hid (K1.out.ext B2)
  have D2 := ext_trans B1 B2
  have Z1 := B1.size
  have hlt2 := hr2.lt
  have Z2 := D2.size
  clear hr2
  go_wp2_with fail
  go_loopw [23] (fun i wr => ∃ p : Nat, p ≤ ks.length ∧ i = .int .i64 p ∧ RecAt wr w1.heap.size p (lastK ks p) ∧ Bar w1.heap.size w2 wr) (fun i _ => ks.length - (intOf i).toNat)
  case atStart => exact ⟨0, by omega, rfl, by simpa [lastK] using R2.out, Bar.refl _ _⟩
  case round =>
    obtain ⟨w3, rfl⟩ : ∃ y : World, y = wr := ⟨_, rfl⟩
    obtain ⟨p, hp, rfl, hrec, hbar⟩ := hrel
    have R3 := Lib.hid hrec
    have G3 := Lib.hid hbar
    have K3 := Lib.hid (K2.out.keep (fun b o e q v hc => hbar.cell (by have := LT.out b o e; omega) hc))
    have D3 : Below w.heap.size w w3 := D2.trans (hbar.below Z1 (by omega))
    have Z3 := hbar.size
    clear hrec hbar
    by_cases hlp : p < ks.length
    · obtain ⟨k, hk⟩ : ∃ k, ks[p]? = some k := ⟨ks[p], by simp [hlp]⟩
      rcases K3.out with h | ⟨g, o, rfl, hc⟩
      · rw [h] at hlp; simp at hlp
      · have c0 := (hc p k hk).1
        have c1 := (hc p k hk).2
        have HK := Lib.hid (lastK_succ hk hlp)
        have hd : decide ((p : Int) < ks.length) = true := by simp; omega
        have LL := Lib.hid (lastK_len ks p (by omega))
        clear hc hk
        go_wp2_with fail
        refine (recentAdd w1.heap.size p (lastK ks p) k _ R3.out (by have := LL.out; omega) (by omega)).mono ?_
        rintro e w4 ⟨rfl, hr4, hb4⟩
        rw [HK.out] at hr4
        have R4 := Lib.hid hr4
        have G4 := Lib.hid (G3.out.trans hb4)
        clear hr4 hb4 c0 c1 R3 K3
        go_wp2
        go_roundw
        case rel => exact ⟨p + 1, by omega, by go_num, R4.out, G4.out⟩
        case measure => simp [intOf]; omega
    · obtain rfl : p = ks.length := by omega
      have LL := Lib.hid (lastK_len ks ks.length (Nat.le_refl _))
      have hw1 := win_lo frm 0 ks.length (by omega)
      have hw2 := win_hi frm 0 ks.length (by omega)
      go_wp2_with fail
      refine (within_any _ _ _ _ (by omega) (by omega) (by omega) hf1 hf2).mono ?_
      rintro e w4 ⟨rfl, rfl⟩
      obtain ⟨q, hq⟩ : ∃ q : Nat, win frm 0 ks.length = q := ⟨(win frm 0 ks.length).toNat, by omega⟩
      rw [hq] at hw1 hw2 ⊢
      clear hq hw1
      have hqk : q ≤ ks.length := by omega
      by_cases h16 : ks.length - q ≤ 16
      · have d16 : decide ((ks.length : Int) - q ≤ 16) = true := by simp; omega
        have LD := Lib.hid (lastK_drop hqk h16)
        go_wp2_with fail
        refine (recentSince_at w1.heap.size ks.length (ks.length - q) _ (lastK ks ks.length) (ks.drop q) _ R3.out LL.out (by omega) (by omega) (by omega) (by omega) LD.out).mono ?_
        intro e w4 ht
        obtain ⟨a4, c4, rfl, k4, B4⟩ := ht.read rfl
        have K4 := Lib.hid k4
        have KL := Lib.hid (K3.out.ext B4)
        have D4 := ext_trans D3 B4
        have gl := kp_len (ks.drop q) (ks.drop q).length
        have CA := Lib.hid (fun x (hx : x ∈ ks.drop q) => cnt_all hx)
        rw [show (ks.drop q).length = ks.length - q from by simp] at gl
        obtain ⟨got, hgot⟩ : ∃ got, kp (ks.drop q) (ks.drop q).length = got := ⟨_, rfl⟩
        have HG := Lib.hid hgot
        rw [show (ks.drop q).length = ks.length - q from by simp] at hgot
        rw [hgot] at gl
        have CB := Lib.hid (fun x (hx : x ∈ ks.drop q) => (by rw [← HG.out]; exact CA.out x hx : cnt x got = 1))
        have K5 : KAt w4 a4 got := by rw [← HG.out]; exact K4.out
        have KG := Lib.hid K5
        rw [show (kp (ks.drop q) (ks.drop q).length).length = got.length from by rw [HG.out]]
        clear hgot K5 ht k4 K4 CA HG LD R3 K3 LL
        have d17 : decide ((got.length : Int) ≤ (ks.length : Int) - q) = true := by simp; omega
        by_cases hqe : q = ks.length
        · subst hqe
          obtain rfl : got = [] := List.eq_nil_of_length_eq_zero (by omega)
          have d18 : ks.length - ks.length = 0 := by omega
          by_cases hcq : cl = ks.length
          all_goals
            go_wp2_with fail
            refine wp_loop_rounds 1 ?_
            rw [rounds_succ]
            have DD := D4
            go_wp2_with fail
            refine (law13known _).mono ?_
            rintro e w9 ⟨rfl, hb⟩
            have D9 := ext_trans DD hb
            go_wp2
            go_ret
            exact ⟨rfl, D9⟩
        · have hcq : ¬ cl = q := by omega
          rcases KL.out with h | ⟨g, o, rfl, hc⟩
          · rw [h] at hqk; simp at hqk; rw [h] at hqe; simp at hqe; omega
          · have KD := Lib.hid (KAt.drop (k := q) (.inr ⟨g, o, rfl, hc⟩ : KAt w4 (some ⟨g, o, none⟩) ks))
            clear hc
            go_wp2_with fail
            obtain ⟨m, hm⟩ : ∃ m, ks.length - q = m := ⟨_, rfl⟩
            have HM := Lib.hid hm
            have hmb : m ≤ 50 := by omega
            obtain ⟨O, hO⟩ : ∃ O, o + q * 2 = O := ⟨_, rfl⟩
            rw [hO] at KD ⊢
            rw [hm]
            clear hm hO
            go_loopw [62] (fun i wr => ∃ r : Nat, r ≤ m ∧ i = .int .i64 r ∧ Below w4.heap.size w4 wr) (fun i _ => m - (intOf i).toNat)
            case atStart => exact ⟨0, by omega, rfl, Below.refl _ _⟩
            case round =>
              obtain ⟨w5, rfl⟩ : ∃ y : World, y = wr := ⟨_, rfl⟩
              obtain ⟨r, hr5, rfl, B5⟩ := hrel
              by_cases hlr : r < m
              · obtain ⟨⟨x1, x2⟩, hx⟩ : ∃ x, (ks.drop q)[r]? = some x := ⟨(ks.drop q)[r]'(by have := HM.out; simp; omega), by simp⟩
                have hxm := Lib.hid (CB.out _ (List.mem_of_getElem? hx))
                rcases KD.out with h | ⟨g', O', e0, hc⟩
                · rw [h] at hx; simp at hx
                · simp at e0
                  obtain ⟨rfl, rfl⟩ := e0
                  have c0 := ext_cell B5 (hc r _ hx).1
                  have c1 := ext_cell B5 (hc r _ hx).2
                  have hd : decide ((r : Int) < m) = true := by simp; omega
                  clear hc hx
                  simp only [] at c0 c1
                  go_wp2_with fail
                  have A6 : (w5.alloc (.cells #[.string x1, .string x2] 34)).heap[w5.heap.size]? = some (.cells #[.string x1, .string x2] 34 (0, 0)) := blk_new _ _ _
                  have B6 : Below w4.heap.size w4 (w5.alloc (.cells #[.string x1, .string x2] 34)) := B5.alloc B5.size _
                  have HA := Lib.hid A6
                  clear A6 c0 c1
                  generalize (w5.alloc (.cells #[.string x1, .string x2] 34)) = w6 at *
                  go_loopw [13, 68] (fun nv i wr => ∃ s N : Nat, s ≤ got.length ∧ i = .int .i64 s ∧ nv = .int .i64 N ∧ N = cnt (x1, x2) (got.take s) ∧ N ≤ s ∧ Below w6.heap.size w6 wr) (fun _ i _ => got.length - (intOf i).toNat)
                  case atStart => exact ⟨0, 0, by omega, rfl, rfl, by simp [cnt], by omega, Below.refl _ _⟩
                  case round =>
                    obtain ⟨w7, rfl⟩ : ∃ y : World, y = wr := ⟨_, rfl⟩
                    obtain ⟨s, N, hs, rfl, rfl, hN, hNs, B7⟩ := hrel
                    have HN := Lib.hid hN
                    clear hN
                    have D7 := ext_trans B6 B7
                    have Z7 := D7.size
                    by_cases hls : s < got.length
                    · obtain ⟨⟨y1, y2⟩, hy⟩ : ∃ y, got[s]? = some y := ⟨got[s], by simp [hls]⟩
                      have HY := Lib.hid (by rw [List.take_add_one, hy]; rfl : got.take (s + 1) = got.take s ++ [(y1, y2)])
                      rcases KG.out with h | ⟨g4, o4, rfl, hc⟩
                      · rw [h] at hls; simp at hls
                      · have c0 := ext_cell D7 (hc s _ hy).1
                        have c1 := ext_cell D7 (hc s _ hy).2
                        have a7 := blk_ext B7 HA.out
                        have hbc := blk_cell a7
                        have hbl := blk_lt a7
                        have hd2 : decide ((s : Int) < got.length) = true := by simp; omega
                        clear hc hy a7
                        simp only [] at c0 c1
                        by_cases e1 : x1.toList = y1.toList
                        · obtain rfl := str_inj e1
                          by_cases e2 : x2.toList = y2.toList
                          · obtain rfl := str_inj e2
                            clear e1 e2
                            go_wp2
                            go_roundw
                            case rel => exact ⟨s + 1, N + 1, by omega, by go_num, by go_num, by rw [HY.out, cnt_snoc_eq, HN.out], by omega, B7.alloc B7.size _⟩
                            case measure => simp [intOf]; omega
                          · clear e1
                            go_wp2
                            go_roundw
                            case rel => exact ⟨s + 1, N, by omega, by go_num, rfl, by rw [HY.out, cnt_snoc_ne _ (fun h => e2 (congrArg (fun k : Ky => k.2.toList) h)), HN.out], by omega, B7.alloc B7.size _⟩
                            case measure => simp [intOf]; omega
                        · have hne := e1
                          go_wp2
                          go_roundw
                          case rel => exact ⟨s + 1, N, by omega, by go_num, rfl, by rw [HY.out, cnt_snoc_ne _ (fun h => hne (congrArg (fun k : Ky => k.1.toList) h)), HN.out], by omega, B7.alloc B7.size _⟩
                          case measure => simp [intOf]; omega
                    · obtain rfl : s = got.length := by omega
                      have h1 : N = 1 := by have := HN.out; rw [List.take_length, hxm.out] at this; exact this
                      clear HN
                      subst h1
                      go_wp2
                      go_roundw
                      case rel => exact ⟨r + 1, by omega, by go_num, D7⟩
                      case measure => simp [intOf]; omega
              · have DD := ext_trans D4 B5
                go_wp2_with fail
                refine (law13known _).mono ?_
                rintro e w9 ⟨rfl, hb⟩
                have D9 := ext_trans DD hb
                go_wp2
                go_ret
                exact ⟨rfl, D9⟩
      · have d16 : decide ((ks.length : Int) - q ≤ 16) = false := by simp; omega
        have d19 : decide (16 < (ks.length : Int) - q) = true := by simp; omega
        go_wp2_with fail
        refine (recentSince_no w1.heap.size ks.length (lastK ks ks.length) _ _ R3.out (by omega) (by omega)).mono ?_
        rintro e w4 ⟨rfl, rfl⟩
        have DD := D3
        go_wp2_with fail
        refine (law13known _).mono ?_
        rintro e w9 ⟨rfl, hb⟩
        have D9 := ext_trans DD hb
        go_wp2
        go_ret
        exact ⟨rfl, D9⟩

end Go.Proofs.Ytingmfchlnpgbaa
