/- The law's text, its chain. -/
import Derived.Test.YtllmkokloebomaaDoorFauM
import Derived.Test.YtllmkokloebomaaDoorFauJ
namespace Go.Proofs.YtllmkokloebomaaDoor
open Go.RowKit Go.Extern.Stop Go.Stop Go.Extern
set_option linter.unusedVariables false
set_option linter.unusedSimpArgs false

theorem fT_drop (t : ByteArray) : ∀ (ls : List ByteArray) (j : Nat), (fT (ls.drop j) t).size ≤ (fT ls t).size
  | _, 0 => by rw [List.drop_zero]; exact Nat.le_refl _
  | [], j + 1 => by rw [List.drop_nil]; exact Nat.le_refl _
  | x :: ls, j + 1 => by
    rw [List.drop_succ_cons]
    refine Nat.le_trans (fT_drop t ls j) ?_
    simp only [fT, ByteArray.size_append]
    omega
theorem TxAt.at {w : World} {a : Option Addr} {n c : Nat} {ls : List ByteArray} (h : TxAt w (.slice a n c) ls) : ls.length = n ∧ n ≤ c ∧ ∃ b o, n = 0 ∨ a = some ⟨b, o, none⟩ ∧ ∀ i s, ls[i]? = some s → w.cell? ⟨b, o + i, none⟩ = some (.string s) := by
  obtain ⟨a', c', h1, h2, h3, h4⟩ := h
  simp only [Value.slice.injEq] at h1
  obtain ⟨rfl, h5, rfl⟩ := h1
  refine ⟨h5.symm, by omega, ?_⟩
  rcases h4 with h4 | ⟨b, o, h6, h7⟩
  · subst h4; exact ⟨0, 0, .inl (by simpa using h5)⟩
  · exact ⟨b, o, .inr ⟨h6, h7⟩⟩
theorem drop_at {ls : List ByteArray} {K : Nat} {s : ByteArray} (hs : ls[K]? = some s) : ls.drop K = s :: ls.drop (K + 1) := by
  have hlt : K < ls.length := by
    rcases Nat.lt_or_ge K ls.length with h | h
    · exact h
    · rw [List.getElem?_eq_none h] at hs; cases hs
  rw [List.drop_eq_getElem_cons hlt]
  rw [List.getElem?_eq_getElem hlt] at hs
  cases hs; rfl

set_option maxRecDepth 100000 in
set_option maxHeartbeats 4000000 in
theorem lawText (a : Option Addr) (n c : Nat) (ls : List ByteArray) (cd : Int) (A : ByteArray) (w : World) (hx : TxAt w (.slice a n c) ls) (hc : (Lit.int .i64 cd).wf = true) (hn : n ≤ 90) (hA : fT ls (errT cd) = A) (hs : A.size ≤ 8000000) :
    Calls Tryd.prog 22 #[.slice a n c, .int .i64 cd] w fun r w' => r = .returned (.string A) ∧ Below w.heap.size w w' := by
  obtain ⟨hl, hnc, b, o, hxa⟩ := hx.at
  obtain ⟨T, hT⟩ : ∃ T, errT cd = T := ⟨_, rfl⟩
  rw [hT] at hA
  have HT := Lib.hid hT
  have HA := Lib.hid hA
  have HS := Lib.hid hs
  have HL := Lib.hid hl
  have HXA := Lib.hid hxa
  clear hx hl hxa hA hs hT
  go_enter Tryd.func22, Tryd.ntmps22
  go_wp2_with fail
  refine (errnoError cd w hc).mono ?_
  rintro r w1 ⟨hr, hb1⟩
  rw [HT.out] at hr
  subst hr
  go_wp2_with fail
  go_loopw [5, 6] (fun s i wr => ∃ J : Nat, J ≤ n ∧ i = .int .i64 ((J : Int) - 1) ∧ s = .string (fT (ls.drop J) T) ∧ Below w.heap.size w wr) (fun _ i _ => (intOf i + 1).toNat)
  case atStart => exact ⟨n, by omega, rfl, by rw [List.drop_of_length_le (by rw [HL.out]; omega)]; rfl, hb1⟩
  case round =>
    obtain ⟨v, rfl⟩ : ∃ y : World, y = wr := ⟨_, rfl⟩
    obtain ⟨J, hJ, rfl, rfl, hb⟩ := hrel
    have HB := Lib.hid hb
    clear hb
    cases J with
    | succ K =>
      have hd0 : (0 ≤ ((K + 1 : Nat) : Int) - 1) = True := by simp
      obtain ⟨q, hq⟩ : ∃ q : Int, ((K + 1 : Nat) : Int) - 1 = q := ⟨_, rfl⟩
      have hqK : q = (K : Int) := by omega
      subst hqK
      rw [hq] at hd0 ⊢
      clear hq
      obtain ⟨s, hs⟩ : ∃ s, ls[K]? = some s := ⟨_, List.getElem?_eq_getElem (by rw [HL.out]; omega)⟩
      obtain ⟨rfl, hxx⟩ := HXA.out.resolve_left (by omega)
      have hxc := ext_cell HB.out (hxx K s hs)
      have hxl := cell_lt hxc
      have HDR := Lib.hid (drop_at hs)
      have hsz : (fT (ls.drop K) T).size ≤ 8000000 := Nat.le_trans (fT_drop T ls K) (by rw [HA.out]; exact HS.out)
      rw [HDR.out] at hsz
      simp only [fT, ByteArray.size_append] at hsz
      obtain ⟨R, hR⟩ : ∃ R, fT (ls.drop (K + 1)) T = R := ⟨_, rfl⟩
      rw [hR] at hsz ⊢
      obtain ⟨X, hX⟩ : ∃ X, s ++ ⟨#[58, 32]⟩ = X := ⟨_, rfl⟩
      have hxs : X.size = s.size + (⟨#[58, 32]⟩ : ByteArray).size := by rw [← hX, ByteArray.size_append]
      obtain ⟨Y, hY⟩ : ∃ Y, X ++ R = Y := ⟨_, rfl⟩
      have hadd1 : (Op.stringOp .add s ⟨#[58, 32]⟩).run Tryd.prog v = .ok (.string X) v := by rw [← hX]; exact run_string_add_sum v _ _ (by omega)
      have hadd2 : (Op.stringOp .add X R).run Tryd.prog v = .ok (.string Y) v := by rw [← hY]; exact run_string_add_sum v _ _ (by omega)
      have HY := Lib.hid (show fT (ls.drop K) T = Y from by rw [HDR.out]; simp only [fT]; rw [hX, hR, hY])
      clear hxx hs hsz hR hX hY hxs
      go_wp2_with fail
      go_roundw
      case rel => exact ⟨K, by omega, rfl, by rw [HY.out], HB.out⟩
      case measure => first | (simp [intOf]; done) | (simp [intOf]; omega)
    | zero =>
      rw [List.drop_zero, HA.out]
      go_wp2_with fail
      go_ret
      exact ⟨rfl, HB.out⟩

/-- a chain that is none -/
theorem chain_nil (a : Option Addr) (c : Nat) (cd : Int) (w : World) :
    Calls Tryd.prog 19 #[.slice a 0 c, .int .i64 cd] w fun r w' => r = .returned .nilIface ∧ w' = w := by
  go_enter Tryd.func19, Tryd.ntmps19
  go_wp2
  go_ret
  exact ⟨rfl, rfl⟩

theorem FC.not_nilE {w : World} {c : Int} {l : List ByteArray} {e : Value} (h : FC w (.iface 23 (.int .i64 c)) l e) : e ≠ .nilIface := by
  rintro rfl
  exact absurd (FC.base_nil h) (by simp)

set_option maxRecDepth 100000 in
set_option maxHeartbeats 4000000 in
theorem chain_ok (a : Option Addr) (n c : Nat) (ls : List ByteArray) (cd : Int) (w : World) (hx : TxAt w (.slice a n c) ls) (hn : n ≤ 90) (h1 : 0 < n) (hc : cd ≠ 0) :
    Calls Tryd.prog 19 #[.slice a n c, .int .i64 cd] w fun r w' => ∃ e, r = .returned e ∧ FC w' (.iface 23 (.int .i64 cd)) ls e ∧ Below w.heap.size w w' := by
  obtain ⟨hl, hnc, b, o, hxa⟩ := hx.at
  have HL := Lib.hid hl
  obtain ⟨rfl, hxx⟩ := hxa.resolve_left (by omega)
  obtain ⟨m, rfl⟩ : ∃ m, n = m + 1 := ⟨n - 1, by omega⟩
  obtain ⟨x, hxm⟩ : ∃ x, ls[m]? = some x := ⟨_, List.getElem?_eq_getElem (by rw [HL.out]; omega)⟩
  have hdm := drop_at hxm
  rw [List.drop_of_length_le (show ls.length ≤ m + 1 by rw [HL.out]; exact Nat.le_refl _)] at hdm
  have HDM := Lib.hid hdm
  have hxc := hxx m x hxm
  have hxl := cell_lt hxc
  have HXX := Lib.hid hxx
  have hm1 : ((m + 1 : Nat) : Int) - 1 = (m : Int) := by omega
  have hm2 : ((m + 1 : Nat) : Int) - 2 = (m : Int) - 1 := by omega
  obtain ⟨N, hN⟩ : ∃ N, m + 1 = N := ⟨_, rfl⟩
  rw [hN] at hm1 hm2 hnc ⊢
  have hN2 : m < N := by omega
  have hN3 : N ≤ 90 := by omega
  have hne0 : ((N : Int) == 0) = false := by
    have : ¬ (N : Int) = 0 := by omega
    simpa using this
  have HN := Lib.hid hN
  clear hx hxa hxx hdm hl hN hxm h1 hn
  go_enter Tryd.func19, Tryd.ntmps19
  go_wp2_with fail
  refine (faultNew x cd w hc).mono ?_
  rintro r w1 ⟨e1, rfl, hf1, hb1⟩
  clear hxc hxl
  go_wp2_with fail
  go_loopw [5, 6] (fun ev i wr => ∃ J : Nat, J ≤ m ∧ i = .int .i64 ((J : Int) - 1) ∧ FC wr (.iface 23 (.int .i64 cd)) (ls.drop J) ev ∧ Below w.heap.size w wr) (fun _ i _ => (intOf i + 1).toNat)
  case atStart => exact ⟨m, by omega, by first | rfl | (congr 1), by rw [HDM.out]; exact hf1, hb1⟩
  case round =>
    obtain ⟨v, rfl⟩ : ∃ y : World, y = wr := ⟨_, rfl⟩
    obtain ⟨J, hJ, rfl, hf, hb⟩ := hrel
    have HF := Lib.hid hf
    have HB := Lib.hid hb
    clear hf hb
    cases J with
    | succ K =>
      have hd0 : (0 ≤ ((K + 1 : Nat) : Int) - 1) = True := by simp
      obtain ⟨q, hq⟩ : ∃ q : Int, ((K + 1 : Nat) : Int) - 1 = q := ⟨_, rfl⟩
      have hqK : q = (K : Int) := by omega
      subst hqK
      rw [hq] at hd0 ⊢
      clear hq
      obtain ⟨s, hs⟩ : ∃ s, ls[K]? = some s := ⟨_, List.getElem?_eq_getElem (by have := HL.out; omega)⟩
      have hxc := ext_cell HB.out (HXX.out K s hs)
      have hxl := cell_lt hxc
      have HDR := Lib.hid (drop_at hs)
      have hne := FC.not_nilE HF.out
      clear hs
      go_wp2_with fail
      refine (faultWrap s (ls.drop (K + 1)) (.iface 23 (.int .i64 cd)) _ v (.no cd) HF.out hne).mono ?_
      rintro r v2 ⟨e2, rfl, hf2, hb2⟩
      go_wp2_with fail
      go_roundw
      case rel => exact ⟨K, by omega, rfl, by rw [HDR.out]; exact hf2, ext_trans HB.out hb2⟩
      case measure => first | (simp [intOf]; done) | (simp [intOf]; omega)
    | zero =>
      rw [List.drop_zero] at HF
      go_wp2_with fail
      go_ret
      exact ⟨_, rfl, HF.out, HB.out⟩

set_option maxRecDepth 100000 in
set_option maxHeartbeats 4000000 in
theorem chain_zero (a : Option Addr) (n c : Nat) (ls : List ByteArray) (w : World) (hx : TxAt w (.slice a n c) ls) (hn : n ≤ 90) (h1 : 0 < n) :
    Calls Tryd.prog 19 #[.slice a n c, .int .i64 0] w fun r w' => r = .returned .nilIface ∧ w' = w := by
  obtain ⟨hl, hnc, b, o, hxa⟩ := hx.at
  have HL := Lib.hid hl
  obtain ⟨rfl, hxx⟩ := hxa.resolve_left (by omega)
  obtain ⟨m, rfl⟩ : ∃ m, n = m + 1 := ⟨n - 1, by omega⟩
  obtain ⟨x, hxm⟩ : ∃ x, ls[m]? = some x := ⟨_, List.getElem?_eq_getElem (by rw [HL.out]; omega)⟩
  have hdm := drop_at hxm
  rw [List.drop_of_length_le (show ls.length ≤ m + 1 by rw [HL.out]; exact Nat.le_refl _)] at hdm
  have HDM := Lib.hid hdm
  have hxc := hxx m x hxm
  have hxl := cell_lt hxc
  have HXX := Lib.hid hxx
  have hm1 : ((m + 1 : Nat) : Int) - 1 = (m : Int) := by omega
  have hm2 : ((m + 1 : Nat) : Int) - 2 = (m : Int) - 1 := by omega
  obtain ⟨N, hN⟩ : ∃ N, m + 1 = N := ⟨_, rfl⟩
  rw [hN] at hm1 hm2 hnc ⊢
  have hN2 : m < N := by omega
  have hN3 : N ≤ 90 := by omega
  have hne0 : ((N : Int) == 0) = false := by
    have : ¬ (N : Int) = 0 := by omega
    simpa using this
  have HN := Lib.hid hN
  clear hx hxa hxx hdm hl hN hxm h1 hn
  go_enter Tryd.func19, Tryd.ntmps19
  go_wp2_with fail
  refine (new0 x w).mono ?_
  rintro r w1 ⟨rfl, hw1⟩
  obtain rfl := hw1.symm
  clear hxc hxl
  go_wp2_with fail
  go_loopw [5, 6] (fun ev i wr => ∃ J : Nat, J ≤ m ∧ i = .int .i64 ((J : Int) - 1) ∧ ev = .nilIface ∧ wr = w) (fun _ i _ => (intOf i + 1).toNat)
  case atStart => exact ⟨m, by omega, by first | rfl | (congr 1), rfl, rfl⟩
  case round =>
    obtain ⟨v, rfl⟩ : ∃ y : World, y = wr := ⟨_, rfl⟩
    obtain ⟨J, hJ, rfl, rfl, rfl⟩ := hrel
    cases J with
    | succ K =>
      have hd0 : (0 ≤ ((K + 1 : Nat) : Int) - 1) = True := by simp
      obtain ⟨q, hq⟩ : ∃ q : Int, ((K + 1 : Nat) : Int) - 1 = q := ⟨_, rfl⟩
      have hqK : q = (K : Int) := by omega
      subst hqK
      rw [hq] at hd0 ⊢
      clear hq
      obtain ⟨s, hs⟩ : ∃ s, ls[K]? = some s := ⟨_, List.getElem?_eq_getElem (by have := HL.out; omega)⟩
      have hxc := HXX.out K s hs
      have hxl := cell_lt hxc
      clear hs
      go_wp2_with fail
      refine (wrap_nil s _).mono ?_
      rintro r v2 ⟨rfl, hw2⟩
      obtain rfl := hw2.symm
      go_wp2_with fail
      go_roundw
      case rel => exact ⟨K, by omega, rfl, rfl, trivial⟩
      case measure => first | (simp [intOf]; done) | (simp [intOf]; omega)
    | zero =>
      go_wp2_with fail
      go_ret
      exact ⟨rfl, rfl⟩
end Go.Proofs.YtllmkokloebomaaDoor
