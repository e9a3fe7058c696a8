/- Several texts as one: RecentS, RecentN0. -/
import Derived.Test.YtcjpemphdgndkaaGreatRecentW
import Derived.Test.YtcjpemphdgndkaaGreatChain
/- The walks of package recent: what changed since. -/
namespace Go.Proofs.YtcjpemphdgndkaaGreat
open Go.RowKit
set_option linter.unusedVariables false

set_option maxRecDepth 100000 in
set_option maxHeartbeats 1000000 in
theorem recentSince_no (rb seq : Nat) (ks : List KyR) (n : Int) (w : World) (h : RecAt w rb seq ks) (hq : seq ≤ 1000000) (hn : n < 0 ∨ (seq : Int) < n ∨ n < (seq : Int) - 16) :
    Calls Tryz.prog 130 #[.pointer (some ⟨rb, 0, none⟩), .int .i64 n] w fun e w' => e = .returned (.tuple #[.slice none 0 0, .bool false]) ∧ w = w' := by
  obtain ⟨a, cap, h1, _⟩ := h
  have hc := blk_cell h1
  have hl := blk_lt h1
  clear h1
  by_cases c1 : n < 0
  · clear hn
    go_enter Tryz.func130, Tryz.ntmps130
    go_wp2
    go_ret2
    exact ⟨rfl, rfl⟩
  · by_cases c2 : (seq : Int) < n
    · clear hn
      go_enter Tryz.func130, Tryz.ntmps130
      go_wp2
      go_ret2
      exact ⟨rfl, rfl⟩
    · have c3 : n < (seq : Int) - 16 := by omega
      have c4 : n + 16 < (seq : Int) := by omega
      clear hn
      go_enter Tryz.func130, Tryz.ntmps130
      go_wp2
      all_goals (go_ret2; exact ⟨rfl, rfl⟩)

/-- of keys the first p, but for those that come again later -/
noncomputable def kp (bs : List KyR) : Nat → List KyR
  | 0 => []
  | p + 1 => match bs[p]? with
    | some k => if hasB (bs.drop (p + 1)) k = true then kp bs p else kp bs p ++ [k]
    | none => kp bs p
theorem kp_len (bs : List KyR) (p : Nat) : (kp bs p).length ≤ p := by
  induction p with
  | zero => simp [kp]
  | succ p ih =>
    unfold kp
    split
    · split
      · omega
      · simp [ih]
    · omega
def Told (bs : List KyR) (w : World) (e : Ending) (w' : World) : Prop := ∃ v, e = .returned (.tuple #[v, .bool true]) ∧ w'.ownsRow w.heap.size 28 2 v (kp bs bs.length).length (kf (kp bs bs.length)) ∧ Below w.heap.size w w'

set_option maxRecDepth 100000 in
set_option maxHeartbeats 1000000 in
theorem recentSince_all (rb seq : Nat) (a : Option Addr) (len cap : Nat) (w : World) (h1 : w.heap[rb]? = some (.cells #[.int .i64 seq, .slice a len cap] 97 (0, 0))) (hq : seq ≤ 1000000) (hlen : len ≤ 16) (hcap : len ≤ cap) :
    Calls Tryz.prog 130 #[.pointer (some ⟨rb, 0, none⟩), .int .i64 seq] w (Told [] w) := by
  have hc := blk_cell h1
  have hl := blk_lt h1
  have H1 := Lib.hid h1
  clear h1
  have c4 : ¬ (seq : Int) + 16 < (seq : Int) := by omega
  have d1 : decide ((seq : Int) < 0) = false := by simp <;> omega
  have d2 : decide ((seq : Int) < (seq : Int) - 16) = false := by simp <;> omega
  by_cases hcc : cap = len
  all_goals
    go_enter Tryz.func130, Tryz.ntmps130
    go_wp2_with fail
    haveI hIq : Nonempty (Of w) := of_some _
    have hF0 := blk_of H1.out
    refine wp_region_stay w (by kernel_rfl) (by kernel_rfl) (by go_grown) ?_
    repeat (go_big_quiet_step (fail))
    refine wpQuiet_nil ?_
    intro w1 hb
    clear hIq hF0
    go_wp2_with fail
    refine wp_loop_rounds 1 ?_
    rw [rounds_succ]
    go_wp2
    go_ret2
    exact ⟨_, rfl, World.ownsRow_nil _ _ _ _, hb⟩

theorem keysContains_at (a : Option Addr) (cap n : Nat) (ks : List KyR) (k : KyR) (w : World) (h : KAt w a ks) (hn : ks.length = n) (hl : n ≤ 1000000) :
    Calls Tryz.prog 155 #[.slice a n cap, .agg #[.string k.1, .string k.2]] w (fun e w' => e = .returned (.bool (hasB ks k)) ∧ Below w.heap.size w w') := by
  subst hn; exact keysContains a cap ks k w h hl
theorem kp_yes {bs : List KyR} {p : Nat} {k : KyR} (hk : bs[p]? = some k) (h : hasB (bs.drop (p + 1)) k = true) : kp bs (p + 1) = kp bs p := by simp [kp, hk, h]
theorem kp_no {bs : List KyR} {p : Nat} {k : KyR} (hk : bs[p]? = some k) (h : hasB (bs.drop (p + 1)) k = false) : kp bs (p + 1) = kp bs p ++ [k] := by simp [kp, hk, h]

set_option maxRecDepth 100000 in
set_option maxHeartbeats 4000000 in
theorem recentSince_some (rb seq m len b o cap : Nat) (bs : List KyR) (w : World) (h1 : w.heap[rb]? = some (.cells #[.int .i64 seq, .slice (some ⟨b, o, none⟩) len cap] 97 (0, 0))) (hq : seq ≤ 1000000) (hlen : len ≤ 16) (hcap : len ≤ cap) (hmax : cap ≤ maxLen) (hm1 : 1 ≤ m) (hm : m ≤ len) (hms : m ≤ seq)
    (hbs : bs.length = m) (hK : KAt w (some ⟨b, o + (len - m) * 2, none⟩) bs) :
    Calls Tryz.prog 130 #[.pointer (some ⟨rb, 0, none⟩), .int .i64 ((seq : Int) - m)] w (Told bs w) := by
  unfold maxLen at hmax
  have hc := blk_cell h1
  have hl := blk_lt h1
  have H1 := Lib.hid h1
  have HK := Lib.hid hK
  have HL := Lib.hid hbs
  clear h1 hK hbs
  obtain ⟨i0, hi, hz0, hz1, hz2⟩ := info_partsR info_key
  have d1 : decide ((seq : Int) - m < 0) = false := by simp; omega
  have d2 : decide ((seq : Int) - m < (seq : Int) - 16) = false := by simp; omega
  have d3 : decide ((seq : Int) < (seq : Int) - m) = false := by simp; omega
  have d4 : ¬ (seq : Int) - m < 0 := by omega
  have d5 : ¬ (seq : Int) - m < (seq : Int) - 16 := by omega
  have d6 : ¬ (seq : Int) < (seq : Int) - m := by omega
  have hcc : ¬ cap = len - m := by omega
  go_enter Tryz.func130, Tryz.ntmps130
  go_wp2_with fail
  haveI hIq : Nonempty (Of w) := of_some _
  have hF0 := blk_of H1.out
  refine wp_region_stay w (by kernel_rfl) (by kernel_rfl) (by go_grown) ?_
  repeat (go_big_quiet_step (fail))
  refine wpQuiet_nil ?_
  intro w1 hb
  have K1 := Lib.hid (HK.out.ext hb)
  have B1 := hb
  clear hIq hF0 hb
  have e1 : len - (seq - (seq - m)) = len - m := by omega
  have e2 : len - (len - m) = m := by omega
  go_wp2_with fail
  simp only [e1, e2]
  clear e1 e2
  obtain ⟨O, hO⟩ : ∃ O, o + (len - m) * 2 = O := ⟨_, rfl⟩
  obtain ⟨C, hC⟩ : ∃ C, cap - (len - m) = C := ⟨_, rfl⟩
  have hCm : m ≤ C := by omega
  rw [hO] at K1 ⊢
  rw [hC]
  clear hO hC HK hcc d4 d5 d6 d1 d2 d3 hc hcap hmax hlen
  have hm16 : m ≤ 1000000 := by omega
  have Z1 := B1.size
  go_loopw [7, 48] (fun v i wr => ∃ p : Nat, p ≤ m ∧ i = .int .i64 p ∧ wr.ownsRow w1.heap.size 28 2 v (kp bs p).length (kf (kp bs p)) ∧ Below w1.heap.size w1 wr) (fun _ i _ => m - (intOf i).toNat)
  case atStart => exact ⟨0, by omega, rfl, World.ownsRow_nil _ _ _ _, Below.refl _ _⟩
  case round =>
    obtain ⟨w2, rfl⟩ : ∃ y : World, y = wr := ⟨_, rfl⟩
    obtain ⟨p, hp, rfl, hown, B2⟩ := hrel
    have HO := Lib.hid hown
    have D2 := ext_trans B1 B2
    have Z2 := B2.size
    clear hown
    by_cases hlp : p < m
    · obtain ⟨k, hk⟩ : ∃ k, bs[p]? = some k := ⟨bs[p]'(by have := HL.out; omega), by simp⟩
      have hl2 := kp_len bs p
      rcases K1.out with h0 | ⟨b', O', e0, hcell⟩
      · have := HL.out; rw [h0] at this; simp at this; omega
      · simp at e0
        obtain ⟨rfl, rfl⟩ := e0
        have c0 := ext_cell B2 (hcell p k hk).1
        have c1 := ext_cell B2 (hcell p k hk).2
        have HB := Lib.hid hk
        clear hcell hk
        have hd : decide ((p : Int) < m) = true := by simp; omega
        go_wp2_with fail
        have A3 : (w2.alloc (.cells #[.string k.1, .string k.2] 28)).heap[w2.heap.size]? = some (.cells #[.string k.1, .string k.2] 28 (0, 0)) := blk_new _ _ _
        have D3 : Below w1.heap.size w1 (w2.alloc (.cells #[.string k.1, .string k.2] 28)) := B2.alloc B2.size _
        have O3 := Lib.hid (HO.out.alloc (.cells #[.string k.1, .string k.2] 28))
        have HA := Lib.hid A3
        clear A3 c0 c1
        generalize (w2.alloc (.cells #[.string k.1, .string k.2] 28)) = w3 at *
        have KD := Lib.hid ((K1.out.ext D3).drop (k := p + 1))
        have Z3 := D3.size
        cases hv : hasB (bs.drop (p + 1)) k
        case false =>
          have HV := Lib.hid hv
          have HVk := Lib.hid (kp_no HB.out hv)
          clear hv
          rcases Classical.propComplete (C = p + 1) with hcp | hcp
          all_goals
            have hcq : C = p + 1 → m ≤ p + 1 := fun h => by omega
            have hcr := Lib.hid hcq
            clear hcq
            haveI hIq : Nonempty (Of w3) := of_some _
            have hF0 := blk_of HA.out
            refine wp_region_stay w3 (by kernel_rfl) (by kernel_rfl) (by go_grown) ?_
            repeat (go_big_quiet_step ((first | (go_at_call 155; refine stay_bool (u := false) (keysContains_at _ _ _ (bs.drop (p + 1)) k _ (.inl (List.drop_eq_nil_of_le (by have := HL.out; have := hcr.out (of_eq_true hcp); omega))) ?_ ?_) HV.out; (· have := HL.out; simp; omega); (· omega)) | (go_at_call 155; refine stay_bool (u := false) (keysContains_at _ _ _ (bs.drop (p + 1)) k _ (KD.out.ext (In.h _)) ?_ ?_) HV.out; (· have := HL.out; simp; omega); (· omega)))))
            refine wpQuiet_nil ?_
            intro w4 hb
            have B4 := ext_trans D3 hb
            have O4 := ownsRow_extR O3.out hb
            have A4 := blk_ext hb HA.out
            have a4 := blk_cell A4
            have l4 := blk_lt A4
            have Z4 := B4.size
            clear hIq hF0 hb A4
            go_wp2_with (first | (at_builtin; refine wpList_append_own _ rfl _ _ 31 rfl (w1.heap.size) 28 i0 (.agg #[.string ⟨#[]⟩, .string ⟨#[]⟩]) 2 32 Tryz.underlying31 hi hz0 hz1 hz2 rfl (by decide) _ _ _ rfl (O4.alloc _) ⟨w4.heap.size, 0, none⟩ 1 1 [.string k.1, .string k.2] rfl rfl ?c1 ?c2 ?c3 ?c4 ?c5 ?_))
            case c1 =>
              intro j' u hj'
              match j', hj' with
              | 0, hj' => simp at hj'; subst hj'; simp [Addr.add, go_sem]
              | 1, hj' => simp at hj'; subst hj'; simp [Addr.add, go_sem]
            case c2 => intro u hu; simp at hu; rcases hu with rfl | rfl <;> rfl
            case c3 => unfold maxLen; omega
            case c4 => omega
            case c5 => simp; omega
            intro v' w5 hown' hgrow _
            have B5 := (B4.alloc B4.size _).grown hgrow (by simp; omega) (fun q hq => own_ge O4 hq)
            have O5 := Lib.hid hown'
            clear hown' hgrow O4 a4
            go_wp2
            go_roundw
            case rel => exact ⟨p + 1, by omega, by go_num, by rw [HVk.out, kf_snoc]; simpa using O5.out, B5⟩
            case measure => simp [intOf]; omega
        case true =>
          have HV := Lib.hid hv
          have HVk := Lib.hid (kp_yes HB.out hv)
          clear hv
          rcases Classical.propComplete (C = p + 1) with hcp | hcp
          all_goals
            have hcq : C = p + 1 → m ≤ p + 1 := fun h => by omega
            have hcr := Lib.hid hcq
            clear hcq
            haveI hIq : Nonempty (Of w3) := of_some _
            have hF0 := blk_of HA.out
            refine wp_region_stay w3 (by kernel_rfl) (by kernel_rfl) (by go_grown) ?_
            repeat (go_big_quiet_step ((first | (go_at_call 155; refine stay_bool (u := true) (keysContains_at _ _ _ (bs.drop (p + 1)) k _ (.inl (List.drop_eq_nil_of_le (by have := HL.out; have := hcr.out (of_eq_true hcp); omega))) ?_ ?_) HV.out; (· have := HL.out; simp; omega); (· omega)) | (go_at_call 155; refine stay_bool (u := true) (keysContains_at _ _ _ (bs.drop (p + 1)) k _ (KD.out.ext (In.h _)) ?_ ?_) HV.out; (· have := HL.out; simp; omega); (· omega)))))
            refine wpQuiet_nil ?_
            intro w4 hb
            have B4 := ext_trans D3 hb
            have O4 := ownsRow_extR O3.out hb
            have A4 := blk_ext hb HA.out
            have a4 := blk_cell A4
            have l4 := blk_lt A4
            have Z4 := B4.size
            clear hIq hF0 hb A4
            have O5 := Lib.hid O4
            clear O4
            go_wp2
            go_roundw
            case rel => exact ⟨p + 1, by omega, by go_num, by rw [HVk.out]; exact O5.out, B4⟩
            case measure => simp [intOf]; omega
    · obtain rfl : p = m := by omega
      go_wp2
      go_ret2
      exact ⟨_, rfl, by rw [HL.out]; exact ownsRow_baseR HO.out Z1, D2⟩

theorem recentSince (rb seq m : Nat) (ks : List KyR) (w : World) (h : RecAt w rb seq ks) (hl : ks.length = min seq 16) (hm : m ≤ seq) (hm16 : m ≤ 16) (hq : seq ≤ 1000000) :
    Calls Tryz.prog 130 #[.pointer (some ⟨rb, 0, none⟩), .int .i64 ((seq : Int) - m)] w (Told (ks.drop (ks.length - m)) w) := by
  obtain ⟨a, cap, h1, h2, h3, h4, h5, h6⟩ := h
  by_cases h0 : m = 0
  · subst h0
    have e : ks.drop (ks.length - 0) = [] := by simp
    rw [e, show (seq : Int) - (0 : Nat) = seq from by omega]
    exact recentSince_all rb seq a ks.length cap w h1 hq (by omega) h2
  · rcases h4 with h | ⟨b, o, rfl, hc⟩
    · subst h; simp at hl; omega
    · refine recentSince_some rb seq m ks.length b o cap _ w h1 hq (by omega) h2 h3 (by omega) (by omega) hm (by simp; omega) ?_
      exact KAt.drop (.inr ⟨b, o, rfl, hc⟩)

end Go.Proofs.YtcjpemphdgndkaaGreat

/- Layer 13's laws, walked: what is known of some runs. -/
namespace Go.Proofs.YtcjpemphdgndkaaGreat
open Go.RowKit
set_option linter.unusedVariables false

theorem recentSince_at (rb seq m : Nat) (n : Int) (ks bs : List KyR) (w : World) (h : RecAt w rb seq ks) (hl : ks.length = min seq 16) (hn : n = (seq : Int) - m) (hm : m ≤ seq) (hm16 : m ≤ 16) (hq : seq ≤ 1000000) (hb : ks.drop (ks.length - m) = bs) :
    Calls Tryz.prog 130 #[.pointer (some ⟨rb, 0, none⟩), .int .i64 n] w (Told bs w) := by
  subst hn hb; exact recentSince rb seq m ks w h hl hm hm16 hq
theorem kp_one (k : KyR) : kp [k] 1 = [k] := by
  have h : hasB ([] : List KyR) k = false := hasB_no (by simp)
  simp [kp, h]
theorem kp_aba {a b : KyR} (h : a ≠ b) : kp [a, b, a] 3 = [b, a] := by
  have h1 : hasB ([a, b, a].drop 1) a = true := hasB_yes (by simp)
  have h2 : hasB ([a, b, a].drop 2) b = false := hasB_no (by simpa using Ne.symm h)
  have h3 : hasB ([a, b, a].drop 3) a = false := hasB_no (by simp)
  simp only [kp]
  simp only [List.getElem?_cons_zero, List.getElem?_cons_succ]
  rw [h1, h2, h3]
  simp
theorem ab_ne : (((⟨#[97]⟩, ⟨#[]⟩) : KyR)) ≠ (⟨#[98]⟩, ⟨#[]⟩) := by
  intro h
  have := congrArg (fun k : KyR => k.1.data.toList) h
  simp at this
/-- what Since told, read -/
theorem Told.read {bs : List KyR} {w w' : World} {e : Ending} (h : Told bs w e w') {ks : List KyR} (hk : kp bs bs.length = ks) : ∃ a cap, e = .returned (.tuple #[.slice a ks.length cap, .bool true]) ∧ KAt w' a ks ∧ Below w.heap.size w w' := by
  obtain ⟨v, rfl, ho, hb⟩ := h
  rw [hk] at ho
  obtain ⟨a, cap, rfl, -, -, -, hka, -⟩ := own_readR ho
  exact ⟨a, cap, rfl, hka, hb⟩

end Go.Proofs.YtcjpemphdgndkaaGreat
