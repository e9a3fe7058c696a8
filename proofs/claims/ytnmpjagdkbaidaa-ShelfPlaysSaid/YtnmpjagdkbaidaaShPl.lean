/- 'ShelfPlays': the walk. -/
import Derived.Test.YtnmpjagdkbaidaaPlay10
import Derived.Test.YtnmpjagdkbaidaaAsks
import Derived.Test.YtnmpjagdkbaidaaShfK
namespace Go.Proofs.Ytnmpjagdkbaidaa
open Go.RowKit
set_option linter.unusedVariables false
set_option linter.unusedSimpArgs false

theorem cut_is (m : Int) : ∃ M : Nat, (M : Int) = min (max m 0) 32 := ⟨(min (max m 0) 32).toNat, by omega⟩
theorem AkR.below {w w' : World} {N : Nat} {a : Option Addr} {ls : List Ak} (h : AkR w N a ls) (hb : Below N w w') (hs : N ≤ w'.heap.size) : AkR w' w'.heap.size a ls := by
  rcases h.ext hb with h | ⟨b, o, e, hb, h⟩
  · exact .inl h
  · exact .inr ⟨b, o, e, by omega, h⟩

set_option maxRecDepth 100000 in
set_option maxHeartbeats 2000000 in
theorem shelfPlays_walk (m : Int) (a1 : Option Addr) (l1 c1 : Nat) (z1 : List Int) (a2 : Option Addr) (l2 c2 : Nat) (z2 : List Ak) (w : World) (hw : (Lit.int .i64 m).wf = true) (hr : IsRow .i64 w a1 l1 c1 z1) (hr8 : l1 * 8 ≤ 140737488351232) (hl2 : z2.length = l2) (hc2 : l2 ≤ c2) (hm2 : c2 ≤ maxLen) (h2 : AkR w w.heap.size a2 z2) :
    Calls Try.prog 4 #[.int .i64 m, .slice a1 l1 c1, .slice a2 l2 c2] w fun r w' => r = .returned (.bool true) ∧ Below w.heap.size w w' := by
  have hb63 : -9223372036854775808 ≤ m ∧ m ≤ 9223372036854775807 := by
    have := hw
    simp [Lit.wf, IntKind.min, IntKind.max, IntKind.signed, IntKind.bits] at this
    omega
  have H2 := Lib.hid h2
  have HL2 := Lib.hid hl2
  have HR := Lib.hid hr
  have HM2 := Lib.hid hm2
  have HC2 := Lib.hid hc2
  obtain ⟨M1, hM1⟩ := cut_is (win m 0 9)
  obtain ⟨M2, hM2⟩ := cut_is m
  have HM1 := Lib.hid hM1
  have HM2' := Lib.hid hM2
  clear h2 hl2 hr hm2 hc2 hM1 hM2
  go_enter Try.func4, Try.ntmps4
  go_wp2_with fail
  refine (within_any m 0 9 _ (by omega) (by omega) (by omega) (by omega) (by omega)).mono ?_
  rintro r w1 ⟨rfl, hw1⟩
  have B1 := Lib.hid (show Below w.heap.size w w1 from by rw [← hw1]; exact Below.refl _ _)
  have HR1 := Lib.hid (show IsRow .i64 w1 a1 l1 c1 z1 from by rw [← hw1]; exact HR.out)
  clear hw1 hw hb63
  go_wp2_with fail
  refine (law10asks a1 l1 c1 z1 60 _ HR1.out hr8 (by omega)).mono ?_
  rintro r w2 ⟨v, ls, rfl, ho, hll, hb⟩
  obtain ⟨a, c, rfl, hc, hm, hk⟩ := OwnR.akr ho
  have HK := Lib.hid hk
  have B2 := Lib.hid (B1.out.trans (hb.mono B1.out.size))
  clear ho hll hb hk HR1 B1
  go_wp2_with fail
  refine (law10play (win m 0 9) M1 a ls.length c ls _ HM1.out HK.out rfl hc hm).mono ?_
  rintro r w3 ⟨rfl, hb⟩
  have B3 := Lib.hid (B2.out.trans (hb.mono B2.out.size))
  clear hb HK B2
  go_wp2_with fail
  refine (law10play m M2 a2 l2 c2 z2 _ HM2'.out (H2.out.below B3.out B3.out.size) HL2.out HC2.out HM2.out).mono ?_
  rintro r w4 ⟨rfl, hb⟩
  have B4 := Lib.hid (B3.out.trans (hb.mono B3.out.size))
  clear hb B3
  go_wp2_with fail
  refine (law10play 3 3 a2 l2 c2 z2 _ (by decide) (H2.out.below B4.out B4.out.size) HL2.out HC2.out HM2.out).mono ?_
  rintro r w5 ⟨rfl, hb⟩
  have B5 := Lib.hid (B4.out.trans (hb.mono B4.out.size))
  clear hb B4
  go_wp2_with fail
  refine (law10known _).mono ?_
  rintro r w6 ⟨rfl, hb⟩
  have B6 := Lib.hid (B5.out.trans (hb.mono B5.out.size))
  clear hb B5
  go_wp2
  go_ret
  exact ⟨rfl, B6.out⟩

end Go.Proofs.Ytnmpjagdkbaidaa
