/- FeedTells: the walk. -/
import Derived.Test.YtgnmlkomgokimaaFeedV
import Derived.Test.YtgnmlkomgokimaaFeedK
namespace Go.Proofs.Ytgnmlkomgokimaa
open Go.RowKit
set_option linter.unusedVariables false
set_option linter.unusedSimpArgs false

set_option maxRecDepth 100000 in
set_option maxHeartbeats 4000000 in
theorem feedTells_walk (ra : Option Addr) (rlen rcap : Nat) (rz : List Int) (since : Int) (w : World) (hr : IsRow .i64 w ra rlen rcap rz) (hr8 : rlen * 8 ≤ 140737488351232) (hw : (Lit.int .i64 since).wf = true) :
    Calls Try.prog 4 #[.slice ra rlen rcap, .int .i64 since] w fun r w' => r = .returned (.bool true) ∧ Below w.heap.size w w' := by
  have HR := Lib.hid hr
  have HB0 := Lib.hid (Below.refl w.heap.size w)
  clear hr
  go_enter Try.func4, Try.ntmps4
  go_wp2_with fail
  refine (law15same ra rlen rcap rz _ _ (HR.out.ext HB0.out) hr8).mono ?_
  rintro e w1 ⟨rfl, hb⟩
  have HB1 := Lib.hid (ext_trans HB0.out hb)
  clear hb HB0
  go_wp2_with fail
  refine (law15same ra rlen rcap rz _ _ (HR.out.ext HB1.out) hr8).mono ?_
  rintro e w2 ⟨rfl, hb⟩
  have HB2 := Lib.hid (ext_trans HB1.out hb)
  clear hb HB1
  go_wp2_with fail
  refine (law15same ra rlen rcap rz _ _ (HR.out.ext HB2.out) hr8).mono ?_
  rintro e w3 ⟨rfl, hb⟩
  have HB3 := Lib.hid (ext_trans HB2.out hb)
  clear hb HB2
  go_wp2_with fail
  refine (law15known _).mono ?_
  rintro e w4 ⟨rfl, hb⟩
  have HB4 := Lib.hid (ext_trans HB3.out hb)
  clear hb HB3
  go_wp2
  go_ret
  exact ⟨rfl, HB4.out⟩

end Go.Proofs.Ytgnmlkomgokimaa
