/- Layer 9's laws, walked: 'same', whatever comes in; 'Same' of none. -/
import Derived.Test.YtcclncpegdbcbaaLeaseK
import Derived.Test.YtcclncpegdbcbaaLeaseS0
import Derived.Test.YtcclncpegdbcbaaLeaseS1
import Derived.Test.YtcclncpegdbcbaaLeaseS2
import Derived.Test.YtcclncpegdbcbaaLeaseS3
import Derived.Test.YtcclncpegdbcbaaLeaseS4
import Derived.Test.YtcclncpegdbcbaaLeaseS5
import Derived.Test.YtcclncpegdbcbaaLeaseS6
import Derived.Test.YtcclncpegdbcbaaLeaseS7
namespace Go.Proofs.Ytcclncpegdbcbaa
open Go.RowKit
set_option linter.unusedVariables false

theorem law9same (e : En) (inn : Bool) (c : Cd) (ov t2 k2 n2 now : Int) (w : World) :
    Calls Try.prog 8 #[e.v, .bool inn, c.v, .int .i64 ov, stv t2 k2 n2, .int .i64 now] w fun r w' => r = .returned (.bool true) ∧ Below w.heap.size w w' := by
  obtain ⟨⟨a, i, s, o, l, t, k, n, g⟩, seen⟩ := e
  cases g
  · by_cases h0 : ov < 0
    · cases inn
      · exact law9same_a0 a i s o l t k n seen c ov t2 k2 n2 now w h0
      · exact law9same_a1 a i s o l t k n seen c ov t2 k2 n2 now w h0
    · by_cases h3 : 3 < ov
      · cases inn
        · exact law9same_b0 a i s o l t k n seen c ov t2 k2 n2 now w (by omega) h3
        · exact law9same_b1 a i s o l t k n seen c ov t2 k2 n2 now w (by omega) h3
      · cases inn
        · exact law9same_y0 a i s o l t k n seen c ov t2 k2 n2 now w (by omega) (by omega)
        · exact law9same_y1 a i s o l t k n seen c ov t2 k2 n2 now w (by omega) (by omega)
  · cases inn
    · exact law9same_g0 a i s o l t k n seen c ov t2 k2 n2 now w
    · exact law9same_g1 a i s o l t k n seen c ov t2 k2 n2 now w

set_option maxHeartbeats 400000 in
theorem leaseEqual_none (w : World) :
    Calls Try.prog 21 #[.slice none 0 0, .slice none 0 0] w fun r w' => r = .returned (.bool true) ∧ w = w' := by
  go_enter Try.func21, Try.ntmps21
  go_wp2
  refine wp_loop_rounds 1 ?_
  rw [rounds_succ]
  go_wp2
  go_ret
  exact ⟨rfl, rfl⟩

set_option maxHeartbeats 400000 in
theorem leaseSame_none (w : World) :
    Calls Try.prog 9 #[.slice none 0 0, .slice none 0 0] w fun r w' => r = .returned (.bool true) ∧ w = w' := by
  go_enter Try.func9, Try.ntmps9
  go_wp2_with fail
  refine (leaseEqual_none w).mono ?_
  rintro _ w1 ⟨rfl, rfl⟩
  go_wp2
  go_ret
  exact ⟨rfl, rfl⟩

set_option maxHeartbeats 400000 in
theorem leaseEqual_some (b : Nat) (w : World) :
    Calls Try.prog 21 #[.slice none 0 0, .slice (some ⟨b, 0, none⟩) 1 1] w fun r w' => r = .returned (.bool false) ∧ w = w' := by
  go_enter Try.func21, Try.ntmps21
  go_wp2
  go_ret
  exact ⟨rfl, rfl⟩

set_option maxHeartbeats 400000 in
theorem leaseSame_some (b : Nat) (w : World) :
    Calls Try.prog 9 #[.slice none 0 0, .slice (some ⟨b, 0, none⟩) 1 1] w fun r w' => r = .returned (.bool false) ∧ w = w' := by
  go_enter Try.func9, Try.ntmps9
  go_wp2_with fail
  refine (leaseEqual_some b w).mono ?_
  rintro _ w1 ⟨rfl, rfl⟩
  go_wp2
  go_ret
  exact ⟨rfl, rfl⟩

end Go.Proofs.Ytcclncpegdbcbaa
