/- Layer 7: ClockPlays and ClockNumbers, walked. -/
import Derived.Test.YtjnkchilgdhlaaaClockPI
namespace Go.Proofs.Ytjnkchilgdhlaaa
open Go.RowKit
set_option linter.unusedVariables false

theorem law7play (n : Int) (a1 : Option Addr) (len1 cap1 : Nat) (zs1 : List Int) (a2 : Option Addr) (len2 cap2 : Nat) (zs2 : List Int) (w : World) (h1 : IsRow .i64 w a1 len1 cap1 zs1) (h2 : IsRow .i64 w a2 len2 cap2 zs2) :
    Calls Try.prog 7 #[.int .i64 n, .slice a1 len1 cap1, .slice a2 len2 cap2] w fun e w' => e = .returned (.bool true) ∧ Below w.heap.size w w' := by
  have hl1 := h1.1
  have hm1 := h1.2.1
  have hl2 := h2.1
  have hm2 := h2.2.1
  unfold maxLen at hm1 hm2
  by_cases h : n < 1 ∨ 6 < n
  · exact law7play_no n a1 len1 cap1 a2 len2 cap2 w h (by omega) (by omega)
  · exact law7play_in n a1 len1 cap1 zs1 a2 len2 cap2 zs2 w (by omega) (by omega) h1 h2

end Go.Proofs.Ytjnkchilgdhlaaa
