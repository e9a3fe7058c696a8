/- A desk: what an ask that is no fetch does. -/
import Derived.Test.YtcjpemphdgndkaaGreatDkHY
import Derived.Test.YtcjpemphdgndkaaGreatDkIY
namespace Go.Proofs.YtcjpemphdgndkaaGreat
open Go.RowKit
set_option linter.unusedVariables false
set_option linter.unusedSimpArgs false

set_option maxRecDepth 100000 in
set_option maxHeartbeats 1000000 in
theorem deskHeld (now : Int) (w : World) (h0 : 0 ≤ now) (h1 : now ≤ 1099511627776) :
    Calls Tryz.prog 47 #[.int .i64 now] w fun r w' => r = .returned (.int .i64 now) ∧ w' = w := by
  have m1 : max now 0 = now := by omega
  have m2 : min now 1099511627776 = now := by omega
  go_enter Tryz.func47, Tryz.ntmps47
  go_wp2
  go_ret
  exact ⟨rfl, rfl⟩

set_option maxRecDepth 100000 in
set_option maxHeartbeats 2000000 in
theorem deskWrite1 (db : Nat) (kd st cod tag N sq : Int) (k : Ky) (fu : Bool) (su : Int) (cs kys : Value) (now : Int) (w : World) (Q : Value → Value → World → Prop) (hI : ∀ w', Below w.heap.size w w' → Calls Tryz.prog 88 #[.pointer (some ⟨db, 0, none⟩), .agg #[.int .i64 kd, .int .i64 1, .int .i64 st, .int .i64 cod, .int .i64 tag, .int .i64 N, .int .i64 sq, .string k.1, .string k.2, .bool fu, .int .u32 su, cs, kys], .int .i64 now] w' fun r w'' => ∃ a b, r = .returned (.tuple #[a, b]) ∧ Q a b w'') :
    Calls Tryz.prog 46 #[.pointer (some ⟨db, 0, none⟩), .agg #[.int .i64 kd, .int .i64 1, .int .i64 st, .int .i64 cod, .int .i64 tag, .int .i64 N, .int .i64 sq, .string k.1, .string k.2, .bool fu, .int .u32 su, cs, kys], .int .i64 now] w fun r w' => ∃ a b, r = .returned (.tuple #[a, b]) ∧ Q a b w' := by
  have D0 := Lib.hid (show Below w.heap.size w (w.alloc (.cells #[.int .i64 kd, .int .i64 1, .int .i64 st, .int .i64 cod, .int .i64 tag, .int .i64 N, .int .i64 sq, .string k.1, .string k.2, .bool fu, .int .u32 su, cs, kys] 33)) from (Below.refl _ _).alloc (Nat.le_refl _) _)
  have HK := Lib.hid (blk_new w #[.int .i64 kd, .int .i64 1, .int .i64 st, .int .i64 cod, .int .i64 tag, .int .i64 N, .int .i64 sq, .string k.1, .string k.2, .bool fu, .int .u32 su, cs, kys] 33)
  have HI := Lib.hid hI
  clear hI
  go_enter Tryz.func46, Tryz.ntmps46
  go_upto_region 1 with (fail)
  obtain ⟨p, hp⟩ : ∃ p, w.heap.size = p := ⟨_, rfl⟩
  rw [hp] at HK
  try rw [hp]
  clear hp
  generalize (w.alloc (.cells #[.int .i64 kd, .int .i64 1, .int .i64 st, .int .i64 cod, .int .i64 tag, .int .i64 N, .int .i64 sq, .string k.1, .string k.2, .bool fu, .int .u32 su, cs, kys] 33)) = w1 at *
  have hc := blk_cell HK.out
  have hl := blk_lt HK.out
  go_wp2_with fail
  refine (HI.out w1 D0.out).mono ?_
  rintro r w2 ⟨a, b, rfl, hq⟩
  have HQ := Lib.hid hq
  clear hq hc hl
  go_wp2
  go_returns
  have hq := HQ.out
  exact ⟨a, b, rfl, hq⟩

set_option maxRecDepth 100000 in
set_option maxHeartbeats 2000000 in
theorem deskWrite2 (db : Nat) (kd st cod tag N sq : Int) (k : Ky) (fu : Bool) (su : Int) (cs kys : Value) (now : Int) (w : World) (Q : Value → Value → World → Prop) (hI : ∀ w', Below w.heap.size w w' → Calls Tryz.prog 89 #[.pointer (some ⟨db, 0, none⟩), .agg #[.string k.1, .string k.2], .int .i64 now] w' fun r w'' => ∃ b, r = .returned b ∧ Q (.slice none 0 0) b w'') :
    Calls Tryz.prog 46 #[.pointer (some ⟨db, 0, none⟩), .agg #[.int .i64 kd, .int .i64 2, .int .i64 st, .int .i64 cod, .int .i64 tag, .int .i64 N, .int .i64 sq, .string k.1, .string k.2, .bool fu, .int .u32 su, cs, kys], .int .i64 now] w fun r w' => ∃ a b, r = .returned (.tuple #[a, b]) ∧ Q a b w' := by
  have D0 := Lib.hid (show Below w.heap.size w (w.alloc (.cells #[.int .i64 kd, .int .i64 2, .int .i64 st, .int .i64 cod, .int .i64 tag, .int .i64 N, .int .i64 sq, .string k.1, .string k.2, .bool fu, .int .u32 su, cs, kys] 33)) from (Below.refl _ _).alloc (Nat.le_refl _) _)
  have HK := Lib.hid (blk_new w #[.int .i64 kd, .int .i64 2, .int .i64 st, .int .i64 cod, .int .i64 tag, .int .i64 N, .int .i64 sq, .string k.1, .string k.2, .bool fu, .int .u32 su, cs, kys] 33)
  have HI := Lib.hid hI
  clear hI
  go_enter Tryz.func46, Tryz.ntmps46
  go_upto_region 1 with (fail)
  obtain ⟨p, hp⟩ : ∃ p, w.heap.size = p := ⟨_, rfl⟩
  rw [hp] at HK
  try rw [hp]
  clear hp
  generalize (w.alloc (.cells #[.int .i64 kd, .int .i64 2, .int .i64 st, .int .i64 cod, .int .i64 tag, .int .i64 N, .int .i64 sq, .string k.1, .string k.2, .bool fu, .int .u32 su, cs, kys] 33)) = w1 at *
  have hc := blk_cell HK.out
  have hl := blk_lt HK.out
  go_wp2_with fail
  refine (HI.out w1 D0.out).mono ?_
  rintro r w2 ⟨b, rfl, hq⟩
  have HQ := Lib.hid hq
  clear hq hc hl
  go_wp2
  go_returns
  have hq := HQ.out
  exact ⟨_, b, rfl, hq⟩

set_option maxRecDepth 100000 in
set_option maxHeartbeats 2000000 in
theorem deskWrite3 (db : Nat) (kd st cod tag N sq : Int) (k : Ky) (fu : Bool) (su : Int) (cs kys : Value) (now : Int) (w : World) (Q : Value → Value → World → Prop) (hI : ∀ w', Below w.heap.size w w' → Calls Tryz.prog 52 #[.pointer (some ⟨db, 0, none⟩), .agg #[.string k.1, .string k.2], .int .i64 now] w' fun r w'' => ∃ a b, r = .returned (.tuple #[a, b]) ∧ Q a b w'') :
    Calls Tryz.prog 46 #[.pointer (some ⟨db, 0, none⟩), .agg #[.int .i64 kd, .int .i64 3, .int .i64 st, .int .i64 cod, .int .i64 tag, .int .i64 N, .int .i64 sq, .string k.1, .string k.2, .bool fu, .int .u32 su, cs, kys], .int .i64 now] w fun r w' => ∃ a b, r = .returned (.tuple #[a, b]) ∧ Q a b w' := by
  have D0 := Lib.hid (show Below w.heap.size w (w.alloc (.cells #[.int .i64 kd, .int .i64 3, .int .i64 st, .int .i64 cod, .int .i64 tag, .int .i64 N, .int .i64 sq, .string k.1, .string k.2, .bool fu, .int .u32 su, cs, kys] 33)) from (Below.refl _ _).alloc (Nat.le_refl _) _)
  have HK := Lib.hid (blk_new w #[.int .i64 kd, .int .i64 3, .int .i64 st, .int .i64 cod, .int .i64 tag, .int .i64 N, .int .i64 sq, .string k.1, .string k.2, .bool fu, .int .u32 su, cs, kys] 33)
  have HI := Lib.hid hI
  clear hI
  go_enter Tryz.func46, Tryz.ntmps46
  go_upto_region 1 with (fail)
  obtain ⟨p, hp⟩ : ∃ p, w.heap.size = p := ⟨_, rfl⟩
  rw [hp] at HK
  try rw [hp]
  clear hp
  generalize (w.alloc (.cells #[.int .i64 kd, .int .i64 3, .int .i64 st, .int .i64 cod, .int .i64 tag, .int .i64 N, .int .i64 sq, .string k.1, .string k.2, .bool fu, .int .u32 su, cs, kys] 33)) = w1 at *
  have hc := blk_cell HK.out
  have hl := blk_lt HK.out
  go_wp2_with fail
  refine (HI.out w1 D0.out).mono ?_
  rintro r w2 ⟨a, b, rfl, hq⟩
  have HQ := Lib.hid hq
  clear hq hc hl
  go_wp2
  go_returns
  have hq := HQ.out
  exact ⟨a, b, rfl, hq⟩

end Go.Proofs.YtcjpemphdgndkaaGreat
