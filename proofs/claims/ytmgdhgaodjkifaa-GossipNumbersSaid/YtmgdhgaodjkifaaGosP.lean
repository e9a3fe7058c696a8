/- The document's own gossip: the last card of a key. -/
import Derived.Test.YtmgdhgaodjkifaaGosN
import Derived.Test.YtmgdhgaodjkifaaFill
import Derived.Test.YtmgdhgaodjkifaaStay
namespace Go.Proofs.Ytmgdhgaodjkifaa
open Go.RowKit
set_option linter.unusedVariables false
set_option linter.unusedSimpArgs false

/-- what is handed back of a card that may be there -/
def lookV : Option Cd → Value
  | none => .tuple #[.agg #[.string ⟨#[]⟩, .string ⟨#[]⟩, .int .i64 0, .int .i64 0, .int .i64 0, .int .i64 0, .int .i64 0, .int .i64 0, .bool false], .bool false]
  | some x => .tuple #[.agg #[.string x.a, .string x.i, .int .i64 x.s, .int .i64 x.o, .int .i64 x.l, .int .i64 x.t, .int .i64 x.k, .int .i64 x.n, .bool x.g], .bool true]

set_option maxRecDepth 100000 in
set_option maxHeartbeats 1500000 in
theorem refFind (a : Option Addr) (n c : Nat) (ls : List Cd) (k : Ky) (w : World) (h : CAt w a ls) (hl : ls.length = n) (hn : n ≤ 1000) :
    Calls Try.prog 31 #[.slice a n c, .agg #[.string k.1, .string k.2]] w fun e w' => e = .returned (lookV (look ls k)) ∧ Below w.heap.size w w' := by
  obtain ⟨ka, ki⟩ := k
  have D0 : Below w.heap.size w ((w.alloc (.cells #[.string ka, .string ki] 32)).alloc (.cells #[.string ⟨#[]⟩, .string ⟨#[]⟩, .int .i64 0, .int .i64 0, .int .i64 0, .int .i64 0, .int .i64 0, .int .i64 0, .bool false] 36)) := ((Below.refl _ _).alloc (Nat.le_refl _) _).alloc (by simp) _
  have HK := Lib.hid (blk_alloc (blk_new w #[.string ka, .string ki] 32) (.cells #[.string ⟨#[]⟩, .string ⟨#[]⟩, .int .i64 0, .int .i64 0, .int .i64 0, .int .i64 0, .int .i64 0, .int .i64 0, .bool false] 36))
  have HE0 := Lib.hid (show ((w.alloc (.cells #[.string ka, .string ki] 32)).alloc (.cells #[.string ⟨#[]⟩, .string ⟨#[]⟩, .int .i64 0, .int .i64 0, .int .i64 0, .int .i64 0, .int .i64 0, .int .i64 0, .bool false] 36)).heap[w.heap.size + 1]? = some (.cells #[.string ⟨#[]⟩, .string ⟨#[]⟩, .int .i64 0, .int .i64 0, .int .i64 0, .int .i64 0, .int .i64 0, .int .i64 0, .bool false] 36 (0, 0)) from blk_new_at (by simp) _ _)
  have HA := Lib.hid (h.ext D0)
  have HN := Lib.hid hl
  have HB0 := Lib.hid D0
  clear h hl D0
  go_enter Try.func31, Try.ntmps31
  go_wp2_with fail
  obtain ⟨z, hz⟩ : ∃ z, w.heap.size = z := ⟨_, rfl⟩
  generalize hw0 : ((w.alloc (.cells #[.string ka, .string ki] 32)).alloc (.cells #[.string ⟨#[]⟩, .string ⟨#[]⟩, .int .i64 0, .int .i64 0, .int .i64 0, .int .i64 0, .int .i64 0, .int .i64 0, .bool false] 36)) = w0 at *
  clear hw0
  rw [hz] at HK HE0 HB0 ⊢
  go_loopw [6] (fun i wr => ∃ J : Nat, J ≤ n ∧ i = .int .i64 ((J : Int) - 1) ∧ look (ls.take J) (ka, ki) = look ls (ka, ki) ∧ Below z w wr ∧ Below w0.heap.size w0 wr) (fun i _ => (intOf i + 1).toNat)
  case atStart => exact ⟨n, Nat.le_refl _, by first | rfl | go_num, by rw [List.take_of_length_le (by have := HN.out; omega)], HB0.out, Below.refl _ _⟩
  case round =>
    obtain ⟨w1, rfl⟩ : ∃ y : World, y = wr := ⟨_, rfl⟩
    obtain ⟨J, hJ, rfl, hlk, hbw, hb0⟩ := hrel
    have HLK := Lib.hid hlk
    have HB1' := Lib.hid hb0
    have HE1 := Lib.hid (blk_ext hb0 HE0.out)
    have HK1 := Lib.hid (blk_ext hb0 HK.out)
    by_cases h0 : 0 < J
    · obtain ⟨P, rfl⟩ : ∃ P, J = P + 1 := ⟨J - 1, by omega⟩
      obtain ⟨x, hx⟩ : ∃ x, ls[P]? = some x := ⟨_, List.getElem?_eq_getElem (by have := HN.out; omega)⟩
      obtain ⟨b, o, rfl⟩ : ∃ b o, a = some ⟨b, o, none⟩ := by
        rcases HA.out with h | ⟨b, o, e, _⟩
        · rw [h] at hx; simp at hx
        · exact ⟨b, o, e⟩
      have e : ((P + 1 : Nat) : Int) - 1 = (P : Int) := by omega
      rw [e]
      clear e h0
      have HX := Lib.hid hx
      have HA1 := Lib.hid (HA.out.ext hb0)
      obtain ⟨k0, k1, -⟩ := HA1.out.at hx
      have k2 : w1.cell? ⟨z, 0, none⟩ = some (.string ka) := by rw [blk_cell HK1.out]; rfl
      have k3 : w1.cell? ⟨z, 1, none⟩ = some (.string ki) := by rw [blk_cell HK1.out]; rfl
      have hd : decide ((0 : Int) ≤ (P : Int)) = true := decide_eq_true (by omega)
      have hPn : P < n := by omega
      have HB1 := Lib.hid hbw
      clear hlk hbw hb0 hx
      by_cases h1 : x.a = ka
      · by_cases h2 : x.i = ki
        · have HANS := Lib.hid (show look ls (ka, ki) = some x from by rw [← HLK.out, look_take _ HX.out, if_pos (by unfold kyc; rw [h1, h2])])
          rw [h1] at k0
          rw [h2] at k1
          clear h1 h2
          go_wp2_with fail
          haveI hIq : Nonempty (Of w1) := of_some _
          have hF0 := of_cell k0
          have hF1 := of_cell k1
          have hF2 := of_cell k2
          have hF3 := of_cell k3
          first | (refine wp_region_stay w1 (by kernel_rfl) (by kernel_rfl) (by go_grown) ?_) | (refine wp_region_stay_seq w1 (by go_grown) ?_)
          repeat (go_big_quiet_step (fail))
          refine wpQuiet_nil ?_
          intro w5 hb5
          clear hIq hF0 hF1 hF2 hF3 k0 k1 k2 k3
          have HE := Lib.hid (blk_ext hb5 HE1.out)
          have HB := Lib.hid (show Below z w w5 from by have h := HB1.out; rw [← hz] at h ⊢; exact ext_trans h hb5)
          have hk5 := blk_cell HE.out
          have hf5 := blk_free HE.out
          have hl5 := blk_lt HE.out
          obtain ⟨y0, y1, y2, y3, y4, y5, y6, y7, y8⟩ := (HA1.out.ext hb5).at HX.out
          have hzs : z + 1 < w5.heap.size := hl5
          clear hb5
          go_wp2
          exact bodyPost_ret (v := .tuple #[.agg #[.string x.a, .string x.i, .int .i64 x.s, .int .i64 x.o, .int .i64 x.l, .int .i64 x.t, .int .i64 x.k, .int .i64 x.n, .bool x.g], .bool true]) (by have hk2 := blk_cell (blk_fill9 (v0 := .string x.a) (v1 := .string x.i) (v2 := .int .i64 x.s) (v3 := .int .i64 x.o) (v4 := .int .i64 x.l) (v5 := .int .i64 x.t) (v6 := .int .i64 x.k) (v7 := .int .i64 x.n) (v8 := .bool x.g) HE.out rfl); simp [results, Try.results31, go_sem, hk2]) rfl ⟨by rw [HANS.out]; rfl, by rw [hz]; exact below_fill9 HB.out (by omega)⟩
        · have h3 : ¬ x.i.toList = ki.toList := fun e => h2 (str_inj e)
          have hne : ¬ kyc x = (ka, ki) := fun e => h2 (congrArg Prod.snd e)
          rw [h1] at k0
          clear h1 h2
          go_wp2_with fail
          haveI hIq : Nonempty (Of w1) := of_some _
          have hF0 := of_cell k0
          have hF1 := of_cell k1
          have hF2 := of_cell k2
          have hF3 := of_cell k3
          first | (refine wp_region_stay w1 (by kernel_rfl) (by kernel_rfl) (by go_grown) ?_) | (refine wp_region_stay_seq w1 (by go_grown) ?_)
          repeat (go_big_quiet_step (fail))
          refine wpQuiet_nil ?_
          intro w5 hb5
          clear hIq hF0 hF1 hF2 hF3 k0 k1 k2 k3
          have HE := Lib.hid (blk_ext hb5 HE1.out)
          have HB := Lib.hid (show Below z w w5 from by have h := HB1.out; rw [← hz] at h ⊢; exact ext_trans h hb5)
          have hk5 := blk_cell HE.out
          have hf5 := blk_free HE.out
          have hl5 := blk_lt HE.out
          have HBz := Lib.hid (ext_trans HB1'.out hb5)
          clear hb5 hk5 hf5 hl5
          go_wp2
          go_roundw
          case rel => exact ⟨P, by omega, by first | rfl | go_num | (congr 1; omega), by rw [← HLK.out, look_take _ HX.out, if_neg hne], HB.out, HBz.out⟩
          case measure => simp [intOf] <;> omega
      · have h3 : ¬ x.a.toList = ka.toList := fun e => h1 (str_inj e)
        have hne : ¬ kyc x = (ka, ki) := fun e => h1 (congrArg Prod.fst e)
        clear h1
        go_wp2_with fail
        haveI hIq : Nonempty (Of w1) := of_some _
        have hF0 := of_cell k0
        have hF1 := of_cell k1
        have hF2 := of_cell k2
        have hF3 := of_cell k3
        first | (refine wp_region_stay w1 (by kernel_rfl) (by kernel_rfl) (by go_grown) ?_) | (refine wp_region_stay_seq w1 (by go_grown) ?_)
        repeat (go_big_quiet_step (fail))
        refine wpQuiet_nil ?_
        intro w5 hb5
        clear hIq hF0 hF1 hF2 hF3 k0 k1 k2 k3
        have HE := Lib.hid (blk_ext hb5 HE1.out)
        have HB := Lib.hid (show Below z w w5 from by have h := HB1.out; rw [← hz] at h ⊢; exact ext_trans h hb5)
        have hk5 := blk_cell HE.out
        have hf5 := blk_free HE.out
        have hl5 := blk_lt HE.out
        have HBz := Lib.hid (ext_trans HB1'.out hb5)
        clear hb5 hk5 hf5 hl5
        go_wp2
        go_roundw
        case rel => exact ⟨P, by omega, by first | rfl | go_num | (congr 1; omega), by rw [← HLK.out, look_take _ HX.out, if_neg hne], HB.out, HBz.out⟩
        case measure => simp [intOf] <;> omega
    · obtain rfl : J = 0 := by omega
      have e : ((0 : Nat) : Int) - 1 = -1 := by omega
      rw [e]
      clear e h0
      have hd : decide ((0 : Int) ≤ -1) = false := by decide
      have HANS := Lib.hid (show look ls (ka, ki) = none from by rw [← hlk]; exact look_none (by intro y hy; cases hy))
      have HE := HE1
      have HB := Lib.hid hbw
      have hk5 := blk_cell HE1.out
      have hf5 := blk_free HE1.out
      have hl5 := blk_lt HE1.out
      clear hlk hbw hb0
      go_wp2
      exact bodyPost_ret (v := .tuple #[.agg #[.string ⟨#[]⟩, .string ⟨#[]⟩, .int .i64 0, .int .i64 0, .int .i64 0, .int .i64 0, .int .i64 0, .int .i64 0, .bool false], .bool false]) (by have hk2 := blk_cell (blk_fill9 (v0 := .string ⟨#[]⟩) (v1 := .string ⟨#[]⟩) (v2 := .int .i64 0) (v3 := .int .i64 0) (v4 := .int .i64 0) (v5 := .int .i64 0) (v6 := .int .i64 0) (v7 := .int .i64 0) (v8 := .bool false) HE.out rfl); simp [results, Try.results31, go_sem, hk2]) rfl ⟨by rw [HANS.out]; rfl, by rw [hz]; exact below_fill9 HB.out (by omega)⟩

end Go.Proofs.Ytmgdhgaodjkifaa
