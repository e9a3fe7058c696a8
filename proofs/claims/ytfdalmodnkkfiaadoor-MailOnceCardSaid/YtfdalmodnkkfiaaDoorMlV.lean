/- A tape gives messages: what is wanted. -/
import Derived.Test.YtfdalmodnkkfiaaDoorMlT
import Derived.Test.YtfdalmodnkkfiaaDoorBd
namespace Go.Proofs.YtfdalmodnkkfiaaDoor
open Go.RowKit
set_option linter.unusedVariables false
set_option linter.unusedSimpArgs false

def CdF (c : Cd) : Prop := CdOk c ∧ KA c.a ∧ KI c.i
theorem KA.nm {s : ByteArray} (h : KA s) : nmB s = true := by rcases h with rfl | rfl | rfl | rfl <;> decide +kernel
theorem KI.nm {s : ByteArray} (h : KI s) : nmB s = true := by rcases h with rfl | rfl | rfl | rfl | rfl <;> decide +kernel
theorem CdF.g {c : Cd} (h : CdF c) : CdG c := by
  obtain ⟨⟨h1, h2, h3, h4, h5, h6, h7, h8, h9, h10, h11, h12, h13, h14⟩, ha, hi⟩ := h
  refine ⟨?_, by omega, by omega⟩
  unfold cdRB stB
  rw [ha.nm, hi.nm]
  simp
  omega
set_option maxRecDepth 100000 in
set_option maxHeartbeats 2000000 in
theorem tapeCardsF (a0 : Option Addr) (len cap : Nat) (zs : List Int) (b most : Nat) (w : World) (hT : TapeK a0 len cap w b) (hRow : RowOk a0 len cap zs w b) (hm : most ≤ 1000) :
    Calls Tryd.prog 14 #[.pointer (some ⟨b, 0, none⟩), .int .i64 (most : Int)] w fun e w' => ∃ v cs, e = .returned v ∧ OwnC w.heap.size w' v cs ∧ cs.length ≤ most ∧ (∀ c ∈ cs, CdF c) ∧ TapeK a0 len cap w' b ∧ Bar b w w' := by
  obtain ⟨i0, hi, hz0, hz1, hz2⟩ := info_parts' info_card
  have HT := Lib.hid hT
  have HR := Lib.hid hRow
  clear hT hRow
  go_enter Tryd.func14, Tryd.ntmps14
  go_wp2_with fail
  refine (tapeNextK _ _ _ zs _ ((most : Int) + 1) _ HT.out HR.out (by omega) (by omega)).mono ?_
  rintro e w1 ⟨q, rfl, hq0, hq1, hT1, hb1⟩
  obtain ⟨N0, rfl⟩ : ∃ N0 : Nat, q = (N0 : Int) := ⟨q.toNat, by omega⟩
  have HT1 := Lib.hid hT1
  have HB1 := Lib.hid hb1
  have hN0 : N0 ≤ most := by omega
  clear hT1 hb1 hq0 hq1
  go_wp2_with fail
  go_loopw [5, 6] (fun o n wr => ∃ (N : Nat) (cs : List Cd), n = .int .i64 (N : Int) ∧ OwnC w.heap.size wr o cs ∧ cs.length + N ≤ most ∧ (∀ c ∈ cs, CdF c) ∧ TapeK a0 len cap wr b ∧ Bar b w wr) (fun o n _ => (intOf n).toNat)
  case atStart => exact ⟨N0, [], rfl, OwnR.nil _ _, by simpa using hN0, by simp, HT1.out, HB1.out⟩
  case round =>
    obtain ⟨w2, rfl⟩ : ∃ y : World, y = wr := ⟨_, rfl⟩
    obtain ⟨N, cs, rfl, ho, hl, hok, hT2, hb2⟩ := hrel
    obtain ⟨a, c, rfl, hnc, hcm, -, -, -⟩ := ho.read
    have HO2 := Lib.hid ho
    have HOK := Lib.hid hok
    have HT2 := Lib.hid hT2
    have HB2 := Lib.hid hb2
    obtain ⟨n, hn⟩ : ∃ n, cs.length = n := ⟨_, rfl⟩
    have HN := Lib.hid hn
    rw [hn] at hl hnc ⊢
    unfold maxLen at hcm
    clear ho hok hT2 hb2 hn
    by_cases hlt : N = 0
    · subst hlt
      go_wp2
      go_ret
      exact ⟨_, cs, rfl, by have := HO2.out; rw [HN.out] at this; exact this, by rw [HN.out]; omega, HOK.out, HT2.out, HB2.out⟩
    · have hN : 0 < N := by omega
      have hdN : decide (0 < (N : Int)) = true := by simp; omega
      go_wp2_with fail
      refine (tapeCardF _ _ _ zs _ _ HT2.out (HR.out.bar HB2.out)).mono ?_
      rintro e w3 ⟨x, rfl, hx0, hka, hki, hT3, hb3⟩
      have hx : CdF x := ⟨hx0, hka, hki⟩
      clear hx0 hka hki
      have HX := Lib.hid hx
      have HO3 := Lib.hid (show OwnC w.heap.size w3 (.slice a n c) cs from by have := HT2.out.own hb3 (by decide) HO2.out; unfold OwnC OwnR; rw [HN.out] at this ⊢; exact this)
      have HT3 := Lib.hid hT3
      have HB3 := Lib.hid (HB2.out.trans hb3)
      have Z3 := HB3.out.size
      clear hx hT3 hb3 HO2 HT2
      go_wp2_with (at_builtin; refine wpList_append_own _ rfl _ _ 26 rfl (w.heap.size) 50 i0 Cd.zero.v 9 88 Tryd.underlying26 hi hz0 hz1 hz2 rfl (by decide) _ n (flat cc cs) rfl (by have := HO3.out.alloc (.cells #[.string x.a, .string x.i, .int .i64 x.s, .int .i64 x.o, .int .i64 x.l, .int .i64 x.t, .int .i64 x.k, .int .i64 x.n, .bool x.g] 50); rw [HN.out] at this; exact this) ⟨w3.heap.size, 0, none⟩ 1 1 (cc x) rfl rfl ?c1 ?c2 ?c3 ?c4 ?c5 ?_)
      case c1 =>
        intro j u hj
        rw [add_off, Nat.zero_add, blk_cell (blk_new w3 #[.string x.a, .string x.i, .int .i64 x.s, .int .i64 x.o, .int .i64 x.l, .int .i64 x.t, .int .i64 x.k, .int .i64 x.n, .bool x.g] 50)]
        simpa [cc] using hj
      case c2 => exact cc_one x
      case c3 => unfold maxLen; omega
      case c4 => omega
      case c5 => simp; omega
      intro v4 w4 ho4 hg4 _
      have B4 := Lib.hid ((HB3.out.trans (Bar.of ((Below.refl _ _).alloc (Nat.le_refl _) (.cells #[.string x.a, .string x.i, .int .i64 x.s, .int .i64 x.o, .int .i64 x.l, .int .i64 x.t, .int .i64 x.k, .int .i64 x.n, .bool x.g] 50)))).grown hg4 (fun q hq => own_ge HO3.out hq))
      have T4 := Lib.hid (show TapeK a0 len cap w4 b from by
        obtain ⟨q, e1, e2⟩ := HT3.out
        exact ⟨q, (hg4.block b (by have := HT3.out.lt; simp; omega) (own_ne (HO3.out.alloc (.cells #[.string x.a, .string x.i, .int .i64 x.s, .int .i64 x.o, .int .i64 x.l, .int .i64 x.t, .int .i64 x.k, .int .i64 x.n, .bool x.g] 50)) (blk_alloc e1 _) (by decide))).trans (blk_alloc e1 _), e2⟩)
      have HO4 := Lib.hid (show OwnC w.heap.size w4 v4 (cs ++ [x]) by unfold OwnC OwnR; rw [flat_snoc, List.length_append, HN.out]; exact ho4)
      have HOK4 := Lib.hid (show ∀ c ∈ cs ++ [x], CdF c from fun c hc => by
        rcases List.mem_append.1 hc with hc | hc
        · exact HOK.out c hc
        · simp at hc; subst hc; exact HX.out)
      obtain ⟨M, rfl⟩ : ∃ M, N = M + 1 := ⟨N - 1, by omega⟩
      clear ho4 hg4 HO3 HT3 HB3 hdN
      go_wp2
      go_roundw
      case rel => exact ⟨M, cs ++ [x], by go_num, HO4.out, by rw [List.length_append, HN.out]; simp only [List.length_cons, List.length_nil]; omega, HOK4.out, T4.out, B4.out⟩
      case measure => first | (simp [intOf]; done) | (simp [intOf]; omega)

theorem Bar.setnew {tb t o : Nat} {v : Value} {u w : World} (h : Bar tb u w) (ht : u.heap.size ≤ t) : Bar tb u (w.setCell ⟨t, o, none⟩ v) :=
  ⟨h.os, h.tape, h.output, by have := h.size; simpa [World.setCell] using this, fun i hi hl => (Below.heap_setCell _ _ _ _ (show i ≠ t by omega)).trans (h.block i hi hl)⟩
theorem TapeK.setn {a : Option Addr} {len cap : Nat} {w : World} {tb t o : Nat} {v : Value} (h : TapeK a len cap w tb) (ht : t ≠ tb) : TapeK a len cap (w.setCell ⟨t, o, none⟩ v) tb := by
  obtain ⟨k, h1, h2⟩ := h
  exact ⟨k, (((Kept.refl t w).setCell o v).block tb (Ne.symm ht)).trans h1, h2⟩
/-- what Tape.Msg answers -/
def MsgP (ra : Option Addr) (rlen rcap : Nat) (tb : Nat) (w : World) (r : Ending) (w' : World) : Prop := ∃ (m : Mg) (ca : Option Addr) (cn cc : Nat) (ka : Option Addr) (kn kc : Nat), r = .returned (.agg #[.int .i64 m.kd, .int .i64 m.op, .int .i64 m.st, .int .i64 m.cod, .int .i64 m.tag, .int .i64 m.n, .int .i64 m.sq, .string m.k.1, .string m.k.2, .bool m.fu, .int .u32 m.su, .slice ca cn cc, .slice ka kn kc]) ∧ MgMem w' m ca cn cc ka kn kc ∧ MgOk m ∧ TapeK ra rlen rcap w' tb ∧ Bar tb w w'
end Go.Proofs.YtfdalmodnkkfiaaDoor
