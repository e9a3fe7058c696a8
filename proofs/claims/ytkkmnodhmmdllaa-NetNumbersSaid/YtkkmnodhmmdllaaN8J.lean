/- Layer 8's law: a script of asks. -/
import Derived.Test.YtkkmnodhmmdllaaN8I
import Derived.Test.YtkkmnodhmmdllaaChain
namespace Go.Proofs.Ytkkmnodhmmdllaa
open Go.RowKit
set_option linter.unusedVariables false
set_option linter.unusedSimpArgs false

set_option maxRecDepth 100000 in
set_option maxHeartbeats 1000000 in
theorem netDeliverB (nb nodes : Nat) (a : Option Addr) (n c : Nat) (ls : List Lt) (p : List Bool) (i : Nat) (x : Lt) (xs : List Int) (w : World) (h : NetB w nb nodes (.slice a n c) p) (ho : OwnL 0 w (.slice a n c) ls) (hl : ls.length = n) (hn : n ≤ 64) (hnd : nodes ≤ 6) (hp : p.length = 36) (hx : ls[i]? = some x) (hpr : prB nodes p x.f x.t = false) (hb0 : OwnB 0 w x xs) (hxn : xs.length ≤ 140737488355328) :
    Calls Try.prog 10 #[.pointer (some ⟨nb, 0, none⟩), .int .i64 (i : Int)] w fun e w' => ∃ y : Lt, e = .returned (.tuple #[.agg #[.int .i64 y.f, .int .i64 y.t, .slice y.a y.n y.c], .int .i64 0]) ∧ y.f = x.f ∧ y.t = x.t ∧ OwnB w.heap.size w' y xs ∧ (∃ v, NetB w' nb nodes v p ∧ OwnL w.heap.size w' v (ls.eraseIdx i)) ∧ Rim nb w w' := by
  have HXB := Lib.hid hb0
  clear hb0
  have hin : i < n := by
    rcases Nat.lt_or_ge i n with h' | h'
    · exact h'
    · rw [List.getElem?_eq_none (by omega)] at hx; cases hx
  obtain ⟨g, rfl, -, hgl, hnc, hcm⟩ := ho.some hl (by omega)
  have D0 : Below w.heap.size w (w.alloc (.cells #[.int .i64 0, .int .i64 0, .slice none 0 0] 34)) := (Below.refl _ _).alloc (Nat.le_refl _) _
  have HB := Lib.hid (h.ext D0)
  have HXB1 := Lib.hid (ownsRow_ext HXB.out D0)
  have HO := Lib.hid (ho.ext D0)
  have HL := Lib.hid hl
  have HX := Lib.hid hx
  have S0 := Lib.hid (blk_new w #[.int .i64 0, .int .i64 0, .slice none 0 0] 34)
  have HP := Lib.hid hp
  have HPR := Lib.hid hpr
  have hlt := h.lt
  have hiI : (i : Int) < n := by omega
  unfold maxLen at hcm
  clear h ho hl hx hp hpr
  go_enter Try.func10, Try.ntmps10
  go_wp2_with fail
  obtain ⟨s, hs⟩ : ∃ s, w.heap.size = s := ⟨_, rfl⟩
  have HS := Lib.hid hs
  have hns : s ≠ nb := by omega
  rw [hs] at S0 ⊢
  clear hs
  generalize (w.alloc (.cells #[.int .i64 0, .int .i64 0, .slice none 0 0] 34)) = w1 at *
  refine (netHasI nb nodes (some ⟨g, 0, none⟩) n c p (i : Int) _ HB.out (by omega)).mono ?_
  rintro e w1' ⟨rfl, rfl⟩
  rw [hnB_yes (by omega) (by omega)]
  obtain ⟨x0, x1, x2⟩ := HO.out.at HX.out
  go_wp2_with fail
  haveI hIq : Nonempty (Of w1) := of_some _
  have hF0 := of_cell HB.out.c1
  have hF1 := of_cell x0
  have hF2 := of_cell x1
  refine wp_region_stay w1 (by kernel_rfl) (by kernel_rfl) (by go_grown) ?_
  repeat (go_big_quiet_step ((go_at_call 14; refine stay_same (netParted nb nodes (.slice (some ⟨g, 0, none⟩) n c) p x.f x.t _ (HB.out.ext (In.h _)) hnd HP.out))))
  refine wpQuiet_nil ?_
  intro w2 hb
  clear hIq hF0 hF1 hF2 x0 x1 x2
  rw [HPR.out]
  have D2 := ext_trans D0 hb
  have S2 := blk_ext hb S0.out
  have HB2 := Lib.hid (HB.out.ext hb)
  have HO2 := Lib.hid (HO.out.ext hb)
  have HX2 := Lib.hid (ownsRow_ext HXB1.out hb)
  have HS2 := Lib.hid S2
  have HSL := Lib.hid (blk_lt S2)
  have gz2 := D2.size
  clear hb S2 HB HO HXB1
  go_wp2_with fail
  refine (netTake nb nodes (some ⟨g, 0, none⟩) n c i ls x p _ HB2.out HO2.out HL.out hn HX.out).mono ?_
  rintro e w3 ⟨rfl, ⟨v3, hB3, hO3⟩, hr3⟩
  have HB3 := Lib.hid hB3
  have HO3 := Lib.hid hO3
  have HX3 := Lib.hid (own_rim HB2.out hr3 (by decide) HX2.out)
  have HS3 := Lib.hid (hr3.blk hns HS2.out)
  have R3 := (Rim.of (b := nb) D2).trans hr3
  have hbx := own_u8 HX3.out
  obtain ⟨a', c', hae, hnx, -, -, hbat⟩ := hbx
  simp only [Value.slice.injEq] at hae
  obtain ⟨hae1, hae2, -⟩ := hae
  rw [← hae1] at hbat
  have HAT := Lib.hid hbat
  have HXN := Lib.hid (show xs.length = x.n by rw [hae2])
  clear hB3 hO3 hr3 HB2 HO2 HX2 HS2 hbat hae1 hae2 hnx
  go_wp2_with fail
  refine (copied x xs _ HAT.out HXN.out (by have := HXN.out; omega)).mono ?_
  rintro e w4 ⟨y, rfl, hyf, hyt, hyo, hb4⟩
  have HB4 := Lib.hid (HB3.out.ext hb4)
  have HO4 := Lib.hid (HO3.out.ext hb4)
  have S4 := blk_ext hb4 HS3.out
  have R4 := R3.trans (Rim.of hb4)
  have HYO := Lib.hid hyo
  have HYF := Lib.hid hyf
  have HYT := Lib.hid hyt
  have Z3 := R3.size
  have k4 := blk_cell S4
  have f4 := blk_free S4
  have l4 := blk_lt S4
  have HS4 := Lib.hid S4
  clear hb4 hyo hyf hyt S4 HB3 HO3 HS3 HX3
  go_wp2
  have hk6 : Kept s w4 (((w4.setCell ⟨s, 0, none⟩ (.int .i64 y.f)).setCell ⟨s, 1, none⟩ (.int .i64 y.t)).setCell ⟨s, 2, none⟩ (.slice y.a y.n y.c)) := (((Kept.refl _ _).setCell _ _).setCell _ _).setCell _ _
  have HF : (((w4.setCell ⟨s, 0, none⟩ (.int .i64 y.f)).setCell ⟨s, 1, none⟩ (.int .i64 y.t)).setCell ⟨s, 2, none⟩ (.slice y.a y.n y.c)).heap[s]? = some (.cells #[.int .i64 y.f, .int .i64 y.t, .slice y.a y.n y.c] 34 (0, 0)) := blk_set (blk_set (blk_set HS4.out rfl) rfl) (by simp)
  have HB6 := Lib.hid (show NetB (((w4.setCell ⟨s, 0, none⟩ (.int .i64 y.f)).setCell ⟨s, 1, none⟩ (.int .i64 y.t)).setCell ⟨s, 2, none⟩ (.slice y.a y.n y.c)) nb nodes v3 p from (hk6.block nb (Ne.symm hns)).trans HB4.out)
  have HO6 := Lib.hid (ownsRow_base (ownsRow_keep HO4.out hk6 (fun e => by have h1 := own_ge HO4.out e.symm; have h2 := HSL.out; omega)) gz2)
  have HY6 := Lib.hid (ownsRow_base (ownsRow_keep HYO.out hk6 (own_ne HYO.out HS4.out (by decide))) Z3)
  have R6 := Lib.hid (R4.keptNew hk6 (by have := HS.out; omega))
  clear hk6 k4 f4 HB4 HO4 HYO
  generalize (((w4.setCell ⟨s, 0, none⟩ (.int .i64 y.f)).setCell ⟨s, 1, none⟩ (.int .i64 y.t)).setCell ⟨s, 2, none⟩ (.slice y.a y.n y.c)) = w6 at *
  have kz := blk_cell HF
  exact bodyPost_ret (v := .tuple #[.agg #[.int .i64 y.f, .int .i64 y.t, .slice y.a y.n y.c], .int .i64 0]) (by simp [results, Try.results10, go_sem, kz]) rfl ⟨y, rfl, HYF.out, HYT.out, HY6.out, ⟨_, HB6.out, HO6.out⟩, R6.out⟩

/-- an ask as it lies; the bytes of its text -/
structure AV where
  k : Int
  a : Int
  b : Int
  i : Int
  ta : Option Addr
  tn : Nat
  tc : Nat
  xs : List Int
def akc (x : AV) : List Value := [.int .i64 x.k, .int .i64 x.a, .int .i64 x.b, .int .i64 x.i, .slice x.ta x.tn x.tc]
theorem akc_len (x : AV) : (akc x).length = 5 := rfl
theorem akc_one (x : AV) : ∀ u ∈ akc x, u.oneCell' = true := by
  intro u hu
  simp [akc] at hu
  rcases hu with rfl | rfl | rfl | rfl | rfl <;> rfl
/-- the texts lie -/
def Txt (w : World) (las : List AV) : Prop := ∀ x ∈ las, BAt w x.ta x.xs ∧ x.xs.length = x.tn ∧ x.tn ≤ 140737488355328
theorem Txt.ext {w w' : World} {las : List AV} (h : Txt w las) (hb : Below w.heap.size w w') : Txt w' las := fun x hx => ⟨(h x hx).1.ext hb, (h x hx).2⟩
def Vb (nodes : Nat) (bl : List ML) : Prop := ∀ y ∈ bl, hnB nodes y.f = true ∧ hnB nodes y.t = true
theorem Vb.send {nodes : Nat} {bl : List ML} {y : ML} (h : Vb nodes bl) : Vb nodes (sendM nodes bl y).2 := by
  unfold sendM
  split
  · rename_i hc
    split
    · intro z hz
      rcases List.mem_append.1 hz with hz | hz
      · exact h z hz
      · obtain rfl := List.mem_singleton.1 hz; exact hc
    · exact h
  · exact h
theorem Vb.drop {nodes : Nat} {bl : List ML} {i : Int} (h : Vb nodes bl) : Vb nodes (dropM bl i).2 := by
  unfold dropM
  split
  · exact fun z hz => h z (List.mem_of_mem_eraseIdx hz)
  · exact h
theorem Vb.twice {nodes : Nat} {bl : List ML} {i : Int} (h : Vb nodes bl) : Vb nodes (twiceM bl i).2 := by
  unfold twiceM
  split
  · rename_i hi
    split
    · intro z hz
      rcases List.mem_append.1 hz with hz | hz
      · exact h z hz
      · obtain rfl := List.mem_singleton.1 hz
        obtain ⟨P, rfl⟩ := Int.eq_ofNat_of_zero_le hi.1
        obtain ⟨y, hy⟩ : ∃ y, bl[P]? = some y := ⟨_, List.getElem?_eq_getElem (by omega)⟩
        rw [getD_of hy]
        exact h y (List.mem_of_getElem? hy)
    · exact h
  · exact h
theorem Vb.del {nodes : Nat} {p : List Bool} {bl : List ML} {i : Int} (h : Vb nodes bl) : Vb nodes (delM nodes p bl i).2.2 := by
  unfold delM
  split
  · split
    · exact h
    · exact fun z hz => h z (List.mem_of_mem_eraseIdx hz)
  · exact h
/-- the row lies not at block q -/
def PNa (q : Nat) (w : World) (nb nodes : Nat) (bl : List ML) (p : List Bool) : Prop := ∃ ls v, nodes ≤ 6 ∧ p.length = 36 ∧ ls.length ≤ 64 ∧ NetB w nb nodes v p ∧ OwnL 0 w v ls ∧ Fit w ls bl ∧ v.ownBlock ≠ some q
theorem PNa.pn {q : Nat} {w : World} {nb nodes : Nat} {bl : List ML} {p : List Bool} (h : PNa q w nb nodes bl p) : PN w nb nodes bl p := by
  obtain ⟨ls, v, h1, h2, h3, h4, h5, h6, -⟩ := h
  exact ⟨ls, ⟨h1, h2, h3, v, h4, h5⟩, h6⟩
theorem PN.fresh {q : Nat} {w w' : World} {nb nodes : Nat} {bl : List ML} {p : List Bool} (h : PN w nb nodes bl p) (hq : w.heap.size ≤ q) (hb : Below w.heap.size w w') : PNa q w' nb nodes bl p := by
  obtain ⟨ls, ⟨h1, h2, h3, v, h4, h5⟩, h6⟩ := h
  refine ⟨ls, v, h1, h2, h3, h4.ext hb, h5.ext hb, h6.ext hb, fun e => ?_⟩
  have := World.ownsRow.lt h5 q e
  omega
theorem PNa.ext {q : Nat} {w w' : World} {nb nodes : Nat} {bl : List ML} {p : List Bool} (h : PNa q w nb nodes bl p) (hb : Below w.heap.size w w') : PNa q w' nb nodes bl p := by
  obtain ⟨ls, v, h1, h2, h3, h4, h5, h6, h7⟩ := h
  exact ⟨ls, v, h1, h2, h3, h4.ext hb, h5.ext hb, h6.ext hb, h7⟩
theorem PNa.rimq {q : Nat} {w w' : World} {nb nodes : Nat} {bl : List ML} {p : List Bool} {cs : Array Value} (h : PNa q w nb nodes bl p) (hr : Rim q w w') (h0 : w.heap[q]? = some (.cells cs 34 (0, 0))) : PN w' nb nodes bl p := by
  obtain ⟨ls, v, h1, h2, h3, h4, h5, h6, h7⟩ := h
  have hne : nb ≠ q := by rintro rfl; have := h4.blk.symm.trans h0; simp at this
  refine ⟨ls, ⟨h1, h2, h3, v, (hr.block nb hne h4.lt).trans h4, ?_⟩, h6.types fun b cur hc => hr.block b (fun e => by subst e; rw [h0] at hc; simp at hc) (blk_lt hc)⟩
  obtain ⟨g1, g2⟩ := h5
  refine ⟨g1, ?_⟩
  rcases g2 with g2 | ⟨g, cap', cur, e1, hg, hh, hrest⟩
  · exact .inl g2
  · refine .inr ⟨g, cap', cur, e1, hg, (hr.block g (fun e => h7 (by rw [e1, e]; rfl)) (blk_lt hh)).trans hh, hrest⟩
theorem pnDelA (q nb nodes : Nat) (bl : List ML) (i : Int) (p : List Bool) (w : World) (h : PNa q w nb nodes bl p) (hq : q < w.heap.size) :
    Calls Try.prog 10 #[.pointer (some ⟨nb, 0, none⟩), .int .i64 i] w fun r w' => ∃ z : Lt, r = .returned (.tuple #[.agg #[.int .i64 z.f, .int .i64 z.t, .slice z.a z.n z.c], .int .i64 (delM nodes p bl i).1]) ∧ z.f = (delM nodes p bl i).2.1.f ∧ z.t = (delM nodes p bl i).2.1.t ∧ BAt w' z.a (delM nodes p bl i).2.1.xs ∧ (delM nodes p bl i).2.1.xs.length = z.n ∧ PNa q w' nb nodes (delM nodes p bl i).2.2 p ∧ Rim nb w w' := by
  have HQ := h
  obtain ⟨ls, v, g1, g2, g3, g4, g5, h2, g7⟩ := h
  have h1 : NS w nb nodes ls p := ⟨g1, g2, g3, v, g4, g5⟩
  unfold delM
  by_cases hi : 0 ≤ i ∧ i < (bl.length : Int)
  · rw [if_pos hi]
    obtain ⟨P, rfl⟩ := Int.eq_ofNat_of_zero_le hi.1
    obtain ⟨y, hy⟩ : ∃ y, bl[P]? = some y := ⟨_, List.getElem?_eq_getElem (by omega)⟩
    obtain ⟨x, hx, e1, e2, e3, e4⟩ := h2.at hy
    rw [getD_of hy]
    rcases hpr : prB nodes p y.f y.t with _ | _
    · rw [if_neg (by decide)]
      obtain ⟨a, c, rfl, -⟩ := g5.form
      refine (netDeliverB nb nodes a ls.length c ls p P x y.xs w g4 g5 rfl g3 g1 g2 hx (by rw [e1, e2]; exact hpr) e3 e4).mono ?_
      rintro r w' ⟨z, e, k1, k2, k3, ⟨v', k4, k5⟩, hr⟩
      have k3' : OwnB 0 w' z y.xs := ownsRow_base k3 (Nat.zero_le _)
      refine ⟨z, e, k1.trans e1, k2.trans e2, k3'.read.1, k3'.read.2, ⟨_, v', g1, g2, by have := List.length_eraseIdx_le ls P; omega, k4, ownsRow_base k5 (Nat.zero_le _), (h1.fit h2 hr).erase P, fun e => ?_⟩, hr⟩
      have := own_ge k5 e
      omega
    · rw [if_pos rfl]
      refine (nsDeliver_cut nb nodes ls p P x w h1 hx (by rw [e1, e2]; exact hpr)).mono ?_
      rintro r w' ⟨e, -, hb⟩
      exact ⟨zLt, e, rfl, rfl, .inl rfl, rfl, HQ.ext hb, Rim.of hb⟩
  · rw [if_neg hi]
    refine (nsDeliver_no nb nodes ls p i w h1 (by rw [h2.1]; omega)).mono ?_
    rintro r w' ⟨e, -, hb⟩
    exact ⟨zLt, e, rfl, rfl, .inl rfl, rfl, HQ.ext hb, Rim.of hb⟩
def RNa (q : Nat) (w : World) (rb nodes : Nat) (bl : List ML) (p : List Bool) : Prop := nodes ≤ 6 ∧ p.length = 36 ∧ bl.length ≤ 64 ∧ ∃ (a : Option Addr) (c : Nat), RNB w rb nodes (.slice a bl.length c) p ∧ bl.length ≤ c ∧ c ≤ maxLen ∧ SAt rlc 3 50 w a bl ∧ ((a = none ∧ c = 0) ∨ ∃ b o, a = some ⟨b, o, none⟩) ∧ (bl = [] ∨ ∀ b o, a = some ⟨b, o, none⟩ → b ≠ q)
theorem RNa.rn {q : Nat} {w : World} {rb nodes : Nat} {bl : List ML} {p : List Bool} (h : RNa q w rb nodes bl p) : RN w rb nodes bl p := by
  obtain ⟨h1, h2, h3, a, c, h4, h5, h6, h7, h8, -⟩ := h
  exact ⟨h1, h2, h3, a, c, h4, h5, h6, h7, h8⟩
theorem RN.fresh {q : Nat} {w w' : World} {rb nodes : Nat} {bl : List ML} {p : List Bool} (h : RN w rb nodes bl p) (hq : w.heap.size ≤ q) (hb : Below w.heap.size w w') : RNa q w' rb nodes bl p := by
  obtain ⟨h1, h2, h3, a, c, h4, h5, h6, h7, h8⟩ := h
  refine ⟨h1, h2, h3, a, c, h4.ext hb, h5, h6, h7.ext hb, h8, ?_⟩
  rcases h7 with e | ⟨b, o, e, ⟨cur, hc⟩, -⟩
  · exact .inl e
  · refine .inr fun b' o' e' => ?_
    rw [e] at e'
    simp only [Option.some.injEq, Addr.mk.injEq] at e'
    have := blk_lt hc
    omega
theorem RNa.ext {q : Nat} {w w' : World} {rb nodes : Nat} {bl : List ML} {p : List Bool} (h : RNa q w rb nodes bl p) (hb : Below w.heap.size w w') : RNa q w' rb nodes bl p := by
  obtain ⟨h1, h2, h3, a, c, h4, h5, h6, h7, h8, h9⟩ := h
  exact ⟨h1, h2, h3, a, c, h4.ext hb, h5, h6, h7.ext hb, h8, h9⟩
theorem RNa.rim {q b0 : Nat} {w w' : World} {rb nodes : Nat} {bl : List ML} {p : List Bool} {cs : Array Value} {T : TypeId} (h : RNa q w rb nodes bl p) (hr : Rim b0 w w') (h0 : w.heap[b0]? = some (.cells cs T (0, 0))) (t1 : 48 ≠ T) (t2 : 50 ≠ T) : RNa q w' rb nodes bl p := by
  have hk : ∀ (b : Nat) (cur : Array Value) (T' : TypeId), T' ≠ T → w.heap[b]? = some (.cells cur T' (0, 0)) → w'.heap[b]? = w.heap[b]? := fun b cur T' hne hc => hr.block b (fun e => by subst e; rw [h0] at hc; simp at hc; exact hne hc.2.symm) (blk_lt hc)
  obtain ⟨h1, h2, h3, a, c, h4, h5, h6, h7, h8, h9⟩ := h
  exact ⟨h1, h2, h3, a, c, (hk _ _ _ t1 h4.blk).trans h4.blk, h5, h6, h7.keep fun b cur hc _ => hk b cur _ t2 hc, h8, h9⟩
theorem RNa.rimq {q : Nat} {w w' : World} {rb nodes : Nat} {bl : List ML} {p : List Bool} {cs : Array Value} (h : RNa q w rb nodes bl p) (hr : Rim q w w') (h0 : w.heap[q]? = some (.cells cs 50 (0, 0))) : RN w' rb nodes bl p := by
  obtain ⟨h1, h2, h3, a, c, h4, h5, h6, h7, h8, h9⟩ := h
  have hne : rb ≠ q := by rintro rfl; have := h4.blk.symm.trans h0; simp at this
  refine ⟨h1, h2, h3, a, c, (hr.block rb hne h4.lt).trans h4, h5, h6, ?_, h8⟩
  rcases h9 with h9 | h9
  · exact .inl h9
  · exact h7.keep fun b cur hc ho => hr.block b (by obtain ⟨o, e⟩ := ho; exact h9 b o e) (blk_lt hc)
set_option maxRecDepth 100000 in
set_option maxHeartbeats 1000000 in
theorem rnDelYesS (rb nodes P : Nat) (bl : List ML) (x : ML) (p : List Bool) (w : World) (h : RN w rb nodes bl p) (hx : bl[P]? = some x) (hpr : prB nodes p x.f x.t = false) :
    Calls Try.prog 16 #[.pointer (some ⟨rb, 0, none⟩), .int .i64 (P : Int)] w fun r w' => r = .returned (.tuple #[.agg #[.int .i64 x.f, .int .i64 x.t, .string (strOfNums x.xs)], .int .i64 0]) ∧ RNs w.heap.size w' rb nodes (bl.eraseIdx P) p ∧ Rim rb w w' := by
  obtain ⟨n, hl⟩ : ∃ n, bl.length = n := ⟨_, rfl⟩
  have HL := Lib.hid hl
  have HH := Lib.hid h
  obtain ⟨h1, h2, h3, a, c, h4, h5, h6, h7, h8⟩ := h
  rw [hl] at h4 h3 h5
  have HB := Lib.hid h4
  have HS := Lib.hid h7
  have hc := h4.c1
  have hcl := h4.lt
  clear h4 h7 h8 hl h6
  have hPn : P < n := by have := (List.getElem?_eq_some_iff.1 hx).1; have := HL.out; omega
  have HX := Lib.hid hx
  have d1 : decide ((P : Int) < 0) = false := decide_eq_false (by omega)
  have d2 : decide ((n : Int) ≤ (P : Int)) = false := decide_eq_false (by omega)
  have hPi : (P : Int) < (n : Int) := by omega
  have ha : ∃ b o, a = some ⟨b, o, none⟩ := by
    rcases HS.out with h | ⟨b, o, e, _⟩
    · rw [h] at hx; simp at hx
    · exact ⟨b, o, e⟩
  obtain ⟨b, o, rfl⟩ := ha
  clear hx
  have HN6 := Lib.hid h1
  have HP6 := Lib.hid h2
  have HPR := Lib.hid hpr
  clear hpr h1 h2
  have D0 := Lib.hid (show Below w.heap.size w (w.alloc (.cells #[.int .i64 0, .int .i64 0, .string ⟨#[]⟩] 50)) from (Below.refl _ _).alloc (Nat.le_refl _) _)
  have HZ := Lib.hid (blk_new w #[.int .i64 0, .int .i64 0, .string ⟨#[]⟩] 50)
  have HB1 := Lib.hid (HB.out.ext D0.out)
  have HH1 := Lib.hid (HH.out.ext D0.out)
  have HS1 := Lib.hid (SAt.ext HS.out D0.out)
  clear hc hcl HB HH HS
  go_enter Try.func16, Try.ntmps16
  go_upto_region 1 with (fail)
  obtain ⟨r, hr⟩ : ∃ r, w.heap.size = r := ⟨_, rfl⟩
  have HRW0 := Lib.hid (show w.heap.size ≤ r from by omega)
  rw [hr] at HZ
  try rw [hr]
  clear hr
  generalize (w.alloc (.cells #[.int .i64 0, .int .i64 0, .string ⟨#[]⟩] 50)) = w1 at *
  have hc := HB1.out.c1
  have hcl := HB1.out.lt
  have y0 := HS1.out.get rlc_len HX.out 0 _ rfl
  have y1 := HS1.out.get rlc_len HX.out 1 _ rfl
  have y2 := HS1.out.get rlc_len HX.out 2 _ rfl
  simp only [Nat.add_zero] at y0
  have hbl := cell_lt y0
  go_upto_region 3 with (fail)
  haveI hIq : Nonempty (Of w1) := of_some _
  have hF0 := of_cell hc
  have hF1 := of_cell y0
  have hF2 := of_cell y1
  first | (refine wp_region_stay w1 (by kernel_rfl) (by kernel_rfl) (by go_grown) ?_) | (refine wp_region_stay_seq w1 (by go_grown) ?_)
  repeat (go_big_quiet_step ((go_at_call 30; with_reducible refine stay_same (rnPartedP rb nodes _ p x.f x.t false _ (HB1.out.ext (In.h _)) HN6.out HP6.out HPR.out))))
  refine wpQuiet_nil ?_
  intro w3 hb3
  clear hIq hF0 hF1 hF2
  have HZ3 := Lib.hid (blk_ext hb3 HZ.out)
  have HH3 := Lib.hid (HH1.out.ext hb3)
  have D3 := Lib.hid (ext_trans D0.out hb3)
  clear hb3 hc hcl y0 y1 y2 hbl HZ D0 HH1
  go_wp2_with fail
  refine (rnOutS rb nodes P bl x p _ HH3.out HX.out).mono ?_
  rintro e w4 ⟨rfl, h2, hr⟩
  have hrb : r ≠ rb := by
    rintro rfl
    obtain ⟨-, -, -, a', c', h4', -⟩ := HH3.out
    have := (RNB.blk h4').symm.trans HZ3.out
    simp at this
  have HZ4 := Lib.hid ((hr.block r hrb (blk_lt HZ3.out)).trans HZ3.out)
  have HSZ := Lib.hid (blk_lt HZ3.out)
  have HD3 := Lib.hid D3.out.size
  have H4 := Lib.hid h2
  have HR4 := Lib.hid ((Rim.of D3.out).trans hr)
  clear h2 hr HZ3 HH3
  have hk := blk_cell HZ4.out
  have hkl := blk_lt HZ4.out
  have hkf := blk_free HZ4.out
  go_wp2_with fail
  refine bodyPost_ret (v := .tuple #[.agg #[.int .i64 x.f, .int .i64 x.t, .string (strOfNums x.xs)], .int .i64 0]) (by have hk3 := blk_cell (blk_fill3 (v0 := .int .i64 x.f) (v1 := .int .i64 x.t) (v2 := .string (strOfNums x.xs)) HZ4.out rfl); simp [results, Try.results16, go_sem, hk3]) rfl ⟨rfl, ?_, ?_⟩
  · exact (H4.out.rimS (rim_set3 (Rim.of (Below.refl _ _))) HZ4.out HSZ.out).base HD3.out
  · exact rim_newL HR4.out HRW0.out HZ4.out (rim_set3 (Rim.of (Below.refl _ _)))

theorem rnDelA (q rb nodes : Nat) (bl : List ML) (i : Int) (p : List Bool) (w : World) (h : RNa q w rb nodes bl p) (hq : q < w.heap.size) :
    Calls Try.prog 16 #[.pointer (some ⟨rb, 0, none⟩), .int .i64 i] w fun r w' => r = .returned (.tuple #[.agg #[.int .i64 (delM nodes p bl i).2.1.f, .int .i64 (delM nodes p bl i).2.1.t, .string (strOfNums (delM nodes p bl i).2.1.xs)], .int .i64 (delM nodes p bl i).1]) ∧ RNa q w' rb nodes (delM nodes p bl i).2.2 p ∧ Rim rb w w' := by
  have hn := h.rn
  unfold delM
  by_cases hi : 0 ≤ i ∧ i < (bl.length : Int)
  · rw [if_pos hi]
    obtain ⟨P, rfl⟩ := Int.eq_ofNat_of_zero_le hi.1
    obtain ⟨y, hy⟩ : ∃ y, bl[P]? = some y := ⟨_, List.getElem?_eq_getElem (by omega)⟩
    rw [getD_of hy]
    rcases hpr : prB nodes p y.f y.t with _ | _
    · rw [if_neg (by decide)]
      refine (rnDelYesS rb nodes P bl y p w hn hy hpr).mono ?_
      rintro r w' ⟨e, ⟨k1, k2, k3, a, c, k4, k5, k6, k7, k8, k9⟩, hr⟩
      exact ⟨e, ⟨k1, k2, k3, a, c, k4, k5, k6, k7, k8, .inr fun b o e => by have := k9 b o e; omega⟩, hr⟩
    · rw [if_pos rfl]
      exact (rnDelCut rb nodes P bl y p w hn hy hpr).mono fun r w' ⟨e, hb⟩ => ⟨e, h.ext hb, Rim.of hb⟩
  · rw [if_neg hi]
    by_cases h0 : i < 0
    · exact (rnDelNo_lo rb nodes bl i p w hn h0).mono fun r w' ⟨e, hb⟩ => ⟨e, h.ext hb, Rim.of hb⟩
    · exact (rnDelNo_hi rb nodes bl i p w hn (by omega) (by omega)).mono fun r w' ⟨e, hb⟩ => ⟨e, h.ext hb, Rim.of hb⟩
theorem Rim.typ {b0 b : Nat} {w w' : World} {c0 cs : Array Value} {T T0 : TypeId} (hr : Rim b0 w w') (h0 : w.heap[b0]? = some (.cells c0 T0 (0, 0))) (h : w.heap[b]? = some (.cells cs T (0, 0))) (hT : T ≠ T0) : w'.heap[b]? = some (.cells cs T (0, 0)) :=
  (hr.block b (fun e => by subst e; rw [h0] at h; simp at h; exact hT h.2.symm) (blk_lt h)).trans h
end Go.Proofs.Ytkkmnodhmmdllaa
