/- Package queue's walks: rows of cards are copied and searched. -/
import Derived.Test.YtmpkkkcoiljhpaaCardRow
import Derived.Test.YtmpkkkcoiljhpaaBytes
import Derived.Lib.SliceRun
import Derived.Lib.MinMax
namespace Go.Proofs.Ytmpkkkcoiljhpaa
open Go.RowKit
set_option linter.unusedVariables false

/-- a slice of cards that may be read -/
def SlC (w : World) (v : Value) (cs : List Cd) : Prop := ∃ a c, v = .slice a cs.length c ∧ cs.length ≤ c ∧ c ≤ maxLen ∧ CAt w a cs ∧ ((a = none ∧ c = 0) ∨ ∃ b o, a = some ⟨b, o, none⟩)
theorem SlC.ext {w w' : World} {v : Value} {cs : List Cd} (h : SlC w v cs) (hb : Below w.heap.size w w') : SlC w' v cs := by
  obtain ⟨a, c, h1, h2, h3, h4, h5⟩ := h
  exact ⟨a, c, h1, h2, h3, h4.ext hb, h5⟩
theorem OwnC.sl {base : Nat} {w : World} {v : Value} {ls : List Cd} (h : OwnC base w v ls) : SlC w v ls := by
  obtain ⟨a, c, h1, h2, h3, h4, h5, h6⟩ := h.read
  refine ⟨a, c, h1, h2, h3, h4, ?_⟩
  rcases h6 with ⟨e1, e2, _⟩ | ⟨g, e⟩
  · exact .inl ⟨e1, e2⟩
  · exact .inr ⟨g, 0, e⟩
/-- have the cards one key? -/
def kq (x y : Cd) : Bool := decide (x.a = y.a) && decide (x.i = y.i)
theorem kq_yes {x y : Cd} (h : x.a = y.a) (h1 : x.i = y.i) : kq x y = true := by simp [kq, h, h1]
theorem kq_no {x y : Cd} (h : x.a ≠ y.a ∨ x.i ≠ y.i) : kq x y = false := by
  simp [kq]
  intro e
  rcases h with h | h
  · exact absurd e h
  · exact h
/-- the first card of y's key, from number q on -/
def ixF (y : Cd) : Nat → List Cd → Int
  | _, [] => -1
  | q, x :: l => if kq x y then (q : Int) else ixF y (q + 1) l

set_option maxRecDepth 100000 in
set_option maxHeartbeats 1000000 in
theorem cloneC (a : Option Addr) (n c : Nat) (ls : List Cd) (w : World) (h : CAt w a ls) (hl : ls.length = n) (hn : n ≤ 1000) (hf : (a = none ∧ c = 0) ∨ ∃ b o, a = some ⟨b, o, none⟩) :
    Calls Try.prog 25 #[.slice a n c] w fun e w' => ∃ v', e = .returned v' ∧ OwnC w.heap.size w' v' ls ∧ Below w.heap.size w w' := by
  obtain ⟨i0, hi, hz0, hz1, hz2⟩ := info_parts' info_card
  rcases hf with ⟨rfl, rfl⟩ | ⟨b, o, rfl⟩
  · have h0 : ls = [] := by
      rcases h with h | ⟨b, o, e, _⟩
      · exact h
      · cases e
    subst h0
    have hn0 : n = 0 := by simpa using hl.symm
    subst hn0
    have hq := (fun w : World => Lib.run_eql_slice_nil (P := Try.prog) w 25 39 none 0 0 0 0 Try.underlying25)
    clear h hl
    go_enter Try.func25, Try.ntmps25
    go_wp2
    go_ret
    exact ⟨_, rfl, OwnR.nil _ _, Below.refl _ _⟩
  · have HN := Lib.hid hl
    have hq := (fun w : World => Lib.run_eql_slice_nil (P := Try.prog) w 25 39 (some ⟨b, o, none⟩) n c 0 0 Try.underlying25)
    have O0 := (OwnR.made (enc := cc) (k := 9) (T := 39) w.heap.size w (Nat.le_refl _))
    have B0 : Below w.heap.size w (w.alloc (.cells #[] 39)) := (Below.refl _ _).alloc (Nat.le_refl _) _
    have hcells := Lib.hid (show ∀ j u, (flat cc ls)[j]? = some u → (w.alloc (.cells #[] 39)).cell? ((⟨b, o, none⟩ : Addr).add j) = some u from fun j u hj => by
      rw [add_off]
      rcases h with h | ⟨b', o', e, _, h⟩
      · rw [h] at hj; simp [flat] at hj
      · simp at e
        obtain ⟨rfl, rfl⟩ := e
        exact ext_cell B0 (h j u hj))
    clear h hl
    go_enter Try.func25, Try.ntmps25
    go_wp2_with (at_builtin; refine wpList_append_own _ rfl _ _ 25 rfl (w.heap.size) 39 i0 Cd.zero.v 9 88 Try.underlying25 hi hz0 hz1 hz2 rfl (by decide) (.slice (some ⟨w.heap.size, 0, none⟩) 0 0) 0 (flat cc []) rfl O0 ⟨b, o, none⟩ n c (flat cc ls) rfl ?c0 ?c1 ?c2 ?c3 ?c4 ?c5 ?_)
    case c0 => rw [flat_len cc_len, HN.out]
    case c1 => exact hcells.out
    case c2 => exact flat_one cc_one ls
    case c3 => unfold maxLen; omega
    case c4 => omega
    case c5 => exact B0.size
    intro v' w1 ho hg _
    have B1 := B0.grown hg B0.size (fun q hq => own_ge O0 hq)
    have ho' := Lib.hid (show OwnC w.heap.size w1 v' ls by unfold OwnC OwnR; rw [HN.out]; simpa [flat_nil] using ho)
    clear ho hg O0 B0 hq
    go_wp2
    go_ret
    exact ⟨_, rfl, ho'.out, B1⟩

set_option maxRecDepth 100000 in
set_option maxHeartbeats 1000000 in
theorem keySame (x y : Cd) (s : Nat) (w : World) (hs : w.heap[s]? = some (.cells #[.string y.a, .string y.i, .int .i64 y.s, .int .i64 y.o, .int .i64 y.l, .int .i64 y.t, .int .i64 y.k, .int .i64 y.n, .bool y.g] 39 (0, 0))) :
    Calls Try.prog 32 #[.agg #[.string x.a, .string x.i, .int .i64 x.s, .int .i64 x.o, .int .i64 x.l, .int .i64 x.t, .int .i64 x.k, .int .i64 x.n, .bool x.g], .pointer (some ⟨s, 0, none⟩)] w fun e w' => e = .returned (.bool (kq x y)) ∧ Below w.heap.size w w' := by
  have hc := blk_cell hs
  have hl := blk_lt hs
  clear hs
  by_cases h1 : x.a = y.a
  · by_cases h2 : x.i = y.i
    · rw [kq_yes h1 h2]
      rw [h1, h2]
      go_enter Try.func32, Try.ntmps32
      go_wp2
      go_ret
      exact ⟨rfl, (Below.refl _ _).alloc (Nat.le_refl _) _⟩
    · rw [kq_no (.inr h2), h1]
      have h3 : ¬ x.i.toList = y.i.toList := fun e => h2 (str_inj e)
      clear h2
      go_enter Try.func32, Try.ntmps32
      go_wp2
      all_goals first | (go_ret; exact ⟨rfl, (Below.refl _ _).alloc (Nat.le_refl _) _⟩) | skip
  · rw [kq_no (.inl h1)]
    have h3 : ¬ x.a.toList = y.a.toList := fun e => h1 (str_inj e)
    clear h1
    go_enter Try.func32, Try.ntmps32
    go_wp2
    all_goals first | (go_ret; exact ⟨rfl, (Below.refl _ _).alloc (Nat.le_refl _) _⟩) | skip

theorem ixF_hit (y : Cd) (q : Nat) (x : Cd) (l : List Cd) (h : kq x y = true) : ixF y q (x :: l) = q := by simp [ixF, h]
theorem ixF_miss (y : Cd) (q : Nat) (x : Cd) (l : List Cd) (h : kq x y = false) : ixF y q (x :: l) = ixF y (q + 1) l := by simp [ixF, h]
theorem drop_at {α : Type} {l : List α} {i : Nat} {x : α} (h : l[i]? = some x) : l.drop i = x :: l.drop (i + 1) := by
  have hlt : i < l.length := by
    rcases Nat.lt_or_ge i l.length with h' | h'
    · exact h'
    · rw [List.getElem?_eq_none h'] at h; cases h
  rw [List.drop_eq_getElem_cons hlt]
  rw [List.getElem?_eq_getElem hlt] at h
  cases h
  rfl
set_option maxRecDepth 100000 in
set_option maxHeartbeats 1000000 in
theorem indexC (a : Option Addr) (n c : Nat) (ls : List Cd) (y : Cd) (s : Nat) (w : World) (h : CAt w a ls) (hl : ls.length = n) (hc : n ≤ c) (hm : c ≤ maxLen) (hn : n ≤ 1000) (hs : w.heap[s]? = some (.cells #[.string y.a, .string y.i, .int .i64 y.s, .int .i64 y.o, .int .i64 y.l, .int .i64 y.t, .int .i64 y.k, .int .i64 y.n, .bool y.g] 39 (0, 0))) :
    Calls Try.prog 33 #[.slice a n c, .func (.func 32) #[] #[.pointer (some ⟨s, 0, none⟩)]] w fun e w' => e = .returned (.int .i64 (ixF y 0 ls)) ∧ Below w.heap.size w w' := by
  have HA := Lib.hid h
  have HL := Lib.hid hl
  have HS := Lib.hid hs
  unfold maxLen at hm
  clear h hl hs
  go_enter Try.func33, Try.ntmps33
  go_wp2_with fail
  go_loopw [8] (fun i wr => ∃ p : Nat, p ≤ n ∧ i = .int .i64 (p : Int) ∧ ixF y 0 ls = ixF y p (ls.drop p) ∧ Below w.heap.size w wr) (fun i _ => n - (intOf i).toNat)
  case atStart => exact ⟨0, by omega, rfl, rfl, Below.refl _ _⟩
  case round =>
    obtain ⟨w2, rfl⟩ : ∃ y : World, y = wr := ⟨_, rfl⟩
    obtain ⟨p, hp, rfl, hix, B2⟩ := hrel
    have HIX := Lib.hid hix
    clear hix
    by_cases hlt : p < n
    · obtain ⟨x, hx⟩ : ∃ x, ls[p]? = some x := ⟨_, List.getElem?_eq_getElem (by have := HL.out; omega)⟩
      have HS2 := Lib.hid (blk_ext B2 HS.out)
      have HDR := Lib.hid (drop_at hx)
      obtain ⟨b, o, rfl⟩ : ∃ b o, a = some ⟨b, o, none⟩ := by
        rcases HA.out with h | ⟨b, o, e, _⟩
        · rw [h] at hx; simp at hx
        · exact ⟨b, o, e⟩
      obtain ⟨x0, x1, x2, x3, x4, x5, x6, x7, x8⟩ := (HA.out.ext B2).at hx
      clear hx
      cases hq : kq x y
      · have HQ := Lib.hid hq
        clear hq
        go_wp2_with fail
        refine (keySame x y s _ HS2.out).mono ?_
        rintro e w3 ⟨rfl, hb⟩
        rw [HQ.out]
        have B3 := ext_trans B2 hb
        clear hb
        go_wp2
        go_roundw
        case rel => exact ⟨p + 1, by omega, by go_num, by rw [HIX.out, HDR.out, ixF_miss _ _ _ _ HQ.out], B3⟩
        case measure => simp [intOf]; omega
      · have HQ := Lib.hid hq
        clear hq
        go_wp2_with fail
        refine (keySame x y s _ HS2.out).mono ?_
        rintro e w3 ⟨rfl, hb⟩
        rw [HQ.out]
        have B3 := ext_trans B2 hb
        clear hb
        go_wp2
        go_ret
        exact ⟨by rw [HIX.out, HDR.out, ixF_hit _ _ _ _ HQ.out]; rfl, B3⟩
    · obtain rfl : p = n := by omega
      have HE := Lib.hid (show ixF y 0 ls = -1 by rw [HIX.out, List.drop_of_length_le (by have := HL.out; omega)]; rfl)
      go_wp2
      go_ret
      exact ⟨by rw [HE.out]; rfl, B2⟩

set_option maxRecDepth 100000 in
set_option maxHeartbeats 1000000 in
theorem deleteF_no (a : Option Addr) (n c : Nat) (ls : List Cd) (y : Cd) (s : Nat) (w : World) (h : CAt w a ls) (hl : ls.length = n) (hc : n ≤ c) (hm : c ≤ maxLen) (hn : n ≤ 1000) (hno : ixF y 0 ls = -1) (hs : w.heap[s]? = some (.cells #[.string y.a, .string y.i, .int .i64 y.s, .int .i64 y.o, .int .i64 y.l, .int .i64 y.t, .int .i64 y.k, .int .i64 y.n, .bool y.g] 39 (0, 0))) :
    Calls Try.prog 31 #[.slice a n c, .func (.func 32) #[] #[.pointer (some ⟨s, 0, none⟩)]] w fun e w' => e = .returned (.slice a n c) ∧ Below w.heap.size w w' := by
  have HA := Lib.hid h
  have HL := Lib.hid hl
  have HS := Lib.hid hs
  have HM := Lib.hid hm
  have HNO := Lib.hid hno
  clear h hl hs hm hno
  go_enter Try.func31, Try.ntmps31
  go_wp2_with fail
  refine (indexC a n c ls y s _ HA.out HL.out hc HM.out hn HS.out).mono ?_
  rintro e w1 ⟨rfl, hb⟩
  rw [HNO.out]
  go_wp2
  go_ret
  exact ⟨rfl, hb⟩

end Go.Proofs.Ytmpkkkcoiljhpaa
