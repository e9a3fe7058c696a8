/- Readers of bytes: package pack's, and the document's own. -/
import Derived.Test.YtcafmjcjhncpjaaPackW
namespace Go.Proofs.Ytcafmjcjhncpjaa
open Go.RowKit
set_option linter.unusedVariables false

/-- a reader: what is left, whether it is bad -/
abbrev Rs := List Int × Bool
def tk (s : Rs) (n : Nat) : List Int × Rs := if s.2 = true ∨ s.1.length < n then ([], (s.1, true)) else (s.1.take n, (s.1.drop n, false))
theorem tk_bad {s : Rs} {n : Nat} (h : s.2 = true ∨ s.1.length < n) : tk s n = ([], (s.1, true)) := by simp [tk, h]
theorem tk_ok {s : Rs} {n : Nat} (h : s.2 = false) (k : n ≤ s.1.length) : tk s n = (s.1.take n, (s.1.drop n, false)) := by
  unfold tk; rw [if_neg (by simp [h]; omega)]
theorem tk_wb {s : Rs} (n : Nat) (h : Wb s.1) : Wb (tk s n).1 ∧ Wb (tk s n).2.1 := by
  unfold tk; split
  · exact ⟨Wb.nil, h⟩
  · exact ⟨h.take n, h.drop n⟩
theorem tk_len (s : Rs) (n : Nat) : (tk s n).1.length = 0 ∨ (tk s n).1.length = n := by
  unfold tk; split
  · exact .inl rfl
  · rename_i h; right; simp only [List.length_take]; omega
theorem tk_le (s : Rs) (n : Nat) : (tk s n).2.1.length ≤ s.1.length := by
  unfold tk; split
  · exact Nat.le_refl _
  · simp
def tInt (s : Rs) : Int × Rs := (rd (tk s 8).1, (tk s 8).2)
def tByte (s : Rs) : Int × Rs := ((tk s 1).1.headD 0, (tk s 1).2)
theorem tByte_in (s : Rs) (h : Wb s.1) : 0 ≤ (tByte s).1 ∧ (tByte s).1 < 256 := by
  have h1 := (tk_wb 1 h).1
  unfold tByte
  cases e : (tk s 1).1 with
  | nil => simp
  | cons x xs => rw [e] at h1; exact h1 x (by simp)
def tText (s : Rs) : ByteArray × Rs := (strOfNums (tk (tByte s).2 (tByte s).1.toNat).1, (tk (tByte s).2 (tByte s).1.toNat).2)
def dn' (s : Rs) : Bool := !s.2 && decide (s.1.length = 0)

/-- at block rb a reader of type T lies -/
def RdAt (T : TypeId) (w : World) (rb : Nat) (s : Rs) : Prop := ∃ (a : Option Addr) (cap : Nat), w.heap[rb]? = some (.cells #[.slice a s.1.length cap, .bool s.2] T (0, 0)) ∧ s.1.length ≤ cap ∧ cap ≤ maxLen ∧ BAt w a s.1 ∧ Wb s.1 ∧ ((a = none ∧ cap = 0) ∨ ∃ b o, a = some ⟨b, o, none⟩)
theorem RdAt.lt {T : TypeId} {w : World} {rb : Nat} {s : Rs} (h : RdAt T w rb s) : rb < w.heap.size := by
  obtain ⟨a, cap, h1, _⟩ := h; exact blk_lt h1
theorem RdAt.wb {T : TypeId} {w : World} {rb : Nat} {s : Rs} (h : RdAt T w rb s) : Wb s.1 := by
  obtain ⟨a, cap, h1, h2, h3, h4, h5, _⟩ := h; exact h5
theorem RdAt.ext {T : TypeId} {w w' : World} {rb : Nat} {s : Rs} (h : RdAt T w rb s) (hb : Below w.heap.size w w') : RdAt T w' rb s := by
  obtain ⟨a, cap, h1, h2, h3, h4, h5, h6⟩ := h
  exact ⟨a, cap, blk_ext hb h1, h2, h3, h4.ext hb, h5, h6⟩
/-- bytes stay where a reader is written: its block is none of theirs -/
theorem BAt.kept {T : TypeId} {w w' : World} {rb : Nat} {s : Rs} {a : Option Addr} {xs : List Int} (h : BAt w a xs) (hr : RdAt T w rb s) (hk : Kept rb w w') : BAt w' a xs := by
  obtain ⟨a', cap', h1, _⟩ := hr
  rcases h with h | ⟨b, o, e, h⟩
  · exact .inl h
  · refine .inr ⟨b, o, e, fun i n hi => ?_⟩
    have hc := h i n hi
    refine hk.cell ?_ hc
    rintro rfl
    rw [blk_cell h1] at hc
    match o + i, hc with
    | 0, hc => simp at hc
    | 1, hc => simp at hc
    | k + 2, hc => simp at hc
theorem RdAt.kept {T T' : TypeId} {w w' : World} {rb rb' : Nat} {s s' : Rs} (h : RdAt T w rb s) (hr : RdAt T' w rb' s') (hk : Kept rb' w w') (hn : rb ≠ rb') : RdAt T w' rb s := by
  have hr' := hr
  obtain ⟨a, cap, h1, h2, h3, h4, h5, h6⟩ := h
  exact ⟨a, cap, (hk.block rb hn).trans h1, h2, h3, h4.kept hr hk, h5, h6⟩
theorem RdAt.ne {T T' : TypeId} {w : World} {rb rb' : Nat} {s s' : Rs} (h : RdAt T w rb s) (k : RdAt T' w rb' s') (hT : T ≠ T') : rb ≠ rb' := by
  rintro rfl
  obtain ⟨a, cap, h1, _⟩ := h
  obtain ⟨a', cap', k1, _⟩ := k
  rw [h1] at k1
  simp at k1
  exact hT k1.2

def Took (T : TypeId) (rb : Nat) (s : Rs) (n : Nat) (w : World) (e : Ending) (w' : World) : Prop :=
  ∃ (a : Option Addr) (c : Nat), e = .returned (.slice a (tk s n).1.length c) ∧ BAt w' a (tk s n).1 ∧ RdAt T w' rb (tk s n).2 ∧ Kept rb w w'
theorem took_bad {T : TypeId} {rb : Nat} {s : Rs} {n : Nat} {w : World} (h : RdAt T w rb s) (hb : s.2 = true ∨ s.1.length < n) : Took T rb s n w (.returned (.slice none 0 0)) (w.setCell ⟨rb, 1, none⟩ (.bool true)) := by
  have hr := h
  obtain ⟨a, cap, h1, h2, h3, h4, h5, h6⟩ := h
  have hk : Kept rb w (w.setCell ⟨rb, 1, none⟩ (.bool true)) := (Kept.refl _ _).setCell _ _
  unfold Took
  rw [tk_bad hb]
  exact ⟨none, 0, rfl, .inl rfl, ⟨a, cap, blk_set h1 (by simp), h2, h3, h4.kept hr hk, h5, h6⟩, hk⟩
theorem took_ok {T : TypeId} {rb : Nat} {s : Rs} {n : Nat} {w : World} {a a' : Option Addr} {cap c c' : Nat} (h1 : w.heap[rb]? = some (.cells #[.slice a s.1.length cap, .bool s.2] T (0, 0))) (h2 : s.1.length ≤ cap) (h3 : cap ≤ maxLen) (h4 : BAt w a s.1) (h5 : Wb s.1) (h6 : (a = none ∧ cap = 0) ∨ ∃ b o, a = some ⟨b, o, none⟩)
    (hb : s.2 = false) (hn : n ≤ s.1.length) (hc : c' = cap - n) (ha : (a' = none ∧ a = none) ∨ (∃ b o, a = some ⟨b, o, none⟩ ∧ a' = some ⟨b, o + n, none⟩) ∨ ∃ b o, a = some ⟨b, o, none⟩ ∧ a' = some ⟨b, o, none⟩ ∧ n = s.1.length) :
    Took T rb s n w (.returned (.slice a n c)) (w.setCell ⟨rb, 0, none⟩ (.slice a' (s.1.length - n) c')) := by
  have hr : RdAt T w rb s := ⟨a, cap, h1, h2, h3, h4, h5, h6⟩
  have hk : Kept rb w (w.setCell ⟨rb, 0, none⟩ (.slice a' (s.1.length - n) c')) := (Kept.refl _ _).setCell _ _
  unfold Took
  rw [tk_ok hb hn]
  have e1 : (s.1.take n).length = n := by simp; omega
  have e2 : (s.1.drop n).length = s.1.length - n := by simp
  refine ⟨a, c, by rw [e1], (h4.take n).kept hr hk, ⟨a', c', ?_, by rw [e2]; omega, by omega, ?_, h5.drop n, ?_⟩, hk⟩
  · have := blk_set (n := 0) (u := .slice a' (s.1.length - n) c') h1 (by simp; rfl)
    rw [e2, ← hb]; exact this
  · rcases ha with ⟨rfl, rfl⟩ | ⟨b, o, rfl, rfl⟩ | ⟨b, o, rfl, rfl, he⟩
    · rcases h4 with h | ⟨b, o, e, _⟩
      · left; simp [h]
      · cases e
    · exact (h4.drop n).kept hr hk
    · left; simp [he]
  · rcases ha with ⟨rfl, rfl⟩ | ⟨b, o, rfl, rfl⟩ | ⟨b, o, rfl, rfl, he⟩
    · left; refine ⟨rfl, ?_⟩
      rcases h6 with ⟨_, h⟩ | ⟨b, o, e⟩
      · omega
      · cases e
    · exact .inr ⟨_, _, rfl⟩
    · exact .inr ⟨_, _, rfl⟩

set_option maxRecDepth 100000 in
set_option maxHeartbeats 1000000 in
theorem packTake (rb : Nat) (s : Rs) (m : Int) (w : World) (h : RdAt 46 w rb s) (hm : 0 ≤ m) :
    Calls Try.prog 28 #[.pointer (some ⟨rb, 0, none⟩), .int .i64 m] w (Took 46 rb s m.toNat w) := by
  obtain ⟨xs, bad⟩ := s
  obtain ⟨n, rfl⟩ := Int.eq_ofNat_of_zero_le hm
  rw [Int.toNat_natCast]
  have hr := Lib.hid h
  obtain ⟨a, cap, h1, h2, h3, h4, h5, h6⟩ := h
  simp only [] at h1 h2 h4 h5
  have hc := blk_cell h1
  have hf := blk_free h1
  have hl := blk_lt h1
  have H1 := Lib.hid h1
  have H3 := Lib.hid h3
  have H4 := Lib.hid h4
  have H5 := Lib.hid h5
  have H6 := Lib.hid h6
  unfold maxLen at h3
  clear h1 h4 h5 h6
  cases bad
  case true =>
    go_enter Try.func28, Try.ntmps28
    go_wp2
    go_ret
    exact took_bad hr.out (.inl rfl)
  case false =>
    by_cases hlt : xs.length < n
    · go_enter Try.func28, Try.ntmps28
      go_wp2
      go_ret
      exact took_bad hr.out (.inr hlt)
    · have hd : decide ((xs.length : Int) < n) = false := by simp; omega
      have hle : n ≤ xs.length := by omega
      have hle2 : n ≤ cap := by omega
      rcases H6.out with ⟨rfl, hc0⟩ | ⟨b, o, rfl⟩
      · have hx0 : xs.length = 0 := by omega
        have hn0 : n = 0 := by omega
        subst hc0
        subst hn0
        have HX := Lib.hid hx0
        rw [hx0] at hc
        clear hx0
        go_enter Try.func28, Try.ntmps28
        go_wp2
        go_ret
        have hX := HX.out
        have := took_ok (s := (xs, false)) (n := 0) (a := none) (cap := 0) (c := 0) (c' := 0) (a' := none) H1.out (Nat.le_of_eq hX) H3.out H4.out H5.out (.inl ⟨rfl, rfl⟩) rfl (Nat.zero_le _) rfl (.inl ⟨rfl, rfl⟩)
        simpa [hX] using this
      · by_cases hcn : cap = n
        · subst hcn
          have hxn : xs.length = cap := by omega
          have HX := Lib.hid hxn
          rw [hxn] at hc
          clear hxn
          go_enter Try.func28, Try.ntmps28
          go_wp2
          go_ret
          have hX := HX.out
          have := took_ok (s := (xs, false)) (n := cap) (a := some ⟨b, o, none⟩) (cap := cap) (c := cap) (c' := 0) (a' := some ⟨b, o, none⟩) H1.out (Nat.le_of_eq hX) H3.out H4.out H5.out (.inr ⟨b, o, rfl⟩) rfl (Nat.le_of_eq hX.symm) (by omega) (.inr (.inr ⟨b, o, rfl, rfl, hX.symm⟩))
          simpa [hX] using this
        · go_enter Try.func28, Try.ntmps28
          go_wp2
          go_ret
          exact took_ok H1.out h2 H3.out H4.out H5.out H6.out rfl hle rfl (.inr (.inl ⟨b, o, rfl, rfl⟩))

set_option maxRecDepth 100000 in
set_option maxHeartbeats 1000000 in
theorem refTake (rb : Nat) (s : Rs) (m : Int) (w : World) (h : RdAt 43 w rb s) (hm : 0 ≤ m) :
    Calls Try.prog 29 #[.pointer (some ⟨rb, 0, none⟩), .int .i64 m] w (Took 43 rb s m.toNat w) := by
  obtain ⟨xs, bad⟩ := s
  obtain ⟨n, rfl⟩ := Int.eq_ofNat_of_zero_le hm
  rw [Int.toNat_natCast]
  have hr := Lib.hid h
  obtain ⟨a, cap, h1, h2, h3, h4, h5, h6⟩ := h
  simp only [] at h1 h2 h4 h5
  have hc := blk_cell h1
  have hf := blk_free h1
  have hl := blk_lt h1
  have H1 := Lib.hid h1
  have H3 := Lib.hid h3
  have H4 := Lib.hid h4
  have H5 := Lib.hid h5
  have H6 := Lib.hid h6
  unfold maxLen at h3
  clear h1 h4 h5 h6
  cases bad
  case true =>
    go_enter Try.func29, Try.ntmps29
    go_wp2
    go_ret
    exact took_bad hr.out (.inl rfl)
  case false =>
    by_cases hlt : xs.length < n
    · go_enter Try.func29, Try.ntmps29
      go_wp2
      go_ret
      exact took_bad hr.out (.inr hlt)
    · have hd : decide ((xs.length : Int) < n) = false := by simp; omega
      have hle : n ≤ xs.length := by omega
      have hle2 : n ≤ cap := by omega
      rcases H6.out with ⟨rfl, hc0⟩ | ⟨b, o, rfl⟩
      · have hx0 : xs.length = 0 := by omega
        have hn0 : n = 0 := by omega
        subst hc0
        subst hn0
        have HX := Lib.hid hx0
        rw [hx0] at hc
        clear hx0
        go_enter Try.func29, Try.ntmps29
        go_wp2
        go_ret
        have hX := HX.out
        have := took_ok (s := (xs, false)) (n := 0) (a := none) (cap := 0) (c := 0) (c' := 0) (a' := none) H1.out (Nat.le_of_eq hX) H3.out H4.out H5.out (.inl ⟨rfl, rfl⟩) rfl (Nat.zero_le _) rfl (.inl ⟨rfl, rfl⟩)
        simpa [hX] using this
      · by_cases hcn : cap = n
        · subst hcn
          have hxn : xs.length = cap := by omega
          have HX := Lib.hid hxn
          rw [hxn] at hc
          clear hxn
          go_enter Try.func29, Try.ntmps29
          go_wp2
          go_ret
          have hX := HX.out
          have := took_ok (s := (xs, false)) (n := cap) (a := some ⟨b, o, none⟩) (cap := cap) (c := cap) (c' := 0) (a' := some ⟨b, o, none⟩) H1.out (Nat.le_of_eq hX) H3.out H4.out H5.out (.inr ⟨b, o, rfl⟩) rfl (Nat.le_of_eq hX.symm) (by omega) (.inr (.inr ⟨b, o, rfl, rfl, hX.symm⟩))
          simpa [hX] using this
        · go_enter Try.func29, Try.ntmps29
          go_wp2
          go_ret
          exact took_ok H1.out h2 H3.out H4.out H5.out H6.out rfl hle rfl (.inr (.inl ⟨b, o, rfl, rfl⟩))

/-- what a reader answers, and what is left -/
def Got (T : TypeId) (rb : Nat) (v : Value) (s : Rs) (w : World) (e : Ending) (w' : World) : Prop := e = .returned v ∧ RdAt T w' rb s ∧ Kept rb w w'
theorem take_snoc (ys : List Int) (k : Nat) (x : Int) (h : ys[k]? = some x) : ys.take (k + 1) = ys.take k ++ [x] := by
  obtain ⟨hk, rfl⟩ := List.getElem?_eq_some_iff.1 h
  rw [List.take_succ_eq_append_getElem hk]
theorem wrap_i64_in (x : Int) : -9223372036854775808 ≤ IntKind.i64.wrap x ∧ IntKind.i64.wrap x ≤ 9223372036854775807 := by rw [IntKind.wrap_i64]; omega
theorem wrap_u64_in (x : Int) : 0 ≤ IntKind.u64.wrap x ∧ IntKind.u64.wrap x ≤ 18446744073709551615 := by rw [IntKind.wrap_u64]; omega

set_option maxRecDepth 100000 in
set_option maxHeartbeats 1000000 in
theorem packRInt (rb : Nat) (s : Rs) (w : World) (h : RdAt 46 w rb s) :
    Calls Try.prog 18 #[.pointer (some ⟨rb, 0, none⟩)] w (Got 46 rb (.int .i64 (tInt s).1) (tInt s).2 w) := by
  have H := Lib.hid h
  have hwb := (tk_wb 8 h.wb).1
  clear h
  go_enter Try.func18, Try.ntmps18
  go_wp2_with fail
  refine (packTake rb s 8 _ H.out (by omega)).mono ?_
  rintro e w1 ⟨a, c, rfl, hA, hR, hK⟩
  rw [show (8 : Int).toNat = 8 from rfl] at *
  have HA := Lib.hid hA
  have HR := Lib.hid hR
  have HK := Lib.hid hK
  have HW := Lib.hid hwb
  have hlen : (tk s 8).1.length ≤ 8 := by rcases tk_len s 8 with h | h <;> omega
  have hfin : tInt s = (rd (tk s 8).1, (tk s 8).2) := rfl
  have HF := Lib.hid hfin
  clear hA hR hK hwb hfin
  generalize (tk s 8).2 = s2 at *
  generalize (tk s 8).1 = ys at *
  obtain ⟨L, hL⟩ : ∃ L, ys.length = L := ⟨_, rfl⟩
  have HL := Lib.hid hL
  rw [hL] at hlen ⊢
  clear hL
  go_wp2_with fail
  go_loopw [3, 9] (fun v i wr => ∃ k : Nat, k ≤ L ∧ i = .int .i64 (k : Int) ∧ v = .int .i64 (IntKind.i64.wrap (rdU (ys.take k))) ∧ wr = w1) (fun _ i _ => L - (intOf i).toNat)
  case atStart => exact ⟨0, by omega, rfl, rfl, rfl⟩
  case round =>
    obtain ⟨k, hk, rfl, rfl, rfl⟩ := hrel
    by_cases hlt : k < L
    · obtain ⟨x, hx⟩ : ∃ x, ys[k]? = some x := ⟨_, List.getElem?_eq_getElem (by have := HL.out; omega)⟩
      rcases HA.out with h0 | ⟨b, o, rfl, hcell⟩
      · have := HL.out; rw [h0] at this; simp at this; omega
      · have hcx := hcell k x hx
        obtain ⟨hx0, hx1⟩ := HW.out x (List.mem_of_getElem? hx)
        have hsn := Lib.hid (take_snoc ys k x hx)
        have hor := or_i64 (rdU (ys.take k)) x hx0 hx1
        obtain ⟨hv0, hv1⟩ := wrap_i64_in (rdU (ys.take k))
        have HO := Lib.hid hor
        clear hcell hx hor
        go_wp2_with fail
        refine ⟨⟨k + 1, by omega, by go_num, ?_, trivial⟩, by simp [intOf]; omega⟩
        rw [hsn.out, rdU_snoc]
        simp only [w64_eq]
        exact congrArg (Value.int .i64) HO.out
    · obtain rfl : k = L := by omega
      have hT : ys.take ys.length = ys := List.take_length
      rw [HL.out] at hT
      have HT := Lib.hid hT
      clear hT
      go_wp2
      go_ret
      rw [HF.out]
      have hT := HT.out
      exact ⟨congrArg (fun z => Ending.returned (Value.int .i64 z)) (by rw [hT]; rfl), HR.out, HK.out⟩

set_option maxRecDepth 100000 in
set_option maxHeartbeats 1000000 in
theorem packRByte (rb : Nat) (s : Rs) (w : World) (h : RdAt 46 w rb s) :
    Calls Try.prog 20 #[.pointer (some ⟨rb, 0, none⟩)] w (Got 46 rb (.int .i64 (tByte s).1) (tByte s).2 w) := by
  have H := Lib.hid h
  have hwb := (tk_wb 1 h.wb).1
  clear h
  go_enter Try.func20, Try.ntmps20
  go_wp2_with fail
  refine (packTake rb s 1 _ H.out (by omega)).mono ?_
  rintro e w1 ⟨a, c, rfl, hA, hR, hK⟩
  rw [show (1 : Int).toNat = 1 from rfl] at *
  have HA := Lib.hid hA
  have HR := Lib.hid hR
  have HK := Lib.hid hK
  have hlen := tk_len s 1
  have hfin : tByte s = ((tk s 1).1.headD 0, (tk s 1).2) := rfl
  have HF := Lib.hid hfin
  clear hA hR hK hfin
  generalize (tk s 1).2 = s2 at *
  generalize (tk s 1).1 = ys at *
  match ys, hlen with
  | [], _ =>
    go_wp2
    go_ret
    rw [HF.out]
    exact ⟨rfl, HR.out, HK.out⟩
  | [x], _ =>
    obtain ⟨hx0, hx1⟩ := hwb x (by simp)
    rcases HA.out with h0 | ⟨b, o, rfl, hcell⟩
    · cases h0
    · have hcx := hcell 0 x rfl
      rw [Nat.add_zero] at hcx
      clear hcell hwb
      go_wp2
      go_ret
      rw [HF.out]
      exact ⟨rfl, HR.out, HK.out⟩
  | x :: y :: zs, h => simp at h



set_option maxRecDepth 100000 in
set_option maxHeartbeats 1000000 in
theorem packRText (rb : Nat) (s : Rs) (w : World) (h : RdAt 46 w rb s) :
    Calls Try.prog 19 #[.pointer (some ⟨rb, 0, none⟩)] w (Got 46 rb (.string (tText s).1) (tText s).2 w) := by
  have H := Lib.hid h
  have hin := tByte_in s h.wb
  clear h
  go_enter Try.func19, Try.ntmps19
  go_wp2_with fail
  refine (packRByte rb s _ H.out).mono ?_
  rintro e w1 ⟨rfl, hR, hK⟩
  have hfin : tText s = (strOfNums (tk (tByte s).2 (tByte s).1.toNat).1, (tk (tByte s).2 (tByte s).1.toNat).2) := rfl
  have HF := Lib.hid hfin
  have HR := Lib.hid hR
  have HK := Lib.hid hK
  clear hfin hR hK
  generalize (tByte s).2 = s2 at *
  generalize (tByte s).1 = m at *
  go_wp2_with fail
  refine (packTake rb s2 m _ HR.out (by omega)).mono ?_
  rintro e w2 ⟨a, c, rfl, hA, hR, hK⟩
  have hcv := run_text (P := Try.prog) w2 23 5 Try.underlying23 Try.underlying5 9 Try.underlying9 a _ c _ rfl hA
  have HR2 := Lib.hid hR
  have HK2 := Lib.hid hK
  clear hA hR hK
  generalize (tk s2 m.toNat).2 = s3 at *
  generalize (tk s2 m.toNat).1 = ys at *
  go_wp2
  go_ret
  rw [HF.out]
  exact ⟨rfl, HR2.out, HK.out.trans HK2.out⟩

set_option maxHeartbeats 400000 in
theorem packRDone (rb : Nat) (s : Rs) (w : World) (h : RdAt 46 w rb s) :
    Calls Try.prog 17 #[.pointer (some ⟨rb, 0, none⟩)] w fun e w' => e = .returned (.bool (dn' s)) ∧ w = w' := by
  obtain ⟨xs, bad⟩ := s
  obtain ⟨a, cap, h1, h2, h3, h4, h5, h6⟩ := h
  simp only [] at h1 h2
  have hl : xs.length ≤ maxLen := Nat.le_trans h2 h3
  have hc := blk_cell h1
  have hlt := blk_lt h1
  unfold maxLen at hl
  clear h1 h2 h3 h4 h5 h6
  cases bad
  all_goals
    go_enter Try.func17, Try.ntmps17
    go_wp2
    go_ret
    exact ⟨by cases xs with | nil => simp [dn'] | cons x t => (simp [dn']; try omega), rfl⟩

set_option maxRecDepth 100000 in
set_option maxHeartbeats 1000000 in
theorem refRInt (rb : Nat) (s : Rs) (w : World) (h : RdAt 43 w rb s) :
    Calls Try.prog 23 #[.pointer (some ⟨rb, 0, none⟩)] w (Got 43 rb (.int .i64 (tInt s).1) (tInt s).2 w) := by
  have H := Lib.hid h
  have hwb := (tk_wb 8 h.wb).1
  clear h
  go_enter Try.func23, Try.ntmps23
  go_wp2_with fail
  refine (refTake rb s 8 _ H.out (by omega)).mono ?_
  rintro e w1 ⟨a, c, rfl, hA, hR, hK⟩
  rw [show (8 : Int).toNat = 8 from rfl] at *
  have HA := Lib.hid hA
  have HR := Lib.hid hR
  have HK := Lib.hid hK
  have HW := Lib.hid hwb
  have hlen : (tk s 8).1.length ≤ 8 := by rcases tk_len s 8 with h | h <;> omega
  have hfin : tInt s = (rd (tk s 8).1, (tk s 8).2) := rfl
  have HF := Lib.hid hfin
  clear hA hR hK hwb hfin
  generalize (tk s 8).2 = s2 at *
  generalize (tk s 8).1 = ys at *
  obtain ⟨L, hL⟩ : ∃ L, ys.length = L := ⟨_, rfl⟩
  have HL := Lib.hid hL
  rw [hL] at hlen ⊢
  clear hL
  go_wp2_with fail
  go_loopw [3, 9] (fun v i wr => ∃ k : Nat, k ≤ L ∧ i = .int .i64 (k : Int) ∧ v = .int .u64 (IntKind.u64.wrap (rdU (ys.take k))) ∧ wr = w1) (fun _ i _ => L - (intOf i).toNat)
  case atStart => exact ⟨0, by omega, rfl, rfl, rfl⟩
  case round =>
    obtain ⟨k, hk, rfl, rfl, rfl⟩ := hrel
    by_cases hlt : k < L
    · obtain ⟨x, hx⟩ : ∃ x, ys[k]? = some x := ⟨_, List.getElem?_eq_getElem (by have := HL.out; omega)⟩
      rcases HA.out with h0 | ⟨b, o, rfl, hcell⟩
      · have := HL.out; rw [h0] at this; simp at this; omega
      · have hcx := hcell k x hx
        obtain ⟨hx0, hx1⟩ := HW.out x (List.mem_of_getElem? hx)
        have hsn := Lib.hid (take_snoc ys k x hx)
        have hor := or_u64 (rdU (ys.take k)) x hx0 hx1
        obtain ⟨hv0, hv1⟩ := wrap_u64_in (rdU (ys.take k))
        have HO := Lib.hid hor
        clear hcell hx hor
        go_wp2_with fail
        refine ⟨⟨k + 1, by omega, by go_num, ?_, trivial⟩, by simp [intOf]; omega⟩
        rw [hsn.out, rdU_snoc]
        exact congrArg (Value.int .u64) HO.out
    · obtain rfl : k = L := by omega
      have hT : ys.take ys.length = ys := List.take_length
      rw [HL.out] at hT
      have HT := Lib.hid hT
      clear hT
      go_wp2
      go_ret
      rw [HF.out]
      have hT := HT.out
      exact ⟨congrArg (fun z => Ending.returned (Value.int .i64 z)) (by rw [hT, w64_eq]; exact rd_of_u64 _), HR.out, HK.out⟩

set_option maxRecDepth 100000 in
set_option maxHeartbeats 1000000 in
theorem refRByte (rb : Nat) (s : Rs) (w : World) (h : RdAt 43 w rb s) :
    Calls Try.prog 24 #[.pointer (some ⟨rb, 0, none⟩)] w (Got 43 rb (.int .i64 (tByte s).1) (tByte s).2 w) := by
  have H := Lib.hid h
  have hwb := (tk_wb 1 h.wb).1
  clear h
  go_enter Try.func24, Try.ntmps24
  go_wp2_with fail
  refine (refTake rb s 1 _ H.out (by omega)).mono ?_
  rintro e w1 ⟨a, c, rfl, hA, hR, hK⟩
  rw [show (1 : Int).toNat = 1 from rfl] at *
  have HA := Lib.hid hA
  have HR := Lib.hid hR
  have HK := Lib.hid hK
  have hlen := tk_len s 1
  have hfin : tByte s = ((tk s 1).1.headD 0, (tk s 1).2) := rfl
  have HF := Lib.hid hfin
  clear hA hR hK hfin
  generalize (tk s 1).2 = s2 at *
  generalize (tk s 1).1 = ys at *
  match ys, hlen with
  | [], _ =>
    go_wp2_with fail; refine wp_loop_rounds 1 ?_; rw [rounds_succ]; go_wp2
    go_ret
    rw [HF.out]
    exact ⟨rfl, HR.out, HK.out⟩
  | [x], _ =>
    obtain ⟨hx0, hx1⟩ := hwb x (by simp)
    rcases HA.out with h0 | ⟨b, o, rfl, hcell⟩
    · cases h0
    · have hcx := hcell 0 x rfl
      rw [Nat.add_zero] at hcx
      clear hcell hwb
      go_wp2_with fail; refine wp_loop_rounds 1 ?_; rw [rounds_succ]; go_wp2
      go_ret
      rw [HF.out]
      exact ⟨rfl, HR.out, HK.out⟩
  | x :: y :: zs, h => simp at h



set_option maxRecDepth 100000 in
set_option maxHeartbeats 1000000 in
theorem refRText (rb : Nat) (s : Rs) (w : World) (h : RdAt 43 w rb s) :
    Calls Try.prog 25 #[.pointer (some ⟨rb, 0, none⟩)] w (Got 43 rb (.string (tText s).1) (tText s).2 w) := by
  have H := Lib.hid h
  have hin := tByte_in s h.wb
  clear h
  go_enter Try.func25, Try.ntmps25
  go_wp2_with fail
  refine (refRByte rb s _ H.out).mono ?_
  rintro e w1 ⟨rfl, hR, hK⟩
  have hfin : tText s = (strOfNums (tk (tByte s).2 (tByte s).1.toNat).1, (tk (tByte s).2 (tByte s).1.toNat).2) := rfl
  have HF := Lib.hid hfin
  have HR := Lib.hid hR
  have HK := Lib.hid hK
  clear hfin hR hK
  generalize (tByte s).2 = s2 at *
  generalize (tByte s).1 = m at *
  go_wp2_with fail
  refine (refTake rb s2 m _ HR.out (by omega)).mono ?_
  rintro e w2 ⟨a, c, rfl, hA, hR, hK⟩
  have hcv := run_text (P := Try.prog) w2 23 5 Try.underlying23 Try.underlying5 9 Try.underlying9 a _ c _ rfl hA
  have HR2 := Lib.hid hR
  have HK2 := Lib.hid hK
  clear hA hR hK
  generalize (tk s2 m.toNat).2 = s3 at *
  generalize (tk s2 m.toNat).1 = ys at *
  go_wp2
  go_ret
  rw [HF.out]
  exact ⟨rfl, HR2.out, HK.out.trans HK2.out⟩

set_option maxHeartbeats 400000 in
theorem refRDone (rb : Nat) (s : Rs) (w : World) (h : RdAt 43 w rb s) :
    Calls Try.prog 26 #[.pointer (some ⟨rb, 0, none⟩)] w fun e w' => e = .returned (.bool (dn' s)) ∧ w = w' := by
  obtain ⟨xs, bad⟩ := s
  obtain ⟨a, cap, h1, h2, h3, h4, h5, h6⟩ := h
  simp only [] at h1 h2
  have hl : xs.length ≤ maxLen := Nat.le_trans h2 h3
  have hc := blk_cell h1
  have hlt := blk_lt h1
  unfold maxLen at hl
  clear h1 h2 h3 h4 h5 h6
  cases bad
  all_goals
    go_enter Try.func26, Try.ntmps26
    go_wp2
    go_ret
    exact ⟨by cases xs with | nil => simp [dn'] | cons x t => (simp [dn']; try omega), rfl⟩

set_option maxHeartbeats 400000 in
theorem packRBad (rb : Nat) (s : Rs) (w : World) (h : RdAt 46 w rb s) :
    Calls Try.prog 21 #[.pointer (some ⟨rb, 0, none⟩)] w fun e w' => e = .returned (.bool s.2) ∧ w = w' := by
  obtain ⟨a, cap, h1, -⟩ := h
  have hc := blk_cell h1
  have hlt := blk_lt h1
  clear h1
  go_enter Try.func21, Try.ntmps21
  go_wp2
  go_ret
  exact ⟨rfl, rfl⟩

def Made (xs : List Int) (w : World) (e : Ending) (w' : World) : Prop := ∃ rb, e = .returned (.pointer (some ⟨rb, 0, none⟩)) ∧ w.heap.size ≤ rb ∧ RdAt 46 w' rb (xs, false) ∧ Below w.heap.size w w'
theorem rdAt_new (w : World) (T : TypeId) (a : Option Addr) (n cap : Nat) (xs : List Int) (hn : n = xs.length) (h2 : n ≤ cap) (h3 : cap ≤ maxLen) (h4 : BAt w a xs) (h5 : Wb xs) (h6 : (a = none ∧ cap = 0) ∨ ∃ b o, a = some ⟨b, o, none⟩) :
    RdAt T (w.alloc (.cells #[.slice a n cap, .bool false] T)) w.heap.size (xs, false) := by
  subst hn
  exact ⟨a, cap, blk_new _ _ _, h2, h3, h4.ext ((Below.refl _ _).alloc (Nat.le_refl _) _), h5, h6⟩
theorem own_form {a : Option Addr} {n cap base : Nat} {v : Value} {w : World} (h1 : ∀ b o, a = some ⟨b, o, none⟩ → v.ownBlock = some b ∧ base ≤ b ∧ b < w.heap.size ∧ o = 0) (h2 : a = none → n = 0 ∧ cap = 0) (h3 : ∀ x, a = some x → ∃ b o, x = ⟨b, o, none⟩) : (a = none ∧ cap = 0) ∨ ∃ b o, a = some ⟨b, o, none⟩ := by
  cases a with
  | none => exact .inl ⟨rfl, (h2 rfl).2⟩
  | some x => obtain ⟨b, o, rfl⟩ := h3 x rfl; exact .inr ⟨b, o, rfl⟩
theorem own_made {w : World} {base n : Nat} {v : Value} {xs : List Int} (T : TypeId) (h : w.ownsRow base 5 1 v n (bc xs)) (hw : Wb xs) : ∃ a cap, v = .slice a xs.length cap ∧ RdAt T (w.alloc (.cells #[.slice a xs.length cap, .bool false] T)) w.heap.size (xs, false) := by
  obtain ⟨a, cap, rfl, rfl, h2, h3, h4, -, -⟩ := own_read h
  refine ⟨a, cap, rfl, rdAt_new w T a _ cap xs rfl h2 h3 h4 hw ?_⟩
  obtain ⟨-, h5⟩ := h
  rcases h5 with ⟨e, _⟩ | ⟨g, cap', cur, e, _⟩
  · simp at e; exact .inl ⟨e.1, e.2.2⟩
  · simp at e; exact .inr ⟨g, 0, e.1⟩

set_option maxRecDepth 100000 in
set_option maxHeartbeats 1000000 in
theorem packNew (a : Option Addr) (n cap : Nat) (xs : List Int) (w : World) (h : BAt w a xs) (hl : xs.length = n) (hs : n ≤ 140737488355328) (hw : Wb xs) :
    Calls Try.prog 16 #[.slice a n cap] w (Made xs w) := by
  have H := Lib.hid h
  have HL := Lib.hid hl
  have HW := Lib.hid hw
  clear h hl hw
  go_enter Try.func16, Try.ntmps16
  go_wp2_with fail
  refine (packLonger a n cap 0 xs _ H.out HL.out (by omega) (by omega)).mono ?_
  rintro e w1 ⟨v, rfl, ho, B1⟩
  obtain ⟨a', cap', rfl, hR⟩ := own_made 46 ho HW.out
  have HR := Lib.hid hR
  clear ho hR
  go_wp2
  go_ret
  exact ⟨_, rfl, B1.size, HR.out, B1.alloc B1.size _⟩

end Go.Proofs.Ytcafmjcjhncpjaa
