/- (shape).read: words put into a shape's fields. -/
import Derived.Test.YtcgembfdejjliaaGreatDoorScP
import Derived.Test.YtcgembfdejjliaaGreatDoorFill
namespace Go.Proofs.YtcgembfdejjliaaGreatDoor
open Go.RowKit
set_option linter.unusedVariables false

def acZ : Ac := ⟨0, 0, 0, 0, 0, 0, ⟨#[]⟩⟩
/-- words as they lie -/
def WdA (w : World) (a : Option Addr) (ls : List ByteArray) : Prop := ls = [] ∨ ∃ b o, a = some ⟨b, o, none⟩ ∧ ∀ i s, ls[i]? = some s → w.cell? ⟨b, o + i, none⟩ = some (.string s)
theorem WdA.ext {w w' : World} {a : Option Addr} {ls : List ByteArray} (h : WdA w a ls) (hb : Below w.heap.size w w') : WdA w' a ls := by
  rcases h with h | ⟨b, o, h1, h2⟩
  · exact .inl h
  · exact .inr ⟨b, o, h1, fun i s hi => ext_cell hb (h2 i s hi)⟩
theorem blk_fill7 {w : World} {b : Nat} {T : TypeId} {vs : Array Value} {v0 v1 v2 v3 v4 v5 v6 : Value} (h : w.heap[b]? = some (.cells vs T (0, 0))) (hs : vs.size = 7) : (((((((w.setCell ⟨b, 0, none⟩ v0).setCell ⟨b, 1, none⟩ v1).setCell ⟨b, 2, none⟩ v2).setCell ⟨b, 3, none⟩ v3).setCell ⟨b, 4, none⟩ v4).setCell ⟨b, 5, none⟩ v5).setCell ⟨b, 6, none⟩ v6).heap[b]? = some (.cells #[v0, v1, v2, v3, v4, v5, v6] T (0, 0)) := by
  obtain ⟨l⟩ := vs
  match l, hs with
  | [x0, x1, x2, x3, x4, x5, x6], _ =>
    have h0 := blk_set (n := 0) (u := v0) (vs' := #[v0, x1, x2, x3, x4, x5, x6]) h (by simp)
    have h1 := blk_set (n := 1) (u := v1) (vs' := #[v0, v1, x2, x3, x4, x5, x6]) h0 (by simp)
    have h2 := blk_set (n := 2) (u := v2) (vs' := #[v0, v1, v2, x3, x4, x5, x6]) h1 (by simp)
    have h3 := blk_set (n := 3) (u := v3) (vs' := #[v0, v1, v2, v3, x4, x5, x6]) h2 (by simp)
    have h4 := blk_set (n := 4) (u := v4) (vs' := #[v0, v1, v2, v3, v4, x5, x6]) h3 (by simp)
    have h5 := blk_set (n := 5) (u := v5) (vs' := #[v0, v1, v2, v3, v4, v5, x6]) h4 (by simp)
    have h6 := blk_set (n := 6) (u := v6) (vs' := #[v0, v1, v2, v3, v4, v5, v6]) h5 (by simp)
    exact h6
theorem below_fill7 {m : Nat} {u w : World} {b : Nat} {v0 v1 v2 v3 v4 v5 v6 : Value} (h : Below m u w) (hb : m ≤ b) : Below m u (((((((w.setCell ⟨b, 0, none⟩ v0).setCell ⟨b, 1, none⟩ v1).setCell ⟨b, 2, none⟩ v2).setCell ⟨b, 3, none⟩ v3).setCell ⟨b, 4, none⟩ v4).setCell ⟨b, 5, none⟩ v5).setCell ⟨b, 6, none⟩ v6) := (((((((h.setCell hb _).setCell hb _).setCell hb _).setCell hb _).setCell hb _).setCell hb _).setCell hb _)
theorem blk_over7 {w : World} {b c : Nat} {o : Obj} {v0 v1 v2 v3 v4 v5 v6 : Value} (hn : c ≠ b) (h : w.heap[c]? = some o) : (((((((w.setCell ⟨b, 0, none⟩ v0).setCell ⟨b, 1, none⟩ v1).setCell ⟨b, 2, none⟩ v2).setCell ⟨b, 3, none⟩ v3).setCell ⟨b, 4, none⟩ v4).setCell ⟨b, 5, none⟩ v5).setCell ⟨b, 6, none⟩ v6).heap[c]? = some o :=
  (blk_set_other hn (blk_set_other hn (blk_set_other hn (blk_set_other hn (blk_set_other hn (blk_set_other hn (blk_set_other hn h)))))))

/-- what read answers -/
def ReadP (s : Sh) (ws : List ByteArray) (a : Option Addr) (c : Nat) (w : World) : Prop :=
  Calls Tryz.prog 33 #[.agg #[.string s.w, .int .i64 s.k, .int .i64 s.op, .string s.fs], .slice a ws.length c] w fun e w' =>
    e = .returned (.tuple #[.agg (acC ((s.read ws).getD acZ)), .bool (s.read ws).isSome]) ∧ Below w.heap.size w w'

set_option maxRecDepth 100000 in
set_option maxHeartbeats 2000000 in
theorem read_len (s : Sh) (ws : List ByteArray) (a : Option Addr) (c : Nat) (w : World) (hl : ws.length ≠ s.fs.size) (h5 : ws.length ≤ 5) : ReadP s ws a c w := by
  have hr : s.read ws = none := by unfold Sh.read; rw [if_neg hl]
  unfold ReadP
  rw [hr]
  obtain ⟨n, hn⟩ : ∃ n, ws.length = n := ⟨_, rfl⟩
  rw [hn] at hl h5 ⊢
  clear hn hr
  go_enter Tryz.func33, Tryz.ntmps33
  have hb0 : ((n : Int) != (s.fs.size : Int)) = true := by simp; omega
  go_wp2_with fail
  exact bodyPost_ret (v := .tuple #[.agg (acC acZ), .bool false]) (by simp [results, Tryz.results33, go_sem, acC, acZ]) rfl ⟨rfl, ((Below.refl _ _).alloc (Nat.le_refl _) _).alloc (by simp) _⟩

theorem puts_step (b : Ac) (fs : List UInt8) (ws : List ByteArray) (J : Nat) (f : UInt8) (x : ByteArray) (hf : fs[J]? = some f) (hx : ws[J]? = some x) :
    puts b (fs.drop J) (ws.drop J) = match b.put f x with
      | none => none
      | some c => puts c (fs.drop (J + 1)) (ws.drop (J + 1)) := by
  obtain ⟨h1, h2⟩ := List.getElem?_eq_some_iff.1 hf
  obtain ⟨k1, k2⟩ := List.getElem?_eq_some_iff.1 hx
  rw [List.drop_eq_getElem_cons h1, List.drop_eq_getElem_cons k1, h2, k2]
  rfl
theorem puts_end (b : Ac) (fs : List UInt8) (ws : List ByteArray) (n : Nat) (h1 : fs.length = n) (h2 : ws.length = n) : puts b (fs.drop n) (ws.drop n) = some b := by
  rw [List.drop_eq_nil_of_le (by omega), List.drop_eq_nil_of_le (by omega)]
  rfl

set_option maxRecDepth 100000 in
set_option maxHeartbeats 4000000 in
theorem read_ok (s : Sh) (hsf : ∀ f ∈ s.fs.data.toList, f ∈ ([97, 98, 110, 115, 116] : List UInt8)) (ws : List ByteArray) (hx : ∀ x ∈ ws, x.size ≤ 1048576) (a : Option Addr) (c : Nat) (w : World) (hw : SW w) (hA : WdA w a ws) (hl : ws.length = s.fs.size) (h5 : ws.length ≤ 5) (hc1 : ws.length ≤ c) (hc2 : c ≤ 9223372036854775807) : ReadP s ws a c w := by
  have hr : s.read ws = puts ⟨s.k, 0, 0, s.op, 0, 0, ⟨#[]⟩⟩ s.fs.data.toList ws := by unfold Sh.read; rw [if_pos hl]
  have hn2 : s.fs.data.toList.length = s.fs.size := rfl
  unfold ReadP
  rw [hr]
  obtain ⟨n, hn⟩ : ∃ n, ws.length = n := ⟨_, rfl⟩
  obtain ⟨R, hR⟩ : ∃ R, puts ⟨s.k, 0, 0, s.op, 0, 0, ⟨#[]⟩⟩ s.fs.data.toList ws = R := ⟨_, rfl⟩
  rw [hR]
  have HH := Lib.hid (show _ ∧ _ ∧ _ ∧ _ ∧ _ ∧ _ ∧ _ from ⟨hw, hA, hsf, hx, hR, hn, hn2⟩)
  rw [hn] at hl h5 hc1 ⊢
  have hsz : (s.fs.size : Int) = (n : Int) := by omega
  have HL := Lib.hid hl
  clear hl hn hr hR hw hA hsf hx hn2
  have hb0 : ((n : Int) != (n : Int)) = false := by simp
  go_enter Tryz.func33, Tryz.ntmps33
  obtain ⟨p, hp⟩ : ∃ p, w.heap.size = p := ⟨_, rfl⟩
  obtain ⟨w0, hw0⟩ : ∃ y : World, y = ((w.alloc (.cells #[.string s.w, .int .i64 s.k, .int .i64 s.op, .string s.fs] 74)).alloc (.cells #[.int .i64 0, .int .i64 0, .int .i64 0, .int .i64 0, .int .i64 0, .int .i64 0, .string ⟨#[]⟩] 29)).alloc (.cells #[.int .i64 s.k, .int .i64 0, .int .i64 0, .int .i64 s.op, .int .i64 0, .int .i64 0, .string ⟨#[]⟩] 29) := ⟨_, rfl⟩
  go_wp2_with fail
  rw [← hw0]
  have B0 : Below p w w0 := by rw [hw0, ← hp]; exact (((Below.refl _ _).alloc (Nat.le_refl _) _).alloc (by simp) _).alloc (by simp; omega) _
  have K2 : w0.heap[p]? = some (.cells #[.string s.w, .int .i64 s.k, .int .i64 s.op, .string s.fs] 74 (0, 0)) := by rw [hw0, ← hp]; exact blk_alloc (blk_alloc (blk_new _ _ _) _) _
  have K4 : w0.heap[p + 1]? = some (.cells (acC acZ) 29 (0, 0)) := by
    rw [hw0, ← hp]
    refine blk_alloc ?_ _
    have := blk_new (w.alloc (.cells #[.string s.w, .int .i64 s.k, .int .i64 s.op, .string s.fs] 74)) (acC acZ) 29
    simpa [acC, acZ] using this
  have K6 : w0.heap[p + 1 + 1]? = some (.cells (acC ⟨s.k, 0, 0, s.op, 0, 0, ⟨#[]⟩⟩) 29 (0, 0)) := by
    rw [hw0, ← hp]
    have := blk_new ((w.alloc (.cells #[.string s.w, .int .i64 s.k, .int .i64 s.op, .string s.fs] 74)).alloc (.cells #[.int .i64 0, .int .i64 0, .int .i64 0, .int .i64 0, .int .i64 0, .int .i64 0, .string ⟨#[]⟩] 29)) (acC ⟨s.k, 0, 0, s.op, 0, 0, ⟨#[]⟩⟩) 29
    simpa [acC] using this
  have HK := Lib.hid (show _ ∧ _ ∧ _ ∧ _ from ⟨B0, K2, K4, K6⟩)
  clear B0 K2 K4 K6 hw0
  have HP := Lib.hid hp
  clear hp
  go_loopw [23] (fun j wr => ∃ (J : Nat) (b : Ac), J ≤ n ∧ j = .int .i64 (J : Int) ∧ puts b (s.fs.data.toList.drop J) (ws.drop J) = R ∧ Below p w wr ∧ wr.heap[p]? = some (.cells #[.string s.w, .int .i64 s.k, .int .i64 s.op, .string s.fs] 74 (0, 0)) ∧ wr.heap[p + 1]? = some (.cells (acC acZ) 29 (0, 0)) ∧ wr.heap[p + 1 + 1]? = some (.cells (acC b) 29 (0, 0))) (fun j _ => n - (intOf j).toNat)
  case atStart => exact ⟨0, _, by omega, rfl, HH.out.2.2.2.2.1, HK.out.1, HK.out.2.1, HK.out.2.2.1, HK.out.2.2.2⟩
  case round =>
    obtain ⟨w2, rfl⟩ : ∃ y : World, y = wr := ⟨_, rfl⟩
    obtain ⟨J, b, hJ, rfl, hpu, hb2, k2, k4, k6⟩ := hrel
    have H2 := Lib.hid (show _ ∧ _ ∧ _ ∧ _ from ⟨hb2, k2, k4, k6⟩)
    have HPU := Lib.hid hpu
    have c2 := blk_cell k2
    have l2 := blk_lt k2
    clear hb2 k2 k4 k6 hpu
    by_cases hlt : J < n
    · obtain ⟨x, hs⟩ : ∃ x, ws[J]? = some x := ⟨_, List.getElem?_eq_getElem (by have := HH.out.2.2.2.2.2.1; omega)⟩
      obtain ⟨f, hfs⟩ : ∃ f, s.fs.data.toList[J]? = some f := ⟨_, List.getElem?_eq_getElem (by have := HH.out.2.2.2.2.2.2; omega)⟩
      have hne : ws ≠ [] := by rintro rfl; simp at hs
      obtain ⟨wb, wo, rfl, hxx⟩ := HH.out.2.1.resolve_left hne
      have x1 := (H2.out.1.mono (Nat.le_of_eq HP.out)).cell (p := ⟨wb, wo + J, none⟩) (cell_lt (hxx J x hs)) |>.trans (hxx J x hs)
      have l1 := cell_lt x1
      have HS := Lib.hid (show _ ∧ _ from ⟨hs, hfs⟩)
      clear hs hfs hxx hne
      have hgf : ∀ h : J < s.fs.size, s.fs[J] = f := fun h => by
        have := HS.out.2
        rw [List.getElem?_eq_getElem (by exact h)] at this
        exact Option.some.inj this
      have hmf := HH.out.2.2.1 f (List.mem_of_getElem? HS.out.2)
      have hmx := HH.out.2.2.2.1 x (List.mem_of_getElem? HS.out.1)
      have HM := Lib.hid (show _ ∧ _ ∧ _ from ⟨hmf, hmx, hgf⟩)
      clear hmf hmx hgf
      go_wp2_with fail
      rw [HM.out.2.2 (by have := HL.out; omega)]
      refine (putP b f HM.out.1 x HM.out.2.1 (p + 1 + 1) (p + 1 + 1) w2 (HH.out.1.ext (H2.out.1.mono (Nat.le_of_eq HP.out))) H2.out.2.2.2 (Nat.le_refl _) (by have := blk_lt H2.out.2.2.2; omega)).mono ?_
      rintro e w3 ⟨b', ok, rfl, k6, hb3, hput⟩
      have hpu := HPU.out
      rw [puts_step b _ ws J f x HS.out.2 HS.out.1, hput] at hpu
      have H3 := Lib.hid (show _ ∧ _ ∧ _ ∧ _ from ⟨H2.out.1.trans (hb3.mono (by omega)), (hb3.block p (by omega)).trans H2.out.2.1, (hb3.block (p + 1) (by omega)).trans H2.out.2.2.1, k6⟩)
      have c4 := blk_cell H3.out.2.2.1
      have f4 := blk_free H3.out.2.2.1
      have l4 := blk_lt H3.out.2.2.1
      have HU := Lib.hid hpu
      simp only [acC, acZ] at c4
      clear hpu hput k6 hb3 c2 x1
      cases ok with
      | true =>
        go_wp2_with fail
        go_roundw
        case rel => exact ⟨J + 1, b', by omega, by go_num, HU.out, H3.out⟩
        case measure => simp [RowKit.intOf]; omega
      | false =>
        have hR : R = none := HU.out.symm
        subst hR
        have hle : p ≤ p + 1 := by omega
        go_wp2_with fail
        exact bodyPost_ret (v := .tuple #[.agg (acC acZ), .bool false]) (by have hk2 := blk_cell (blk_fill7 (v0 := .int .i64 0) (v1 := .int .i64 0) (v2 := .int .i64 0) (v3 := .int .i64 0) (v4 := .int .i64 0) (v5 := .int .i64 0) (v6 := .string ⟨#[]⟩) H3.out.2.2.1 rfl); simp [results, Tryz.results33, go_sem, hk2, acC, acZ]) rfl ⟨rfl, by rw [HP.out]; exact below_fill7 H3.out.1 hle⟩
    · obtain rfl : J = n := by omega
      have hpe := HPU.out
      rw [puts_end b _ ws J (by have := HH.out.2.2.2.2.2.2; omega) HH.out.2.2.2.2.2.1] at hpe
      subst hpe
      have c4 := blk_cell H2.out.2.2.1
      have f4 := blk_free H2.out.2.2.1
      have l4 := blk_lt H2.out.2.2.1
      have c6 := blk_cell H2.out.2.2.2
      have l6 := blk_lt H2.out.2.2.2
      simp only [acC, acZ] at c4 c6
      have hle : p ≤ p + 1 := by omega
      go_wp2_with fail
      exact bodyPost_ret (v := .tuple #[.agg (acC b), .bool true]) (by have hk2 := blk_cell (blk_fill7 (v0 := .int .i64 b.k) (v1 := .int .i64 b.a) (v2 := .int .i64 b.b) (v3 := .int .i64 b.op) (v4 := .int .i64 b.st) (v5 := .int .i64 b.n) (v6 := .string b.app) H2.out.2.2.1 rfl); simp [results, Tryz.results33, go_sem, hk2, acC]) rfl ⟨rfl, by rw [HP.out]; exact below_fill7 H2.out.1 hle⟩
theorem readP (s : Sh) (hsf : ∀ f ∈ s.fs.data.toList, f ∈ ([97, 98, 110, 115, 116] : List UInt8)) (ws : List ByteArray) (hx : ∀ x ∈ ws, x.size ≤ 1048576) (a : Option Addr) (c : Nat) (w : World) (hw : SW w) (hA : WdA w a ws) (h5 : ws.length ≤ 5) (hc1 : ws.length ≤ c) (hc2 : c ≤ 9223372036854775807) : ReadP s ws a c w := by
  by_cases hl : ws.length = s.fs.size
  · exact read_ok s hsf ws hx a c w hw hA hl h5 hc1 hc2
  · exact read_len s ws a c w hl h5
end Go.Proofs.YtcgembfdejjliaaGreatDoor
