/- Package fault by contracts: Path; rows of texts compared; the law's known runs. -/
import Derived.Test.YtcgembfdejjliaaGreatDoorFauH
import Derived.Test.YtcgembfdejjliaaGreatDoorRowGen
import Derived.Test.YtcgembfdejjliaaGreatDoorStrs
import Derived.Deep.DeepCutAuto
namespace Go.Proofs.YtcgembfdejjliaaGreatDoor
open Go.RowKit Go.Extern.Stop Go.Stop Go.Extern
set_option linter.unusedVariables false
set_option linter.unusedSimpArgs false

theorem info_parts2 {t : TypeId} {z : Value} {s b : Nat} (h : (Tryz.prog.info? t).map (fun i => (i.zero, i.size, i.bytes)) = some (some z, s, b)) : ∃ i, Tryz.prog.info? t = some i ∧ i.zero = some z ∧ i.size = s ∧ i.bytes = b := by
  obtain ⟨i, h1, h2⟩ := Option.map_eq_some_iff.1 h
  simp only [Prod.mk.injEq] at h2
  exact ⟨i, h1, h2.1, h2.2.1, h2.2.2⟩
theorem info_str2 : (Tryz.prog.info? 9).map (fun i => (i.zero, i.size, i.bytes)) = some (some (.string ⟨#[]⟩), 1, 16) := by kernel_rfl
def eb (s : ByteArray) : List Value := [.string s]
abbrev OwnT (base : Nat) (w : World) (v : Value) (ls : List ByteArray) : Prop := OwnR eb 1 9 base w v ls
/-- a row of texts -/
def TxAt (w : World) (v : Value) (ls : List ByteArray) : Prop := ∃ a c, v = .slice a ls.length c ∧ ls.length ≤ c ∧ c ≤ maxLen ∧ (ls = [] ∨ ∃ b o, a = some ⟨b, o, none⟩ ∧ ∀ i s, ls[i]? = some s → w.cell? ⟨b, o + i, none⟩ = some (.string s))
theorem TxAt.ext {w w' : World} {v : Value} {ls : List ByteArray} (h : TxAt w v ls) (hb : Below w.heap.size w w') : TxAt w' v ls := by
  obtain ⟨a, c, h1, h2, h3, h4⟩ := h
  refine ⟨a, c, h1, h2, h3, ?_⟩
  rcases h4 with h4 | ⟨b, o, h5, h6⟩
  · exact .inl h4
  · exact .inr ⟨b, o, h5, fun i s hi => ext_cell hb (h6 i s hi)⟩
theorem OwnT.tx {base : Nat} {w : World} {v : Value} {ls : List ByteArray} (h : OwnT base w v ls) : TxAt w v ls := by
  obtain ⟨a, c, h1, h2, h3, h4⟩ := OwnR.form h
  subst h1
  refine ⟨a, c, rfl, h2, h3, ?_⟩
  rcases h4 with ⟨-, -, h4⟩ | ⟨g, h5, -, -⟩
  · exact .inl h4
  · subst h5
    refine .inr ⟨g, 0, rfl, fun i s hi => ?_⟩
    have := OwnR.at (enc := eb) (k := 1) (fun _ => rfl) h hi 0 (.string s) rfl
    simpa using this
theorem IsTexts.tx {w : World} {a : Option Addr} {len cap : Nat} {ss : Nat → ByteArray} (h : IsTexts w a len cap ss) : TxAt w (.slice a len cap) ((List.range len).map ss) := by
  obtain ⟨h1, h2, h3, h4⟩ := h
  refine ⟨a, cap, by simp, by simpa using h1, h2, ?_⟩
  rcases h4 with h4 | ⟨b, o, h5, h6⟩
  · subst h4; exact .inl rfl
  · refine .inr ⟨b, o, h5, fun i s hi => ?_⟩
    have hlt : i < len := by
      rcases Nat.lt_or_ge i len with h | h
      · exact h
      · rw [List.getElem?_eq_none (by simpa using h)] at hi; cases hi
    rw [List.getElem?_eq_getElem (by simpa using hlt)] at hi
    simp only [List.getElem_map, List.getElem_range, Option.some.injEq] at hi
    rw [← hi]; exact h6 i hlt

set_option maxHeartbeats 1000000 in
theorem sameTexts (u v : Value) (ls : List ByteArray) (w : World) (hu : TxAt w u ls) (hv : TxAt w v ls) :
    Calls Tryz.prog 37 #[u, v] w fun r w' => r = .returned (.bool true) ∧ Below w.heap.size w w' := by
  obtain ⟨a, c, rfl, h2, h3, h4⟩ := hu
  obtain ⟨a', c', rfl, k2, k3, k4⟩ := hv
  obtain ⟨n, hn⟩ : ∃ n, ls.length = n := ⟨_, rfl⟩
  have HN := Lib.hid hn
  have H4 := Lib.hid h4
  have K4 := Lib.hid k4
  rw [hn] at h2 k2 ⊢
  unfold maxLen at h3
  clear hn h4 k4
  go_enter Tryz.func37, Tryz.ntmps37
  go_wp2_with fail
  go_loopw [5] (fun j wr => ∃ J : Nat, J ≤ n ∧ j = .int .i64 (J : Int) ∧ Below w.heap.size w wr) (fun j _ => n - (intOf j).toNat)
  case atStart => exact ⟨0, by omega, rfl, Below.refl _ _⟩
  case round =>
    obtain ⟨w2, rfl⟩ : ∃ y : World, y = wr := ⟨_, rfl⟩
    obtain ⟨J, hJ, rfl, hb2⟩ := hrel
    by_cases hlt : J < n
    · obtain ⟨s, hs⟩ : ∃ s, ls[J]? = some s := ⟨_, List.getElem?_eq_getElem (by have := HN.out; omega)⟩
      have hne : ls ≠ [] := by rintro rfl; simp at hs
      obtain ⟨b, o, rfl, hx⟩ := H4.out.resolve_left hne
      obtain ⟨b', o', rfl, hx'⟩ := K4.out.resolve_left hne
      have x1 := ext_cell hb2 (hx J s hs)
      have x2 := ext_cell hb2 (hx' J s hs)
      have l1 := cell_lt x1
      have l2 := cell_lt x2
      have HB2 := Lib.hid hb2
      clear hx hx' hb2 hs hne
      go_upto_region 6 with (fail)
      haveI hIq : Nonempty (Of w2) := of_some _
      have hF0 := of_cell x1
      have hF1 := of_cell x2
      first | (refine wp_region_stay w2 (by kernel_rfl) (by kernel_rfl) (by go_grown) ?_) | (refine wp_region_stay_seq w2 (by go_grown) ?_)
      repeat (go_big_quiet_step (fail))
      refine wpQuiet_nil ?_
      intro w5 hb5
      clear hIq hF0 hF1
      go_wp2_with fail
      go_roundw
      case rel => exact ⟨J + 1, by omega, by go_num, ext_trans HB2.out hb5⟩
      case measure => simp [intOf]; omega
    · obtain rfl : J = n := by omega
      go_wp2_with fail
      go_ret
      exact ⟨rfl, hb2⟩

set_option maxRecDepth 100000 in
set_option maxHeartbeats 2000000 in
theorem faultPath (ops : List ByteArray) (base e : Value) (w : World) (hG : EG w) (h : FC w base ops e) (hB : Bs w base) (hn : ops.length ≤ 100) :
    Calls Tryz.prog 15 #[e] w fun r w' => ∃ v, r = .returned v ∧ OwnT w.heap.size w' v ops ∧ Below w.heap.size w w' := by
  obtain ⟨i0, hi, hz0, hz1, hz2⟩ := info_parts2 info_str2
  have HG := Lib.hid hG
  have HB := Lib.hid hB
  have HF := Lib.hid h
  clear hG h hB
  go_enter Tryz.func15, Tryz.ntmps15
  go_wp2_with fail
  refine (faultEnds ops base e w HB.out HF.out hn).mono ?_
  rintro r w1 ⟨rfl, hb1⟩
  go_wp2_with fail
  go_loopw [0, 3, 8] (fun ev l j wr => ∃ (l1 l2 : List ByteArray), l1 ++ l2 = ops ∧ j = .int .i64 (l1.length : Int) ∧ FC w base l2 ev ∧ OwnT w.heap.size wr l l1 ∧ Below w.heap.size w wr) (fun _ _ j _ => 300 - (intOf j).toNat)
  case atStart => exact ⟨[], ops, rfl, rfl, HF.out, OwnR.nil _ _, hb1⟩
  case round =>
    obtain ⟨w2, rfl⟩ : ∃ y : World, y = wr := ⟨_, rfl⟩
    obtain ⟨l1, l2, hl, rfl, hf, ho, hb2⟩ := hrel
    obtain ⟨J, hJ⟩ : ∃ J, l1.length = J := ⟨_, rfl⟩
    have hJ1 : J ≤ 100 := by rw [← hJ]; have := congrArg List.length hl; simp at this; omega
    have hJ2 : (J : Int) < 131072 := by omega
    obtain ⟨ga, gc, rfl, hgc, hgm, -⟩ := OwnR.form ho
    have HJ := Lib.hid hJ
    have HO := Lib.hid ho
    have HB2 := Lib.hid hb2
    have HL := Lib.hid hl
    rw [hJ] at hgc ⊢
    unfold maxLen at hgm
    clear hJ ho hb2 hl
    cases l2 with
    | nil =>
      obtain rfl : u0 = base := hf
      have hz := ptr_nil0
      have HO2 := Lib.hid (show OwnT w.heap.size w2 (.slice ga J gc) ops from by have := HO.out; rw [← HL.out, List.append_nil, ← HJ.out]; exact this)
      go_wp2_with fail
      refine (firstFault_base _ w2 (HG.out.ext HB2.out) (HB.out.ext HB2.out)).mono ?_
      rintro r w3 ⟨rfl, hb3⟩
      go_wp2_with fail
      go_ret
      exact ⟨_, rfl, OwnR.ext HO2.out hb3, ext_trans HB2.out hb3⟩
    | cons op l2 =>
      obtain ⟨p, e', rfl, hp, hf⟩ := hf
      have HP := Lib.hid hp
      have HFF := Lib.hid hf
      have hz := ptr_nil ⟨p, 0, none⟩
      clear hp hf
      go_wp2_with fail
      refine (firstFault_fault ⟨p, 0, none⟩ w2 (HG.out.ext HB2.out)).mono ?_
      rintro r w3 ⟨rfl, hb3⟩
      have HP3 := Lib.hid (blk_ext (ext_trans HB2.out hb3) HP.out)
      have HO3 := Lib.hid (show w3.ownsRow w.heap.size 9 1 (.slice ga J gc) J (flat eb l1) from by have := OwnR.ext HO.out hb3; unfold OwnR at this; rw [HJ.out] at this; exact this)
      have HB3 := Lib.hid (ext_trans HB2.out hb3)
      clear hb3 HO HB2
      have hpc := blk_cell HP3.out
      have hpl := blk_lt HP3.out
      have Z3 := HB3.out.size
      go_wp2_with (at_builtin; refine wpList_append_own _ rfl _ _ 22 rfl (w.heap.size) 9 i0 (.string ⟨#[]⟩) 1 16 Tryz.underlying22 hi hz0 hz1 hz2 rfl (by decide) _ J (flat eb l1) rfl (HO3.out.alloc (.cells #[.string op] 9)) ⟨w3.heap.size, 0, none⟩ 1 1 (eb op) rfl rfl ?c1 ?c2 ?c3 ?c4 ?c5 ?_)
      case c1 =>
        intro j u hj
        rw [add_off, blk_cell (blk_new _ _ _)]
        simpa [eb] using hj
      case c2 => intro u hu; simp only [eb, List.mem_cons, List.not_mem_nil, or_false] at hu; subst hu; rfl
      case c3 => unfold maxLen; omega
      case c4 => omega
      case c5 => first | (simp; omega) | omega
      intro v7 w7 ho7 hg7 _
      have HB7 := Lib.hid ((HB3.out.alloc Z3 (.cells #[.string op] 9)).grown hg7 (by simp; omega) (fun q hq => own_ge HO3.out hq))
      have HO7 := Lib.hid (show OwnT w.heap.size w7 v7 (l1 ++ [op]) by unfold OwnT OwnR; rw [flat_snoc, List.length_append, HJ.out]; exact ho7)
      have HP7 := Lib.hid (blk_ext HB7.out HP.out)
      clear ho7 hg7 HO3 HB3 hpc hpl HP3 HP
      have hpc := blk_cell HP7.out
      have hpl := blk_lt HP7.out
      go_wp2
      go_roundw
      case rel => exact ⟨l1 ++ [op], l2, by rw [List.append_assoc]; exact HL.out, by simp [HJ.out], HFF.out, HO7.out, HB7.out⟩
      case measure => simp [intOf]; omega
end Go.Proofs.YtcgembfdejjliaaGreatDoor
