/- script.Line: what a line is. -/
import Derived.Test.YtcgembfdejjliaaGreatDoorScR
import Derived.Test.YtcgembfdejjliaaGreatDoorFauG
import Derived.Test.YtcgembfdejjliaaGreatDoorInv
import Derived.Deep.Cut
import Derived.Laws.Rows
namespace Go.Proofs.YtcgembfdejjliaaGreatDoor
open Go.RowKit
set_option linter.unusedVariables false

theorem cell_words {w : World} {b : Nat} (ls : List ByteArray) (N : Nat) (h : w.heap[b]? = some (.cells (Lib.cellsOf ls N) 9 (0, 0))) : ∀ i s, ls[i]? = some s → w.cell? ⟨b, i, none⟩ = some (.string s) := fun i s hi => by
  rw [blk_cell h]
  obtain ⟨h1, h2⟩ := List.getElem?_eq_some_iff.1 hi
  unfold Lib.cellsOf
  rw [List.getElem?_toArray, List.getElem?_append_left (by simpa using h1), List.getElem?_map, hi]
  rfl
theorem shs_fs : ∀ s ∈ shs, ∀ f ∈ s.fs.data.toList, f ∈ ([97, 98, 110, 115, 116] : List UInt8) := by
  intro s hs
  simp only [shs, List.mem_cons, List.mem_nil_iff, or_false] at hs
  rcases hs with rfl | rfl | rfl | rfl | rfl | rfl | rfl | rfl | rfl | rfl | rfl <;> decide
theorem shs_at (J : Nat) (s : Sh) (h : shs[J]? = some s) (w : World) : (Instr.index 75 (.agg shC.toArray) (.int .i64 (J : Int))).run Tryz.prog w = .ok (.agg #[.string s.w, .int .i64 s.k, .int .i64 s.op, .string s.fs]) w := by
  match J, h with
  | 0, h | 1, h | 2, h | 3, h | 4, h | 5, h | 6, h | 7, h | 8, h | 9, h | 10, h => obtain rfl := Option.some.inj h; (show _ = _); kernel_rfl
  | n + 11, h => simp [shs] at h
theorem shs_gn : Program.globalNamed Tryz.prog "frankpledge/script.shapes" = some 0 := by kernel_rfl
theorem shs_info : (Tryz.prog.info? 75).map (·.size) = some shC.toArray.size := by kernel_rfl
theorem SW.row {w : World} (h : SW w) : ∃ t fr, w.heap[0]? = some (.cells shC.toArray t fr) := by
  have h1 := h.sh
  unfold World.var? at h1
  rw [shs_gn] at h1
  simp only [Option.bind_some] at h1
  cases hh : w.heap[0]? with
  | none => rw [hh] at h1; cases h1
  | some o =>
    rw [hh] at h1
    cases o <;> first | (cases h1; exact ⟨_, _, rfl⟩) | cases h1
theorem FC.keep {w w' : World} {base : Value} (hk : ∀ (b : Nat) (vs : Array Value), w.heap[b]? = some (.cells vs 71 (0, 0)) → w'.heap[b]? = some (.cells vs 71 (0, 0))) : ∀ {ops : List ByteArray} {e : Value}, FC w base ops e → FC w' base ops e
  | [], _, h => h
  | _ :: _, _, ⟨p, e', h1, h2, h3⟩ => ⟨p, e', h1, hk _ _ h2, FC.keep hk h3⟩
theorem FC.over7 {w : World} {base e : Value} {ops : List ByteArray} {p : Nat} {vs : Array Value} {v0 v1 v2 v3 v4 v5 v6 : Value} (h : FC w base ops e) (hp : w.heap[p]? = some (.cells vs 29 (0, 0))) :
    FC (((((((w.setCell ⟨p, 0, none⟩ v0).setCell ⟨p, 1, none⟩ v1).setCell ⟨p, 2, none⟩ v2).setCell ⟨p, 3, none⟩ v3).setCell ⟨p, 4, none⟩ v4).setCell ⟨p, 5, none⟩ v5).setCell ⟨p, 6, none⟩ v6) base ops e :=
  FC.keep (fun b us hb => blk_over7 (by rintro rfl; rw [hp] at hb; simp at hb) hb) h
theorem splitB_size (sep : ByteArray) (sv : Nat) : ∀ (k : Nat) (s : ByteArray), ∀ x ∈ Lib.splitB sep sv k s, x.size ≤ s.size
  | 0, s, x, hx => by rw [Lib.splitB_zero] at hx; simp at hx; subst hx; exact Nat.le_refl _
  | k + 1, s, x, hx => by
    unfold Lib.splitB at hx
    split at hx
    · simp at hx; subst hx; exact Nat.le_refl _
    · rcases List.mem_cons.1 hx with rfl | hx
      · simp [ByteArray.size_extract]; omega
      · have := splitB_size sep sv k _ x hx
        simp [ByteArray.size_extract] at this
        omega
/-- the words of a line -/
theorem splitW (x : ByteArray) (hx : x.size ≤ 1048576) (w : World) (hw : SW w) :
    Calls Tryz.prog 31 #[.string x, .string ⟨#[32]⟩, .int .i64 5] w fun e w' => ∃ c, e = .returned (.slice (some ⟨w.heap.size, 0, none⟩) (wds x).length c) ∧ (wds x).length ≤ c ∧ c ≤ 5 ∧ WdA w' (some ⟨w.heap.size, 0, none⟩) (wds x) ∧ Below w.heap.size w w' := by
  obtain ⟨m, hm⟩ := hw.ml
  refine (Tryz.strings_SplitN x ⟨#[32]⟩ 5 m w (by omega) hm (by decide) (by decide) (by decide)).mono ?_
  rintro e w' ⟨rfl, rfl⟩
  refine ⟨_, rfl, (wds_len x).2, by omega, .inr ⟨_, _, rfl, fun i s hi => ?_⟩, (Below.refl _ _).alloc (Nat.le_refl _) _⟩
  rw [Nat.zero_add]
  exact cell_words _ _ (blk_new _ _ _) i s hi
theorem hdw_tl (x : ByteArray) : wds x = hdw x :: (wds x).tail := by
  unfold hdw
  cases h : wds x with
  | nil => have := (wds_len x).1; rw [h] at this; simp at this
  | cons a l => rfl

theorem ba_inj {a b : ByteArray} (h : a.toList = b.toList) : a = b := by
  rw [ByteArray.toList_eq, ByteArray.toList_eq] at h
  cases a; cases b; simpa using h
theorem line_read (x : ByteArray) (hx : x.size ≤ 1048576) (w w2 w8 : World) (s : Sh) (hs : s ∈ shs) (q n c : Nat) (hn : (wds x).length = n + 1) (hc1 : n + 1 ≤ c) (hc2 : c ≤ 5) (hA : WdA w2 (some ⟨q, 0, none⟩) (wds x)) (hw : SW w2) (hb : Below w2.heap.size w2 w8) (r : Ac) (ok : Bool) (hr : (s.read (wds x).tail).getD acZ = r) (hok : (s.read (wds x).tail).isSome = ok) :
    ∀ y, Below w8.heap.size w8 y → Calls Tryz.prog 33 #[.agg #[.string s.w, .int .i64 s.k, .int .i64 s.op, .string s.fs], .slice (if c = 1 then some ⟨q, 0, none⟩ else some ⟨q, 1, none⟩) n (c - 1)] y fun e w' =>
      e = .returned (.tuple #[.agg #[.int .i64 r.k, .int .i64 r.a, .int .i64 r.b, .int .i64 r.op, .int .i64 r.st, .int .i64 r.n, .string r.app], .bool ok]) ∧ Below y.heap.size y w' := fun y hy => by
  have hl : (wds x).tail.length = n := by simp [hn]
  have hb' := ext_trans hb hy
  have := readP s (shs_fs s hs) (wds x).tail (fun z hz => Nat.le_trans (splitB_size _ _ _ _ z (List.mem_of_mem_tail hz)) hx) (if c = 1 then some ⟨q, 0, none⟩ else some ⟨q, 1, none⟩) (c - 1) y (hw.ext hb') (by
    by_cases h0 : (wds x).tail = []
    · exact .inl h0
    · have hc : ¬ c = 1 := by
        intro h
        have : n = 0 := by omega
        exact h0 (List.length_eq_zero_iff.1 (hl.trans this))
      rw [if_neg hc]
      refine .inr ⟨q, 1, rfl, fun i z hz => ?_⟩
      rcases hA with h | ⟨b, o, e, h⟩
      · rw [h] at hn; simp at hn
      · obtain ⟨rfl, rfl⟩ : q = b ∧ 0 = o := by simpa using e
        have := h (i + 1) z (by rw [hdw_tl]; exact hz)
        rw [Nat.zero_add] at this
        rw [Nat.add_comm]
        exact ext_cell hb' this) (by omega) (by omega) (by omega)
  unfold ReadP at this
  rw [hl, hr, hok] at this
  exact this
/-- what Line answers -/
def LineP (ln : ByteArray) (w : World) : Prop :=
  Calls Tryz.prog 16 #[.string ln] w fun e w' => ∃ ev, e = .returned (.tuple #[.agg (acC ((lineM ln).getD acZ)), ev]) ∧ Below w.heap.size w w' ∧ ((lineM ln).isSome → ev = .nilIface) ∧ (lineM ln = none → FC w' (.iface 39 (.int .i64 12)) [hdw ln] ev)

set_option maxRecDepth 100000 in
set_option maxHeartbeats 4000000 in
theorem line_nl (ln : ByteArray) (hx : ln.size ≤ 1048576) (w : World) (hw : SW w) (hnl : 0 ≤ Lib.indexByte ln.data.toList 10) : LineP ln w := by
  obtain ⟨R, hR⟩ : ∃ R, lineM ln = R := ⟨_, rfl⟩
  unfold LineP
  rw [hR]
  have HR := Lib.hid (show R = none from by rw [← hR]; unfold lineM; rw [if_pos hnl])
  have HW := Lib.hid hw
  have hd : decide (0 ≤ Lib.indexByte ln.data.toList 10) = true := decide_eq_true hnl
  clear hw hR hnl
  obtain ⟨p, hp⟩ : ∃ p, w.heap.size = p := ⟨_, rfl⟩
  go_enter Tryz.func16, Tryz.ntmps16
  have b1 : Below w.heap.size w (w.alloc (.cells (acC acZ) 29)) := (Below.refl _ _).alloc (Nat.le_refl _) _
  have z1 := blk_new w (acC acZ) 29
  have s1 : (w.alloc (.cells (acC acZ) 29)).heap.size = p + 1 := by rw [← hp]; simp
  simp only [acC, acZ] at b1 z1 s1
  have HB := Lib.hid (show _ ∧ _ ∧ _ ∧ _ from ⟨b1, z1, s1, hp⟩)
  clear b1 z1 s1
  go_wp2_with fail
  refine (splitW ln hx _ (HW.out.ext HB.out.1)).mono ?_
  rintro e w2 ⟨c, rfl, hc1, hc2, hA, hb2⟩
  obtain ⟨n, hn⟩ : ∃ n, (wds ln).length = n + 1 := ⟨(wds ln).length - 1, by have := wds_len ln; omega⟩
  rw [hn] at hc1 ⊢
  rw [HB.out.2.2.1] at hA ⊢
  obtain ⟨q, hq⟩ : ∃ q, p + 1 = q := ⟨_, rfl⟩
  rw [hq] at hA ⊢
  have x0 : w2.cell? ⟨q, 0, none⟩ = some (.string (hdw ln)) := by
    rcases hA with h | ⟨b, o, e, h⟩
    · rw [h] at hn; simp at hn
    · obtain ⟨rfl, rfl⟩ : q = b ∧ 0 = o := by simpa using e
      exact h 0 _ (by rw [hdw_tl]; rfl)
  have lx := cell_lt x0
  have z2 : w2.heap[p]? = some (.cells (acC acZ) 29 (0, 0)) := by rw [← HB.out.2.2.2]; exact blk_ext hb2 HB.out.2.1
  have hpl := blk_lt z2
  have H := Lib.hid (show _ ∧ _ ∧ _ ∧ _ ∧ _ ∧ SW w2 from ⟨hn, hA, ext_trans HB.out.1 hb2, z2, hq, HW.out.ext (ext_trans HB.out.1 hb2)⟩)
  have hc4 := blk_cell z2
  have hf4 := blk_free z2
  simp only [acC, acZ] at hc4
  clear hn hA hb2 z2 hq hp
  go_wp2_with (first | (go_at_call 32; refine (Tryz.strings_Contains_one ln 10 _).mono ?_; rintro e w3 ⟨rfl, rfl⟩))
  refine (faultNew (hdw ln) 12 w3 (by decide)).mono ?_
  rintro e w4 ⟨e', rfl, hf4, hb4⟩
  have HZ := Lib.hid (show _ ∧ _ ∧ _ from ⟨blk_ext hb4 H.out.2.2.2.1, ext_trans H.out.2.2.1 hb4, hf4⟩)
  have hc5 := blk_cell HZ.out.1
  have hf5 := blk_free HZ.out.1
  have hl5 := blk_lt HZ.out.1
  simp only [acC, acZ] at hc5
  clear hb4 hf4
  have hle : w.heap.size ≤ p := Nat.le_of_eq HB.out.2.2.2
  go_wp2_with fail
  exact bodyPost_ret (v := .tuple #[.agg (acC acZ), e']) (by have hk2 := blk_cell (blk_fill7 (v0 := .int .i64 0) (v1 := .int .i64 0) (v2 := .int .i64 0) (v3 := .int .i64 0) (v4 := .int .i64 0) (v5 := .int .i64 0) (v6 := .string ⟨#[]⟩) HZ.out.1 rfl); simp [results, Tryz.results16, go_sem, hk2, acC, acZ]) rfl ⟨e', by rw [HR.out]; rfl, below_fill7 HZ.out.2.1 hle, (fun h => by rw [HR.out] at h; cases h), fun _ => FC.over7 HZ.out.2.2 HZ.out.1⟩
set_option maxRecDepth 100000 in
set_option maxHeartbeats 4000000 in
theorem line_go (ln : ByteArray) (hx : ln.size ≤ 1048576) (w : World) (hw : SW w) (hnl : ¬ 0 ≤ Lib.indexByte ln.data.toList 10) : LineP ln w := by
  obtain ⟨R, hR⟩ : ∃ R, lineM ln = R := ⟨_, rfl⟩
  unfold LineP
  rw [hR]
  have HR := Lib.hid (show R = fnd (hdw ln) (wds ln).tail shs from by rw [← hR]; unfold lineM; rw [if_neg hnl])
  have HW := Lib.hid hw
  have hd : decide (0 ≤ Lib.indexByte ln.data.toList 10) = false := decide_eq_false hnl
  clear hw hR hnl
  obtain ⟨p, hp⟩ : ∃ p, w.heap.size = p := ⟨_, rfl⟩
  go_enter Tryz.func16, Tryz.ntmps16
  have b1 : Below w.heap.size w (w.alloc (.cells (acC acZ) 29)) := (Below.refl _ _).alloc (Nat.le_refl _) _
  have z1 := blk_new w (acC acZ) 29
  have s1 : (w.alloc (.cells (acC acZ) 29)).heap.size = p + 1 := by rw [← hp]; simp
  simp only [acC, acZ] at b1 z1 s1
  have HB := Lib.hid (show _ ∧ _ ∧ _ ∧ _ from ⟨b1, z1, s1, hp⟩)
  clear b1 z1 s1
  go_wp2_with fail
  refine (splitW ln hx _ (HW.out.ext HB.out.1)).mono ?_
  rintro e w2 ⟨c, rfl, hc1, hc2, hA, hb2⟩
  obtain ⟨n, hn⟩ : ∃ n, (wds ln).length = n + 1 := ⟨(wds ln).length - 1, by have := wds_len ln; omega⟩
  rw [hn] at hc1 ⊢
  rw [HB.out.2.2.1] at hA ⊢
  obtain ⟨q, hq⟩ : ∃ q, p + 1 = q := ⟨_, rfl⟩
  rw [hq] at hA ⊢
  have x0 : w2.cell? ⟨q, 0, none⟩ = some (.string (hdw ln)) := by
    rcases hA with h | ⟨b, o, e, h⟩
    · rw [h] at hn; simp at hn
    · obtain ⟨rfl, rfl⟩ : q = b ∧ 0 = o := by simpa using e
      exact h 0 _ (by rw [hdw_tl]; rfl)
  have lx := cell_lt x0
  have z2 : w2.heap[p]? = some (.cells (acC acZ) 29 (0, 0)) := by rw [← HB.out.2.2.2]; exact blk_ext hb2 HB.out.2.1
  have hpl := blk_lt z2
  have H := Lib.hid (show _ ∧ _ ∧ _ ∧ _ ∧ _ ∧ SW w2 from ⟨hn, hA, ext_trans HB.out.1 hb2, z2, hq, HW.out.ext (ext_trans HB.out.1 hb2)⟩)
  have hc4 := blk_cell z2
  have hf4 := blk_free z2
  simp only [acC, acZ] at hc4
  clear hn hA hb2 z2 hq hp
  obtain ⟨T0, fr0, hrow⟩ := H.out.2.2.2.2.2.row
  have hinf := shs_info
  have HIX := Lib.hid shs_at
  obtain ⟨C, hC⟩ : ∃ C : Array Value, shC.toArray = C := ⟨_, rfl⟩
  rw [hC] at hrow hinf HIX
  clear hC
  go_upto_region 3 with (first | (go_at_call 32; refine (Tryz.strings_Contains_one ln 10 _).mono ?_; rintro e w3 ⟨rfl, rfl⟩))
  refine wp_region_lit ?_
  refine wpList_load_row rfl 75 _ rfl 0 rfl T0 C fr0 _ hrow Tryz.underlying75 rfl hinf ?_
  simp only [Act.put, List.setIfInBounds_toArray, List.set_cons_succ, List.set_cons_zero]
  clear hrow hinf
  have HX := Lib.hid (show _ ∧ _ from ⟨HIX.out, x0⟩)
  clear HIX x0
  go_wp2_with fail
  go_loopw [15] (fun j wr => ∃ J : Nat, J ≤ 11 ∧ j = .int .i64 (J : Int) ∧ fnd (hdw ln) (wds ln).tail (shs.drop J) = R ∧ Below w3.heap.size w3 wr) (fun j _ => 11 - (RowKit.intOf j).toNat)
  case atStart => exact ⟨0, by omega, rfl, HR.out.symm, Below.refl _ _⟩
  case round =>
    obtain ⟨w5, rfl⟩ : ∃ y : World, y = wr := ⟨_, rfl⟩
    obtain ⟨J, hJ, rfl, hfn, hb5⟩ := hrel
    have HF := Lib.hid hfn
    have HB5 := Lib.hid hb5
    clear hfn hb5
    by_cases hlt : J < 11
    · obtain ⟨s, hs⟩ : ∃ s, shs[J]? = some s := ⟨_, List.getElem?_eq_getElem (by show J < 11; exact hlt)⟩
      have hix := HX.out.1 J s hs
      have HS := Lib.hid hs
      clear hs
      go_upto_region 6 with (fail)
      clear hix
      have hq6 := blk_new w5 #[.string s.w, .int .i64 s.k, .int .i64 s.op, .string s.fs] 74
      have hb6 : Below w5.heap.size w5 (w5.alloc (.cells #[.string s.w, .int .i64 s.k, .int .i64 s.op, .string s.fs] 74)) := (Below.refl _ _).alloc (Nat.le_refl _) _
      have hb6' := ext_trans HB5.out hb6
      generalize (w5.alloc (.cells #[.string s.w, .int .i64 s.k, .int .i64 s.op, .string s.fs] 74)) = w6 at *
      generalize w5.heap.size = q6 at *
      have x1 : w6.cell? ⟨q6, 0, none⟩ = some (.string s.w) := by rw [blk_cell hq6]; rfl
      have x2 := ext_cell hb6' HX.out.2
      have l1 := cell_lt x1
      have l2 := cell_lt x2
      have HB6 := Lib.hid (show _ ∧ _ from ⟨hb6', hq6⟩)
      clear hb6 hb6' hq6
      haveI hIq : Nonempty (Of w6) := of_some _
      have hF0 := of_cell x1
      have hF1 := of_cell x2
      first | (refine wp_region_stay w6 (by kernel_rfl) (by kernel_rfl) (by go_grown) ?_) | (refine wp_region_stay_seq w6 (by go_grown) ?_)
      repeat (go_big_quiet_step (fail))
      refine wpQuiet_nil ?_
      intro w8 hb8
      clear hIq hF0 hF1 x1 x2 l1 l2
      have HB8 := Lib.hid (show _ ∧ _ from ⟨ext_trans HB6.out.1 hb8, blk_ext hb8 HB6.out.2⟩)
      clear hb8
      have HD := Lib.hid (show fnd (hdw ln) (wds ln).tail (shs.drop J) = _ from by rw [List.drop_eq_getElem_cons (show J < shs.length from hlt), (List.getElem?_eq_some_iff.1 HS.out).2])
      by_cases hsw : s.w = hdw ln
      · have he : (!s.w.toList == (hdw ln).toList) = false := by rw [hsw]; simp
        have HSW := Lib.hid hsw
        clear hsw
        obtain ⟨r, hr⟩ : ∃ r, (s.read (wds ln).tail).getD acZ = r := ⟨_, rfl⟩
        obtain ⟨ok, hok⟩ : ∃ ok, (s.read (wds ln).tail).isSome = ok := ⟨_, rfl⟩
        have HQ6 := Lib.hid HB8.out.2
        have HRD := Lib.hid (line_read ln hx w w3 w8 s (List.mem_of_getElem? HS.out) q n c H.out.1 (by omega) hc2 H.out.2.1 H.out.2.2.2.2.2 HB8.out.1 r ok hr hok)
        have h1 : (1 : Int) ≤ (n : Int) + 1 := by omega
        have HO := Lib.hid (show _ ∧ _ from ⟨hr, hok⟩)
        clear hr hok
        go_upto_region 7 with (fail)
        case roundEnd => exact absurd (he.symm.trans (by assumption)) (by decide)
        refine wp_region_inv_eq (J := fun A d act x => ∃ u25 u26 u27 u28 u24 u29 u30 u7 u8 : Value, act = (((((((((A.put (some 25) u25).put (some 26) u26).put (some 27) u27).put (some 28) u28).put (some 24) u24).put (some 29) u29).put (some 30) u30).put (some 7) u7).put (some 8) u8) ∧ (d 0 = true → u25 = .agg #[.string s.w, .int .i64 s.k, .int .i64 s.op, .string s.fs]) ∧ (d 1 = true → u26 = .slice (some ⟨q, 0, none⟩) (n + 1) c) ∧ (d 2 = true → u27 = .slice (if c = 1 then some ⟨q, 0, none⟩ else some ⟨q, 1, none⟩) n (c - 1)) ∧ (d 3 = true → u28 = .tuple #[.agg #[.int .i64 r.k, .int .i64 r.a, .int .i64 r.b, .int .i64 r.op, .int .i64 r.st, .int .i64 r.n, .string r.app], .bool ok]) ∧ (d 4 = true → u24 = .tuple #[.agg #[.int .i64 r.k, .int .i64 r.a, .int .i64 r.b, .int .i64 r.op, .int .i64 r.st, .int .i64 r.n, .string r.app], .bool ok]) ∧ (d 5 = true → u29 = .agg #[.int .i64 r.k, .int .i64 r.a, .int .i64 r.b, .int .i64 r.op, .int .i64 r.st, .int .i64 r.n, .string r.app]) ∧ (d 6 = true → u30 = .bool ok) ∧ (d 7 = true → (∃ b : Nat, u7 = .pointer (some ⟨b, 0, none⟩) ∧ w8.heap.size ≤ b ∧ (d 8 = false → x.heap[b]? = some (.cells #[.int .i64 0, .int .i64 0, .int .i64 0, .int .i64 0, .int .i64 0, .int .i64 0, .string ⟨#[]⟩] 29 (0, 0))) ∧ (d 8 = true → x.heap[b]? = some (.cells #[.int .i64 r.k, .int .i64 r.a, .int .i64 r.b, .int .i64 r.op, .int .i64 r.st, .int .i64 r.n, .string r.app] 29 (0, 0))))) ∧ (d 9 = true → u8 = .bool ok) ∧ Below w8.heap.size w8 x ∧ (d 8 = true → d 7 = true)) (by simp only [Act.put, List.setIfInBounds_toArray, List.set_cons_succ, List.set_cons_zero]; rfl) (by kernel_rfl) (by kernel_rfl) ?_ ?_ ?_
        · refine ⟨_, _, _, _, _, _, _, _, _, rfl, ?_, ?_, ?_, ?_, ?_, ?_, ?_, ?_, ?_, ?_, ?_⟩
          · intro h; cases h
          · intro h; cases h
          · intro h; cases h
          · intro h; cases h
          · intro h; cases h
          · intro h; cases h
          · intro h; cases h
          · intro h; cases h
          · intro h; cases h
          · exact ((Below.refl _ _).drew)
          · exact (fun h => by cases h)
        · refine stepsOk_cons (k := 0) ?_ (stepsOk_cons (k := 1) ?_ (stepsOk_cons (k := 2) ?_ (stepsOk_cons (k := 3) ?_ (stepsOk_cons (k := 4) ?_ (stepsOk_cons (k := 5) ?_ (stepsOk_cons (k := 6) ?_ (stepsOk_cons (k := 7) ?_ (stepsOk_cons (k := 8) ?_ (stepsOk_cons (k := 9) ?_ stepsOk_nil)))))))))
          · unfold StepOk
            rintro d act x ⟨u25, u26, u27, u28, u24, u29, u30, u7, u8, rfl, f0, f1, f2, f3, f4, f5, f6, f7, f9, g0, g1⟩ hd hdep Kc hKc
            have hx := blk_cell (blk_ext g0 HQ6.out)
            have hxl := blk_lt (blk_ext g0 HQ6.out)
            rw [if_pos (by rfl)]
            go_big_op
            refine hKc _ _ ⟨_, _, _, _, _, _, _, _, _, rfl, ?_, ?_, ?_, ?_, ?_, ?_, ?_, ?_, ?_, ?_, ?_⟩
            · exact (fun _ => rfl)
            · exact (fun h => f1 (up h rfl))
            · exact (fun h => f2 (up h rfl))
            · exact (fun h => f3 (up h rfl))
            · exact (fun h => f4 (up h rfl))
            · exact (fun h => f5 (up h rfl))
            · exact (fun h => f6 (up h rfl))
            · exact (fun h => by obtain ⟨b, e, hb, h1, h2⟩ := f7 (up h rfl); exact ⟨b, e, hb, fun h => (h1 (dn h)), fun h => (h2 (up h rfl))⟩)
            · exact (fun h => f9 (up h rfl))
            · exact g0
            · exact (fun h => upl (g1 (up h rfl)))
          · unfold StepOk
            rintro d act x ⟨u25, u26, u27, u28, u24, u29, u30, u7, u8, rfl, f0, f1, f2, f3, f4, f5, f6, f7, f9, g0, g1⟩ hd hdep Kc hKc
            rw [if_pos (by rfl)]
            go_big_op
            refine hKc _ _ ⟨_, _, _, _, _, _, _, _, _, rfl, ?_, ?_, ?_, ?_, ?_, ?_, ?_, ?_, ?_, ?_, ?_⟩
            · exact (fun h => f0 (up h rfl))
            · exact (fun _ => rfl)
            · exact (fun h => f2 (up h rfl))
            · exact (fun h => f3 (up h rfl))
            · exact (fun h => f4 (up h rfl))
            · exact (fun h => f5 (up h rfl))
            · exact (fun h => f6 (up h rfl))
            · exact (fun h => by obtain ⟨b, e, hb, h1, h2⟩ := f7 (up h rfl); exact ⟨b, e, hb, fun h => (h1 (dn h)), fun h => (h2 (up h rfl))⟩)
            · exact (fun h => f9 (up h rfl))
            · exact g0
            · exact (fun h => upl (g1 (up h rfl)))
          · unfold StepOk
            rintro d act x ⟨u25, u26, u27, u28, u24, u29, u30, u7, u8, rfl, f0, f1, f2, f3, f4, f5, f6, f7, f9, g0, g1⟩ hd hdep Kc hKc
            have hd1 : d 1 = true := hdep ⟨1, .data⟩ (by simp) rfl
            obtain rfl := f1 hd1
            rw [if_pos (by rfl)]
            go_big_op
            refine hKc _ _ ⟨_, _, _, _, _, _, _, _, _, rfl, ?_, ?_, ?_, ?_, ?_, ?_, ?_, ?_, ?_, ?_, ?_⟩
            · exact (fun h => f0 (up h rfl))
            · exact (fun h => f1 (up h rfl))
            · exact (fun _ => rfl)
            · exact (fun h => f3 (up h rfl))
            · exact (fun h => f4 (up h rfl))
            · exact (fun h => f5 (up h rfl))
            · exact (fun h => f6 (up h rfl))
            · exact (fun h => by obtain ⟨b, e, hb, h1, h2⟩ := f7 (up h rfl); exact ⟨b, e, hb, fun h => (h1 (dn h)), fun h => (h2 (up h rfl))⟩)
            · exact (fun h => f9 (up h rfl))
            · exact g0
            · exact (fun h => upl (g1 (up h rfl)))
          · unfold StepOk
            rintro d act x ⟨u25, u26, u27, u28, u24, u29, u30, u7, u8, rfl, f0, f1, f2, f3, f4, f5, f6, f7, f9, g0, g1⟩ hd hdep Kc hKc
            have hd0 : d 0 = true := hdep ⟨0, .data⟩ (by simp) rfl
            have hd2 : d 2 = true := hdep ⟨2, .data⟩ (by simp) rfl
            obtain rfl := f0 hd0
            obtain rfl := f2 hd2
            rw [if_pos (by rfl)]
            go_big_op
            refine (HRD.out x (g0)).mono ?_
            rintro e x1 ⟨rfl, hb1⟩
            refine hKc _ _ ⟨_, _, _, _, _, _, _, _, _, rfl, ?_, ?_, ?_, ?_, ?_, ?_, ?_, ?_, ?_, ?_, ?_⟩
            · exact (fun h => f0 (up h rfl))
            · exact (fun h => f1 (up h rfl))
            · exact (fun h => f2 (up h rfl))
            · exact (fun _ => rfl)
            · exact (fun h => f4 (up h rfl))
            · exact (fun h => f5 (up h rfl))
            · exact (fun h => f6 (up h rfl))
            · exact (fun h => by obtain ⟨b, e, hb, h1, h2⟩ := f7 (up h rfl); exact ⟨b, e, hb, fun h => blk_ext hb1 (h1 (dn h)), fun h => blk_ext hb1 (h2 (up h rfl))⟩)
            · exact (fun h => f9 (up h rfl))
            · exact (ext_trans g0 hb1)
            · exact (fun h => upl (g1 (up h rfl)))
          · unfold StepOk
            rintro d act x ⟨u25, u26, u27, u28, u24, u29, u30, u7, u8, rfl, f0, f1, f2, f3, f4, f5, f6, f7, f9, g0, g1⟩ hd hdep Kc hKc
            have hd3 : d 3 = true := hdep ⟨3, .data⟩ (by simp) rfl
            obtain rfl := f3 hd3
            rw [if_pos (by rfl)]
            go_big_op
            refine hKc _ _ ⟨_, _, _, _, _, _, _, _, _, rfl, ?_, ?_, ?_, ?_, ?_, ?_, ?_, ?_, ?_, ?_, ?_⟩
            · exact (fun h => f0 (up h rfl))
            · exact (fun h => f1 (up h rfl))
            · exact (fun h => f2 (up h rfl))
            · exact (fun h => f3 (up h rfl))
            · exact (fun _ => rfl)
            · exact (fun h => f5 (up h rfl))
            · exact (fun h => f6 (up h rfl))
            · exact (fun h => by obtain ⟨b, e, hb, h1, h2⟩ := f7 (up h rfl); exact ⟨b, e, hb, fun h => (h1 (dn h)), fun h => (h2 (up h rfl))⟩)
            · exact (fun h => f9 (up h rfl))
            · exact g0
            · exact (fun h => upl (g1 (up h rfl)))
          · unfold StepOk
            rintro d act x ⟨u25, u26, u27, u28, u24, u29, u30, u7, u8, rfl, f0, f1, f2, f3, f4, f5, f6, f7, f9, g0, g1⟩ hd hdep Kc hKc
            have hd4 : d 4 = true := hdep ⟨4, .data⟩ (by simp) rfl
            obtain rfl := f4 hd4
            rw [if_pos (by rfl)]
            go_big_op
            refine hKc _ _ ⟨_, _, _, _, _, _, _, _, _, rfl, ?_, ?_, ?_, ?_, ?_, ?_, ?_, ?_, ?_, ?_, ?_⟩
            · exact (fun h => f0 (up h rfl))
            · exact (fun h => f1 (up h rfl))
            · exact (fun h => f2 (up h rfl))
            · exact (fun h => f3 (up h rfl))
            · exact (fun h => f4 (up h rfl))
            · exact (fun _ => rfl)
            · exact (fun h => f6 (up h rfl))
            · exact (fun h => by obtain ⟨b, e, hb, h1, h2⟩ := f7 (up h rfl); exact ⟨b, e, hb, fun h => (h1 (dn h)), fun h => (h2 (up h rfl))⟩)
            · exact (fun h => f9 (up h rfl))
            · exact g0
            · exact (fun h => upl (g1 (up h rfl)))
          · unfold StepOk
            rintro d act x ⟨u25, u26, u27, u28, u24, u29, u30, u7, u8, rfl, f0, f1, f2, f3, f4, f5, f6, f7, f9, g0, g1⟩ hd hdep Kc hKc
            have hd4 : d 4 = true := hdep ⟨4, .data⟩ (by simp) rfl
            obtain rfl := f4 hd4
            rw [if_pos (by rfl)]
            go_big_op
            refine hKc _ _ ⟨_, _, _, _, _, _, _, _, _, rfl, ?_, ?_, ?_, ?_, ?_, ?_, ?_, ?_, ?_, ?_, ?_⟩
            · exact (fun h => f0 (up h rfl))
            · exact (fun h => f1 (up h rfl))
            · exact (fun h => f2 (up h rfl))
            · exact (fun h => f3 (up h rfl))
            · exact (fun h => f4 (up h rfl))
            · exact (fun h => f5 (up h rfl))
            · exact (fun _ => rfl)
            · exact (fun h => by obtain ⟨b, e, hb, h1, h2⟩ := f7 (up h rfl); exact ⟨b, e, hb, fun h => (h1 (dn h)), fun h => (h2 (up h rfl))⟩)
            · exact (fun h => f9 (up h rfl))
            · exact g0
            · exact (fun h => upl (g1 (up h rfl)))
          · unfold StepOk
            rintro d act x ⟨u25, u26, u27, u28, u24, u29, u30, u7, u8, rfl, f0, f1, f2, f3, f4, f5, f6, f7, f9, g0, g1⟩ hd hdep Kc hKc
            rw [if_pos (by rfl)]
            go_big_op
            refine hKc _ _ ⟨_, _, _, _, _, _, _, _, _, rfl, ?_, ?_, ?_, ?_, ?_, ?_, ?_, ?_, ?_, ?_, ?_⟩
            · exact (fun h => f0 (up h rfl))
            · exact (fun h => f1 (up h rfl))
            · exact (fun h => f2 (up h rfl))
            · exact (fun h => f3 (up h rfl))
            · exact (fun h => f4 (up h rfl))
            · exact (fun h => f5 (up h rfl))
            · exact (fun h => f6 (up h rfl))
            · exact (fun _ => ⟨_, rfl, g0.size, fun _ => blk_new _ _ _, fun h => absurd (g1 (up h rfl)) (by rw [hd]; simp)⟩)
            · exact (fun h => f9 (up h rfl))
            · exact (g0.alloc g0.size _)
            · exact (fun h => upl (g1 (up h rfl)))
          · unfold StepOk
            rintro d act x ⟨u25, u26, u27, u28, u24, u29, u30, u7, u8, rfl, f0, f1, f2, f3, f4, f5, f6, f7, f9, g0, g1⟩ hd hdep Kc hKc
            have hd7 : d 7 = true := hdep ⟨7, .data⟩ (by simp) rfl
            have hd5 : d 5 = true := hdep ⟨5, .data⟩ (by simp) rfl
            have hd5 : d 5 = true := hdep ⟨5, .phase⟩ (by simp) rfl
            have hd7 : d 7 = true := hdep ⟨7, .phase⟩ (by simp) rfl
            obtain ⟨nb, rfl, hnb, hz, hf⟩ := f7 hd7
            obtain rfl := f5 hd5
            have HZ := hz hd
            have hbc := blk_cell HZ
            have hbf := blk_free HZ
            have hbl := blk_lt HZ
            rw [if_pos (by rfl)]
            go_big_op
            have HFF := blk_fill7 (v0 := .int .i64 r.k) (v1 := .int .i64 r.a) (v2 := .int .i64 r.b) (v3 := .int .i64 r.op) (v4 := .int .i64 r.st) (v5 := .int .i64 r.n) (v6 := .string r.app) HZ rfl
            have HBB := below_fill7 (v0 := .int .i64 r.k) (v1 := .int .i64 r.a) (v2 := .int .i64 r.b) (v3 := .int .i64 r.op) (v4 := .int .i64 r.st) (v5 := .int .i64 r.n) (v6 := .string r.app) g0 hnb
            refine hKc _ _ ⟨_, _, _, _, _, _, _, _, _, rfl, ?_, ?_, ?_, ?_, ?_, ?_, ?_, ?_, ?_, ?_, ?_⟩
            · exact (fun h => f0 (up h rfl))
            · exact (fun h => f1 (up h rfl))
            · exact (fun h => f2 (up h rfl))
            · exact (fun h => f3 (up h rfl))
            · exact (fun h => f4 (up h rfl))
            · exact (fun h => f5 (up h rfl))
            · exact (fun h => f6 (up h rfl))
            · exact (fun h => ⟨nb, rfl, hnb, fun h => by simp at h, fun _ => HFF⟩)
            · exact (fun h => f9 (up h rfl))
            · exact HBB
            · exact (fun h => upl hd7)
          · unfold StepOk
            rintro d act x ⟨u25, u26, u27, u28, u24, u29, u30, u7, u8, rfl, f0, f1, f2, f3, f4, f5, f6, f7, f9, g0, g1⟩ hd hdep Kc hKc
            have hd6 : d 6 = true := hdep ⟨6, .data⟩ (by simp) rfl
            have hd6 : d 6 = true := hdep ⟨6, .phase⟩ (by simp) rfl
            obtain rfl := f6 hd6
            rw [if_pos (by rfl)]
            go_big_op
            refine hKc _ _ ⟨_, _, _, _, _, _, _, _, _, rfl, ?_, ?_, ?_, ?_, ?_, ?_, ?_, ?_, ?_, ?_, ?_⟩
            · exact (fun h => f0 (up h rfl))
            · exact (fun h => f1 (up h rfl))
            · exact (fun h => f2 (up h rfl))
            · exact (fun h => f3 (up h rfl))
            · exact (fun h => f4 (up h rfl))
            · exact (fun h => f5 (up h rfl))
            · exact (fun h => f6 (up h rfl))
            · exact (fun h => by obtain ⟨b, e, hb, h1, h2⟩ := f7 (up h rfl); exact ⟨b, e, hb, fun h => (h1 (dn h)), fun h => (h2 (up h rfl))⟩)
            · exact (fun _ => rfl)
            · exact g0
            · exact (fun h => upl (g1 (up h rfl)))
        · rintro d act x ⟨u25, u26, u27, u28, u24, u29, u30, u7, u8, rfl, f0, f1, f2, f3, f4, f5, f6, f7, f9, g0, g1⟩ hall
          obtain rfl := f0 (hall 0 (by decide))
          obtain rfl := f1 (hall 1 (by decide))
          obtain rfl := f2 (hall 2 (by decide))
          obtain rfl := f3 (hall 3 (by decide))
          obtain rfl := f4 (hall 4 (by decide))
          obtain rfl := f5 (hall 5 (by decide))
          obtain rfl := f6 (hall 6 (by decide))
          obtain ⟨nb, rfl, hnb, hz, hf⟩ := f7 (hall 7 (by decide))
          obtain rfl := f9 (hall 9 (by decide))
          have HNB := Lib.hid (hf (hall 8 (by decide)))
          have HWB := Lib.hid g0
          have HNL := Lib.hid hnb
          clear f0 f1 f2 f3 f4 f5 f6 f7 f9 g1 hz hf hall g0 hnb
          have HP9 := Lib.hid (show _ ∧ _ from ⟨blk_ext (ext_trans HB8.out.1 HWB.out) H.out.2.2.2.1, ext_trans HB8.out.1 HWB.out⟩)
          have hcp := blk_cell HP9.out.1
          have hfp := blk_free HP9.out.1
          have hlp := blk_lt HP9.out.1
          simp only [acC, acZ] at hcp
          have hc7 := blk_cell HNB.out
          have hl7 := blk_lt HNB.out
          clear he h1
          cases ok with
          | true =>
            have hle : w.heap.size ≤ p := Nat.le_of_eq HB.out.2.2.2
            have hrd : s.read (wds ln).tail = some r := by
              have h1 := HO.out.1
              have h2 := HO.out.2
              cases h : s.read (wds ln).tail with
              | none => rw [h] at h2; cases h2
              | some b => rw [h] at h1; exact congrArg some h1
            have HRN := Lib.hid (show R = some r from by rw [← HF.out, HD.out]; simp only [fnd]; rw [if_pos HSW.out, hrd])
            clear hrd
            go_wp2_with fail
            all_goals exact bodyPost_ret (v := .tuple #[.agg (acC r), .nilIface]) (by have hk2 := blk_cell (blk_fill7 (v0 := .int .i64 r.k) (v1 := .int .i64 r.a) (v2 := .int .i64 r.b) (v3 := .int .i64 r.op) (v4 := .int .i64 r.st) (v5 := .int .i64 r.n) (v6 := .string r.app) HP9.out.1 rfl); simp [results, Tryz.results16, go_sem, hk2, acC]) rfl ⟨.nilIface, by rw [HRN.out]; rfl, below_fill7 (ext_trans H.out.2.2.1 HP9.out.2) hle, fun _ => rfl, fun h => by rw [HRN.out] at h; cases h⟩
          | false =>
            have hrd : s.read (wds ln).tail = none := by
              have h2 := HO.out.2
              cases h : s.read (wds ln).tail with
              | none => rfl
              | some b => rw [h] at h2; cases h2
            have HRN := Lib.hid (show fnd (hdw ln) (wds ln).tail (shs.drop (J + 1)) = R from by rw [← HF.out, HD.out]; simp only [fnd]; rw [if_pos HSW.out, hrd])
            clear hrd
            go_wp2_with fail
            all_goals exact ⟨⟨J + 1, by omega, by go_num, HRN.out, HP9.out.2⟩, by simp [RowKit.intOf]; omega⟩
      · have he : (!s.w.toList == (hdw ln).toList) = true := by
          cases h : (s.w.toList == (hdw ln).toList) with
          | true => exact absurd (ba_inj (by simpa using h)) hsw
          | false => rfl
        go_wp2_with fail
        exact ⟨⟨J + 1, by omega, by go_num, by rw [← HF.out, HD.out]; simp [fnd, hsw], HB8.out.1⟩, by simp [RowKit.intOf]; omega⟩
        all_goals exact absurd (he.symm.trans (by assumption)) (by decide)
    · obtain rfl : J = 11 := by omega
      have x5 := ext_cell HB5.out HX.out.2
      have l5 := cell_lt x5
      go_wp2_with fail
      refine (faultNew (hdw ln) 12 w5 (by decide)).mono ?_
      rintro e w4 ⟨e', rfl, hf4, hb4⟩
      have HZ := Lib.hid (show _ ∧ _ ∧ _ from ⟨blk_ext (ext_trans HB5.out hb4) H.out.2.2.2.1, ext_trans H.out.2.2.1 (ext_trans HB5.out hb4), hf4⟩)
      have hc5 := blk_cell HZ.out.1
      have hf5 := blk_free HZ.out.1
      have hl5 := blk_lt HZ.out.1
      simp only [acC, acZ] at hc5
      clear hb4 hf4 x5 l5
      have hle : w.heap.size ≤ p := Nat.le_of_eq HB.out.2.2.2
      have HRN := Lib.hid (show R = none from HF.out.symm)
      go_wp2_with fail
      exact bodyPost_ret (v := .tuple #[.agg (acC acZ), e']) (by have hk2 := blk_cell (blk_fill7 (v0 := .int .i64 0) (v1 := .int .i64 0) (v2 := .int .i64 0) (v3 := .int .i64 0) (v4 := .int .i64 0) (v5 := .int .i64 0) (v6 := .string ⟨#[]⟩) HZ.out.1 rfl); simp [results, Tryz.results16, go_sem, hk2, acC, acZ]) rfl ⟨e', by rw [HRN.out]; rfl, below_fill7 HZ.out.2.1 hle, (fun h => by rw [HRN.out] at h; cases h), fun _ => FC.over7 HZ.out.2.2 HZ.out.1⟩
theorem lineP (ln : ByteArray) (hx : ln.size ≤ 1048576) (w : World) (hw : SW w) : LineP ln w := by
  by_cases h : 0 ≤ Lib.indexByte ln.data.toList 10
  · exact line_nl ln hx w hw h
  · exact line_go ln hx w hw h
end Go.Proofs.YtcgembfdejjliaaGreatDoor
