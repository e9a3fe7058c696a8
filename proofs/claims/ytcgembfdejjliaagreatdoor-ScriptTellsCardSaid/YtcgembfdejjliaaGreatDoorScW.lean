/- script.write: an act as a line. -/
import Derived.Test.YtcgembfdejjliaaGreatDoorScG
import Derived.Test.YtcgembfdejjliaaGreatDoorHist
namespace Go.Proofs.YtcgembfdejjliaaGreatDoor
open Go.RowKit
set_option linter.unusedVariables false

/-- an act as a line, by the first shape that is its own -/
def wrM (a : Ac) : List Sh → ByteArray
  | [] => ⟨#[]⟩
  | s :: r => if s.k = a.k ∧ s.op = a.op then ⟨(Lib.join ((s.w :: s.fs.data.toList.map (getM a)).map (·.data.toList)) [32]).toArray⟩ else wrM a r

theorem join_len (sep : List UInt8) (M : Nat) : ∀ xs : List (List UInt8), (∀ x ∈ xs, x.length ≤ M) → (Lib.join xs sep).length ≤ xs.length * (M + sep.length)
  | [], _ => by simp [Lib.join]
  | [x], h => by
    have := h x (by simp)
    simp [Lib.join]
    omega
  | x :: y :: r, h => by
    have h1 := h x (by simp)
    have ih := join_len sep M (y :: r) (fun z hz => h z (List.mem_cons_of_mem _ hz))
    have e : Lib.join (x :: y :: r) sep = x ++ sep ++ Lib.join (y :: r) sep := by simp [Lib.join, List.intercalate, List.intersperse]
    rw [e]
    simp only [List.length_append, List.length_cons] at ih ⊢
    rw [Nat.add_mul (r.length + 1)]
    omega
theorem shs_wz : ∀ s ∈ shs, s.w.size ≤ 8 := by
  intro s hs
  simp only [shs, List.mem_cons, List.mem_nil_iff, or_false] at hs
  rcases hs with rfl | rfl | rfl | rfl | rfl | rfl | rfl | rfl | rfl | rfl | rfl <;> decide
theorem getM_len (a : Ac) (ha : AcOk a) (hap : a.app.size ≤ 1048576) (f : UInt8) : (getM a f).size ≤ 1048576 := by
  have h1 := ito_len _ ha.1
  have h2 := ito_len _ ha.2.1
  have h3 := ito_len _ ha.2.2.1
  have h4 := ito_len _ ha.2.2.2
  unfold getM
  repeat' split
  all_goals omega
theorem wr_small (a : Ac) (ha : AcOk a) (hap : a.app.size ≤ 1048576) (s : Sh) (hs : s ∈ shs) (l : List UInt8) : ∀ x ∈ (s.w :: l.map (getM a)).map (fun y : ByteArray => y.data.toList), x.length ≤ 1048576 := by
  intro x hx
  simp only [List.map_cons, List.map_map, List.mem_cons, List.mem_map, Function.comp] at hx
  rcases hx with rfl | ⟨f, _, rfl⟩
  · have := shs_wz s hs
    show s.w.size ≤ _
    omega
  · exact getM_len a ha hap f
theorem shs_sz : ∀ s ∈ shs, s.fs.size ≤ 3 := by
  intro s hs
  simp only [shs, List.mem_cons, List.mem_nil_iff, or_false] at hs
  rcases hs with rfl | rfl | rfl | rfl | rfl | rfl | rfl | rfl | rfl | rfl | rfl <;> decide

set_option maxRecDepth 100000 in
set_option maxHeartbeats 4000000 in
theorem writeP (a : Ac) (ha : AcOk a) (hap : a.app.size ≤ 1048576) (w : World) (hw : SW w) :
    Calls Tryz.prog 20 #[.agg #[.int .i64 a.k, .int .i64 a.a, .int .i64 a.b, .int .i64 a.op, .int .i64 a.st, .int .i64 a.n, .string a.app]] w fun e w' => e = .returned (.string (wrM a shs)) ∧ Below w.heap.size w w' := by
  obtain ⟨R, hR⟩ : ∃ R, wrM a shs = R := ⟨_, rfl⟩
  rw [hR]
  obtain ⟨i0, hi, hz0, hz1, hz2⟩ := info_parts2 info_str2
  have hb1 : Below w.heap.size w (w.alloc (.cells #[.int .i64 a.k, .int .i64 a.a, .int .i64 a.b, .int .i64 a.op, .int .i64 a.st, .int .i64 a.n, .string a.app] 29)) := (Below.refl _ _).alloc (Nat.le_refl _) _
  have hq1 := blk_new w #[.int .i64 a.k, .int .i64 a.a, .int .i64 a.b, .int .i64 a.op, .int .i64 a.st, .int .i64 a.n, .string a.app] 29
  have HB := Lib.hid (show _ ∧ _ ∧ _ ∧ _ from ⟨hb1, hw.ext hb1, hq1, hR⟩)
  clear hb1 hw hq1 hR
  obtain ⟨T0, fr0, hrow⟩ := HB.out.2.1.row
  have hinf := shs_info
  have HIX := Lib.hid shs_at
  obtain ⟨C, hC⟩ : ∃ C : Array Value, shC.toArray = C := ⟨_, rfl⟩
  rw [hC] at hrow hinf HIX
  clear hC
  obtain ⟨q, hq⟩ : ∃ q, w.heap.size = q := ⟨_, rfl⟩
  go_enter Tryz.func20, Tryz.ntmps20
  go_upto_region 1 with (fail)
  refine wp_region_lit ?_
  refine wpList_load_row rfl 75 _ rfl 0 rfl T0 C fr0 _ hrow Tryz.underlying75 rfl hinf ?_
  simp only [Act.put, List.setIfInBounds_toArray, List.set_cons_succ, List.set_cons_zero]
  clear hrow hinf
  generalize (w.alloc (.cells #[.int .i64 a.k, .int .i64 a.a, .int .i64 a.b, .int .i64 a.op, .int .i64 a.st, .int .i64 a.n, .string a.app] 29)) = w1 at *
  have HQ := Lib.hid (show w1.heap[q]? = some (.cells #[.int .i64 a.k, .int .i64 a.a, .int .i64 a.b, .int .i64 a.op, .int .i64 a.st, .int .i64 a.n, .string a.app] 29 (0, 0)) from by rw [← hq]; exact HB.out.2.2.1)
  have HW := Lib.hid hq
  go_wp2_with fail
  clear hq
  go_loopw [8] (fun j wr => ∃ J : Nat, J ≤ 11 ∧ j = .int .i64 (J : Int) ∧ wrM a (shs.drop J) = R ∧ Below w1.heap.size w1 wr) (fun j _ => 11 - (RowKit.intOf j).toNat)
  case atStart => exact ⟨0, by omega, rfl, HB.out.2.2.2, Below.refl _ _⟩
  case round =>
    obtain ⟨w5, rfl⟩ : ∃ y : World, y = wr := ⟨_, rfl⟩
    obtain ⟨J, hJ, rfl, hfn, hb5⟩ := hrel
    have HF := Lib.hid hfn
    have HB5 := Lib.hid hb5
    have cq := blk_cell (blk_ext hb5 HQ.out)
    have lq := blk_lt (blk_ext hb5 HQ.out)
    clear hfn hb5
    by_cases hlt : J < 11
    · obtain ⟨s, hs⟩ : ∃ s, shs[J]? = some s := ⟨_, List.getElem?_eq_getElem (by show J < 11; exact hlt)⟩
      have hix := HIX.out J s hs
      have HS := Lib.hid hs
      have HD := Lib.hid (show wrM a (shs.drop J) = _ from by rw [List.drop_eq_getElem_cons (show J < shs.length from hlt), (List.getElem?_eq_some_iff.1 hs).2])
      clear hs
      go_upto_region 5 with (fail)
      case roundEnd => exact ⟨⟨J + 1, by omega, by go_num, by rw [← HF.out, HD.out, wrM, if_neg (by intro h; simp_all)], ext_trans HB5.out ((Below.refl _ _).alloc (Nat.le_refl _) _)⟩, by simp [RowKit.intOf]; omega⟩
      case roundEnd => exact ⟨⟨J + 1, by omega, by go_num, by rw [← HF.out, HD.out, wrM, if_neg (by intro h; simp_all)], ext_trans HB5.out ((Below.refl _ _).alloc (Nat.le_refl _) _)⟩, by simp [RowKit.intOf]; omega⟩
      have HRN := Lib.hid (show R = ⟨(Lib.join ((s.w :: s.fs.data.toList.map (getM a)).map (·.data.toList)) [32]).toArray⟩ from by rw [← HF.out, HD.out, wrM, if_pos (by constructor <;> (first | assumption | simpa using (show (s.op != a.op) = false by assumption)))])
      have hb6 : Below w5.heap.size w5 (w5.alloc (.cells #[.string s.w, .int .i64 a.k, .int .i64 s.op, .string s.fs] 74)) := (Below.refl _ _).alloc (Nat.le_refl _) _
      have hx6 := blk_new w5 #[.string s.w, .int .i64 a.k, .int .i64 s.op, .string s.fs] 74
      have HB6 := Lib.hid (ext_trans HB5.out hb6)
      generalize (w5.alloc (.cells #[.string s.w, .int .i64 a.k, .int .i64 s.op, .string s.fs] 74)) = w6 at *
      generalize w5.heap.size = sb at *
      have HX6 := Lib.hid hx6
      have c6 := blk_cell hx6
      have l6 := blk_lt hx6
      obtain ⟨n, hn⟩ : ∃ n, s.fs.size = n := ⟨_, rfl⟩
      have hfl : s.fs.data.toList.length = n := hn
      have HN := Lib.hid (show _ ∧ _ from ⟨hn, hfl⟩)
      have hn3 : n ≤ 3 := by have := shs_sz s (List.mem_of_getElem? HS.out); omega
      have hni : (s.fs.size : Int) = (n : Int) := by omega
      clear hb6 hx6 cq lq hn hfl
      go_wp2_with fail
      clear c6 l6
      have HO0 := Lib.hid (show OwnT w6.heap.size (w6.alloc (.cells #[.string s.w] 9)) (.slice (some ⟨w6.heap.size, 0, none⟩) 1 1) [s.w] from ⟨rfl, .inr ⟨w6.heap.size, 1, #[.string s.w], rfl, Nat.le_refl _, blk_new _ _ _, Nat.le_refl _, by simp [maxLen], rfl, rfl⟩⟩)
      go_loopw [5, 29] (fun v i wr => ∃ I : Nat, I ≤ n ∧ i = .int .i64 (I : Int) ∧ OwnT w6.heap.size wr v (s.w :: (s.fs.data.toList.take I).map (getM a)) ∧ Below w6.heap.size w6 wr) (fun _ i _ => n - (RowKit.intOf i).toNat)
      case atStart => exact ⟨0, by omega, rfl, HO0.out, (Below.refl _ _).alloc (Nat.le_refl _) _⟩
      case round =>
        obtain ⟨w7, rfl⟩ : ∃ y : World, y = wr := ⟨_, rfl⟩
        obtain ⟨I, hI, rfl, ho7, hb7⟩ := hrel
        obtain ⟨ga, gc, rfl, hgc, hgm, -⟩ := OwnR.form ho7
        have hL : (s.w :: (s.fs.data.toList.take I).map (getM a)).length = I + 1 := by simp [List.length_take]; have := HN.out.2; simp at this; omega
        have HO7 := Lib.hid (show w7.ownsRow w6.heap.size 9 1 (.slice ga (I + 1) gc) (I + 1) (flat eb (s.w :: (s.fs.data.toList.take I).map (getM a))) from by unfold OwnT OwnR at ho7; rw [hL] at ho7; exact ho7)
        rw [hL] at hgc ⊢
        have HB7 := Lib.hid hb7
        have HLL := Lib.hid hL
        unfold maxLen at hgm
        clear ho7 hb7 hL
        by_cases hlt2 : I < n
        · obtain ⟨f, hf⟩ : ∃ f, s.fs.data.toList[I]? = some f := ⟨_, List.getElem?_eq_getElem (by have := HN.out.2; omega)⟩
          have HF2 := Lib.hid hf
          have hgf : ∀ h : I < s.fs.size, s.fs[I] = f := fun h => by
            have := hf
            rw [List.getElem?_eq_getElem (by exact h)] at this
            exact Option.some.inj this
          have HG := Lib.hid hgf
          clear hf hgf
          go_upto_region 9 with (fail)
          have QB := blk_ext HB6.out HQ.out
          haveI hI0 : Nonempty (In (Below w6.heap.size w6)) := ⟨⟨w6, Below.refl _ _⟩⟩
          have hQ0 : ∀ g' : In (Below w6.heap.size w6), g'.w.cell? ⟨q, 0, none⟩ = some (.int .i64 a.k) := fun g' => ext_cell g'.h (by rw [blk_cell QB]; rfl)
          have hQ1 : ∀ g' : In (Below w6.heap.size w6), g'.w.cell? ⟨q, 1, none⟩ = some (.int .i64 a.a) := fun g' => ext_cell g'.h (by rw [blk_cell QB]; rfl)
          have hQ2 : ∀ g' : In (Below w6.heap.size w6), g'.w.cell? ⟨q, 2, none⟩ = some (.int .i64 a.b) := fun g' => ext_cell g'.h (by rw [blk_cell QB]; rfl)
          have hQ3 : ∀ g' : In (Below w6.heap.size w6), g'.w.cell? ⟨q, 3, none⟩ = some (.int .i64 a.op) := fun g' => ext_cell g'.h (by rw [blk_cell QB]; rfl)
          have hQ4 : ∀ g' : In (Below w6.heap.size w6), g'.w.cell? ⟨q, 4, none⟩ = some (.int .i64 a.st) := fun g' => ext_cell g'.h (by rw [blk_cell QB]; rfl)
          have hQ5 : ∀ g' : In (Below w6.heap.size w6), g'.w.cell? ⟨q, 5, none⟩ = some (.int .i64 a.n) := fun g' => ext_cell g'.h (by rw [blk_cell QB]; rfl)
          have hQ6 : ∀ g' : In (Below w6.heap.size w6), g'.w.cell? ⟨q, 6, none⟩ = some (.string a.app) := fun g' => ext_cell g'.h (by rw [blk_cell QB]; rfl)
          have hLq : ∀ g' : In (Below w6.heap.size w6), q < g'.w.heap.size := fun g' => Nat.lt_of_lt_of_le (blk_lt QB) g'.h.size
          have hS3 : ∀ g' : In (Below w6.heap.size w6), g'.w.cell? ⟨sb, 3, none⟩ = some (.string s.fs) := fun g' => ext_cell g'.h (by rw [blk_cell HX6.out]; rfl)
          have hLs : ∀ g' : In (Below w6.heap.size w6), sb < g'.w.heap.size := fun g' => Nat.lt_of_lt_of_le (blk_lt HX6.out) g'.h.size
          have hIs : I < s.fs.size := by have := HN.out.1; omega
          clear QB
          refine Hist.wp_region_hist (Below w6.heap.size w6) (by kernel_rfl) (by kernel_rfl) (by kernel_rfl) (HB7.out.drew) ?_
          have D0 := Lib.hid (show Below w6.heap.size w6 w7.drew ∧ _ from ⟨HB7.out.drew, HO7.out.drew⟩)
          generalize w7.drew = w8 at *
          repeat (first | (refine Hist.wpG_plain 0 _ (by decide +kernel) rfl (by rfl) (by rfl) (fun K hK => ?_); go_big_quiet_op; refine hK _ ?_; clear hK K))
          refine Hist.wpG_call (by rfl) (by rfl) (fun K hK => ?_)
          go_big_op
          rw [HG.out hIs]
          refine (getP a ha f (shs_fs s (List.mem_of_getElem? HS.out) f (List.mem_of_getElem? HF2.out)) _ ((HB.out.2.1.ext HB6.out).ext D0.out.1)).mono ?_
          rintro e w9 ⟨rfl, hb9⟩
          have D1 := Lib.hid (show Below w6.heap.size w6 w9 ∧ _ from ⟨D0.out.1.trans (hb9.mono D0.out.1.size), ownsRow_ext D0.out.2 hb9⟩)
          refine hK _ _ ⟨(Below w6.heap.size w6), (by simp only [List.cons_append, List.nil_append, List.forall_mem_cons]; repeat' (first | exact D1.out.1 | (intro _ h; cases h; done) | constructor)), ?_⟩
          clear hK K D0 hb9
          repeat (first | (refine Hist.wpG_plain 1 _ (by decide +kernel) rfl (by rfl) (by rfl) (fun K hK => ?_); go_big_quiet_op; refine hK _ ?_; clear hK K) | (refine Hist.wpG_plain 0 _ (by decide +kernel) rfl (by rfl) (by rfl) (fun K hK => ?_); go_big_quiet_op; refine hK _ ?_; clear hK K))
          refine Hist.wpG_call (by rfl) (by rfl) (fun K hK => ?_)
          go_big_op
          have D2 := Lib.hid (show Below w6.heap.size w6 (w9.alloc (.cells #[.string (getM a f)] 9)) ∧ _ ∧ _ from ⟨D1.out.1.alloc D1.out.1.size _, D1.out.2.alloc (.cells #[.string (getM a f)] 9), blk_new w9 #[.string (getM a f)] 9⟩)
          refine hK _ _ ⟨(Below w6.heap.size w6), (by simp only [List.cons_append, List.nil_append, List.forall_mem_cons]; repeat' (first | exact D2.out.1 | (intro _ h; cases h; done) | constructor)), ?_⟩
          clear hK K D1
          generalize (w9.alloc (.cells #[.string (getM a f)] 9)) = w10 at *
          generalize w9.heap.size = nb at *
          repeat (first | (refine Hist.wpG_plain 2 _ (by decide +kernel) rfl (by rfl) (by rfl) (fun K hK => ?_); go_big_quiet_op; refine hK _ ?_; clear hK K) | (refine Hist.wpG_plain 1 _ (by decide +kernel) rfl (by rfl) (by rfl) (fun K hK => ?_); go_big_quiet_op; refine hK _ ?_; clear hK K) | (refine Hist.wpG_plain 0 _ (by decide +kernel) rfl (by rfl) (by rfl) (fun K hK => ?_); go_big_quiet_op; refine hK _ ?_; clear hK K))
          refine Hist.wpG_call (by rfl) (by rfl) (fun K hK => ?_)
          refine wp_append_own _ _ _ 22 rfl (w6.heap.size) 9 i0 (.string ⟨#[]⟩) 1 16 Tryz.underlying22 hi hz0 hz1 hz2 rfl (by decide) (.slice ga (I + 1) gc) (I + 1) (flat eb (s.w :: (s.fs.data.toList.take I).map (getM a))) rfl D2.out.2.1 ⟨nb, 0, none⟩ 1 1 (eb (getM a f)) rfl rfl ?c1 ?c2 ?c3 ?c4 ?c5 ?_
          case c1 => intro j u hj; rw [add_off, Nat.zero_add, blk_cell D2.out.2.2]; simpa [eb] using hj
          case c2 => intro u hu; simp only [eb, List.mem_cons, List.not_mem_nil, or_false] at hu; subst hu; rfl
          case c3 => unfold maxLen; omega
          case c4 => omega
          case c5 => exact D2.out.1.size
          intro v5 x5 ho5 hg5 _
          have D3 := Lib.hid (show Below w6.heap.size w6 x5 ∧ OwnT w6.heap.size x5 v5 (s.w :: (s.fs.data.toList.take (I + 1)).map (getM a)) from ⟨D2.out.1.grown hg5 D2.out.1.size (fun q hq => own_ge D2.out.2.1 hq), by
            have e1 : (s.w :: (s.fs.data.toList.take (I + 1)).map (getM a)) = (s.w :: (s.fs.data.toList.take I).map (getM a)) ++ [getM a f] := by rw [List.take_add_one, HF2.out]; simp
            unfold OwnT OwnR
            rw [e1, flat_snoc, List.length_append, HLL.out]
            exact ho5⟩)
          refine hK _ _ ⟨(Below w6.heap.size w6), (by simp only [List.cons_append, List.nil_append, List.forall_mem_cons]; repeat' (first | exact D3.out.1 | (intro _ h; cases h; done) | constructor)), ?_⟩
          clear hK K ho5 hg5 D2
          try simp only [Act.put, List.setIfInBounds_toArray, List.set_cons_succ, List.set_cons_zero]
          repeat (first | (refine Hist.wpG_plain 3 _ (by decide +kernel) rfl (by rfl) (by rfl) (fun K hK => ?_); go_big_quiet_op; refine hK _ ?_; clear hK K) | (refine Hist.wpG_plain 2 _ (by decide +kernel) rfl (by rfl) (by rfl) (fun K hK => ?_); go_big_quiet_op; refine hK _ ?_; clear hK K) | (refine Hist.wpG_plain 1 _ (by decide +kernel) rfl (by rfl) (by rfl) (fun K hK => ?_); go_big_quiet_op; refine hK _ ?_; clear hK K) | (refine Hist.wpG_plain 0 _ (by decide +kernel) rfl (by rfl) (by rfl) (fun K hK => ?_); go_big_quiet_op; refine hK _ ?_; clear hK K))
          refine Hist.wpG_nil ?_
          clear hI0 hQ0 hQ1 hQ2 hQ3 hQ4 hQ5 hQ6 hLq hS3 hLs hIs
          go_wp2_with fail
          exact ⟨⟨I + 1, by omega, by go_num, D3.out.2, D3.out.1⟩, by simp [RowKit.intOf]; omega⟩
        · obtain rfl : I = n := by omega
          have hO := (show OwnT w6.heap.size w7 (.slice ga (I + 1) gc) (s.w :: (s.fs.data.toList.take I).map (getM a)) from by unfold OwnT OwnR; rw [HLL.out]; exact HO7.out)
          obtain ⟨g, rfl, hg1, hg2, -, -⟩ := OwnR.addr hO HLL.out (by omega)
          obtain ⟨a', c', e1, -, -, e2⟩ := OwnT.tx hO
          have hcl : ∀ (j : Nat) x, (s.w :: (s.fs.data.toList.take I).map (getM a))[j]? = some x → w7.cell? ⟨g, 0 + j, none⟩ = some (.string x) := by
            rcases e2 with e2 | ⟨b, o, e2, e3⟩
            · cases e2
            · subst e2
              simp only [Value.slice.injEq] at e1
              obtain ⟨rfl, rfl⟩ : g = b ∧ 0 = o := by simpa using e1.1
              exact e3
          have HJ := Lib.hid (show _ ∧ _ from ⟨hcl, hg2⟩)
          have hall : (s.w :: (s.fs.data.toList.take I).map (getM a)) = s.w :: s.fs.data.toList.map (getM a) := by rw [List.take_of_length_le (by rw [HN.out.2]; exact Nat.le_refl _)]
          have HA2 := Lib.hid hall
          clear hO e1 e2 hcl hg2 hall
          go_wp2_with fail
          have hj := Tryz.strings_Join g 0 gc (s.w :: (s.fs.data.toList.take I).map (getM a)) ⟨#[32]⟩ w7 HJ.out.1 HJ.out.2 (by rw [HLL.out]; omega) (by rw [HLL.out]; omega) (by
            have := join_len [32] 1048576 ((s.w :: (s.fs.data.toList.take I).map (getM a)).map (·.data.toList)) (wr_small a ha hap s (List.mem_of_getElem? HS.out) _)
            rw [List.length_map, HLL.out] at this
            simp at this ⊢
            omega)
          rw [HLL.out] at hj
          refine hj.mono ?_
          rintro e w9 ⟨rfl, hb9⟩
          have HE := Lib.hid (ext_trans (ext_trans HB.out.1 (ext_trans HB6.out HB7.out)) hb9)
          go_wp2
          go_ret
          exact ⟨by rw [HRN.out, ← HA2.out]; first | rfl | simp, HE.out⟩
    · obtain rfl : J = 11 := by omega
      have HRN := Lib.hid (show R = ⟨#[]⟩ from HF.out.symm)
      go_wp2_with fail
      go_ret
      exact ⟨by rw [HRN.out]; rfl, ext_trans HB.out.1 HB5.out⟩
end Go.Proofs.YtcgembfdejjliaaGreatDoor
