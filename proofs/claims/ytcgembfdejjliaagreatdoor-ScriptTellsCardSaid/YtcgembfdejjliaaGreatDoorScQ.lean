/- script.Parse: the acts of a text, and what is wrong with the lines that are none. -/
import Derived.Test.YtcgembfdejjliaaGreatDoorScL
import Derived.Test.YtcgembfdejjliaaGreatDoorFauI
import Derived.Test.YtcgembfdejjliaaGreatDoorRim
import Derived.Test.YtcgembfdejjliaaGreatDoorBytes
namespace Go.Proofs.YtcgembfdejjliaaGreatDoor
open Go.RowKit
set_option linter.unusedVariables false

def aE (r : Ac) : List Value := [.int .i64 r.k, .int .i64 r.a, .int .i64 r.b, .int .i64 r.op, .int .i64 r.st, .int .i64 r.n, .string r.app]
def eE (v : Value) : List Value := [v]
/-- how a line is told -/
def lnm (p : Nat) : ByteArray := ⟨([108, 105, 110, 101, 32] ++ Lib.itoa (p : Int)).toArray⟩
/-- the errors of lines -/
def FErr (w : World) : List (Nat × ByteArray) → List Value → Prop
  | [], [] => True
  | f :: F, v :: vs => FC w (.iface 39 (.int .i64 12)) [lnm f.1, f.2] v ∧ FErr w F vs
  | _, _ => False
theorem FErr.keep {w w' : World} (hk : ∀ (b : Nat) (vs : Array Value), w.heap[b]? = some (.cells vs 71 (0, 0)) → w'.heap[b]? = some (.cells vs 71 (0, 0))) : ∀ {F : List (Nat × ByteArray)} {vs : List Value}, FErr w F vs → FErr w' F vs
  | [], [], h => h
  | _ :: _, _ :: _, h => ⟨FC.keep hk h.1, FErr.keep hk h.2⟩
  | [], _ :: _, h => h.elim
  | _ :: _, [], h => h.elim
theorem FErr.snoc {w : World} {f : Nat × ByteArray} {v : Value} (hv : FC w (.iface 39 (.int .i64 12)) [lnm f.1, f.2] v) : ∀ {F : List (Nat × ByteArray)} {vs : List Value}, FErr w F vs → FErr w (F ++ [f]) (vs ++ [v])
  | [], [], h => ⟨hv, trivial⟩
  | _ :: _, _ :: _, h => ⟨h.1, FErr.snoc hv h.2⟩
  | [], _ :: _, h => h.elim
  | _ :: _, [], h => h.elim
theorem FErr.len {w : World} : ∀ {F : List (Nat × ByteArray)} {vs : List Value}, FErr w F vs → vs.length = F.length
  | [], [], h => rfl
  | _ :: _, _ :: _, h => by simp [FErr.len h.2]
  | [], _ :: _, h => h.elim
  | _ :: _, [], h => h.elim
/-- the rows of a parse -/
structure PQ (w wr : World) (va vf : Value) (A : List Ac) (F : List (Nat × ByteArray)) (vs : List Value) : Prop where
  oa : OwnR aE 7 29 w.heap.size wr va A
  ov : OwnR eE 1 42 w.heap.size wr vf vs
  fe : FErr wr F vs
  bl : Below w.heap.size w wr
theorem PQ.ext {w wr wr' : World} {va vf : Value} {A : List Ac} {F : List (Nat × ByteArray)} {vs : List Value} (h : PQ w wr va vf A F vs) (hb : Below wr.heap.size wr wr') : PQ w wr' va vf A F vs :=
  ⟨h.oa.ext hb, h.ov.ext hb, h.fe.keep fun b us e => blk_ext hb e, ext_trans h.bl hb⟩
theorem info_act : (Tryz.prog.info? 29).map (fun i => (i.zero, i.size, i.bytes)) = some (some (.agg #[.int .i64 0, .int .i64 0, .int .i64 0, .int .i64 0, .int .i64 0, .int .i64 0, .string ⟨#[]⟩]), 7, 64) := by kernel_rfl
theorem info_err : (Tryz.prog.info? 42).map (fun i => (i.zero, i.size, i.bytes)) = some (some .nilIface, 1, 16) := by kernel_rfl
/-- an act behind the acts -/
theorem pq_act {w w5 w7 : World} {va vf v7 : Value} {A A' : List Ac} {F : List (Nat × ByteArray)} {vs : List Value} {C : Array Value} (h : PQ w w5 va vf A F vs) (ho : w5.ownsRow w.heap.size 29 7 va A.length (flat aE A)) (ho7 : OwnR aE 7 29 w.heap.size w7 v7 A') (hg : (w5.alloc (.cells C 29)).grownBy w7 va.ownBlock) : PQ w w7 v7 vf A' F vs := by
  have h6 := h.ext ((Below.refl w5.heap.size w5).alloc (Nat.le_refl _) (.cells C 29))
  have ho6 := ho.alloc (.cells C 29)
  have hk : ∀ (T : TypeId), T ≠ 29 → ∀ (b : Nat) (cur : Array Value), (w5.alloc (.cells C 29)).heap[b]? = some (.cells cur T (0, 0)) → w7.heap[b]? = (w5.alloc (.cells C 29)).heap[b]? := fun T hT b cur hb => hg.block b (blk_lt hb) (own_ne ho6 hb hT)
  refine ⟨ho7, own_blocks h6.ov (hk _ (by decide)), h6.fe.keep fun b us hb => (hk _ (by decide) b us hb).trans hb, ?_⟩
  exact h6.bl.grown hg (by have := h6.bl.size; omega) (fun q hq => own_ge ho6 hq)
/-- an error behind the errors -/
theorem pq_err {w w5 w7 : World} {va vf v7 : Value} {A : List Ac} {F : List (Nat × ByteArray)} {vs : List Value} {C : Array Value} {f : Nat × ByteArray} {ev : Value} (h : PQ w w5 va vf A F vs) (hf : FC w5 (.iface 39 (.int .i64 12)) [lnm f.1, f.2] ev) (ho : w5.ownsRow w.heap.size 42 1 vf vs.length (flat eE vs)) (ho7 : OwnR eE 1 42 w.heap.size w7 v7 (vs ++ [ev])) (hg : (w5.alloc (.cells C 42)).grownBy w7 vf.ownBlock) : PQ w w7 va v7 A (F ++ [f]) (vs ++ [ev]) := by
  have hb := (Below.refl w5.heap.size w5).alloc (Nat.le_refl _) (.cells C 42)
  have h6 := h.ext hb
  have hf6 := hf.ext hb
  have ho6 := ho.alloc (.cells C 42)
  have hk : ∀ (T : TypeId), T ≠ 42 → ∀ (b : Nat) (cur : Array Value), (w5.alloc (.cells C 42)).heap[b]? = some (.cells cur T (0, 0)) → w7.heap[b]? = (w5.alloc (.cells C 42)).heap[b]? := fun T hT b cur hb => hg.block b (blk_lt hb) (own_ne ho6 hb hT)
  refine ⟨own_blocks h6.oa (hk _ (by decide)), ho7, FErr.snoc (FC.keep (fun b us hb => (hk _ (by decide) b us hb).trans hb) hf6) (h6.fe.keep fun b us hb => (hk _ (by decide) b us hb).trans hb), ?_⟩
  exact h6.bl.grown hg (by have := h6.bl.size; omega) (fun q hq => own_ge ho6 hq)
theorem fc_one {w : World} {base ev : Value} {op : ByteArray} {ops : List ByteArray} (h : FC w base (op :: ops) ev) : ev.oneCell' = true := by
  obtain ⟨p, e', rfl, -⟩ := h
  rfl
def strLen : Value → Nat
  | .string b => b.size
  | _ => 0
theorem dec_len : ∀ u : Nat, (Lib.decDigits u).length ≤ u + 1 := fun u => by
  induction u using Nat.strongRecOn with
  | _ u ih =>
    rw [Lib.decDigits]
    split
    · simp
    · have := ih (u / 10) (by omega)
      rw [List.length_append]
      simp
      omega
theorem cutW (s : ByteArray) (hs : s.size ≤ 1048576) (w : World) (hw : SW w) :
    Calls Tryz.prog 25 #[.string s, .string ⟨#[10]⟩] w fun e w' => ∃ ln rs fd, e = .returned (.tuple #[.string ln, .string rs, .bool fd]) ∧ ln.data.toList = (Lib.cut s.data.toList [10]).1 ∧ rs.data.toList = (Lib.cut s.data.toList [10]).2.1 ∧ Below w.heap.size w w' := by
  obtain ⟨m, hm⟩ := hw.ml
  refine (Tryz.strings_Cut s ⟨#[10]⟩ m w (by omega) hm).mono ?_
  rintro e w' ⟨rfl, n, rfl⟩
  exact ⟨_, _, _, rfl, by simp, by simp, Go.Joins.below_draws _ _ _⟩
theorem itoaW (p : Nat) (hp : p ≤ 2000000) (w : World) (hw : SW w) :
    Calls Tryz.prog 27 #[.int .i64 (p : Int)] w fun e w' => ∃ st : ByteArray, e = .returned (.string st) ∧ (⟨#[108, 105, 110, 101, 32]⟩ ++ st = lnm p) ∧ st.size ≤ 2000001 ∧ Below w.heap.size w w' := by
  refine (Tryz.strconv_Itoa p (by omega) (by omega) w hw.tab).mono ?_
  rintro e w' ⟨rfl, k, os, rfl⟩
  refine ⟨_, rfl, ?_, ?_, Lib.below_grow _ _ (Nat.le_refl _) _ _⟩
  · unfold lnm
    exact ByteArray.mk_append_mk [108, 105, 110, 101, 32] _
  · show (Lib.itoa (p : Int)).toArray.size ≤ _
    unfold Lib.itoa
    rw [if_neg (by omega)]
    have := dec_len (p : Int).toNat
    simp at this ⊢
    omega
theorem neq_flt (v : Value) (w : World) : (binOp .neq 42 (.iface 68 v) .nilIface).run Tryz.prog w = .ok (.bool true) w := by kernel_rfl
theorem cut_le (s : List UInt8) : (Lib.cut s [10]).1.length ≤ s.length ∧ (Lib.cut s [10]).2.1.length ≤ s.length := by
  unfold Lib.cut
  split <;> simp <;> omega
theorem pm_skip (p k : Nat) (hk : k < 400) (r : List (List UInt8)) : pm p k ([] :: r) = pm (p + 1) k r := by
  rw [pm, if_neg (by omega), if_pos rfl]
theorem pm_act (p k : Nat) (hk : k < 400) (x : ByteArray) (hx : x.data.toList ≠ []) (a : Ac) (ha : lineM x = some a) (r : List (List UInt8)) : pm p k (x.data.toList :: r) = (a :: (pm (p + 1) (k + 1) r).1, (pm (p + 1) (k + 1) r).2) := by
  have hx2 : (⟨x.data.toList.toArray⟩ : ByteArray) = x := by cases x; simp
  rw [pm, if_neg (by omega), if_neg hx, hx2, ha]
theorem pm_bad (p k : Nat) (hk : k < 400) (x : ByteArray) (hx : x.data.toList ≠ []) (ha : lineM x = none) (r : List (List UInt8)) : pm p k (x.data.toList :: r) = ((pm (p + 1) (k + 1) r).1, (p, hdw x) :: (pm (p + 1) (k + 1) r).2) := by
  have hx2 : (⟨x.data.toList.toArray⟩ : ByteArray) = x := by cases x; simp
  rw [pm, if_neg (by omega), if_neg hx, hx2, ha]

set_option maxRecDepth 100000 in
set_option maxHeartbeats 8000000 in
theorem parseP (s : ByteArray) (hs : s.size ≤ 1048576) (w : World) (hw : SW w) :
    Calls Tryz.prog 13 #[.string s] w fun e w' => ∃ va vf vs, e = .returned (.tuple #[va, vf]) ∧ PQ w w' va vf (pm 1 0 (nl s.data.toList)).1 (pm 1 0 (nl s.data.toList)).2 vs := by
  obtain ⟨i0, hi, hz0, hz1, hz2⟩ := info_parts2 info_act
  obtain ⟨i1, hj, hy0, hy1, hy2⟩ := info_parts2 info_err
  obtain ⟨P, hP⟩ : ∃ P, pm 1 0 (nl s.data.toList) = P := ⟨_, rfl⟩
  rw [hP]
  have HP := Lib.hid hP
  have HW := Lib.hid hw
  clear hP hw
  go_enter Tryz.func13, Tryz.ntmps13
  go_wp2_with fail
  go_loopw [0, 4, 5, 6, 7] (fun sv va vf lk pv wr => ∃ (rest : ByteArray) (A : List Ac) (F : List (Nat × ByteArray)) (vs : List Value) (k p : Nat), sv = .string rest ∧ lk = .int .i64 (k : Int) ∧ pv = .int .i64 (p : Int) ∧ PQ w wr va vf A F vs ∧ (A ++ (pm p k (nl rest.data.toList)).1, F ++ (pm p k (nl rest.data.toList)).2) = P ∧ k ≤ 400 ∧ A.length ≤ k ∧ F.length ≤ k ∧ p + rest.size ≤ 1048577 ∧ 1 ≤ p) (fun sv _ _ _ _ _ => strLen sv)
  case atStart => exact ⟨s, [], [], [], 0, 1, rfl, rfl, rfl, ⟨OwnR.nil _ _, OwnR.nil _ _, trivial, Below.refl _ _⟩, HP.out, by omega, by simp, by simp, by omega, by omega⟩
  case round =>
    obtain ⟨w2, rfl⟩ : ∃ y : World, y = wr := ⟨_, rfl⟩
    obtain ⟨rest, A, F, vs, k, p, rfl, rfl, rfl, hpq, hpm, hk, hla, hlf, hps, hp1⟩ := hrel
    have HQ := Lib.hid hpq
    have HM := Lib.hid hpm
    clear hpq hpm
    by_cases he : rest.size = 0
    · obtain rfl : rest = ⟨#[]⟩ := ByteArray.ext (Array.eq_empty_of_size_eq_zero he)
      have HE := Lib.hid (show (A, F) = P from by have := HM.out; simpa [nl, pm_nil] using this)
      go_wp2_with fail
      go_ret2
      exact ⟨_, _, rfl, vs, by rw [← HE.out]; exact HQ.out⟩
    · by_cases hk4 : k < 400
      · have h40 : (k : Int) < 400 := by omega
        have hne : (!rest.toList.isEmpty) = true := by rw [size_empty]; simpa using he
        have hrl : rest.data.toList.length = rest.size := rfl
        go_wp2_with fail
        all_goals try (exact absurd (show (!rest.toList.isEmpty) = false by assumption) (by rw [hne]; decide))
        refine (cutW rest (by omega) w2 (HW.out.ext HQ.out.bl)).mono ?_
        rintro e w3 ⟨ln, rs, fd, rfl, hl1, hl2, hb3⟩
        have hc1 := (cut_le rest.data.toList).1
        have hc2 := cut_len rest.data.toList (by intro h; rw [h] at hrl; simp at hrl; omega)
        rw [← hl1] at hc1
        rw [← hl2] at hc2
        have hlnl : ln.data.toList.length = ln.size := rfl
        have hrsl : rs.data.toList.length = rs.size := rfl
        have HM3 := Lib.hid (show (A ++ (pm p k (ln.data.toList :: nl rs.data.toList)).1, F ++ (pm p k (ln.data.toList :: nl rs.data.toList)).2) = P from by have := HM.out; rw [pm_cut, ← hl1, ← hl2] at this; exact this)
        have HQ3 := Lib.hid (HQ.out.ext hb3)
        have hsz : ln.size ≤ rest.size := by omega
        have hsr : rs.size < rest.size := by omega
        have HSZ := Lib.hid hsr
        clear hl1 hl2 hb3 hc1 hc2 hlnl hrsl hrl hne HQ HM
        by_cases hln : ln.size = 0
        · obtain rfl : ln = ⟨#[]⟩ := ByteArray.ext (Array.eq_empty_of_size_eq_zero hln)
          go_wp2_with fail
          exact ⟨⟨rs, A, F, vs, k, p + 1, rfl, rfl, by go_num, HQ3.out, by have := HM3.out; simpa [pm_skip p k hk4] using this, hk, hla, hlf, by omega, by omega⟩, by simp only [strLen]; exact HSZ.out⟩
        · have hne : (!ln.toList.isEmpty) = true := by rw [size_empty]; simpa using hln
          have hnl : ln.data.toList ≠ [] := fun h => hln (by show ln.data.size = 0; rw [← Array.length_toList, h]; rfl)
          have HNL := Lib.hid hnl
          clear hnl
          go_wp2_with fail
          case roundEnd => exact absurd hne (by rw [show ln.toList.isEmpty = true by assumption]; decide)
          clear hne
          refine (lineP ln (by omega) w3 (HW.out.ext HQ3.out.bl)).mono ?_
          rintro e w4 ⟨ev, rfl, hb4, hsome, hnone⟩
          have HQ4 := Lib.hid (HQ3.out.ext hb4)
          clear HQ3 hb4
          cases hL : lineM ln with
          | some r =>
            rw [hL] at hsome
            obtain rfl : ev = .nilIface := hsome rfl
            have HM4 := Lib.hid (show ((A ++ [r]) ++ (pm (p + 1) (k + 1) (nl rs.data.toList)).1, F ++ (pm (p + 1) (k + 1) (nl rs.data.toList)).2) = P from by have := HM3.out; rw [pm_act p k hk4 ln HNL.out r hL] at this; simpa using this)
            clear hsome hnone hL HM3
            have hnil := neq_nil
            simp only [Option.getD_some, acC]
            obtain ⟨ga, gc, rfl, hgc, hgm, -⟩ := OwnR.form HQ4.out.oa
            obtain ⟨n, hn⟩ : ∃ n, A.length = n := ⟨_, rfl⟩
            have HN := Lib.hid hn
            rw [hn] at hgc hla ⊢
            clear hn
            unfold maxLen at hgm
            go_upto_region 14 with (fail)
            clear hnil
            have hb5 : Below w4.heap.size w4 (w4.alloc (.cells #[.int .i64 r.k, .int .i64 r.a, .int .i64 r.b, .int .i64 r.op, .int .i64 r.st, .int .i64 r.n, .string r.app] 29)) := (Below.refl _ _).alloc (Nat.le_refl _) _
            have HQ5 := Lib.hid (HQ4.out.ext hb5)
            have hx5 := blk_new w4 #[.int .i64 r.k, .int .i64 r.a, .int .i64 r.b, .int .i64 r.op, .int .i64 r.st, .int .i64 r.n, .string r.app] 29
            generalize (w4.alloc (.cells #[.int .i64 r.k, .int .i64 r.a, .int .i64 r.b, .int .i64 r.op, .int .i64 r.st, .int .i64 r.n, .string r.app] 29)) = w5 at *
            generalize w4.heap.size = tb at *
            have hc5 := blk_cell hx5
            have hl5 := blk_lt hx5
            clear hb5 HQ4
            have HX5 := Lib.hid hx5
            clear hx5
            have HO5 := Lib.hid (show w5.ownsRow w.heap.size 29 7 (.slice ga n gc) n (flat aE A) from by have := HQ5.out.oa; unfold OwnR at this; rw [HN.out] at this; exact this)
            have Z5 := HQ5.out.bl.size
            go_wp2_with (at_builtin; refine wpList_append_own _ rfl _ _ 33 rfl (w.heap.size) 29 i0 (.agg #[.int .i64 0, .int .i64 0, .int .i64 0, .int .i64 0, .int .i64 0, .int .i64 0, .string ⟨#[]⟩]) 7 64 Tryz.underlying33 hi hz0 hz1 hz2 rfl (by decide) _ n (flat aE A) rfl (HO5.out.alloc (.cells #[.int .i64 r.k, .int .i64 r.a, .int .i64 r.b, .int .i64 r.op, .int .i64 r.st, .int .i64 r.n, .string r.app] 29)) ⟨w5.heap.size, 0, none⟩ 1 1 (aE r) rfl rfl ?c1 ?c2 ?c3 ?c4 ?c5 ?_)
            case c1 =>
              intro j u hj
              rw [add_off, Nat.zero_add, blk_cell (blk_new w5 #[.int .i64 r.k, .int .i64 r.a, .int .i64 r.b, .int .i64 r.op, .int .i64 r.st, .int .i64 r.n, .string r.app] 29)]
              simpa [aE] using hj
            case c2 => intro u hu; simp only [aE, List.mem_cons, List.not_mem_nil, or_false] at hu; rcases hu with rfl | rfl | rfl | rfl | rfl | rfl | rfl <;> rfl
            case c3 => unfold maxLen; omega
            case c4 => omega
            case c5 => first | (simp; omega) | omega
            intro v7 w7 ho7 hg7 _
            have HQ7 := Lib.hid (show PQ w w7 v7 _ (A ++ [r]) F vs from pq_act HQ5.out (by rw [HN.out]; exact HO5.out) (by unfold OwnR; rw [flat_snoc, List.length_append, HN.out]; exact ho7) (by rw [HN.out]; exact hg7))
            clear ho7 hg7 HO5 hc5 hl5
            go_wp2_with fail
            exact ⟨⟨rs, A ++ [r], F, vs, k + 1, p + 1, rfl, by go_num, by go_num, HQ7.out, HM4.out, by omega, by rw [List.length_append, HN.out]; simp; omega, by omega, by omega, by omega⟩, by simp only [strLen]; exact HSZ.out⟩
          | none =>
            have hfc := hnone hL
            have HFC := Lib.hid hfc
            obtain ⟨eb, e', rfl, -, -⟩ := hfc
            have HM4 := Lib.hid (show (A ++ (pm (p + 1) (k + 1) (nl rs.data.toList)).1, (F ++ [(p, hdw ln)]) ++ (pm (p + 1) (k + 1) (nl rs.data.toList)).2) = P from by have := HM3.out; rw [pm_bad p k hk4 ln HNL.out hL] at this; simpa using this)
            clear hsome hnone hL HM3
            have hnq := neq_flt (.pointer (some ⟨eb, 0, none⟩))
            simp only [Option.getD_none, acC, acZ]
            obtain ⟨ga, gc, rfl, hgc, hgm, -⟩ := OwnR.form HQ4.out.ov
            obtain ⟨n, hn⟩ : ∃ n, vs.length = n := ⟨_, rfl⟩
            have hvl := FErr.len HQ4.out.fe
            have HN := Lib.hid hn
            rw [hn] at hgc hvl ⊢
            have hnk : n ≤ k := by omega
            clear hn hvl
            unfold maxLen at hgm
            go_upto_region 13 with (fail)
            clear hnq
            have hb5 : Below w4.heap.size w4 (w4.alloc (.cells #[.int .i64 0, .int .i64 0, .int .i64 0, .int .i64 0, .int .i64 0, .int .i64 0, .string ⟨#[]⟩] 29)) := (Below.refl _ _).alloc (Nat.le_refl _) _
            have HQ5 := Lib.hid (HQ4.out.ext hb5)
            have HF5 := Lib.hid (HFC.out.ext hb5)
            generalize (w4.alloc (.cells #[.int .i64 0, .int .i64 0, .int .i64 0, .int .i64 0, .int .i64 0, .int .i64 0, .string ⟨#[]⟩] 29)) = w5 at *
            generalize w4.heap.size = tb at *
            clear hb5 HQ4 HFC
            go_wp2_with fail
            refine (itoaW p (by omega) w5 (HW.out.ext HQ5.out.bl)).mono ?_
            rintro e w6 ⟨st, rfl, hst, hss, hb6⟩
            have HQ6 := Lib.hid (HQ5.out.ext hb6)
            have HF6 := Lib.hid (HF5.out.ext hb6)
            have HST := Lib.hid hst
            clear HQ5 HF5 hb6 hst
            go_wp2_with fail
            rw [HST.out]
            refine (faultWrap (lnm p) [hdw ln] (.iface 39 (.int .i64 12)) _ w6 (.no 12) HF6.out (by simp)).mono ?_
            rintro e w8 ⟨ev, rfl, hf8, hb8⟩
            have HQ8 := Lib.hid (HQ6.out.ext hb8)
            have HF8 := Lib.hid hf8
            obtain ⟨fb, fe, rfl, -, -⟩ := hf8
            clear HQ6 HF6 hb8
            have HO5 := Lib.hid (show w8.ownsRow w.heap.size 42 1 (.slice ga n gc) n (flat eE vs) from by have := HQ8.out.ov; unfold OwnR at this; rw [HN.out] at this; exact this)
            have Z5 := HQ8.out.bl.size
            go_wp2_with (at_builtin; refine wpList_append_own _ rfl _ _ 36 rfl (w.heap.size) 42 i1 (.nilIface) 1 16 Tryz.underlying36 hj hy0 hy1 hy2 rfl (by decide) _ n (flat eE vs) rfl (HO5.out.alloc (.cells #[.iface 68 (.pointer (some ⟨fb, 0, none⟩))] 42)) ⟨w8.heap.size, 0, none⟩ 1 1 (eE (.iface 68 (.pointer (some ⟨fb, 0, none⟩)))) rfl rfl ?c1 ?c2 ?c3 ?c4 ?c5 ?_)
            case c1 =>
              intro j u hj
              rw [add_off, Nat.zero_add, blk_cell (blk_new w8 #[.iface 68 (.pointer (some ⟨fb, 0, none⟩))] 42)]
              simpa [eE] using hj
            case c2 => intro u hu; simp only [eE, List.mem_cons, List.not_mem_nil, or_false] at hu; subst hu; rfl
            case c3 => unfold maxLen; omega
            case c4 => omega
            case c5 => first | (simp; omega) | omega
            intro v7 w7 ho7 hg7 _
            have HQ7 := Lib.hid (show PQ w w7 _ v7 A (F ++ [(p, hdw ln)]) (vs ++ [.iface 68 (.pointer (some ⟨fb, 0, none⟩))]) from pq_err HQ8.out HF8.out (by rw [HN.out]; exact HO5.out) (by unfold OwnR; rw [flat_snoc, List.length_append, HN.out]; exact ho7) (by rw [HN.out]; exact hg7))
            clear ho7 hg7 HO5
            go_wp2_with fail
            exact ⟨⟨rs, A, F ++ [(p, hdw ln)], vs ++ [.iface 68 (.pointer (some ⟨fb, 0, none⟩))], k + 1, p + 1, rfl, by go_num, by go_num, HQ7.out, HM4.out, by omega, by omega, by rw [List.length_append]; simp; omega, by omega, by omega⟩, by simp only [strLen]; exact HSZ.out⟩
      · obtain rfl : k = 400 := by omega
        have HE := Lib.hid (show (A, F) = P from by have := HM.out; simpa [pm_full] using this)
        go_wp2_with fail
        all_goals (go_ret2; first | exact ⟨_, _, rfl, vs, by rw [← HE.out]; exact HQ.out⟩ | exact ⟨_, _, vs, rfl, by rw [← HE.out]; exact HQ.out⟩)
end Go.Proofs.YtcgembfdejjliaaGreatDoor
