/- A stream is fed. -/
import Derived.Test.YtiblnonmlekjgaaFrameW
namespace Go.Proofs.Ytiblnonmlekjgaa
open Go.RowKit
set_option linter.unusedVariables false

section
variable {P : Program} (w : World)
/-- append of a row of bytes: and where the row lies then -/
theorem run_append_bytes_at (base : Nat) (t ty e : TypeId) (i : TypeInfo) (ht : P.underlying t = some (.slice e)) (hi : P.info? e = some i) (hz : i.zero = some (.int .u8 0))
    (hsize : i.size = 1) (hby : i.bytes = 1) (v : Value) (n : Nat) (xs : List Int) (hown : w.ownsRow base e 1 v n (bc xs))
    (A : Option Addr) (m c : Nat) (ys : List Int) (hr : BAt w A ys) (hm : ys.length = m)
    (h63 : n + m ≤ maxLen) (hbytes : n + m ≤ 140737488355328) (hbase : base ≤ w.heap.size) :
    ∃ v' w', (Builtin.append_ #[t, t] ty #[v, .slice A m c]).run P w = .ok v' w' ∧ w'.ownsRow base e 1 v' (n + m) (bc (xs ++ ys)) ∧ w.grownBy w' v.ownBlock ∧ (v'.ownBlock = v.ownBlock ∨ v'.ownBlock = some w.heap.size) := by
  rcases A with _ | ⟨b, o, s⟩
  · have h0 : ys = [] := by
      rcases hr with h | ⟨b, o, e, _⟩
      · exact h
      · cases e
    subst h0
    simp at hm
    subst hm
    refine ⟨v, w, ?_, by simpa using hown, World.grownBy.refl w _, .inl rfl⟩
    rcases hown.2 with ⟨rfl, rfl⟩ | ⟨g, cap, cur, rfl, _, _, hnc, _⟩
    · simp [Builtin.append_, run_underlying ht, sizeOf, typeInfo, hi, Builtin.lenOf, Builtin.firstCells]
    · simp [Builtin.append_, run_underlying ht, sizeOf, typeInfo, hi, Builtin.lenOf, Builtin.firstCells, hnc, storeCells]
  · have hcells : ∀ j u, (bc ys)[j]? = some u → w.cell? ((⟨b, o, s⟩ : Addr).add j) = some u := by
      intro j u hu
      have hr' := hr
      rcases hr with h | ⟨b', o', e, _⟩
      · subst h; simp [bc] at hu
      · simp at e
        obtain ⟨rfl, rfl, rfl⟩ := e
        exact hr'.cells j u hu
    obtain ⟨v', w', hrun, h2, h3, -, h5⟩ := run_append_own_at (P := P) w base t ty e i (.int .u8 0) 1 1 ht hi hz hsize hby rfl (by decide) v n (bc xs) hown ⟨b, o, s⟩ m c (bc ys) (by rw [bc_len]; omega) hcells (bc_one ys) h63 (by omega) hbase
    exact ⟨v', w', hrun, by rw [bc_append]; exact h2, h3, h5⟩

theorem wpList_append_bytes_at {ops : Array Oper} {rest : List Oper} {o : Oper} {a : Act} {Q : Exit → Act → World → Prop} (hgd : o.guard = none) (s x : Operand) (t : TypeId)
    (ho : o.op = .call { callee := .builtin .append, args := #[s, x], argTypes := #[t, t] })
    (base : Nat) (e : TypeId) (i : TypeInfo) (ht : P.underlying t = some (.slice e)) (hi : P.info? e = some i) (hz : i.zero = some (.int .u8 0)) (hsize : i.size = 1) (hby : i.bytes = 1)
    (v : Value) (n : Nat) (xs : List Int) (hs : a.eval s = v) (hown : w.ownsRow base e 1 v n (bc xs))
    (A : Option Addr) (m c : Nat) (ys : List Int) (hx : a.eval x = .slice A m c) (hr : BAt w A ys) (hm : ys.length = m)
    (h63 : n + m ≤ maxLen) (hbytes : n + m ≤ 140737488355328) (hbase : base ≤ w.heap.size)
    (h : ∀ v' w', w'.ownsRow base e 1 v' (n + m) (bc (xs ++ ys)) → w.grownBy w' v.ownBlock → (v'.ownBlock = v.ownBlock ∨ v'.ownBlock = some w.heap.size) → wpList P ops Q rest (a.put o.dst v') w') : wpList P ops Q (o :: rest) a w :=
  wpList_plain hgd fun K hK => by
    obtain ⟨v', w', hrun, h2, h3, h4⟩ := run_append_bytes_at (P := P) w base t o.type e i ht hi hz hsize hby v n xs hown A m c ys hr hm h63 hbytes hbase
    unfold Oper.wp execOp
    simp only [ho, resolve, invoke, builtin, Sem.run_bind, Sem.run_pure, Result.andThen_ok, List.map_toArray, List.map_cons, List.map_nil, hs, hx, hrun]
    exact hK _ _ (h v' w' h2 h3 h4)
end

theorem info_bs : (Try.prog.info? 22).map (fun i => (i.zero, i.size, i.bytes)) = some (some (.slice none 0 0), 1, 24) := by kernel_rfl
def lenV : Value → Nat
  | .slice _ n _ => n
  | _ => 0

/-- behind the address there is a block of bytes -/
def UAt (w : World) (a : Option Addr) : Prop := ∀ b o, a = some ⟨b, o, none⟩ → ∃ cur, w.heap[b]? = some (.cells cur 5 (0, 0))
theorem UAt.ext {w w' : World} {a : Option Addr} (h : UAt w a) (hb : Below w.heap.size w w') : UAt w' a := fun b o e => by
  obtain ⟨cur, hc⟩ := h b o e
  exact ⟨cur, blk_ext hb hc⟩
theorem own_uat {w : World} {base n n' c : Nat} {a : Option Addr} {vs : List Value} (h : w.ownsRow base 5 1 (.slice a n c) n' vs) : UAt w a := by
  intro b o e
  subst e
  rcases h.2 with ⟨e, _⟩ | ⟨g, cap, cur, e, _, hh, _⟩
  · simp at e
  · simp at e
    obtain ⟨⟨rfl, -⟩, -⟩ := e
    exact ⟨cur, hh⟩
/-- rows of bytes behind slices; what they lie in is no elder than block lo, and not the block g -/
def VAt (lo : Nat) (g : Option Nat) (w : World) (vals : List Value) (fx : List (List Int)) : Prop :=
  vals.length = fx.length ∧ ∀ (i : Nat) (f : List Int), fx[i]? = some f → ∃ (a : Option Addr) (c : Nat), vals[i]? = some (Value.slice a f.length c) ∧ BAt w a f ∧ f.length ≤ c ∧ c ≤ maxLen ∧ UAt w a ∧ ∀ b o, a = some ⟨b, o, none⟩ → lo ≤ b ∧ some b ≠ g
theorem VAt.nil (lo : Nat) (g : Option Nat) (w : World) : VAt lo g w [] [] := ⟨rfl, fun i f h => by simp at h⟩
theorem VAt.ext {lo : Nat} {g : Option Nat} {w w' : World} {vals : List Value} {fx : List (List Int)} (h : VAt lo g w vals fx) (hb : Below w.heap.size w w') : VAt lo g w' vals fx := by
  refine ⟨h.1, fun i f hi => ?_⟩
  obtain ⟨a, c, h1, h2, h3, h4, h5, h6⟩ := h.2 i f hi
  exact ⟨a, c, h1, h2.ext hb, h3, h4, h5.ext hb, h6⟩
theorem VAt.keep {lo lo' : Nat} {g g' : Option Nat} {w w' : World} {vals : List Value} {fx : List (List Int)} (h : VAt lo g w vals fx)
    (hk : ∀ b cur, w.heap[b]? = some (.cells cur 5 (0, 0)) → lo ≤ b → some b ≠ g → w'.heap[b]? = w.heap[b]?) (hg : ∀ b, b < w.heap.size → lo ≤ b → some b ≠ g → some b ≠ g') (hlo : lo' ≤ lo) : VAt lo' g' w' vals fx := by
  refine ⟨h.1, fun i f hi => ?_⟩
  obtain ⟨a, c, h1, h2, h3, h4, h5, h6⟩ := h.2 i f hi
  refine ⟨a, c, h1, h2.keep (fun b o e p v hc => ?_), h3, h4, fun b o e => ?_, fun b o e => ?_⟩
  · obtain ⟨cur, hcur⟩ := h5 b o e
    exact (World.cell?_of_block (w := w) (hk b cur hcur (h6 b o e).1 (h6 b o e).2)).trans hc
  · obtain ⟨cur, hcur⟩ := h5 b o e
    exact ⟨cur, (hk b cur hcur (h6 b o e).1 (h6 b o e).2).trans hcur⟩
  · obtain ⟨cur, hcur⟩ := h5 b o e
    exact ⟨Nat.le_trans hlo (h6 b o e).1, hg b (blk_lt hcur) (h6 b o e).1 (h6 b o e).2⟩
theorem VAt.snoc {lo : Nat} {g : Option Nat} {w : World} {vals : List Value} {fx : List (List Int)} {a : Option Addr} {f : List Int} {c : Nat} (h : VAt lo g w vals fx) (h2 : BAt w a f) (h3 : f.length ≤ c) (h4 : c ≤ maxLen) (h5 : UAt w a) (h6 : ∀ b o, a = some ⟨b, o, none⟩ → lo ≤ b ∧ some b ≠ g) : VAt lo g w (vals ++ [Value.slice a f.length c]) (fx ++ [f]) := by
  refine ⟨by simp [h.1], fun i f' hi => ?_⟩
  by_cases hlt : i < fx.length
  · rw [List.getElem?_append_left hlt] at hi
    obtain ⟨a', c', k1, k2⟩ := h.2 i f' hi
    exact ⟨a', c', by rw [List.getElem?_append_left (by rw [h.1]; exact hlt)]; exact k1, k2⟩
  · rw [List.getElem?_append_right (by omega)] at hi
    match hj : i - fx.length, hi with
    | 0, hi =>
      simp at hi
      subst hi
      refine ⟨a, c, ?_, h2, h3, h4, h5, h6⟩
      rw [List.getElem?_append_right (by rw [h.1]; omega), h.1, hj]; rfl
    | k + 1, hi => simp at hi

/-- at block sb a stream lies: v: the row that waits -/
def StV (base : Nat) (w : World) (sb : Nat) (v : Value) (l : List Int) (why : Int) : Prop :=
  w.heap[sb]? = some (.cells #[v, .int .i64 why] 52 (0, 0)) ∧ w.ownsRow base 5 1 v l.length (bc l) ∧ Wb l
theorem StV.lt {base : Nat} {w : World} {sb : Nat} {v : Value} {l : List Int} {why : Int} (h : StV base w sb v l why) : sb < w.heap.size := blk_lt h.1
theorem StV.ext {base : Nat} {w w' : World} {sb : Nat} {v : Value} {l : List Int} {why : Int} (h : StV base w sb v l why) (hb : Below w.heap.size w w') : StV base w' sb v l why :=
  ⟨blk_ext hb h.1, ownsRow_ext h.2.1 hb, h.2.2⟩
/-- the stream's block may hold something other, and the row's; new memory may have been made -/
structure Fedw (sb : Nat) (row : Option Nat) (w w' : World) : Prop where
  os : w'.os = w.os
  tape : w'.tape = w.tape
  output : w'.output = w.output
  size : w.heap.size ≤ w'.heap.size
  block : ∀ k, k < w.heap.size → k ≠ sb → some k ≠ row → w'.heap[k]? = w.heap[k]?
theorem Fedw.below {sb base : Nat} {row : Option Nat} {w w' : World} (h : Fedw sb row w w') (h1 : base ≤ sb) (h2 : ∀ g, row = some g → base ≤ g) (h3 : base ≤ w.heap.size) : Below base w w' :=
  ⟨h.os, h.tape, h.output, h.size, fun k hk => h.block k (by omega) (by omega) (fun e => by have := h2 k e.symm; omega)⟩
theorem Fedw.bat {sb : Nat} {row : Option Nat} {w w' : World} (h : Fedw sb row w w') {a : Option Addr} {xs : List Int} (hx : BAt w a xs) (hn : ∀ b o, a = some ⟨b, o, none⟩ → b ≠ sb ∧ some b ≠ row) : BAt w' a xs := by
  rcases hx with hx | ⟨b, o, e, hx⟩
  · exact .inl hx
  · exact .inr ⟨b, o, e, fun i n hi => (World.cell?_of_block (w := w) (h.block b (cell_lt (hx i n hi)) (hn b o e).1 (hn b o e).2)).trans (hx i n hi)⟩
theorem fedw_of {sb : Nat} {row : Option Nat} {w w1 w2 w3 : World} (hg : w.grownBy w1 row) (hb : Below w1.heap.size w1 w2) (hk : Kept sb w2 w3) : Fedw sb row w w3 :=
  ⟨hk.os.trans (hb.os.trans hg.os), hk.tape.trans (hb.tape.trans hg.tape), hk.output.trans (hb.output.trans hg.output), by rw [hk.size]; exact Nat.le_trans hg.size hb.size,
    fun k h1 h2 h3 => (hk.block k h2).trans ((hb.block k (Nat.lt_of_lt_of_le h1 hg.size)).trans (hg.block k h1 h3))⟩

def FedP (base sb : Nat) (v : Value) (l xs : List Int) (w : World) (e : Ending) (w' : World) : Prop :=
  ∃ (fv v' : Value) (fsx : List (List Int)) (l' : List Int) (why' : Int) (vals : List Value), e = .returned (.tuple #[fv, .int .i64 why']) ∧ Runs (l ++ xs) [] (fsx, l', why') ∧ StV base w' sb v' l' why' ∧
    w'.ownsRow w.heap.size 22 1 fv fsx.length vals ∧ VAt w.heap.size v'.ownBlock w' vals fsx ∧ Fedw sb v.ownBlock w w' ∧ (∀ g, v'.ownBlock = some g → v.ownBlock = some g ∨ w.heap.size ≤ g)

theorem own_form {w : World} {base n : Nat} {e : TypeId} {v : Value} {vs : List Value} (h : w.ownsRow base e 1 v n vs) : ∃ a c, v = .slice a n c := by
  rcases h.2 with ⟨rfl, rfl⟩ | ⟨g, cap, cur, rfl, _⟩
  · exact ⟨none, 0, rfl⟩
  · exact ⟨_, _, rfl⟩
theorem ownsRow_keep {w w' : World} {base size n b : Nat} {e : TypeId} {v : Value} {xs : List Value} (h : w.ownsRow base e size v n xs) (hk : Kept b w w') (hb : some b ≠ v.ownBlock) : w'.ownsRow base e size v n xs := by
  obtain ⟨h1, h2⟩ := h
  refine ⟨h1, ?_⟩
  rcases h2 with h2 | ⟨g, cap, cur, hv, hg, hh, r⟩
  · exact .inl h2
  · subst hv
    exact .inr ⟨g, cap, cur, rfl, hg, (hk.block g (fun e => hb (by rw [← e]; rfl))).trans hh, r⟩
theorem fed_end {base sb : Nat} {v v' fv : Value} {l xs l' : List Int} {why' : Int} {fsx : List (List Int)} {vals : List Value} {w w1 W3 W4 : World} (hg : w.grownBy w1 v.ownBlock) (hb : Below w1.heap.size w1 W3) (hk : Kept sb W3 W4) (hsb : sb < w.heap.size)
    (hst : W4.heap[sb]? = some (.cells #[v', .int .i64 why'] 52 (0, 0))) (ho : W4.ownsRow base 5 1 v' l'.length (bc l')) (hw : Wb l') (hr : Runs (l ++ xs) [] (fsx, l', why')) (hof : W3.ownsRow w1.heap.size 22 1 fv fsx.length vals) (hv : VAt w1.heap.size v'.ownBlock W3 vals fsx)
    (hown : ∀ g, v'.ownBlock = some g → v.ownBlock = some g ∨ w.heap.size ≤ g) : FedP base sb v l xs w (.returned (.tuple #[fv, .int .i64 why'])) W4 :=
  ⟨fv, v', fsx, l', why', vals, rfl, hr, ⟨hst, ho, hw⟩, ownsRow_base (ownsRow_kept hof hk (Nat.lt_of_lt_of_le hsb hg.size)) hg.size,
    hv.keep (fun b cur hc h1 h2 => hk.block b (by have := hg.size; omega)) (fun b h1 h2 h3 => h3) hg.size, fedw_of hg hb hk, hown⟩
theorem fs_step {row : List Int} (h : (fs row).2 = 0) (h1 : (fs row).1 ≠ 0) : ∃ R, (fs row).1 = R + 8 ∧ R ≤ 8192 ∧ R + 8 ≤ row.length := by
  rcases fs_cases row with ⟨_, e⟩ | ⟨_, _, e⟩ | ⟨_, _, _, e⟩ | ⟨a, b, _, e⟩ | ⟨_, _, _, e⟩
  · rw [e] at h1; exact absurd rfl h1
  · rw [e] at h; simp at h
  · rw [e] at h1; exact absurd rfl h1
  · rw [e]; exact ⟨_, rfl, by omega, b⟩
  · rw [e] at h; simp at h

set_option maxRecDepth 100000 in
set_option maxHeartbeats 1000000 in
theorem frameFeed_no (base sb : Nat) (v : Value) (l : List Int) (why : Int) (a : Option Addr) (n cap : Nat) (w : World) (h : StV base w sb v l why) (hy : why ≠ 0) :
    Calls Try.prog 18 #[.pointer (some ⟨sb, 0, none⟩), .slice a n cap] w fun e w' => e = .returned (.tuple #[.slice none 0 0, .int .i64 why]) ∧ Below w.heap.size w w' := by
  have hc := blk_cell h.1
  have H1 := Lib.hid h.1
  have hlt := h.lt
  have hd : (why == 0) = false := by simp [hy]
  have hd2 : (why != 0) = true := by simp [hy]
  clear h hy
  go_enter Try.func18, Try.ntmps18
  go_wp2_with fail
  haveI hIq : Nonempty (Of w) := of_some _
  have hF0 := blk_of H1.out
  refine wp_region_stay w (by kernel_rfl) (by kernel_rfl) (by go_grown) ?_
  repeat (go_big_quiet_step (fail))
  refine wpQuiet_nil ?_
  intro w1 hb
  clear hIq hF0
  go_wp2
  go_ret2
  exact ⟨rfl, hb⟩

set_option maxRecDepth 100000 in
set_option maxHeartbeats 4000000 in
theorem frameFeed (base sb : Nat) (v : Value) (l : List Int) (a : Option Addr) (n cap : Nat) (xs : List Int) (w : World) (h : StV base w sb v l 0) (hbase : base ≤ sb) (hsb : ∀ g, v.ownBlock = some g → g ≠ sb) (hx : BAt w a xs) (hl : xs.length = n) (hw : Wb xs) (hs : 3 * (l.length + n) ≤ 140737488355328) :
    Calls Try.prog 18 #[.pointer (some ⟨sb, 0, none⟩), .slice a n cap] w (FedP base sb v l xs w) := by
  obtain ⟨i0, hi, hz0, hz1, hz2⟩ := info_parts info_u8
  obtain ⟨j0, hj, hjz, hj1, hj2⟩ := info_parts info_bs
  have hc := blk_cell h.1
  have hlt := h.lt
  have H1 := Lib.hid h.1
  have HO := Lib.hid h.2.1
  have HWl := Lib.hid h.2.2
  have HX := Lib.hid hx
  have HL := Lib.hid hl
  have HW := Lib.hid hw
  have hbz : base ≤ w.heap.size := by omega
  obtain ⟨Ln, hLn⟩ : ∃ Ln, l.length = Ln := ⟨_, rfl⟩
  have HLn := Lib.hid hLn
  rw [hLn] at hs
  clear h hx hl hw hLn
  go_enter Try.func18, Try.ntmps18
  go_wp2_with (at_builtin; refine wpList_append_bytes_at _ rfl _ _ 22 rfl (base) 5 i0 Try.underlying22 hi hz0 hz1 hz2 _ (l.length) (l) rfl (HO.out) (a) (n) (cap) (xs) rfl (HX.out) (HL.out) ?c3 ?c4 ?c5 ?_)
  case c3 => have := HLn.out; unfold maxLen; omega
  case c4 => have := HLn.out; omega
  case c5 => exact hbz
  intro v1 w1 ho hg hat
  have HG := Lib.hid hg
  have HB1 := Lib.hid ((hg.block sb hlt (fun e => hsb sb e.symm rfl)).trans H1.out)
  have B1 := hg.size
  have hlt1 : sb < w1.heap.size := by omega
  obtain ⟨y, hy⟩ : ∃ y, y = l ++ xs := ⟨_, rfl⟩
  have hyl : y.length = Ln + n := by rw [hy, List.length_append, HLn.out, HL.out]
  have ho1 : w1.ownsRow base 5 1 v1 y.length (bc y) := by rw [hyl, hy]; have := ho; rw [HLn.out] at this; exact this
  have HWy := Lib.hid (show Wb y by rw [hy]; exact HWl.out.app HW.out)
  have HY := Lib.hid hy
  have HYL := Lib.hid hyl
  have hylle : 3 * y.length ≤ 140737488355328 := by omega
  obtain ⟨a1, c1, rfl, -, hc1, hm1, hA1, hown1, hnone1⟩ := own_read ho1
  have HO1 := Lib.hid ho1
  have HA1 := Lib.hid hA1
  have hown : ∀ g, (Value.slice a1 y.length c1).ownBlock = some g → v.ownBlock = some g ∨ w.heap.size ≤ g := by
    intro g hgo
    rcases hat with h | h
    · left; rw [← h]; exact hgo
    · right; rw [hgo] at h; cases h; exact Nat.le_refl _
  have HOW := Lib.hid hown
  have hform1 : (a1 = none ∧ y = []) ∨ ∃ b o, a1 = some ⟨b, o, none⟩ := by
    rcases hA1 with h | ⟨b, o, e, _⟩
    · cases a1 with
      | none => exact .inl ⟨rfl, h⟩
      | some x => obtain ⟨-, h2⟩ := ho1; rcases h2 with ⟨e, _⟩ | ⟨g, cp, cur, e, _⟩; (· cases e); (· simp at e; exact .inr ⟨g, 0, by rw [e.1]⟩)
    · exact .inr ⟨b, o, e⟩
  have HF1 := Lib.hid hform1
  clear ho hg ho1 hA1 hown1 hnone1 hy hyl hown hc hat hform1
  unfold maxLen at hm1
  go_wp2_with fail
  go_loopw [6, 7] (fun fv r wr => ∃ (acc : List (List Int)) (rw : List Int) (a2 : Option Addr) (c2 : Nat) (vals : List Value), r = .slice a2 rw.length c2 ∧ BAt wr a2 rw ∧ UAt wr a2 ∧ rw.length ≤ c2 ∧ c2 ≤ 9223372036854775807 ∧ rw.length ≤ y.length ∧ Wb rw ∧ (acc = [] → r = .slice a1 y.length c1 ∧ rw = y) ∧ wr.ownsRow w1.heap.size 22 1 fv acc.length vals ∧ 8 * acc.length + rw.length ≤ y.length ∧ VAt w1.heap.size none wr vals acc ∧ Below w1.heap.size w1 wr ∧ (∀ out, Runs rw acc out → Runs y [] out)) (fun _ r _ => lenV r)
  case atStart => exact ⟨[], y, a1, c1, [], rfl, HA1.out, own_uat HO1.out, hc1, by omega, Nat.le_refl _, HWy.out, fun _ => ⟨rfl, rfl⟩, World.ownsRow_nil _ _ _ _, by simp, VAt.nil _ _ _, Below.refl _ _, fun _ h => h⟩
  case round =>
    obtain ⟨w2, rfl⟩ : ∃ y : World, y = wr := ⟨_, rfl⟩
    obtain ⟨acc, rw', a2, c2, vals, rfl, hA2, hU2, hc2, hm2, hle2, hw2, hacc, hof, hal, hv, B2, hruns⟩ := hrel
    have HA2 := Lib.hid hA2
    have HW2 := Lib.hid hw2
    have HAC := Lib.hid hacc
    have HOF := Lib.hid hof
    have HV := Lib.hid hv
    have HRU := Lib.hid hruns
    have HU2 := Lib.hid hU2
    clear hA2 hw2 hacc hof hv hruns hU2
    go_wp2_with fail
    refine (frameFirst a2 _ c2 rw' _ HA2.out rfl hc2 (by unfold maxLen; omega) HW2.out).mono ?_
    rintro e w3 ⟨rfl, hb⟩
    obtain ⟨sz, why, hfs⟩ : ∃ sz why, fs rw' = (sz, why) := ⟨_, _, rfl⟩
    have HFS := Lib.hid hfs
    rw [hfs]
    have B3 := ext_trans B2 hb
    have HA3 := Lib.hid (HA2.out.ext hb)
    have HOF3 := Lib.hid (ownsRow_ext HOF.out hb)
    have HV3 := Lib.hid (HV.out.ext hb)
    have HB3 := Lib.hid (show w3.heap[sb]? = some (.cells #[v, .int .i64 0] 52 (0, 0)) from (B3.block sb hlt1).trans HB1.out)
    have Z3 := B3.size
    have HU3 := Lib.hid (HU2.out.ext hb)
    clear hb hfs
    by_cases hy0 : why = 0
    · subst hy0
      by_cases hs0 : sz = 0
      · subst hs0
        obtain ⟨af, cf, rfl⟩ := own_form HOF3.out
        by_cases hal0 : acc.length = 0
        · have hacc0 : acc = [] := List.eq_nil_of_length_eq_zero hal0
          obtain ⟨e1, e2⟩ := HAC.out hacc0
          simp only [Value.slice.injEq] at e1
          obtain ⟨e3, e4, e5⟩ := e1
          have HAL := Lib.hid hal0
          have HAC0 := Lib.hid hacc0
          subst e2
          subst e3
          subst e5
          have hcb := blk_cell HB3.out
          have hfb := blk_free HB3.out
          have hd : decide (0 < (acc.length : Int)) = false := by simp [hal0]
          obtain ⟨La, hLa⟩ : ∃ La, acc.length = La := ⟨_, rfl⟩
          have HLA := Lib.hid hLa
          rw [hLa] at hd hal ⊢
          clear hal0 hacc0 e4 hLa
          go_wp2
          go_ret2
          have h3 := HB3.out
          have hk : Kept sb w3 (w3.setCell ⟨sb, 0, none⟩ (.slice a2 rw'.length c2)) := (Kept.refl _ _).setCell _ _
          rw [← HLA.out]
          refine fed_end HG.out B3 hk hlt (blk_set h3 (by simp)) ?_ HW2.out ?_ HOF3.out ?_ HOW.out
          · have hoe := ownsRow_ext HO1.out B3
            exact ownsRow_keep hoe hk (own_ne hoe h3 (by decide))
          · rw [← HY.out]
            exact HRU.out _ (.stop HFS.out)
          · have hv3 := HV3.out
            rw [HAC0.out] at hv3 ⊢
            exact ⟨hv3.1, fun i f h => by simp at h⟩
        · have hd : decide (0 < (acc.length : Int)) = true := by simp; omega
          have hO : w3.ownsRow w3.heap.size 5 1 (.slice none 0 0) 0 (bc []) := World.ownsRow_nil _ _ _ _
          have hrwle : rw'.length ≤ 140737488355328 := by omega
          go_wp2_with (at_builtin; refine wpList_append_bytes_at _ rfl _ _ 22 rfl (w3.heap.size) 5 i0 Try.underlying22 hi hz0 hz1 hz2 (.slice none 0 0) (0) ([]) rfl (hO) (a2) (rw'.length) (_) (rw') rfl (HA3.out) (rfl) ?c3 ?c4 ?c5 ?_)
          case c3 => unfold maxLen; omega
          case c4 => omega
          case c5 => exact Nat.le_refl _
          intro v5 w5 ho5 hg5 hat5
          obtain ⟨a5, c5, rfl⟩ := own_form ho5
          have B35 : Below w3.heap.size w3 w5 := (Below.refl w3.heap.size w3).grown hg5 (Nat.le_refl _) (fun q hq => own_ge hO hq)
          have HO5 := Lib.hid (show w5.ownsRow base 5 1 (.slice a5 rw'.length c5) rw'.length (bc rw') from ownsRow_base (by simpa using ho5) (by omega))
          have HB5 := Lib.hid (blk_ext B35 HB3.out)
          have B5 := ext_trans B3 B35
          have hv5 := Lib.hid (HV3.out.keep (g' := (Value.slice a5 rw'.length c5).ownBlock) (w' := w5) (fun b cur hc h1 h2 => B35.block b (blk_lt hc)) (fun b h2 h1 _ e => by
            rcases hat5 with h | h
            · rw [h] at e; simp [Value.ownBlock] at e
            · rw [h] at e; simp at e; omega) (Nat.le_refl _))
          have HOW5 := Lib.hid (show ∀ g, (Value.slice a5 rw'.length c5).ownBlock = some g → v.ownBlock = some g ∨ w.heap.size ≤ g from fun g e => by
            rcases hat5 with h | h
            · rw [h] at e; simp [Value.ownBlock] at e
            · rw [h] at e; simp at e; right; omega)
          have hcb := blk_cell HB5.out
          have hfb := blk_free HB5.out
          have hl5 := blk_lt HB5.out
          have HB35 := Lib.hid B35
          clear ho5 hg5 hat5 B35
          go_wp2
          go_ret2
          have h5 := HB5.out
          have hk : Kept sb w5 (w5.setCell ⟨sb, 0, none⟩ (.slice a5 rw'.length c5)) := (Kept.refl _ _).setCell _ _
          refine fed_end HG.out B5 hk hlt (blk_set h5 (by simp)) (ownsRow_keep HO5.out hk (own_ne HO5.out h5 (by decide))) HW2.out ?_ (ownsRow_ext HOF3.out HB35.out) hv5.out HOW5.out
          rw [← HY.out]
          exact HRU.out _ (.stop HFS.out)
      · obtain ⟨R, hR, hR1, hR2⟩ := fs_step (row := rw') (by rw [HFS.out]) (by rw [HFS.out]; exact hs0)
        rw [HFS.out] at hR
        simp only [] at hR
        subst hR
        obtain ⟨b, o, rfl⟩ : ∃ b o, a2 = some ⟨b, o, none⟩ := by
          rcases HA2.out with h | ⟨b, o, e, _⟩
          · rw [h] at hR2; simp at hR2
          · exact ⟨b, o, e⟩
        have hz8 : ((R : Int) + 8 == 0) = false := by simp; omega
        have HTL := Lib.hid (show (rw'.take (R + 8)).length = R + 8 by rw [List.length_take]; omega)
        have HDL := Lib.hid (show (rw'.drop (R + 8)).length = rw'.length - (R + 8) by rw [List.length_drop])
        clear hs0
        go_wp2_with fail
        refine (frameInside b o R c2 (rw'.take (R + 8)) _ (HA3.out.take _) HTL.out (by omega) (by unfold maxLen; omega) (by omega)).mono ?_
        rintro e w4 ⟨v4, rfl, ho4, hb4⟩
        obtain ⟨a4, c4, rfl, -, hc4, hm4, hA4, hown4, -⟩ := own_read ho4
        obtain ⟨f4, hf4⟩ : ∃ f4, f4 = inn (rw'.take (R + 8)) := ⟨_, rfl⟩
        rw [← hf4] at hA4 hc4 ⊢
        have HF4 := Lib.hid hf4
        have HA4 := Lib.hid hA4
        have HLO4 := Lib.hid (show ∀ b o, a4 = some ⟨b, o, none⟩ → w1.heap.size ≤ b ∧ some b ≠ (none : Option Nat) from fun b o e => ⟨Nat.le_trans Z3 (hown4 b o e).2.1, by simp⟩)
        have HU4 := Lib.hid (own_uat ho4)
        have HUR4 := Lib.hid (HU3.out.ext hb4)
        have HHC4 := Lib.hid hc4
        have HHM4 := Lib.hid hm4
        have B4 := ext_trans B3 hb4
        have HR4 := Lib.hid (HA3.out.ext hb4)
        have O4 := ownsRow_ext HOF3.out hb4
        have HV4 := Lib.hid (HV3.out.ext hb4)
        have Z4 := B4.size
        have hacl : 24 * (acc.length + 1) ≤ 140737488355328 := by have h1 := HTL.out; omega
        clear ho4 hA4 hown4 hb4 hf4 hc4 hm4 HB3
        go_wp2_with (at_builtin; refine wpList_append_own _ rfl _ _ 24 rfl (w1.heap.size) 22 j0 (.slice none 0 0) 1 24 Try.underlying24 hj hjz hj1 hj2 rfl (by decide) _ _ _ rfl (O4.alloc _) ⟨w4.heap.size, 0, none⟩ 1 1 [.slice a4 f4.length c4] rfl rfl ?c1 ?c2 ?c3 ?c4 ?c5 ?_)
        case c1 =>
          intro j' u hj'
          match j', hj' with
          | 0, hj' => simp at hj'; subst hj'; simp [Addr.add, go_sem]
        case c2 => intro u hu; simp at hu; subst hu; rfl
        case c3 => unfold maxLen; omega
        case c4 => omega
        case c5 => simp; omega
        intro v5 w5 ho5 hg5 _
        have B5 := (B4.alloc B4.size (.cells #[.slice a4 f4.length c4] 22)).grown hg5 (by simp; omega) (fun q hq => own_ge O4 hq)
        have hkb : ∀ (b : Nat) (cur : Array Value), w4.heap[b]? = some (.cells cur 5 (0, 0)) → w5.heap[b]? = w4.heap[b]? := fun b cur hc => by
          have h1 := hg5.block b (by have := blk_lt hc; simp; omega) (own_ne (e' := 5) (cur := cur) (O4.alloc (Obj.cells #[.slice a4 f4.length c4] 22)) (blk_alloc hc _) (by decide))
          exact h1.trans ((blk_alloc hc (Obj.cells #[.slice a4 f4.length c4] 22)).trans hc.symm)
        have HV5 := Lib.hid ((HV4.out.snoc HA4.out HHC4.out HHM4.out HU4.out HLO4.out).keep (w' := w5) (g' := none) (fun b cur hc _ _ => hkb b cur hc) (fun b _ _ _ => by simp) (Nat.le_refl _))
        have HOF5 := Lib.hid ho5
        have HR5 := Lib.hid (HR4.out.keep (w' := w5) (fun b' o' e p v hc => by
          obtain ⟨cur, hcur⟩ := HUR4.out b' o' e
          exact (World.cell?_of_block (w := w4) (hkb b' cur hcur)).trans hc))
        have HU5 := Lib.hid (show UAt w5 (some ⟨b, o, none⟩) from fun b' o' e => by
          obtain ⟨cur, hcur⟩ := HUR4.out b' o' e
          exact ⟨cur, (hkb b' cur hcur).trans hcur⟩)
        clear ho5 hg5 hkb O4
        go_wp2
        refine ⟨⟨acc ++ [f4], rw'.drop (R + 8), _, c2 - (R + 8), vals ++ [.slice a4 f4.length c4], by rw [HDL.out], ?_, ?_, by rw [HDL.out]; omega, by omega, by rw [HDL.out]; omega, HW2.out.drop _, fun h => by simp at h, by simpa using HOF5.out, by rw [HDL.out]; simp; omega, HV5.out, B5, fun out h => HRU.out out (.step (by rw [HFS.out]) (by rw [HFS.out]; simp) (by rw [HFS.out, ← HF4.out]; exact h))⟩, by simp only [lenV]; omega⟩
        · by_cases hce : c2 = R + 8
          · exact .inl (List.eq_nil_of_length_eq_zero (by rw [HDL.out]; omega))
          · rw [if_neg hce]; exact HR5.out.drop (R + 8)
        · by_cases hce : c2 = R + 8
          · rw [if_pos hce]; exact HU5.out
          · rw [if_neg hce]
            intro b' o' e
            simp at e
            exact HU5.out b' o (by rw [e.1])
    · have hyb : (why == 0) = false := by simp [hy0]
      have hyn : (why != 0) = true := by simp [hy0]
      obtain ⟨af, cf, rfl⟩ := own_form HOF3.out
      have hcb := blk_cell HB3.out
      have hfb := blk_free HB3.out
      have hl3 := blk_lt HB3.out
      have HY0 := Lib.hid hy0
      clear hy0
      go_wp2
      go_ret2
      have h3 := HB3.out
      have hk : Kept sb w3 ((w3.setCell ⟨sb, 0, none⟩ (.slice none 0 0)).setCell ⟨sb, 1, none⟩ (.int .i64 why)) := ((Kept.refl _ _).setCell _ _).setCell _ _
      refine fed_end HG.out B3 hk hlt (blk_set (blk_set (vs' := #[.slice none 0 0, .int .i64 0]) h3 (by simp)) (by simp)) (World.ownsRow_nil _ _ _ _) Wb.nil ?_ HOF3.out ?_ (fun g e => by simp [Value.ownBlock] at e)
      · rw [← HY.out]
        have h1 := Runs.bad (row := rw') (acc := acc) (by rw [HFS.out]; exact HY0.out)
        rw [HFS.out] at h1
        exact HRU.out _ h1
      · exact HV3.out.keep (fun b _ _ _ _ => rfl) (fun b _ _ _ => by simp [Value.ownBlock]) (Nat.le_refl _)

end Go.Proofs.Ytiblnonmlekjgaa
