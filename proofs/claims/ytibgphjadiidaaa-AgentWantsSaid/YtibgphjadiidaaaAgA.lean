/- Package agent: the model; an agent in memory. -/
import Derived.Test.YtibgphjadiidaaaSat
import Derived.Test.YtibgphjadiidaaaChain
import Derived.Test.YtibgphjadiidaaaHist
import Derived.Test.YtibgphjadiidaaaSplit
import Derived.Lib.MinMax
import Derived.Deep.DeepCutAuto
namespace Go.Proofs.Ytibgphjadiidaaa
open Go.RowKit
set_option linter.unusedVariables false
set_option linter.unusedSimpArgs false

theorem blk_fill13 {w : World} {b : Nat} {T : TypeId} {vs : Array Value} {v0 v1 v2 v3 v4 v5 v6 v7 v8 v9 v10 v11 v12 : Value} (h : w.heap[b]? = some (.cells vs T (0, 0))) (hs : vs.size = 13) : (((((((((((((w.setCell ⟨b, 0, none⟩ v0).setCell ⟨b, 1, none⟩ v1).setCell ⟨b, 2, none⟩ v2).setCell ⟨b, 3, none⟩ v3).setCell ⟨b, 4, none⟩ v4).setCell ⟨b, 5, none⟩ v5).setCell ⟨b, 6, none⟩ v6).setCell ⟨b, 7, none⟩ v7).setCell ⟨b, 8, none⟩ v8).setCell ⟨b, 9, none⟩ v9).setCell ⟨b, 10, none⟩ v10).setCell ⟨b, 11, none⟩ v11).setCell ⟨b, 12, none⟩ v12).heap[b]? = some (.cells #[v0, v1, v2, v3, v4, v5, v6, v7, v8, v9, v10, v11, v12] T (0, 0)) := by
  obtain ⟨l⟩ := vs
  match l, hs with
  | [x0, x1, x2, x3, x4, x5, x6, x7, x8, x9, x10, x11, x12], _ =>
    have h0 := blk_set (n := 0) (u := v0) (vs' := #[v0, x1, x2, x3, x4, x5, x6, x7, x8, x9, x10, x11, x12]) h (by simp)
    have h1 := blk_set (n := 1) (u := v1) (vs' := #[v0, v1, x2, x3, x4, x5, x6, x7, x8, x9, x10, x11, x12]) h0 (by simp)
    have h2 := blk_set (n := 2) (u := v2) (vs' := #[v0, v1, v2, x3, x4, x5, x6, x7, x8, x9, x10, x11, x12]) h1 (by simp)
    have h3 := blk_set (n := 3) (u := v3) (vs' := #[v0, v1, v2, v3, x4, x5, x6, x7, x8, x9, x10, x11, x12]) h2 (by simp)
    have h4 := blk_set (n := 4) (u := v4) (vs' := #[v0, v1, v2, v3, v4, x5, x6, x7, x8, x9, x10, x11, x12]) h3 (by simp)
    have h5 := blk_set (n := 5) (u := v5) (vs' := #[v0, v1, v2, v3, v4, v5, x6, x7, x8, x9, x10, x11, x12]) h4 (by simp)
    have h6 := blk_set (n := 6) (u := v6) (vs' := #[v0, v1, v2, v3, v4, v5, v6, x7, x8, x9, x10, x11, x12]) h5 (by simp)
    have h7 := blk_set (n := 7) (u := v7) (vs' := #[v0, v1, v2, v3, v4, v5, v6, v7, x8, x9, x10, x11, x12]) h6 (by simp)
    have h8 := blk_set (n := 8) (u := v8) (vs' := #[v0, v1, v2, v3, v4, v5, v6, v7, v8, x9, x10, x11, x12]) h7 (by simp)
    have h9 := blk_set (n := 9) (u := v9) (vs' := #[v0, v1, v2, v3, v4, v5, v6, v7, v8, v9, x10, x11, x12]) h8 (by simp)
    have h10 := blk_set (n := 10) (u := v10) (vs' := #[v0, v1, v2, v3, v4, v5, v6, v7, v8, v9, v10, x11, x12]) h9 (by simp)
    have h11 := blk_set (n := 11) (u := v11) (vs' := #[v0, v1, v2, v3, v4, v5, v6, v7, v8, v9, v10, v11, x12]) h10 (by simp)
    have h12 := blk_set (n := 12) (u := v12) (vs' := #[v0, v1, v2, v3, v4, v5, v6, v7, v8, v9, v10, v11, v12]) h11 (by simp)
    exact h12
theorem blk_over13 {w : World} {b c : Nat} {o : Obj} {v0 v1 v2 v3 v4 v5 v6 v7 v8 v9 v10 v11 v12 : Value} (hn : c ≠ b) (h : w.heap[c]? = some o) : (((((((((((((w.setCell ⟨b, 0, none⟩ v0).setCell ⟨b, 1, none⟩ v1).setCell ⟨b, 2, none⟩ v2).setCell ⟨b, 3, none⟩ v3).setCell ⟨b, 4, none⟩ v4).setCell ⟨b, 5, none⟩ v5).setCell ⟨b, 6, none⟩ v6).setCell ⟨b, 7, none⟩ v7).setCell ⟨b, 8, none⟩ v8).setCell ⟨b, 9, none⟩ v9).setCell ⟨b, 10, none⟩ v10).setCell ⟨b, 11, none⟩ v11).setCell ⟨b, 12, none⟩ v12).heap[c]? = some o := by
  exact (blk_set_other hn (blk_set_other hn (blk_set_other hn (blk_set_other hn (blk_set_other hn (blk_set_other hn (blk_set_other hn (blk_set_other hn (blk_set_other hn (blk_set_other hn (blk_set_other hn (blk_set_other hn (blk_set_other hn h)))))))))))))
theorem below_fill13 {m : Nat} {u w : World} {b : Nat} {v0 v1 v2 v3 v4 v5 v6 v7 v8 v9 v10 v11 v12 : Value} (h : Below m u w) (hb : m ≤ b) : Below m u (((((((((((((w.setCell ⟨b, 0, none⟩ v0).setCell ⟨b, 1, none⟩ v1).setCell ⟨b, 2, none⟩ v2).setCell ⟨b, 3, none⟩ v3).setCell ⟨b, 4, none⟩ v4).setCell ⟨b, 5, none⟩ v5).setCell ⟨b, 6, none⟩ v6).setCell ⟨b, 7, none⟩ v7).setCell ⟨b, 8, none⟩ v8).setCell ⟨b, 9, none⟩ v9).setCell ⟨b, 10, none⟩ v10).setCell ⟨b, 11, none⟩ v11).setCell ⟨b, 12, none⟩ v12) := (((((((((((((h.setCell hb _).setCell hb _).setCell hb _).setCell hb _).setCell hb _).setCell hb _).setCell hb _).setCell hb _).setCell hb _).setCell hb _).setCell hb _).setCell hb _).setCell hb _)

theorem blk_fill14 {w : World} {b : Nat} {T : TypeId} {vs : Array Value} {v0 v1 v2 v3 v4 v5 v6 v7 v8 v9 v10 v11 v12 v13 : Value} (h : w.heap[b]? = some (.cells vs T (0, 0))) (hs : vs.size = 14) : ((((((((((((((w.setCell ⟨b, 0, none⟩ v0).setCell ⟨b, 1, none⟩ v1).setCell ⟨b, 2, none⟩ v2).setCell ⟨b, 3, none⟩ v3).setCell ⟨b, 4, none⟩ v4).setCell ⟨b, 5, none⟩ v5).setCell ⟨b, 6, none⟩ v6).setCell ⟨b, 7, none⟩ v7).setCell ⟨b, 8, none⟩ v8).setCell ⟨b, 9, none⟩ v9).setCell ⟨b, 10, none⟩ v10).setCell ⟨b, 11, none⟩ v11).setCell ⟨b, 12, none⟩ v12).setCell ⟨b, 13, none⟩ v13).heap[b]? = some (.cells #[v0, v1, v2, v3, v4, v5, v6, v7, v8, v9, v10, v11, v12, v13] T (0, 0)) := by
  obtain ⟨l⟩ := vs
  match l, hs with
  | [x0, x1, x2, x3, x4, x5, x6, x7, x8, x9, x10, x11, x12, x13], _ =>
    have h0 := blk_set (n := 0) (u := v0) (vs' := #[v0, x1, x2, x3, x4, x5, x6, x7, x8, x9, x10, x11, x12, x13]) h (by simp)
    have h1 := blk_set (n := 1) (u := v1) (vs' := #[v0, v1, x2, x3, x4, x5, x6, x7, x8, x9, x10, x11, x12, x13]) h0 (by simp)
    have h2 := blk_set (n := 2) (u := v2) (vs' := #[v0, v1, v2, x3, x4, x5, x6, x7, x8, x9, x10, x11, x12, x13]) h1 (by simp)
    have h3 := blk_set (n := 3) (u := v3) (vs' := #[v0, v1, v2, v3, x4, x5, x6, x7, x8, x9, x10, x11, x12, x13]) h2 (by simp)
    have h4 := blk_set (n := 4) (u := v4) (vs' := #[v0, v1, v2, v3, v4, x5, x6, x7, x8, x9, x10, x11, x12, x13]) h3 (by simp)
    have h5 := blk_set (n := 5) (u := v5) (vs' := #[v0, v1, v2, v3, v4, v5, x6, x7, x8, x9, x10, x11, x12, x13]) h4 (by simp)
    have h6 := blk_set (n := 6) (u := v6) (vs' := #[v0, v1, v2, v3, v4, v5, v6, x7, x8, x9, x10, x11, x12, x13]) h5 (by simp)
    have h7 := blk_set (n := 7) (u := v7) (vs' := #[v0, v1, v2, v3, v4, v5, v6, v7, x8, x9, x10, x11, x12, x13]) h6 (by simp)
    have h8 := blk_set (n := 8) (u := v8) (vs' := #[v0, v1, v2, v3, v4, v5, v6, v7, v8, x9, x10, x11, x12, x13]) h7 (by simp)
    have h9 := blk_set (n := 9) (u := v9) (vs' := #[v0, v1, v2, v3, v4, v5, v6, v7, v8, v9, x10, x11, x12, x13]) h8 (by simp)
    have h10 := blk_set (n := 10) (u := v10) (vs' := #[v0, v1, v2, v3, v4, v5, v6, v7, v8, v9, v10, x11, x12, x13]) h9 (by simp)
    have h11 := blk_set (n := 11) (u := v11) (vs' := #[v0, v1, v2, v3, v4, v5, v6, v7, v8, v9, v10, v11, x12, x13]) h10 (by simp)
    have h12 := blk_set (n := 12) (u := v12) (vs' := #[v0, v1, v2, v3, v4, v5, v6, v7, v8, v9, v10, v11, v12, x13]) h11 (by simp)
    have h13 := blk_set (n := 13) (u := v13) (vs' := #[v0, v1, v2, v3, v4, v5, v6, v7, v8, v9, v10, v11, v12, v13]) h12 (by simp)
    exact h13
theorem blk_over14 {w : World} {b c : Nat} {o : Obj} {v0 v1 v2 v3 v4 v5 v6 v7 v8 v9 v10 v11 v12 v13 : Value} (hn : c ≠ b) (h : w.heap[c]? = some o) : ((((((((((((((w.setCell ⟨b, 0, none⟩ v0).setCell ⟨b, 1, none⟩ v1).setCell ⟨b, 2, none⟩ v2).setCell ⟨b, 3, none⟩ v3).setCell ⟨b, 4, none⟩ v4).setCell ⟨b, 5, none⟩ v5).setCell ⟨b, 6, none⟩ v6).setCell ⟨b, 7, none⟩ v7).setCell ⟨b, 8, none⟩ v8).setCell ⟨b, 9, none⟩ v9).setCell ⟨b, 10, none⟩ v10).setCell ⟨b, 11, none⟩ v11).setCell ⟨b, 12, none⟩ v12).setCell ⟨b, 13, none⟩ v13).heap[c]? = some o := by
  exact (blk_set_other hn (blk_set_other hn (blk_set_other hn (blk_set_other hn (blk_set_other hn (blk_set_other hn (blk_set_other hn (blk_set_other hn (blk_set_other hn (blk_set_other hn (blk_set_other hn (blk_set_other hn (blk_set_other hn (blk_set_other hn h))))))))))))))
theorem below_fill14 {m : Nat} {u w : World} {b : Nat} {v0 v1 v2 v3 v4 v5 v6 v7 v8 v9 v10 v11 v12 v13 : Value} (h : Below m u w) (hb : m ≤ b) : Below m u ((((((((((((((w.setCell ⟨b, 0, none⟩ v0).setCell ⟨b, 1, none⟩ v1).setCell ⟨b, 2, none⟩ v2).setCell ⟨b, 3, none⟩ v3).setCell ⟨b, 4, none⟩ v4).setCell ⟨b, 5, none⟩ v5).setCell ⟨b, 6, none⟩ v6).setCell ⟨b, 7, none⟩ v7).setCell ⟨b, 8, none⟩ v8).setCell ⟨b, 9, none⟩ v9).setCell ⟨b, 10, none⟩ v10).setCell ⟨b, 11, none⟩ v11).setCell ⟨b, 12, none⟩ v12).setCell ⟨b, 13, none⟩ v13) := ((((((((((((((h.setCell hb _).setCell hb _).setCell hb _).setCell hb _).setCell hb _).setCell hb _).setCell hb _).setCell hb _).setCell hb _).setCell hb _).setCell hb _).setCell hb _).setCell hb _).setCell hb _)


structure Wt where
  o : Int
  n : Int
  s : Int
instance : Inhabited Wt := ⟨⟨0, 0, 0⟩⟩
def wec (x : Wt) : List Value := [.int .i64 x.o, .int .i64 x.n, .int .i64 x.s]
theorem wec_len (x : Wt) : (wec x).length = 3 := rfl
theorem wec_one (x : Wt) : ∀ u ∈ wec x, u.oneCell' = true := by
  intro u hu
  simp [wec] at hu
  rcases hu with rfl | rfl | rfl <;> rfl
/-- what a client is -/
structure Ag where
  i : Nat
  now : Int
  ws : List Wt
  q : Int
  tag : Int
  op : Int
  asked : Int
  wt : Bool
  wi : Bool
  tm : Int
  st : Int
  kn : Bool
  br : Bool
  bl : Int
  fr : Bool
  fl : Int
/-- what it asks -/
structure Ms where
  op : Int
  st : Int
  N : Int
  sq : Int
  a : ByteArray
  i : ByteArray
def du (b : Bool) (l now e : Int) : Bool := !b || decide (e ≤ now - l)
def turnM (n : Nat) (s : Ag) : Ag := { s with wt := false, kn := false, i := (s.i + 1) % n, q := -1 }
def regM (k : ByteArray × ByteArray) (s : Ag) : Ag × Ms × Bool := ({ s with br := true, bl := s.now }, ⟨1, s.st, s.tm, 0, k.1, k.2⟩, true)
def wantedM (k : ByteArray × ByteArray) (x : Wt) (s : Ag) : Ag × Ms × Bool :=
  if x.o = 1 then regM k { s with wi := true, tm := x.n, st := x.s }
  else if x.o = 3 then ({ s with wi := false }, ⟨3, 0, 0, 0, k.1, k.2⟩, true)
  else (s, ⟨x.o, x.s, 0, 0, k.1, k.2⟩, true)
def nextM (k : ByteArray × ByteArray) (s : Ag) : Ag × Ms × Bool :=
  match s.ws with
  | x :: r => wantedM k x { s with ws := r }
  | [] =>
    if s.wi = true ∧ du s.br s.bl s.now 10 = true then
      if s.kn = true then ({ s with br := true, bl := s.now }, ⟨2, 0, 0, 0, k.1, k.2⟩, true) else regM k s
    else if du s.fr s.fl s.now 25 = true then ({ s with fr := true, fl := s.now }, ⟨5, 0, 0, s.q, ⟨#[]⟩, ⟨#[]⟩⟩, true)
    else (s, ⟨0, 0, 0, 0, ⟨#[]⟩, ⟨#[]⟩⟩, false)
def askM (s : Ag) (m : Ms) : Ag := { s with tag := s.tag + 1, op := m.op, asked := s.now, wt := true }
/-- a message that is to be sent -/
structure Sn where
  z : Int
  m : Ms
  tag : Int
instance : Inhabited Sn := ⟨⟨0, ⟨0, 0, 0, 0, ⟨#[]⟩, ⟨#[]⟩⟩, 0⟩⟩
def sec (x : Sn) : List Value := Value.int .i64 x.z :: ([.int .i64 1, .int .i64 x.m.op, .int .i64 x.m.st, .int .i64 0, .int .i64 x.tag, .int .i64 x.m.N, .int .i64 x.m.sq, .string x.m.a, .string x.m.i, .bool false, .int .u32 0, .slice none 0 0, .slice none 0 0] : List Value)
theorem sec_len (x : Sn) : (sec x).length = 14 := rfl
theorem sec_one (x : Sn) : ∀ u ∈ sec x, u.oneCell' = true := by
  intro u hu
  simp [sec] at hu
  rcases hu with rfl | rfl | rfl | rfl | rfl | rfl | rfl | rfl | rfl | rfl | rfl | rfl | rfl | rfl <;> rfl
/-- one tick -/
def expM (n : Nat) (s : Ag) : Ag := if s.wt = true ∧ 8 ≤ s.now - s.asked then turnM n s else s
def stpM (k : ByteArray × ByteArray) (zs : List Int) (s : Ag) : Ag × List Sn :=
  let s2 := expM zs.length { s with now := s.now + 1 }
  if s2.wt = true then (s2, [])
  else match nextM k s2 with
    | (s3, m, true) => (askM s3 m, [⟨zs.getD s3.i 0, m, s3.tag + 1⟩])
    | (s3, m, false) => (s3, [])
def runM (k : ByteArray × ByteArray) (zs : List Int) : Nat → Ag → Ag × List Sn
  | 0, s => (s, [])
  | j + 1, s => let r := runM k zs j s; let t := stpM k zs r.1; (t.1, r.2 ++ t.2)
/-- the servers' row -/
def SvP (w : World) (sb sc : Nat) (zs : List Int) : Prop := zs.length ≤ sc ∧ sc ≤ maxLen ∧ ∃ cur : Array Value, w.heap[sb]? = some (.cells cur 3 (0, 0)) ∧ ∀ (j : Nat) (z : Int), zs[j]? = some z → cur[j]? = some (.int .i64 z)
theorem SvP.keep {w w' : World} {sb sc : Nat} {zs : List Int} (h : SvP w sb sc zs) (hk : ∀ (b : Nat) (cur : Array Value), w.heap[b]? = some (.cells cur 3 (0, 0)) → w'.heap[b]? = w.heap[b]?) : SvP w' sb sc zs := by
  obtain ⟨h1, h2, cur, h3, h4⟩ := h
  exact ⟨h1, h2, cur, (hk _ _ h3).trans h3, h4⟩
theorem SvP.cell {w : World} {sb sc j : Nat} {z : Int} {zs : List Int} (h : SvP w sb sc zs) (hj : zs[j]? = some z) : w.cell? ⟨sb, j, none⟩ = some (.int .i64 z) := by
  obtain ⟨h1, h2, cur, h3, h4⟩ := h
  rw [blk_cell h3]; exact h4 j z hj
/-- the wants' row -/
def WsP (w : World) (wa : Option Addr) (wc : Nat) (ws : List Wt) : Prop := ws.length ≤ wc ∧ wc ≤ maxLen ∧ SAt wec 3 61 w wa ws ∧ ((wa = none ∧ wc = 0) ∨ ∃ b o, wa = some ⟨b, o, none⟩)
theorem WsP.keep {w w' : World} {wa : Option Addr} {wc : Nat} {ws : List Wt} (h : WsP w wa wc ws) (hk : ∀ (b : Nat) (cur : Array Value), w.heap[b]? = some (.cells cur 61 (0, 0)) → w'.heap[b]? = w.heap[b]?) : WsP w' wa wc ws :=
  ⟨h.1, h.2.1, h.2.2.1.keep fun b cur hc _ => hk b cur hc, h.2.2.2⟩
/-- at block ab a client lies -/
def AgP (w : World) (ab : Nat) (k : ByteArray × ByteArray) (zs : List Int) (s : Ag) : Prop :=
  ∃ (sb sc : Nat) (wa : Option Addr) (wc : Nat), w.heap[ab]? = some (.cells #[.string k.1, .string k.2, .slice (some ⟨sb, 0, none⟩) zs.length sc, .int .i64 (s.i : Nat), .int .i64 s.now, .slice wa s.ws.length wc, .slice none 0 0, .int .i64 s.q, .int .i64 s.tag, .int .i64 s.op, .int .i64 s.asked, .bool s.wt, .bool s.wi, .int .i64 s.tm, .int .i64 s.st, .bool s.kn, .bool s.br, .int .i64 s.bl, .bool s.fr, .int .i64 s.fl] 57 (0, 0)) ∧ SvP w sb sc zs ∧ WsP w wa wc s.ws
section
variable {w w' : World} {ab : Nat} {k : ByteArray × ByteArray} {zs : List Int} {s : Ag}
theorem AgP.lt (h : AgP w ab k zs s) : ab < w.heap.size := by obtain ⟨_, _, _, _, h, -⟩ := h; exact blk_lt h
theorem AgP.keep (h : AgP w ab k zs s) (h0 : w'.heap[ab]? = w.heap[ab]?) (hk : ∀ (b : Nat) (cur : Array Value) (T : TypeId), T ≠ 57 → (T = 3 ∨ T = 61) → w.heap[b]? = some (.cells cur T (0, 0)) → w'.heap[b]? = w.heap[b]?) : AgP w' ab k zs s := by
  obtain ⟨sb, sc, wa, wc, h1, h2, h3⟩ := h
  exact ⟨sb, sc, wa, wc, h0.trans h1, h2.keep fun b cur hc => hk b cur _ (by decide) (.inl rfl) hc, h3.keep fun b cur hc => hk b cur _ (by decide) (.inr rfl) hc⟩
theorem AgP.ext (h : AgP w ab k zs s) (hb : Below w.heap.size w w') : AgP w' ab k zs s :=
  h.keep (hb.block _ h.lt) fun b cur T _ _ hc => hb.block b (blk_lt hc)
/-- a block of another type is written -/
theorem AgP.rimO {b0 : Nat} {cs0 : Array Value} {T0 : TypeId} (h : AgP w ab k zs s) (hr : Rim b0 w w') (h0 : w.heap[b0]? = some (.cells cs0 T0 (0, 0))) (hT : 57 ≠ T0) (hT2 : 3 ≠ T0) (hT3 : 61 ≠ T0) : AgP w' ab k zs s := by
  have hlt := h.lt
  have hne : ab ≠ b0 := by
    obtain ⟨_, _, _, _, h1, -⟩ := h
    rintro rfl
    rw [h0] at h1
    simp at h1
    exact hT h1.2.symm
  refine h.keep (hr.block _ hne hlt) fun b cur T _ hT' hc => hr.block b (fun e => ?_) (blk_lt hc)
  subst e
  rw [h0] at hc
  simp at hc
  rcases hT' with e | e
  · exact hT2 (e.symm.trans hc.2.symm)
  · exact hT3 (e.symm.trans hc.2.symm)
/-- the client's own block is written -/
theorem AgP.own {sb sc : Nat} {wa : Option Addr} {wc : Nat} {ws : List Wt} {c0 : Array Value} (h1 : w.heap[ab]? = some (.cells c0 57 (0, 0))) (h2 : SvP w sb sc zs) (h3 : WsP w wa wc ws) (hr : Rim ab w w') : SvP w' sb sc zs ∧ WsP w' wa wc ws := by
  have hk : ∀ (b : Nat) (cur : Array Value) (T : TypeId), T ≠ 57 → w.heap[b]? = some (.cells cur T (0, 0)) → w'.heap[b]? = w.heap[b]? := fun b cur T hne hc => hr.block b (fun e => by subst e; rw [h1] at hc; simp at hc; exact hne hc.2.symm) (blk_lt hc)
  exact ⟨h2.keep fun b cur hc => hk b cur _ (by decide) hc, h3.keep fun b cur hc => hk b cur _ (by decide) hc⟩
theorem Rim.rimT {b0 b : Nat} {c0 cs : Array Value} {T T0 : TypeId} (hr : Rim b0 w w') (h0 : w.heap[b0]? = some (.cells c0 T0 (0, 0))) (h : w.heap[b]? = some (.cells cs T (0, 0))) (hT : T ≠ T0) : w'.heap[b]? = some (.cells cs T (0, 0)) :=
  (hr.block b (fun e => by subst e; rw [h0] at h; simp at h; exact hT h.2.symm) (blk_lt h)).trans h
theorem rim_set {b o : Nat} {v : Value} (h : Rim b w w') : Rim b w (w'.setCell ⟨b, o, none⟩ v) := h.trans (Rim.kept ((Kept.refl b w').setCell o v))
end
theorem wpAny_stay {P : Program} {Q : Exit → Act → World → Prop} {a : Act} {w : World} {l : List Oper} (W : World) (hB : Region.lexB .any l.toArray = true) (hw : Below W.heap.size W w)
    (h : wpQuiet P l.toArray (fun w' => ∃ g : Of W, w' = g.w) (fun a' => ∀ w', Below W.heap.size W w' → Q .normal a' w') l a) : wpAny P .any l.toArray Q l.length (Array.replicate l.length false) a w := by
  simp only [Region.lexB, Bool.and_eq_true] at hB
  refine wpAny_of_quiet (C := fun w' => ∃ g : Of W, w' = g.w) (Q := fun a' => ∀ w', (∃ g : Of W, w' = g.w) → Q .normal a' w') (fun _ w' hw' h => h w' hw') _ _ _ _ ⟨⟨w, hw⟩, rfl⟩ ?_
  have e : (fun a' : Act => ∀ w' : World, (∃ g : Of W, w' = g.w) → Q .normal a' w') = fun a' => ∀ w', Below W.heap.size W w' → Q .normal a' w' := by
    funext a'
    exact propext ⟨fun h w' hb => h w' ⟨⟨w', hb⟩, rfl⟩, fun h w' ⟨g, hg⟩ => h w' (by rw [hg]; exact g.h)⟩
  rw [e]
  have := wpAnyQ_lex (C := fun w' => ∃ g : Of W, w' = g.w) (md := .any) hB.1 l 0 (Array.replicate l.length false) a (by simp) (by simpa using hB.2) h
  simpa using this

set_option maxRecDepth 100000 in
set_option maxHeartbeats 1000000 in
theorem due_any (b : Bool) (l now e : Int) (w : World) (h1 : 0 ≤ now) (h2 : now ≤ 1099511627776) (h3 : 0 ≤ l) (h4 : l ≤ 1099511627776) :
    Calls Try.prog 30 #[.agg #[.bool b, .int .i64 l], .int .i64 now, .int .i64 e] w fun r w' => r = .returned (.bool (du b l now e)) ∧ Below w.heap.size w w' := by
  cases b
  · show Calls Try.prog 30 #[.agg #[.bool false, .int .i64 l], .int .i64 now, .int .i64 e] w fun r w' => r = .returned (.bool true) ∧ Below w.heap.size w w'
    have D0 := Lib.hid (show Below w.heap.size w (w.alloc (.cells #[.bool false, .int .i64 l] 55)) from (Below.refl _ _).alloc (Nat.le_refl _) _)
    have HX := Lib.hid (blk_new w #[.bool false, .int .i64 l] 55)
    go_enter Try.func30, Try.ntmps30
    go_upto_region 1 with (fail)
    obtain ⟨p, hp⟩ : ∃ p, w.heap.size = p := ⟨_, rfl⟩
    rw [hp] at HX
    try rw [hp]
    clear hp
    generalize (w.alloc (.cells #[.bool false, .int .i64 l] 55)) = w1 at *
    have hk := blk_cell HX.out
    have hl := blk_lt HX.out
    go_wp2
    go_ret
    exact ⟨rfl, D0.out⟩

  · obtain ⟨d, hd⟩ : ∃ d, decide (e ≤ now - l) = d := ⟨_, rfl⟩
    rw [show du true l now e = d from hd]
    have D0 := Lib.hid (show Below w.heap.size w (w.alloc (.cells #[.bool true, .int .i64 l] 55)) from (Below.refl _ _).alloc (Nat.le_refl _) _)
    have HX := Lib.hid (blk_new w #[.bool true, .int .i64 l] 55)
    go_enter Try.func30, Try.ntmps30
    go_upto_region 1 with (fail)
    obtain ⟨p, hp⟩ : ∃ p, w.heap.size = p := ⟨_, rfl⟩
    rw [hp] at HX
    try rw [hp]
    clear hp
    generalize (w.alloc (.cells #[.bool true, .int .i64 l] 55)) = w1 at *
    have hk := blk_cell HX.out
    have hl := blk_lt HX.out
    go_wp2
    go_ret
    exact ⟨rfl, D0.out⟩


set_option maxRecDepth 100000 in
set_option maxHeartbeats 1000000 in
theorem agServer (ab : Nat) (k : ByteArray × ByteArray) (zs : List Int) (s : Ag) (z : Int) (w : World) (h : AgP w ab k zs s) (hz : zs[s.i]? = some z) :
    Calls Try.prog 25 #[.pointer (some ⟨ab, 0, none⟩)] w fun r w' => r = .returned (.int .i64 z) ∧ Below w.heap.size w w' := by
  obtain ⟨i, now, ws, q, tag, op, asked, wt, wi, tm, st, kn, br, bl, fr, fl⟩ := s
  obtain ⟨sb, sc, wa, wc, h1, hsv, hws⟩ := h
  dsimp only at *
  obtain ⟨n, hn⟩ : ∃ n, ws.length = n := ⟨_, rfl⟩
  obtain ⟨m, hm⟩ : ∃ m, zs.length = m := ⟨_, rfl⟩
  rw [hn, hm] at h1
  have H1 := Lib.hid h1
  have HSV := Lib.hid hsv
  have HWS := Lib.hid hws
  have HN := Lib.hid hn
  have HM := Lib.hid hm
  clear h1 hsv hws hn hm
  have hcz := HSV.out.cell hz
  have him : i < m := by rw [← HM.out]; exact (List.getElem?_eq_some_iff.1 hz).1
  have hmc : m ≤ sc := by rw [← HM.out]; exact HSV.out.1
  have hsl : sb < w.heap.size := by obtain ⟨-, -, cur, h, -⟩ := HSV.out; exact blk_lt h
  have hk := blk_cell H1.out
  have hl := blk_lt H1.out
  have him2 : (i : Int) < (m : Int) := by omega
  go_enter Try.func25, Try.ntmps25
  go_upto_region 1 with (fail)
  haveI hIq : Nonempty (Of w) := of_some _
  have hF0 := of_cell hcz
  have hG0 := blk_of H1.out
  first | (refine wp_region_stay w (by kernel_rfl) (by kernel_rfl) (by go_grown) ?_) | (refine wp_region_stay_seq w (by go_grown) ?_)
  repeat (go_big_quiet_step (fail))
  refine wpQuiet_nil ?_
  intro w9 hb9
  clear hIq hF0 hG0
  go_wp2
  go_ret
  exact ⟨rfl, hb9⟩

set_option maxRecDepth 100000 in
set_option maxHeartbeats 1000000 in
theorem agWaits (ab : Nat) (k : ByteArray × ByteArray) (zs : List Int) (s : Ag) (w : World) (h : AgP w ab k zs s) :
    Calls Try.prog 12 #[.pointer (some ⟨ab, 0, none⟩)] w fun r w' => r = .returned (.bool s.wt) ∧ w = w' := by
  obtain ⟨i, now, ws, q, tag, op, asked, wt, wi, tm, st, kn, br, bl, fr, fl⟩ := s
  obtain ⟨sb, sc, wa, wc, h1, hsv, hws⟩ := h
  dsimp only at *
  obtain ⟨n, hn⟩ : ∃ n, ws.length = n := ⟨_, rfl⟩
  obtain ⟨m, hm⟩ : ∃ m, zs.length = m := ⟨_, rfl⟩
  rw [hn, hm] at h1
  have H1 := Lib.hid h1
  have HSV := Lib.hid hsv
  have HWS := Lib.hid hws
  have HN := Lib.hid hn
  have HM := Lib.hid hm
  clear h1 hsv hws hn hm
  have hk := blk_cell H1.out
  have hl := blk_lt H1.out
  go_enter Try.func12, Try.ntmps12
  go_wp2
  go_ret
  exact ⟨rfl, rfl⟩

set_option maxRecDepth 100000 in
set_option maxHeartbeats 1000000 in
theorem agKnown (ab : Nat) (k : ByteArray × ByteArray) (zs : List Int) (s : Ag) (w : World) (h : AgP w ab k zs s) :
    Calls Try.prog 13 #[.pointer (some ⟨ab, 0, none⟩)] w fun r w' => r = .returned (.bool s.kn) ∧ w = w' := by
  obtain ⟨i, now, ws, q, tag, op, asked, wt, wi, tm, st, kn, br, bl, fr, fl⟩ := s
  obtain ⟨sb, sc, wa, wc, h1, hsv, hws⟩ := h
  dsimp only at *
  obtain ⟨n, hn⟩ : ∃ n, ws.length = n := ⟨_, rfl⟩
  obtain ⟨m, hm⟩ : ∃ m, zs.length = m := ⟨_, rfl⟩
  rw [hn, hm] at h1
  have H1 := Lib.hid h1
  have HSV := Lib.hid hsv
  have HWS := Lib.hid hws
  have HN := Lib.hid hn
  have HM := Lib.hid hm
  clear h1 hsv hws hn hm
  have hk := blk_cell H1.out
  have hl := blk_lt H1.out
  go_enter Try.func13, Try.ntmps13
  go_wp2
  go_ret
  exact ⟨rfl, rfl⟩

set_option maxRecDepth 100000 in
set_option maxHeartbeats 1000000 in
theorem agCache (ab : Nat) (w : World) :
    Calls Try.prog 7 #[.pointer (some ⟨ab, 0, none⟩)] w fun r w' => r = .returned (.pointer (some ⟨ab, 6, none⟩)) ∧ w = w' := by
  go_enter Try.func7, Try.ntmps7
  go_wp2
  go_ret
  exact ⟨rfl, rfl⟩

set_option maxRecDepth 100000 in
set_option maxHeartbeats 1000000 in
theorem agSince (ab : Nat) (k : ByteArray × ByteArray) (zs : List Int) (s : Ag) (w : World) (h : AgP w ab k zs s) :
    Calls Try.prog 32 #[.pointer (some ⟨ab, 6, none⟩)] w fun r w' => r = .returned (.int .i64 s.q) ∧ w = w' := by
  obtain ⟨i, now, ws, q, tag, op, asked, wt, wi, tm, st, kn, br, bl, fr, fl⟩ := s
  obtain ⟨sb, sc, wa, wc, h1, hsv, hws⟩ := h
  dsimp only at *
  obtain ⟨n, hn⟩ : ∃ n, ws.length = n := ⟨_, rfl⟩
  obtain ⟨m, hm⟩ : ∃ m, zs.length = m := ⟨_, rfl⟩
  rw [hn, hm] at h1
  have H1 := Lib.hid h1
  have HSV := Lib.hid hsv
  have HWS := Lib.hid hws
  have HN := Lib.hid hn
  have HM := Lib.hid hm
  clear h1 hsv hws hn hm
  have hk := blk_cell H1.out
  have hl := blk_lt H1.out
  go_enter Try.func32, Try.ntmps32
  go_wp2
  go_ret
  exact ⟨rfl, rfl⟩

set_option maxRecDepth 100000 in
set_option maxHeartbeats 1000000 in
theorem agForget (ab : Nat) (k : ByteArray × ByteArray) (zs : List Int) (s : Ag) (w : World) (h : AgP w ab k zs s) :
    Calls Try.prog 28 #[.pointer (some ⟨ab, 6, none⟩)] w fun r w' => r = .returned (.tuple #[]) ∧ AgP w' ab k zs { s with q := -1 } ∧ Rim ab w w' := by
  obtain ⟨i, now, ws, q, tag, op, asked, wt, wi, tm, st, kn, br, bl, fr, fl⟩ := s
  obtain ⟨sb, sc, wa, wc, h1, hsv, hws⟩ := h
  dsimp only at *
  obtain ⟨n, hn⟩ : ∃ n, ws.length = n := ⟨_, rfl⟩
  obtain ⟨m, hm⟩ : ∃ m, zs.length = m := ⟨_, rfl⟩
  rw [hn, hm] at h1
  have H1 := Lib.hid h1
  have HSV := Lib.hid hsv
  have HWS := Lib.hid hws
  have HN := Lib.hid hn
  have HM := Lib.hid hm
  clear h1 hsv hws hn hm
  have hk := blk_cell H1.out
  have hl := blk_lt H1.out
  have hf := blk_free H1.out
  go_enter Try.func28, Try.ntmps28
  go_wp2
  go_end0
  have hr : Rim ab w (w.setCell ⟨ab, 7, none⟩ (.int .i64 (-1))) := rim_set (Rim.of (Below.refl _ _))
  have h9 := AgP.own H1.out HSV.out HWS.out hr
  refine ⟨rfl, ⟨sb, sc, wa, wc, ?_, h9⟩, hr⟩
  rw [HN.out, HM.out]
  exact blk_set H1.out (by first | rfl | simp)

end Go.Proofs.Ytibgphjadiidaaa
