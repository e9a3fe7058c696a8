/- Messages as bytes, and back: the model. -/
import Derived.Test.YtfdalmodnkkfiaaDoorBp
import Derived.Test.YtfdalmodnkkfiaaDoorBb
namespace Go.Proofs.YtfdalmodnkkfiaaDoor
open Go.RowKit
set_option linter.unusedVariables false

/-- a reader of messages: package pack's, and whether a number was wrong -/
abbrev Rw := Rs × Bool
/-- a message -/
structure Mg where
  kd : Int
  op : Int
  st : Int
  cod : Int
  tag : Int
  n : Int
  sq : Int
  k : ByteArray × ByteArray
  fu : Bool
  su : Int
  cs : List Cd
  ks : List (ByteArray × ByteArray)
def Mg.zero : Mg := ⟨0, 0, 0, 0, 0, 0, 0, (⟨#[]⟩, ⟨#[]⟩), false, 0, [], []⟩
def bitN (b : Bool) : Int := if b then 1 else 0
def keyB (k : ByteArray × ByteArray) : List Int := txt k.1 ++ txt k.2
def cdB (c : Cd) : List Int := keyB (c.a, c.i) ++ [c.s % 256] ++ [c.o % 256] ++ be c.l ++ be c.t ++ [c.k % 256] ++ be c.n ++ [bitN c.g]
def cdsB (l : List Cd) : List Int := [(l.length : Int) % 256] ++ l.flatMap cdB
def kysB (l : List (ByteArray × ByteArray)) : List Int := [(l.length : Int) % 256] ++ l.flatMap keyB
def headB (m : Mg) : List Int := be m.tag ++ [m.op % 256] ++ keyB m.k
def mgB (m : Mg) : List Int := [m.kd % 256] ++ (if m.kd = 1 then headB m ++ be m.n ++ [m.st % 256] ++ be m.sq else if m.kd = 2 then headB m ++ [m.cod % 256] ++ [bitN m.fu] ++ be m.sq ++ be m.su ++ cdsB m.cs else if m.kd = 3 ∨ m.kd = 4 then cdsB m.cs else if m.kd = 5 then kysB m.ks else [])

/-- reading: of each the value, and the reader behind it -/
def rB (s : Rw) : Int × Rw := ((tByte s.1).1, ((tByte s.1).2, s.2))
def rI (s : Rw) : Int × Rw := ((tInt s.1).1, ((tInt s.1).2, s.2))
def rT (s : Rw) : ByteArray × Rw := ((tText s.1).1, ((tText s.1).2, s.2))
def rK (s : Rw) : (ByteArray × ByteArray) × Rw := (((rT s).1, (rT (rT s).2).1), (rT (rT s).2).2)
def rF (s : Rw) : Bool × Rw := (decide ((rB s).1 = 1), ((rB s).2.1, (rB s).2.2 || decide (1 < (rB s).1)))
def rS (s : Rw) : Int × Rw := ((rI s).1 % 4294967296, ((rI s).2.1, (rI s).2.2 || decide ((rI s).1 < 0) || decide (4294967295 < (rI s).1)))
def rC (s : Rw) : Cd × Rw :=
  let k := rK s
  let st := rB k.2
  let ov := rB st.2
  let l := rI ov.2
  let t := rI l.2
  let nd := rB t.2
  let n := rI nd.2
  let g := rF n.2
  (⟨k.1.1, k.1.2, st.1, ov.1, l.1, t.1, nd.1, n.1, g.1⟩, g.2)
def rMany {α : Type} (f : Rw → α × Rw) : Nat → Rw → List α × Rw
  | 0, s => ([], s)
  | n + 1, s => ((f s).1 :: (rMany f n (f s).2).1, (rMany f n (f s).2).2)
def rCs (s : Rw) : List Cd × Rw := rMany rC (rB s).1.toNat (rB s).2
def rKs (s : Rw) : List (ByteArray × ByteArray) × Rw := rMany rK (rB s).1.toNat (rB s).2
def rHead (m : Mg) (s : Rw) : Mg × Rw :=
  let t := rI s
  let o := rB t.2
  let k := rK o.2
  ({ m with tag := t.1, op := o.1, k := k.1 }, k.2)
def rM (s : Rw) : Mg × Rw :=
  let kd := rB s
  let m : Mg := { Mg.zero with kd := kd.1 }
  if kd.1 = 1 then
    let h := rHead m kd.2
    let n := rI h.2
    let st := rB n.2
    let sq := rI st.2
    ({ h.1 with n := n.1, st := st.1, sq := sq.1 }, sq.2)
  else if kd.1 = 2 then
    let h := rHead m kd.2
    let c := rB h.2
    let f := rF c.2
    let sq := rI f.2
    let su := rS sq.2
    let cs := rCs su.2
    ({ h.1 with cod := c.1, fu := f.1, sq := sq.1, su := su.1, cs := cs.1 }, cs.2)
  else if kd.1 = 3 ∨ kd.1 = 4 then ({ m with cs := (rCs kd.2).1 }, (rCs kd.2).2)
  else if kd.1 = 5 then ({ m with ks := (rKs kd.2).1 }, (rKs kd.2).2)
  else (m, kd.2)
/-- is all taken, and right? -/
def rOk (s : Rw) : Bool := dn' s.1 && !s.2

/-- a reader that reads xs as v, whatever stands behind it -/
def Tk {α : Type} (f : Rw → α × Rw) (xs : List Int) (v : α) : Prop := ∀ ys, f ((xs ++ ys, false), false) = (v, ((ys, false), false))
theorem tk_app (xs ys : List Int) (n : Nat) (h : xs.length = n) : tk (xs ++ ys, false) n = (xs, (ys, false)) := by
  rw [tk_ok rfl (by simp; omega)]
  simp [← h]
theorem Tk.byte (n : Int) (h0 : 0 ≤ n) (h1 : n < 256) : Tk rB [n % 256] n := by
  intro ys
  have e : n % 256 = n := by omega
  unfold rB tByte
  rw [tk_app [n % 256] ys 1 rfl]
  simp [e]
theorem Tk.int (n : Int) (h0 : -9223372036854775808 ≤ n) (h1 : n ≤ 9223372036854775807) : Tk rI (be n) n := by
  intro ys
  unfold rI tInt
  rw [tk_app (be n) ys 8 (be_len n)]
  simp [rd_be n h0 h1]
theorem Tk.text (s : ByteArray) (h : s.size ≤ 255) : Tk rT (txt s) s := by
  intro ys
  have hc : cut255 s = sb s := by unfold cut255; exact List.take_of_length_le (by rw [sb_len]; omega)
  have hl : (sb s).length = s.size := sb_len s
  have h1 : tByte (txt s ++ ys, false) = ((s.size : Int), (sb s ++ ys, false)) := by
    unfold tByte txt
    rw [hc, hl]
    rw [show ((s.size : Int) :: sb s ++ ys) = [(s.size : Int)] ++ (sb s ++ ys) from rfl, tk_app _ _ 1 rfl]
    rfl
  have h2 : tText (txt s ++ ys, false) = (s, (ys, false)) := by
    unfold tText
    rw [h1]
    show (strOfNums (tk (sb s ++ ys, false) ((s.size : Int)).toNat).1, (tk (sb s ++ ys, false) ((s.size : Int)).toNat).2) = _
    rw [tk_app _ _ _ (by rw [hl]; omega), str_sb]
  show ((tText (txt s ++ ys, false)).1, ((tText (txt s ++ ys, false)).2, false)) = _
  rw [h2]
theorem Tk.key (k : ByteArray × ByteArray) (h : k.1.size ≤ 255) (h2 : k.2.size ≤ 255) : Tk rK (keyB k) k := by
  intro ys
  have a := Tk.text k.1 h (txt k.2 ++ ys)
  have b := Tk.text k.2 h2 ys
  unfold rK keyB
  rw [List.append_assoc, a]
  simp only []
  rw [b]
theorem Tk.flag (b : Bool) : Tk rF [bitN b] b := by
  intro ys
  have a := Tk.byte (bitN b) (by cases b <;> decide) (by cases b <;> decide) ys
  have e : bitN b % 256 = bitN b := by cases b <;> rfl
  rw [e] at a
  unfold rF
  rw [a]
  cases b <;> simp [bitN]
theorem Tk.sum (n : Int) (h0 : 0 ≤ n) (h1 : n < 4294967296) : Tk rS (be n) n := by
  intro ys
  have a := Tk.int n (by omega) (by omega) ys
  unfold rS
  rw [a]
  have e : n % 4294967296 = n := by omega
  simp [e]
  omega
/-- a card that can be written -/
def CdW (c : Cd) : Prop := c.a.size ≤ 255 ∧ c.i.size ≤ 255 ∧ 0 ≤ c.s ∧ c.s < 256 ∧ 0 ≤ c.o ∧ c.o < 256 ∧ -9223372036854775808 ≤ c.l ∧ c.l ≤ 9223372036854775807 ∧ -9223372036854775808 ≤ c.t ∧ c.t ≤ 9223372036854775807 ∧ 0 ≤ c.k ∧ c.k < 256 ∧ -9223372036854775808 ≤ c.n ∧ c.n ≤ 9223372036854775807
theorem Tk.card (c : Cd) (h : CdW c) : Tk rC (cdB c) c := by
  intro ys
  obtain ⟨h1, h2, h3, h4, h5, h6, h7, h8, h9, h10, h11, h12, h13, h14⟩ := h
  unfold rC cdB
  simp only [List.append_assoc]
  rw [Tk.key (c.a, c.i) h1 h2]
  simp only []
  rw [Tk.byte c.s h3 h4]
  simp only []
  rw [Tk.byte c.o h5 h6]
  simp only []
  rw [Tk.int c.l h7 h8]
  simp only []
  rw [Tk.int c.t h9 h10]
  simp only []
  rw [Tk.byte c.k h11 h12]
  simp only []
  rw [Tk.int c.n h13 h14]
  simp only []
  rw [Tk.flag c.g]
theorem Tk.many {α : Type} (f : Rw → α × Rw) (b : α → List Int) : ∀ (l : List α), (∀ x ∈ l, Tk f (b x) x) → Tk (rMany f l.length) (l.flatMap b) l := by
  intro l
  induction l with
  | nil => intro _ ys; rfl
  | cons x l ih =>
    intro h ys
    have h1 := h x (by simp)
    have h2 := ih (fun y hy => h y (by simp [hy]))
    simp only [List.flatMap_cons, List.append_assoc, List.length_cons, rMany]
    rw [h1, h2]
theorem Tk.cards (l : List Cd) (h : ∀ c ∈ l, CdW c) (hl : l.length < 256) : Tk rCs (cdsB l) l := by
  intro ys
  unfold rCs cdsB
  rw [List.append_assoc, Tk.byte (l.length : Int) (by omega) (by omega)]
  simp only [Int.toNat_natCast]
  exact Tk.many rC cdB l (fun c hc => Tk.card c (h c hc)) ys
theorem Tk.keys (l : List (ByteArray × ByteArray)) (h : ∀ k ∈ l, k.1.size ≤ 255 ∧ k.2.size ≤ 255) (hl : l.length < 256) : Tk rKs (kysB l) l := by
  intro ys
  unfold rKs kysB
  rw [List.append_assoc, Tk.byte (l.length : Int) (by omega) (by omega)]
  simp only [Int.toNat_natCast]
  exact Tk.many rK keyB l (fun k hk => Tk.key k (h k hk).1 (h k hk).2) ys
/-- a message that can be written: what its kind has not is zero -/
def MgW (m : Mg) : Prop := m.k.1.size ≤ 255 ∧ m.k.2.size ≤ 255 ∧ (1 ≤ m.kd ∧ m.kd ≤ 5) ∧ (0 ≤ m.op ∧ m.op < 256) ∧ (0 ≤ m.st ∧ m.st < 256) ∧ (0 ≤ m.cod ∧ m.cod < 256) ∧ (-9223372036854775808 ≤ m.tag ∧ m.tag ≤ 9223372036854775807) ∧ (-9223372036854775808 ≤ m.n ∧ m.n ≤ 9223372036854775807) ∧ (-9223372036854775808 ≤ m.sq ∧ m.sq ≤ 9223372036854775807) ∧ (0 ≤ m.su ∧ m.su < 4294967296) ∧ ((∀ c ∈ m.cs, CdW c) ∧ m.cs.length < 256) ∧ ((∀ k ∈ m.ks, k.1.size ≤ 255 ∧ k.2.size ≤ 255) ∧ m.ks.length < 256) ∧
  (m.kd = 1 → m.cod = 0 ∧ m.fu = false ∧ m.su = 0 ∧ m.cs = [] ∧ m.ks = []) ∧ (m.kd = 2 → m.n = 0 ∧ m.st = 0 ∧ m.ks = []) ∧ (3 ≤ m.kd → m.op = 0 ∧ m.st = 0 ∧ m.cod = 0 ∧ m.tag = 0 ∧ m.n = 0 ∧ m.sq = 0 ∧ m.k = (⟨#[]⟩, ⟨#[]⟩) ∧ m.fu = false ∧ m.su = 0) ∧ ((m.kd = 3 ∨ m.kd = 4) → m.ks = []) ∧ (m.kd = 5 → m.cs = [])
theorem Tk.head (m m0 : Mg) (h : MgW m) : Tk (rHead m0) (headB m) { m0 with tag := m.tag, op := m.op, k := m.k } := by
  intro ys
  obtain ⟨h1, h2, -, h3, -, -, h4, -⟩ := h
  unfold rHead headB
  simp only [List.append_assoc]
  rw [Tk.int m.tag h4.1 h4.2]
  simp only []
  rw [Tk.byte m.op h3.1 h3.2]
  simp only []
  rw [Tk.key m.k h1 h2]
theorem Tk.mg (m : Mg) (h : MgW m) : Tk rM (mgB m) m := by
  intro ys
  have hh := h
  obtain ⟨h1, h2, h3, h4, h5, h6, h7, h8, h9, h10, h11, h12, z1, z2, z3, z4, z5⟩ := h
  unfold rM mgB
  rw [List.append_assoc, Tk.byte m.kd (by omega) (by omega)]
  simp only []
  obtain ⟨kd, op, st, cod, tag, n, sq, k, fu, su, cs, ks⟩ := m
  simp only [] at *
  by_cases c1 : kd = 1
  · subst c1
    obtain ⟨rfl, rfl, rfl, rfl, rfl⟩ := z1 rfl
    simp only [if_true, List.append_assoc]
    rw [Tk.head _ _ hh]
    simp only []
    rw [Tk.int n h8.1 h8.2]
    simp only []
    rw [Tk.byte st h5.1 h5.2]
    simp only []
    rw [Tk.int sq h9.1 h9.2]
    rfl
  by_cases c2 : kd = 2
  · subst c2
    obtain ⟨rfl, rfl, rfl⟩ := z2 rfl
    rw [if_neg (by decide), if_pos rfl, if_neg (by decide), if_pos rfl]
    simp only [List.append_assoc]
    rw [Tk.head _ _ hh]
    simp only []
    rw [Tk.byte cod h6.1 h6.2]
    simp only []
    rw [Tk.flag fu]
    simp only []
    rw [Tk.int sq h9.1 h9.2]
    simp only []
    rw [Tk.sum su h10.1 h10.2]
    simp only []
    rw [Tk.cards cs h11.1 h11.2]
    rfl
  obtain ⟨rfl, rfl, rfl, rfl, rfl, rfl, rfl, rfl, rfl⟩ := z3 (by omega)
  by_cases c3 : kd = 3 ∨ kd = 4
  · obtain rfl := z4 c3
    rw [if_neg c1, if_neg c2, if_pos c3, if_neg c1, if_neg c2, if_pos c3]
    rw [Tk.cards cs h11.1 h11.2]
    rfl
  · have c5 : kd = 5 := by omega
    obtain rfl := z5 c5
    rw [if_neg c1, if_neg c2, if_neg c3, if_pos c5, if_neg c1, if_neg c2, if_neg c3, if_pos c5]
    rw [Tk.keys ks h12.1 h12.2]
    rfl
end Go.Proofs.YtfdalmodnkkfiaaDoor
