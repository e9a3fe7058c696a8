/- Messages are written. -/
import Derived.Test.YtfdalmodnkkfiaaDoorMlQ
namespace Go.Proofs.YtfdalmodnkkfiaaDoor
open Go.RowKit
set_option linter.unusedVariables false
set_option linter.unusedSimpArgs false

theorem neqNil (w : World) : (binOp .neq 36 .nilIface .nilIface).run Tryd.prog w = .ok (.bool false) w := by kernel_rfl
theorem neqF (v : Value) (w : World) : (binOp .neq 36 (.iface 81 v) .nilIface).run Tryd.prog w = .ok (.bool true) w := by kernel_rfl
/-- where a message's rows lie -/
def MgMem (w : World) (m : Mg) (ca : Option Addr) (cn cc : Nat) (ka : Option Addr) (kn kc : Nat) : Prop := CAt w ca m.cs ∧ m.cs.length = cn ∧ cn ≤ cc ∧ cc ≤ maxLen ∧ KyAt w ka m.ks ∧ m.ks.length = kn ∧ kn ≤ kc ∧ kc ≤ maxLen ∧ ((m.kd = 1 ∨ m.kd = 5) → ca = none ∧ cc = 0) ∧ (m.kd ≠ 5 → ka = none ∧ kc = 0)
theorem MgMem.ext {w w' : World} {m : Mg} {ca : Option Addr} {cn cc : Nat} {ka : Option Addr} {kn kc : Nat} (h : MgMem w m ca cn cc ka kn kc) (hb : Below w.heap.size w w') : MgMem w' m ca cn cc ka kn kc := by
  obtain ⟨h1, h2, h3, h4, h5, h6⟩ := h
  exact ⟨h1.ext hb, h2, h3, h4, SAt.ext h5 hb, h6⟩
def opOk (op : Int) (k : ByteArray × ByteArray) : Prop := (1 ≤ op ∧ op < 5 ∧ NmOk k.1 ∧ NmOk k.2) ∨ (op = 5 ∧ k = (⟨#[]⟩, ⟨#[]⟩))
/-- numbers that an int64, an uint32 holds -/
def MgI (m : Mg) : Prop := (-9223372036854775808 ≤ m.tag ∧ m.tag ≤ 9223372036854775807) ∧ (-9223372036854775808 ≤ m.n ∧ m.n ≤ 9223372036854775807) ∧ (m.sq ≤ 9223372036854775807) ∧ (0 ≤ m.su ∧ m.su < 4294967296)
/-- a card that is right, of numbers that an int64 holds -/
def CdG (c : Cd) : Prop := cdRB c = true ∧ c.t ≤ 9223372036854775807 ∧ c.n ≤ 9223372036854775807
/-- a message that is right -/
def MgOk (m : Mg) : Prop := MgI m ∧ (
  (m.kd = 1 ∧ m.cod = 0 ∧ m.fu = false ∧ m.su = 0 ∧ m.cs = [] ∧ m.ks = [] ∧ (0 ≤ m.st ∧ m.st ≤ 255) ∧ -1 ≤ m.sq ∧ opOk m.op m.k) ∨
  (m.kd = 2 ∧ m.n = 0 ∧ m.st = 0 ∧ m.ks = [] ∧ (0 ≤ m.cod ∧ m.cod ≤ 255) ∧ -1 ≤ m.sq ∧ opOk m.op m.k ∧ m.cs.length ≤ 64 ∧ ∀ x ∈ m.cs, CdG x) ∨
  ((m.kd = 3 ∨ m.kd = 4) ∧ (m.op = 0 ∧ m.st = 0 ∧ m.cod = 0 ∧ m.tag = 0 ∧ m.n = 0 ∧ m.sq = 0 ∧ m.k = (⟨#[]⟩, ⟨#[]⟩) ∧ m.fu = false ∧ m.su = 0) ∧ m.ks = [] ∧ m.cs.length ≤ 64 ∧ ∀ x ∈ m.cs, CdG x) ∨
  (m.kd = 5 ∧ (m.op = 0 ∧ m.st = 0 ∧ m.cod = 0 ∧ m.tag = 0 ∧ m.n = 0 ∧ m.sq = 0 ∧ m.k = (⟨#[]⟩, ⟨#[]⟩) ∧ m.fu = false ∧ m.su = 0) ∧ m.cs = [] ∧ m.ks.length ≤ 64 ∧ ∀ x ∈ m.ks, kyB x = true))
theorem nm_of {s : ByteArray} (h : nmB s = true) : NmOk s := of_decide_eq_true h
theorem CdG.sz {c : Cd} (h : CdG c) : c.a.size ≤ 16 ∧ c.i.size ≤ 16 := by
  have h1 := h.1
  unfold cdRB at h1
  simp only [Bool.and_eq_true] at h1
  exact ⟨(nm_of h1.1.1.1.1.1).2.1, (nm_of h1.1.1.1.1.2).2.1⟩
theorem CdG.w {c : Cd} (h : CdG c) : CdW c := by
  have hs := h.sz
  have h1 := h.1
  have h2 := h.2
  unfold cdRB stB at h1
  simp only [Bool.and_eq_true, Bool.or_eq_true, decide_eq_true_eq] at h1
  unfold CdW
  omega
theorem kyB.sz {k : ByteArray × ByteArray} (h : kyB k = true) : k.1.size ≤ 16 ∧ k.2.size ≤ 16 := by
  unfold kyB at h
  simp only [Bool.and_eq_true] at h
  exact ⟨(nm_of h.1).2.1, (nm_of h.2).2.1⟩
theorem opOk.sz {op : Int} {k : ByteArray × ByteArray} (h : opOk op k) : k.1.size ≤ 16 ∧ k.2.size ≤ 16 ∧ 1 ≤ op ∧ op ≤ 5 := by
  rcases h with ⟨h1, h2, h3, h4⟩ | ⟨rfl, rfl⟩
  · exact ⟨h3.2.1, h4.2.1, h1, by omega⟩
  · exact ⟨by decide, by decide, by omega, by omega⟩
theorem MgOk.w {m : Mg} (h : MgOk m) : MgW m := by
  obtain ⟨kd, op, st, cod, tag, n, sq, k, fu, su, cs, ks⟩ := m
  obtain ⟨⟨i1, i2, i3, i4⟩, h⟩ := h
  simp only [] at *
  rcases h with ⟨rfl, rfl, rfl, rfl, rfl, rfl, h1, h2, h3⟩ | ⟨rfl, rfl, rfl, rfl, h1, h2, h3, h4, h5⟩ | ⟨hk, ⟨rfl, rfl, rfl, rfl, rfl, rfl, rfl, rfl, rfl⟩, rfl, h4, h5⟩ | ⟨rfl, ⟨rfl, rfl, rfl, rfl, rfl, rfl, rfl, rfl, rfl⟩, rfl, h4, h5⟩
  · have := h3.sz
    refine ⟨by simp only []; omega, by simp only []; omega, by simp, by simp only []; omega, by simp only []; omega, by simp, i1, i2, by simp only []; omega, i4, ⟨by simp, by simp⟩, ⟨by simp, by simp⟩, by simp, by simp, by simp, by simp, by simp⟩
  · have := h3.sz
    refine ⟨by simp only []; omega, by simp only []; omega, by simp, by simp only []; omega, by simp, by simp only []; omega, i1, i2, by simp only []; omega, i4, ⟨fun c hc => (h5 c hc).w, by simp only []; omega⟩, ⟨by simp, by simp⟩, by simp, by simp, by simp, by simp, by simp⟩
  · refine ⟨by show (⟨#[]⟩ : ByteArray).size ≤ 255; decide, by show (⟨#[]⟩ : ByteArray).size ≤ 255; decide, by simp only []; omega, by simp, by simp, by simp, i1, i2, by simp, i4, ⟨fun c hc => (h5 c hc).w, by simp only []; omega⟩, ⟨by simp, by simp⟩, fun e => by simp only [] at e; omega, fun e => by simp only [] at e; omega, by simp, by simp, fun e => by simp only [] at e; omega⟩
  · refine ⟨by show (⟨#[]⟩ : ByteArray).size ≤ 255; decide, by show (⟨#[]⟩ : ByteArray).size ≤ 255; decide, by simp, by simp, by simp, by simp, i1, i2, by simp, i4, ⟨by simp, by simp⟩, ⟨fun k hk => by have := kyB.sz (h5 k hk); omega, by simp only []; omega⟩, by simp, by simp, by simp, by simp, by simp⟩
theorem any_all {α : Type} {f : α → Bool} {l : List α} (h : ∀ x ∈ l, f x = true) : l.any (fun x => !(f x)) = false := any_no h
/-- a message that is right is -/
theorem mailRightOk (m : Mg) (ca : Option Addr) (cn cc : Nat) (ka : Option Addr) (kn kc : Nat) (w : World) (hM : MgMem w m ca cn cc ka kn kc) (hok : MgOk m) :
    Calls Tryd.prog 19 #[.agg #[.int .i64 m.kd, .int .i64 m.op, .int .i64 m.st, .int .i64 m.cod, .int .i64 m.tag, .int .i64 m.n, .int .i64 m.sq, .string m.k.1, .string m.k.2, .bool m.fu, .int .u32 m.su, .slice ca cn cc, .slice ka kn kc]] w fun r w' => r = .returned .nilIface ∧ Below w.heap.size w w' := by
  obtain ⟨kd, op, st, cod, tag, n, sq, ⟨k1, k2⟩, fu, su, cs, ks⟩ := m
  obtain ⟨-, h⟩ := hok
  obtain ⟨m1, m2, m3, m4, m5, m6, m7, m8, m9, m10⟩ := hM
  simp only [] at *
  rcases h with ⟨rfl, rfl, rfl, rfl, rfl, rfl, h1, h2, h3⟩ | ⟨rfl, rfl, rfl, rfl, h1, h2, h3, h4, h5⟩ | ⟨hk, ⟨rfl, rfl, rfl, rfl, rfl, rfl, hkk, rfl, rfl⟩, rfl, h4, h5⟩ | ⟨rfl, ⟨rfl, rfl, rfl, rfl, rfl, rfl, hkk, rfl, rfl⟩, rfl, h4, h5⟩
  · obtain ⟨rfl, rfl⟩ := m9 (.inl rfl)
    obtain ⟨rfl, rfl⟩ := m10 (by omega)
    obtain rfl : cn = 0 := by omega
    obtain rfl : kn = 0 := by omega
    rcases h3 with ⟨a1, a2, a3, a4⟩ | ⟨rfl, a2⟩
    · exact mailRightAsk op st tag n sq k1 k2 w h1.1 h1.2 h2 a1 a2 a3 a4
    · simp only [Prod.mk.injEq] at a2
      obtain ⟨rfl, rfl⟩ := a2
      exact mailRightAsk5 st tag n sq w h1.1 h1.2 h2
  · obtain ⟨rfl, rfl⟩ := m10 (by omega)
    obtain rfl : kn = 0 := by omega
    rcases h3 with ⟨a1, a2, a3, a4⟩ | ⟨rfl, a2⟩
    · exact mailRightAns op cod tag sq k1 k2 fu su ca cn cc cs w m1 m2 m3 m4 (by omega) (fun x hx => by have := (h5 x hx).sz; unfold maxLen; omega) (fun x hx => (h5 x hx).1) h1.1 h1.2 h2 a1 a2 a3 a4
    · simp only [Prod.mk.injEq] at a2
      obtain ⟨rfl, rfl⟩ := a2
      exact mailRightAns5 cod tag sq fu su ca cn cc cs w m1 m2 m3 m4 (by omega) (fun x hx => by have := (h5 x hx).sz; unfold maxLen; omega) (fun x hx => (h5 x hx).1) h1.1 h1.2 h2
  · obtain ⟨rfl, rfl⟩ := m10 (by omega)
    obtain rfl : kn = 0 := by omega
    simp only [Prod.mk.injEq] at hkk
    obtain ⟨rfl, rfl⟩ := hkk
    rcases hk with rfl | rfl
    · exact mailRightCards3 ca cn cc cs w m1 m2 m3 m4 (by omega) (fun x hx => by have := (h5 x hx).sz; unfold maxLen; omega) (any_no fun x hx => (h5 x hx).1)
    · exact mailRightCards4 ca cn cc cs w m1 m2 m3 m4 (by omega) (fun x hx => by have := (h5 x hx).sz; unfold maxLen; omega) (any_no fun x hx => (h5 x hx).1)
  · obtain ⟨rfl, rfl⟩ := m9 (.inr rfl)
    obtain rfl : cn = 0 := by omega
    simp only [Prod.mk.injEq] at hkk
    obtain ⟨rfl, rfl⟩ := hkk
    exact mailRightPull ka kn kc ks w m5 m6 m7 m8 (by omega) (fun x hx => by have := kyB.sz (h5 x hx); unfold maxLen; omega) (any_no h5)
theorem headB_len (m : Mg) : (headB m).length ≤ 521 := by
  have := keyB_len m.k
  simp only [headB, List.length_append, be_len, List.length_cons, List.length_nil]
  omega
set_option maxRecDepth 100000 in
set_option maxHeartbeats 4000000 in
theorem mailBytes1 (m : Mg) (ca : Option Addr) (cn cc : Nat) (ka : Option Addr) (kn kc : Nat) (w : World) (hM : MgMem w m ca cn cc ka kn kc) (hok : MgOk m) (hkd : m.kd = 1) :
    Calls Tryd.prog 7 #[.agg #[.int .i64 m.kd, .int .i64 m.op, .int .i64 m.st, .int .i64 m.cod, .int .i64 m.tag, .int .i64 m.n, .int .i64 m.sq, .string m.k.1, .string m.k.2, .bool m.fu, .int .u32 m.su, .slice ca cn cc, .slice ka kn kc]] w fun r w' => ∃ a n c, r = .returned (.tuple #[.slice a n c, .nilIface]) ∧ (mgB m).length = n ∧ w'.ownsRow w.heap.size 5 1 (.slice a n c) n (bc (mgB m)) ∧ Below w.heap.size w w' := by
  have g1 : (m.kd == 1) = true := by rw [hkd]; rfl
  have HKD := Lib.hid hkd
  have HM := Lib.hid hM
  have HOK := Lib.hid hok
  have hs9 : m.k.1.size ≤ 16 ∧ m.k.2.size ≤ 16 := by have := HOK.out.w; rcases HOK.out.2 with h | h | h | h; (· exact ⟨h.2.2.2.2.2.2.2.2.sz.1, h.2.2.2.2.2.2.2.2.sz.2.1⟩); (· omega); (· omega); (· omega)
  clear hkd hM hok
  have hE := (Below.refl w.heap.size w).alloc (Nat.le_refl _) (.cells #[.int .i64 m.kd, .int .i64 m.op, .int .i64 m.st, .int .i64 m.cod, .int .i64 m.tag, .int .i64 m.n, .int .i64 m.sq, .string m.k.1, .string m.k.2, .bool m.fu, .int .u32 m.su, .slice ca cn cc, .slice ka kn kc] 29)
  have HB0 := Lib.hid hE
  have HX0 := Lib.hid (blk_new w #[.int .i64 m.kd, .int .i64 m.op, .int .i64 m.st, .int .i64 m.cod, .int .i64 m.tag, .int .i64 m.n, .int .i64 m.sq, .string m.k.1, .string m.k.2, .bool m.fu, .int .u32 m.su, .slice ca cn cc, .slice ka kn kc] 29)
  clear hE
  have hnn := neqNil
  go_enter Tryd.func7, Tryd.ntmps7
  go_upto_region 1 with (fail)
  obtain ⟨r, hr⟩ : ∃ r, w.heap.size = r := ⟨_, rfl⟩
  rw [hr] at HX0
  try rw [hr]
  clear hr
  generalize (w.alloc (.cells #[.int .i64 m.kd, .int .i64 m.op, .int .i64 m.st, .int .i64 m.cod, .int .i64 m.tag, .int .i64 m.n, .int .i64 m.sq, .string m.k.1, .string m.k.2, .bool m.fu, .int .u32 m.su, .slice ca cn cc, .slice ka kn kc] 29)) = w0 at *
  have hk := blk_cell HX0.out
  have hl := blk_lt HX0.out
  go_wp2_with fail
  refine (mailRightOk m ca cn cc ka kn kc w0 (HM.out.ext HB0.out) HOK.out).mono ?_
  rintro e w1 ⟨rfl, hb⟩
  have HX1 := Lib.hid (blk_ext hb HX0.out)
  have HB1 := Lib.hid (ext_trans HB0.out hb)
  clear hk hl hb HX0 HB0
  have HA1 := Lib.hid ((show BAt w1 none [] from .inl rfl))
  have HN1 := Lib.hid ((show ([] : List Int).length = 0 from rfl))
  have hk := blk_cell HX1.out
  have hl := blk_lt HX1.out
  go_wp2_with fail
  refine (packByte none 0 0 (m.kd) (([] : List Int)) _ HA1.out HN1.out (by omega)).mono ?_
  rintro e w2 ⟨v2, rfl, ho, hb⟩
  obtain ⟨a2, c2, rfl, -, -, -, hr9, -, -⟩ := own_read ho
  have HO2 := Lib.hid ho
  have HBS2 := HB1
  clear ho hk hl
  have HX2 := Lib.hid (blk_ext hb HX1.out)
  have HB2 := Lib.hid (ext_trans HB1.out hb)
  have HA2 := Lib.hid hr9
  obtain ⟨n2, hn9⟩ : ∃ n, (([] : List Int) ++ [(m.kd) % 256]).length = n := ⟨_, rfl⟩
  have hz2 : n2 ≤ 1 := by have h8 := HN1.out; have h9 := hn9; rw [List.length_append] at h9; simp only [List.length_cons, List.length_nil] at h9; simp only [List.length_nil] at h8; omega
  have HN2 := Lib.hid hn9
  rw [hn9]
  clear hb hr9 hn9 HX1 HB1 HA1
  have hk := blk_cell HX2.out
  have hl := blk_lt HX2.out
  go_wp2_with fail
  refine (mailPutHead a2 n2 c2 m ca cn cc ka kn kc (([] : List Int) ++ [(m.kd) % 256]) _ HA2.out HN2.out (by omega) (by omega) (by omega)).mono ?_
  rintro e w3 ⟨v3, rfl, ho, hb⟩
  obtain ⟨a3, c3, rfl, -, -, -, hr9, -, -⟩ := own_read ho
  have HO3 := Lib.hid ho
  have HBS3 := HB2
  clear ho hk hl
  have HX3 := Lib.hid (blk_ext hb HX2.out)
  have HB3 := Lib.hid (ext_trans HB2.out hb)
  have HA3 := Lib.hid hr9
  obtain ⟨n3, hn9⟩ : ∃ n, (([] : List Int) ++ [(m.kd) % 256] ++ headB m).length = n := ⟨_, rfl⟩
  have hz3 : n3 ≤ 600 := by have h8 := HN2.out; have h9 := hn9; rw [List.length_append] at h9; have h7 := headB_len m; omega
  have HN3 := Lib.hid hn9
  rw [hn9]
  clear hb hr9 hn9 HX2 HB2 HA2
  have hk := blk_cell HX3.out
  have hl := blk_lt HX3.out
  go_wp2_with fail
  refine (packInt a3 n3 c3 (m.n) (([] : List Int) ++ [(m.kd) % 256] ++ headB m) _ HA3.out HN3.out (by omega)).mono ?_
  rintro e w4 ⟨v4, rfl, ho, hb⟩
  obtain ⟨a4, c4, rfl, -, -, -, hr9, -, -⟩ := own_read ho
  have HO4 := Lib.hid ho
  have HBS4 := HB3
  clear ho hk hl
  have HX4 := Lib.hid (blk_ext hb HX3.out)
  have HB4 := Lib.hid (ext_trans HB3.out hb)
  have HA4 := Lib.hid hr9
  obtain ⟨n4, hn9⟩ : ∃ n, (([] : List Int) ++ [(m.kd) % 256] ++ headB m ++ be (m.n)).length = n := ⟨_, rfl⟩
  have hz4 : n4 ≤ 700 := by have h8 := HN3.out; have h9 := hn9; rw [List.length_append, be_len] at h9; omega
  have HN4 := Lib.hid hn9
  rw [hn9]
  clear hb hr9 hn9 HX3 HB3 HA3
  have hk := blk_cell HX4.out
  have hl := blk_lt HX4.out
  go_wp2_with fail
  refine (packByte a4 n4 c4 (m.st) (([] : List Int) ++ [(m.kd) % 256] ++ headB m ++ be (m.n)) _ HA4.out HN4.out (by omega)).mono ?_
  rintro e w5 ⟨v5, rfl, ho, hb⟩
  obtain ⟨a5, c5, rfl, -, -, -, hr9, -, -⟩ := own_read ho
  have HO5 := Lib.hid ho
  have HBS5 := HB4
  clear ho hk hl
  have HX5 := Lib.hid (blk_ext hb HX4.out)
  have HB5 := Lib.hid (ext_trans HB4.out hb)
  have HA5 := Lib.hid hr9
  obtain ⟨n5, hn9⟩ : ∃ n, (([] : List Int) ++ [(m.kd) % 256] ++ headB m ++ be (m.n) ++ [(m.st) % 256]).length = n := ⟨_, rfl⟩
  have hz5 : n5 ≤ 800 := by have h8 := HN4.out; have h9 := hn9; rw [List.length_append] at h9; simp only [List.length_cons, List.length_nil] at h9; omega
  have HN5 := Lib.hid hn9
  rw [hn9]
  clear hb hr9 hn9 HX4 HB4 HA4
  have hk := blk_cell HX5.out
  have hl := blk_lt HX5.out
  go_wp2_with fail
  refine (packInt a5 n5 c5 (m.sq) (([] : List Int) ++ [(m.kd) % 256] ++ headB m ++ be (m.n) ++ [(m.st) % 256]) _ HA5.out HN5.out (by omega)).mono ?_
  rintro e w6 ⟨v6, rfl, ho, hb⟩
  obtain ⟨a6, c6, rfl, -, -, -, hr9, -, -⟩ := own_read ho
  have HO6 := Lib.hid ho
  have HBS6 := HB5
  clear ho hk hl
  have HX6 := Lib.hid (blk_ext hb HX5.out)
  have HB6 := Lib.hid (ext_trans HB5.out hb)
  have HA6 := Lib.hid hr9
  obtain ⟨n6, hn9⟩ : ∃ n, (([] : List Int) ++ [(m.kd) % 256] ++ headB m ++ be (m.n) ++ [(m.st) % 256] ++ be (m.sq)).length = n := ⟨_, rfl⟩
  have hz6 : n6 ≤ 900 := by have h8 := HN5.out; have h9 := hn9; rw [List.length_append, be_len] at h9; omega
  have HN6 := Lib.hid hn9
  rw [hn9]
  clear hb hr9 hn9 HX5 HB5 HA5
  have e9 : ([] : List Int) ++ [(m.kd) % 256] ++ headB m ++ be (m.n) ++ [(m.st) % 256] ++ be (m.sq) = mgB m := by simp [mgB, cdsB, kysB, HKD.out, HM.out.2.1, HM.out.2.2.2.2.2.1]
  have HO9 := Lib.hid (show w6.ownsRow w.heap.size 5 1 (.slice a6 n6 c6) n6 (bc (mgB m)) from by
    have h := HO6.out
    rw [e9] at h
    have h2 := HN6.out
    rw [e9] at h2
    rw [h2] at h
    exact ownsRow_base h HBS6.out.size)
  have HN9 := Lib.hid (show (mgB m).length = n6 from by rw [← e9]; exact HN6.out)
  clear e9
  go_wp2
  go_returns
  exact ⟨a6, n6, c6, rfl, HN9.out, HO9.out, HB6.out⟩

set_option maxRecDepth 100000 in
set_option maxHeartbeats 4000000 in
theorem mailBytes2 (m : Mg) (ca : Option Addr) (cn cc : Nat) (ka : Option Addr) (kn kc : Nat) (w : World) (hM : MgMem w m ca cn cc ka kn kc) (hok : MgOk m) (hkd : m.kd = 2) :
    Calls Tryd.prog 7 #[.agg #[.int .i64 m.kd, .int .i64 m.op, .int .i64 m.st, .int .i64 m.cod, .int .i64 m.tag, .int .i64 m.n, .int .i64 m.sq, .string m.k.1, .string m.k.2, .bool m.fu, .int .u32 m.su, .slice ca cn cc, .slice ka kn kc]] w fun r w' => ∃ a n c, r = .returned (.tuple #[.slice a n c, .nilIface]) ∧ (mgB m).length = n ∧ w'.ownsRow w.heap.size 5 1 (.slice a n c) n (bc (mgB m)) ∧ Below w.heap.size w w' := by
  have g1 : (m.kd == 1) = false := by rw [hkd]; rfl
  have g2 : (m.kd == 2) = true := by rw [hkd]; rfl
  have HKD := Lib.hid hkd
  have HM := Lib.hid hM
  have HOK := Lib.hid hok
  have hs9 : m.k.1.size ≤ 16 ∧ m.k.2.size ≤ 16 ∧ m.cs.length ≤ 64 ∧ (∀ x ∈ m.cs, CdG x) ∧ 0 ≤ m.su ∧ m.su < 4294967296 := by rcases HOK.out.2 with h | h | h | h; (· omega); (· exact ⟨h.2.2.2.2.2.2.1.sz.1, h.2.2.2.2.2.2.1.sz.2.1, h.2.2.2.2.2.2.2.1, h.2.2.2.2.2.2.2.2, HOK.out.1.2.2.2⟩); (· omega); (· omega)
  have HSZ := Lib.hid (show ∀ x ∈ m.cs, x.a.size ≤ 1000 ∧ x.i.size ≤ 1000 from fun x hx => by have := (hs9.2.2.2.1 x hx).sz; omega)
  have HN64 := Lib.hid (show cn ≤ 64 from by have := hM.2.1; have := hs9.2.2.1; omega)
  have hcn64 := HN64.out
  have hsu : IntKind.i64.wrap m.su = m.su := by rw [IntKind.wrap_i64]; omega
  have hs9 := And.intro hs9.1 hs9.2.1
  clear hkd hM hok
  have hE := (Below.refl w.heap.size w).alloc (Nat.le_refl _) (.cells #[.int .i64 m.kd, .int .i64 m.op, .int .i64 m.st, .int .i64 m.cod, .int .i64 m.tag, .int .i64 m.n, .int .i64 m.sq, .string m.k.1, .string m.k.2, .bool m.fu, .int .u32 m.su, .slice ca cn cc, .slice ka kn kc] 29)
  have HB0 := Lib.hid hE
  have HX0 := Lib.hid (blk_new w #[.int .i64 m.kd, .int .i64 m.op, .int .i64 m.st, .int .i64 m.cod, .int .i64 m.tag, .int .i64 m.n, .int .i64 m.sq, .string m.k.1, .string m.k.2, .bool m.fu, .int .u32 m.su, .slice ca cn cc, .slice ka kn kc] 29)
  clear hE
  have hnn := neqNil
  go_enter Tryd.func7, Tryd.ntmps7
  go_upto_region 1 with (fail)
  obtain ⟨r, hr⟩ : ∃ r, w.heap.size = r := ⟨_, rfl⟩
  rw [hr] at HX0
  try rw [hr]
  clear hr
  generalize (w.alloc (.cells #[.int .i64 m.kd, .int .i64 m.op, .int .i64 m.st, .int .i64 m.cod, .int .i64 m.tag, .int .i64 m.n, .int .i64 m.sq, .string m.k.1, .string m.k.2, .bool m.fu, .int .u32 m.su, .slice ca cn cc, .slice ka kn kc] 29)) = w0 at *
  have hk := blk_cell HX0.out
  have hl := blk_lt HX0.out
  go_wp2_with fail
  refine (mailRightOk m ca cn cc ka kn kc w0 (HM.out.ext HB0.out) HOK.out).mono ?_
  rintro e w1 ⟨rfl, hb⟩
  have HX1 := Lib.hid (blk_ext hb HX0.out)
  have HB1 := Lib.hid (ext_trans HB0.out hb)
  clear hk hl hb HX0 HB0
  have HA1 := Lib.hid ((show BAt w1 none [] from .inl rfl))
  have HN1 := Lib.hid ((show ([] : List Int).length = 0 from rfl))
  have hk := blk_cell HX1.out
  have hl := blk_lt HX1.out
  go_wp2_with fail
  refine (packByte none 0 0 (m.kd) (([] : List Int)) _ HA1.out HN1.out (by omega)).mono ?_
  rintro e w2 ⟨v2, rfl, ho, hb⟩
  obtain ⟨a2, c2, rfl, -, -, -, hr9, -, -⟩ := own_read ho
  have HO2 := Lib.hid ho
  have HBS2 := HB1
  clear ho hk hl
  have HX2 := Lib.hid (blk_ext hb HX1.out)
  have HB2 := Lib.hid (ext_trans HB1.out hb)
  have HA2 := Lib.hid hr9
  obtain ⟨n2, hn9⟩ : ∃ n, (([] : List Int) ++ [(m.kd) % 256]).length = n := ⟨_, rfl⟩
  have hz2 : n2 ≤ 1 := by have h8 := HN1.out; have h9 := hn9; rw [List.length_append] at h9; simp only [List.length_cons, List.length_nil] at h9; simp only [List.length_nil] at h8; omega
  have HN2 := Lib.hid hn9
  rw [hn9]
  clear hb hr9 hn9 HX1 HB1 HA1
  have hk := blk_cell HX2.out
  have hl := blk_lt HX2.out
  go_wp2_with fail
  refine (mailPutHead a2 n2 c2 m ca cn cc ka kn kc (([] : List Int) ++ [(m.kd) % 256]) _ HA2.out HN2.out (by omega) (by omega) (by omega)).mono ?_
  rintro e w3 ⟨v3, rfl, ho, hb⟩
  obtain ⟨a3, c3, rfl, -, -, -, hr9, -, -⟩ := own_read ho
  have HO3 := Lib.hid ho
  have HBS3 := HB2
  clear ho hk hl
  have HX3 := Lib.hid (blk_ext hb HX2.out)
  have HB3 := Lib.hid (ext_trans HB2.out hb)
  have HA3 := Lib.hid hr9
  obtain ⟨n3, hn9⟩ : ∃ n, (([] : List Int) ++ [(m.kd) % 256] ++ headB m).length = n := ⟨_, rfl⟩
  have hz3 : n3 ≤ 600 := by have h8 := HN2.out; have h9 := hn9; rw [List.length_append] at h9; have h7 := headB_len m; omega
  have HN3 := Lib.hid hn9
  rw [hn9]
  clear hb hr9 hn9 HX2 HB2 HA2
  have hk := blk_cell HX3.out
  have hl := blk_lt HX3.out
  go_wp2_with fail
  refine (packByte a3 n3 c3 (m.cod) (([] : List Int) ++ [(m.kd) % 256] ++ headB m) _ HA3.out HN3.out (by omega)).mono ?_
  rintro e w4 ⟨v4, rfl, ho, hb⟩
  obtain ⟨a4, c4, rfl, -, -, -, hr9, -, -⟩ := own_read ho
  have HO4 := Lib.hid ho
  have HBS4 := HB3
  clear ho hk hl
  have HX4 := Lib.hid (blk_ext hb HX3.out)
  have HB4 := Lib.hid (ext_trans HB3.out hb)
  have HA4 := Lib.hid hr9
  obtain ⟨n4, hn9⟩ : ∃ n, (([] : List Int) ++ [(m.kd) % 256] ++ headB m ++ [(m.cod) % 256]).length = n := ⟨_, rfl⟩
  have hz4 : n4 ≤ 700 := by have h8 := HN3.out; have h9 := hn9; rw [List.length_append] at h9; simp only [List.length_cons, List.length_nil] at h9; omega
  have HN4 := Lib.hid hn9
  rw [hn9]
  clear hb hr9 hn9 HX3 HB3 HA3
  have hk := blk_cell HX4.out
  have hl := blk_lt HX4.out
  go_wp2_with fail
  refine (mailPutFlag a4 n4 c4 (m.fu) (([] : List Int) ++ [(m.kd) % 256] ++ headB m ++ [(m.cod) % 256]) _ HA4.out HN4.out (by omega)).mono ?_
  rintro e w5 ⟨v5, rfl, ho, hb⟩
  obtain ⟨a5, c5, rfl, -, -, -, hr9, -, -⟩ := own_read ho
  have HO5 := Lib.hid ho
  have HBS5 := HB4
  clear ho hk hl
  have HX5 := Lib.hid (blk_ext hb HX4.out)
  have HB5 := Lib.hid (ext_trans HB4.out hb)
  have HA5 := Lib.hid hr9
  obtain ⟨n5, hn9⟩ : ∃ n, (([] : List Int) ++ [(m.kd) % 256] ++ headB m ++ [(m.cod) % 256] ++ [bitN (m.fu)]).length = n := ⟨_, rfl⟩
  have hz5 : n5 ≤ 800 := by have h8 := HN4.out; have h9 := hn9; rw [List.length_append] at h9; simp only [List.length_cons, List.length_nil] at h9; omega
  have HN5 := Lib.hid hn9
  rw [hn9]
  clear hb hr9 hn9 HX4 HB4 HA4
  have hk := blk_cell HX5.out
  have hl := blk_lt HX5.out
  go_wp2_with fail
  refine (packInt a5 n5 c5 (m.sq) (([] : List Int) ++ [(m.kd) % 256] ++ headB m ++ [(m.cod) % 256] ++ [bitN (m.fu)]) _ HA5.out HN5.out (by omega)).mono ?_
  rintro e w6 ⟨v6, rfl, ho, hb⟩
  obtain ⟨a6, c6, rfl, -, -, -, hr9, -, -⟩ := own_read ho
  have HO6 := Lib.hid ho
  have HBS6 := HB5
  clear ho hk hl
  have HX6 := Lib.hid (blk_ext hb HX5.out)
  have HB6 := Lib.hid (ext_trans HB5.out hb)
  have HA6 := Lib.hid hr9
  obtain ⟨n6, hn9⟩ : ∃ n, (([] : List Int) ++ [(m.kd) % 256] ++ headB m ++ [(m.cod) % 256] ++ [bitN (m.fu)] ++ be (m.sq)).length = n := ⟨_, rfl⟩
  have hz6 : n6 ≤ 900 := by have h8 := HN5.out; have h9 := hn9; rw [List.length_append, be_len] at h9; omega
  have HN6 := Lib.hid hn9
  rw [hn9]
  clear hb hr9 hn9 HX5 HB5 HA5
  have hk := blk_cell HX6.out
  have hl := blk_lt HX6.out
  go_wp2_with fail
  refine (packInt a6 n6 c6 (m.su) (([] : List Int) ++ [(m.kd) % 256] ++ headB m ++ [(m.cod) % 256] ++ [bitN (m.fu)] ++ be (m.sq)) _ HA6.out HN6.out (by omega)).mono ?_
  rintro e w7 ⟨v7, rfl, ho, hb⟩
  obtain ⟨a7, c7, rfl, -, -, -, hr9, -, -⟩ := own_read ho
  have HO7 := Lib.hid ho
  have HBS7 := HB6
  clear ho hk hl
  have HX7 := Lib.hid (blk_ext hb HX6.out)
  have HB7 := Lib.hid (ext_trans HB6.out hb)
  have HA7 := Lib.hid hr9
  obtain ⟨n7, hn9⟩ : ∃ n, (([] : List Int) ++ [(m.kd) % 256] ++ headB m ++ [(m.cod) % 256] ++ [bitN (m.fu)] ++ be (m.sq) ++ be (m.su)).length = n := ⟨_, rfl⟩
  have hz7 : n7 ≤ 1000 := by have h8 := HN6.out; have h9 := hn9; rw [List.length_append, be_len] at h9; omega
  have HN7 := Lib.hid hn9
  rw [hn9]
  clear hb hr9 hn9 HX6 HB6 HA6
  have hk := blk_cell HX7.out
  have hl := blk_lt HX7.out
  go_wp2_with fail
  refine (mailPutCards a7 n7 c7 ca cn cc m.cs (([] : List Int) ++ [(m.kd) % 256] ++ headB m ++ [(m.cod) % 256] ++ [bitN (m.fu)] ++ be (m.sq) ++ be (m.su)) _ HA7.out HN7.out (by omega) (HM.out.ext HB7.out).1 HM.out.2.1 (by omega) HM.out.2.2.1 HSZ.out).mono ?_
  rintro e w8 ⟨v8, rfl, ho, hb⟩
  obtain ⟨a8, c8, rfl, -, -, -, hr9, -, -⟩ := own_read ho
  have HO8 := Lib.hid ho
  have HBS8 := HB7
  clear ho hk hl
  have HX8 := Lib.hid (blk_ext hb HX7.out)
  have HB8 := Lib.hid (ext_trans HB7.out hb)
  have HA8 := Lib.hid hr9
  obtain ⟨n8, hn9⟩ : ∃ n, (([] : List Int) ++ [(m.kd) % 256] ++ headB m ++ [(m.cod) % 256] ++ [bitN (m.fu)] ++ be (m.sq) ++ be (m.su) ++ ([(cn : Int) % 256] ++ m.cs.flatMap cdB)).length = n := ⟨_, rfl⟩
  have hz8 : n8 ≤ 50000 := by have h8 := HN7.out; have h9 := hn9; simp only [List.length_append, be_len, List.length_cons, List.length_nil] at h9 h8; have h7 := flatC_len m.cs; have h6 := HM.out.2.1; have h5 := HN64.out; rw [h6] at h7; omega
  have HN8 := Lib.hid hn9
  rw [hn9]
  clear hb hr9 hn9 HX7 HB7 HA7
  have e9 : ([] : List Int) ++ [(m.kd) % 256] ++ headB m ++ [(m.cod) % 256] ++ [bitN (m.fu)] ++ be (m.sq) ++ be (m.su) ++ ([(cn : Int) % 256] ++ m.cs.flatMap cdB) = mgB m := by simp [mgB, cdsB, kysB, HKD.out, HM.out.2.1, HM.out.2.2.2.2.2.1]
  have HO9 := Lib.hid (show w8.ownsRow w.heap.size 5 1 (.slice a8 n8 c8) n8 (bc (mgB m)) from by
    have h := HO8.out
    rw [e9] at h
    have h2 := HN8.out
    rw [e9] at h2
    rw [h2] at h
    exact ownsRow_base h HBS8.out.size)
  have HN9 := Lib.hid (show (mgB m).length = n8 from by rw [← e9]; exact HN8.out)
  clear e9
  go_wp2
  go_returns
  exact ⟨a8, n8, c8, rfl, HN9.out, HO9.out, HB8.out⟩

set_option maxRecDepth 100000 in
set_option maxHeartbeats 4000000 in
theorem mailBytes3 (m : Mg) (ca : Option Addr) (cn cc : Nat) (ka : Option Addr) (kn kc : Nat) (w : World) (hM : MgMem w m ca cn cc ka kn kc) (hok : MgOk m) (hkd : m.kd = 3) :
    Calls Tryd.prog 7 #[.agg #[.int .i64 m.kd, .int .i64 m.op, .int .i64 m.st, .int .i64 m.cod, .int .i64 m.tag, .int .i64 m.n, .int .i64 m.sq, .string m.k.1, .string m.k.2, .bool m.fu, .int .u32 m.su, .slice ca cn cc, .slice ka kn kc]] w fun r w' => ∃ a n c, r = .returned (.tuple #[.slice a n c, .nilIface]) ∧ (mgB m).length = n ∧ w'.ownsRow w.heap.size 5 1 (.slice a n c) n (bc (mgB m)) ∧ Below w.heap.size w w' := by
  have g1 : (m.kd == 1) = false := by rw [hkd]; rfl
  have g2 : (m.kd == 2) = false := by rw [hkd]; rfl
  have g3 : (m.kd == 3) = true := by rw [hkd]; rfl
  have HKD := Lib.hid hkd
  have HM := Lib.hid hM
  have HOK := Lib.hid hok
  have hs9 : m.cs.length ≤ 64 ∧ (∀ x ∈ m.cs, CdG x) := by rcases HOK.out.2 with h | h | h | h; (· omega); (· omega); (· exact ⟨h.2.2.2.1, h.2.2.2.2⟩); (· omega)
  have HSZ := Lib.hid (show ∀ x ∈ m.cs, x.a.size ≤ 1000 ∧ x.i.size ≤ 1000 from fun x hx => by have := (hs9.2 x hx).sz; omega)
  have HN64 := Lib.hid (show cn ≤ 64 from by have := hM.2.1; have := hs9.1; omega)
  have hcn64 := HN64.out
  clear hs9
  clear hkd hM hok
  have hE := (Below.refl w.heap.size w).alloc (Nat.le_refl _) (.cells #[.int .i64 m.kd, .int .i64 m.op, .int .i64 m.st, .int .i64 m.cod, .int .i64 m.tag, .int .i64 m.n, .int .i64 m.sq, .string m.k.1, .string m.k.2, .bool m.fu, .int .u32 m.su, .slice ca cn cc, .slice ka kn kc] 29)
  have HB0 := Lib.hid hE
  have HX0 := Lib.hid (blk_new w #[.int .i64 m.kd, .int .i64 m.op, .int .i64 m.st, .int .i64 m.cod, .int .i64 m.tag, .int .i64 m.n, .int .i64 m.sq, .string m.k.1, .string m.k.2, .bool m.fu, .int .u32 m.su, .slice ca cn cc, .slice ka kn kc] 29)
  clear hE
  have hnn := neqNil
  go_enter Tryd.func7, Tryd.ntmps7
  go_upto_region 1 with (fail)
  obtain ⟨r, hr⟩ : ∃ r, w.heap.size = r := ⟨_, rfl⟩
  rw [hr] at HX0
  try rw [hr]
  clear hr
  generalize (w.alloc (.cells #[.int .i64 m.kd, .int .i64 m.op, .int .i64 m.st, .int .i64 m.cod, .int .i64 m.tag, .int .i64 m.n, .int .i64 m.sq, .string m.k.1, .string m.k.2, .bool m.fu, .int .u32 m.su, .slice ca cn cc, .slice ka kn kc] 29)) = w0 at *
  have hk := blk_cell HX0.out
  have hl := blk_lt HX0.out
  go_wp2_with fail
  refine (mailRightOk m ca cn cc ka kn kc w0 (HM.out.ext HB0.out) HOK.out).mono ?_
  rintro e w1 ⟨rfl, hb⟩
  have HX1 := Lib.hid (blk_ext hb HX0.out)
  have HB1 := Lib.hid (ext_trans HB0.out hb)
  clear hk hl hb HX0 HB0
  have HA1 := Lib.hid ((show BAt w1 none [] from .inl rfl))
  have HN1 := Lib.hid ((show ([] : List Int).length = 0 from rfl))
  have hk := blk_cell HX1.out
  have hl := blk_lt HX1.out
  go_wp2_with fail
  refine (packByte none 0 0 (m.kd) (([] : List Int)) _ HA1.out HN1.out (by omega)).mono ?_
  rintro e w2 ⟨v2, rfl, ho, hb⟩
  obtain ⟨a2, c2, rfl, -, -, -, hr9, -, -⟩ := own_read ho
  have HO2 := Lib.hid ho
  have HBS2 := HB1
  clear ho hk hl
  have HX2 := Lib.hid (blk_ext hb HX1.out)
  have HB2 := Lib.hid (ext_trans HB1.out hb)
  have HA2 := Lib.hid hr9
  obtain ⟨n2, hn9⟩ : ∃ n, (([] : List Int) ++ [(m.kd) % 256]).length = n := ⟨_, rfl⟩
  have hz2 : n2 ≤ 1 := by have h8 := HN1.out; have h9 := hn9; rw [List.length_append] at h9; simp only [List.length_cons, List.length_nil] at h9; simp only [List.length_nil] at h8; omega
  have HN2 := Lib.hid hn9
  rw [hn9]
  clear hb hr9 hn9 HX1 HB1 HA1
  have hk := blk_cell HX2.out
  have hl := blk_lt HX2.out
  go_wp2_with fail
  refine (mailPutCards a2 n2 c2 ca cn cc m.cs (([] : List Int) ++ [(m.kd) % 256]) _ HA2.out HN2.out (by omega) (HM.out.ext HB2.out).1 HM.out.2.1 (by omega) HM.out.2.2.1 HSZ.out).mono ?_
  rintro e w3 ⟨v3, rfl, ho, hb⟩
  obtain ⟨a3, c3, rfl, -, -, -, hr9, -, -⟩ := own_read ho
  have HO3 := Lib.hid ho
  have HBS3 := HB2
  clear ho hk hl
  have HX3 := Lib.hid (blk_ext hb HX2.out)
  have HB3 := Lib.hid (ext_trans HB2.out hb)
  have HA3 := Lib.hid hr9
  obtain ⟨n3, hn9⟩ : ∃ n, (([] : List Int) ++ [(m.kd) % 256] ++ ([(cn : Int) % 256] ++ m.cs.flatMap cdB)).length = n := ⟨_, rfl⟩
  have hz3 : n3 ≤ 50000 := by have h8 := HN2.out; have h9 := hn9; simp only [List.length_append, be_len, List.length_cons, List.length_nil] at h9 h8; have h7 := flatC_len m.cs; have h6 := HM.out.2.1; have h5 := HN64.out; rw [h6] at h7; omega
  have HN3 := Lib.hid hn9
  rw [hn9]
  clear hb hr9 hn9 HX2 HB2 HA2
  have e9 : ([] : List Int) ++ [(m.kd) % 256] ++ ([(cn : Int) % 256] ++ m.cs.flatMap cdB) = mgB m := by simp [mgB, cdsB, kysB, HKD.out, HM.out.2.1, HM.out.2.2.2.2.2.1]
  have HO9 := Lib.hid (show w3.ownsRow w.heap.size 5 1 (.slice a3 n3 c3) n3 (bc (mgB m)) from by
    have h := HO3.out
    rw [e9] at h
    have h2 := HN3.out
    rw [e9] at h2
    rw [h2] at h
    exact ownsRow_base h HBS3.out.size)
  have HN9 := Lib.hid (show (mgB m).length = n3 from by rw [← e9]; exact HN3.out)
  clear e9
  go_wp2
  go_returns
  exact ⟨a3, n3, c3, rfl, HN9.out, HO9.out, HB3.out⟩

set_option maxRecDepth 100000 in
set_option maxHeartbeats 4000000 in
theorem mailBytes4 (m : Mg) (ca : Option Addr) (cn cc : Nat) (ka : Option Addr) (kn kc : Nat) (w : World) (hM : MgMem w m ca cn cc ka kn kc) (hok : MgOk m) (hkd : m.kd = 4) :
    Calls Tryd.prog 7 #[.agg #[.int .i64 m.kd, .int .i64 m.op, .int .i64 m.st, .int .i64 m.cod, .int .i64 m.tag, .int .i64 m.n, .int .i64 m.sq, .string m.k.1, .string m.k.2, .bool m.fu, .int .u32 m.su, .slice ca cn cc, .slice ka kn kc]] w fun r w' => ∃ a n c, r = .returned (.tuple #[.slice a n c, .nilIface]) ∧ (mgB m).length = n ∧ w'.ownsRow w.heap.size 5 1 (.slice a n c) n (bc (mgB m)) ∧ Below w.heap.size w w' := by
  have g1 : (m.kd == 1) = false := by rw [hkd]; rfl
  have g2 : (m.kd == 2) = false := by rw [hkd]; rfl
  have g3 : (m.kd == 3) = false := by rw [hkd]; rfl
  have g4 : (m.kd == 4) = true := by rw [hkd]; rfl
  have HKD := Lib.hid hkd
  have HM := Lib.hid hM
  have HOK := Lib.hid hok
  have hs9 : m.cs.length ≤ 64 ∧ (∀ x ∈ m.cs, CdG x) := by rcases HOK.out.2 with h | h | h | h; (· omega); (· omega); (· exact ⟨h.2.2.2.1, h.2.2.2.2⟩); (· omega)
  have HSZ := Lib.hid (show ∀ x ∈ m.cs, x.a.size ≤ 1000 ∧ x.i.size ≤ 1000 from fun x hx => by have := (hs9.2 x hx).sz; omega)
  have HN64 := Lib.hid (show cn ≤ 64 from by have := hM.2.1; have := hs9.1; omega)
  have hcn64 := HN64.out
  clear hs9
  clear hkd hM hok
  have hE := (Below.refl w.heap.size w).alloc (Nat.le_refl _) (.cells #[.int .i64 m.kd, .int .i64 m.op, .int .i64 m.st, .int .i64 m.cod, .int .i64 m.tag, .int .i64 m.n, .int .i64 m.sq, .string m.k.1, .string m.k.2, .bool m.fu, .int .u32 m.su, .slice ca cn cc, .slice ka kn kc] 29)
  have HB0 := Lib.hid hE
  have HX0 := Lib.hid (blk_new w #[.int .i64 m.kd, .int .i64 m.op, .int .i64 m.st, .int .i64 m.cod, .int .i64 m.tag, .int .i64 m.n, .int .i64 m.sq, .string m.k.1, .string m.k.2, .bool m.fu, .int .u32 m.su, .slice ca cn cc, .slice ka kn kc] 29)
  clear hE
  have hnn := neqNil
  go_enter Tryd.func7, Tryd.ntmps7
  go_upto_region 1 with (fail)
  obtain ⟨r, hr⟩ : ∃ r, w.heap.size = r := ⟨_, rfl⟩
  rw [hr] at HX0
  try rw [hr]
  clear hr
  generalize (w.alloc (.cells #[.int .i64 m.kd, .int .i64 m.op, .int .i64 m.st, .int .i64 m.cod, .int .i64 m.tag, .int .i64 m.n, .int .i64 m.sq, .string m.k.1, .string m.k.2, .bool m.fu, .int .u32 m.su, .slice ca cn cc, .slice ka kn kc] 29)) = w0 at *
  have hk := blk_cell HX0.out
  have hl := blk_lt HX0.out
  go_wp2_with fail
  refine (mailRightOk m ca cn cc ka kn kc w0 (HM.out.ext HB0.out) HOK.out).mono ?_
  rintro e w1 ⟨rfl, hb⟩
  have HX1 := Lib.hid (blk_ext hb HX0.out)
  have HB1 := Lib.hid (ext_trans HB0.out hb)
  clear hk hl hb HX0 HB0
  have HA1 := Lib.hid ((show BAt w1 none [] from .inl rfl))
  have HN1 := Lib.hid ((show ([] : List Int).length = 0 from rfl))
  have hk := blk_cell HX1.out
  have hl := blk_lt HX1.out
  go_wp2_with fail
  refine (packByte none 0 0 (m.kd) (([] : List Int)) _ HA1.out HN1.out (by omega)).mono ?_
  rintro e w2 ⟨v2, rfl, ho, hb⟩
  obtain ⟨a2, c2, rfl, -, -, -, hr9, -, -⟩ := own_read ho
  have HO2 := Lib.hid ho
  have HBS2 := HB1
  clear ho hk hl
  have HX2 := Lib.hid (blk_ext hb HX1.out)
  have HB2 := Lib.hid (ext_trans HB1.out hb)
  have HA2 := Lib.hid hr9
  obtain ⟨n2, hn9⟩ : ∃ n, (([] : List Int) ++ [(m.kd) % 256]).length = n := ⟨_, rfl⟩
  have hz2 : n2 ≤ 1 := by have h8 := HN1.out; have h9 := hn9; rw [List.length_append] at h9; simp only [List.length_cons, List.length_nil] at h9; simp only [List.length_nil] at h8; omega
  have HN2 := Lib.hid hn9
  rw [hn9]
  clear hb hr9 hn9 HX1 HB1 HA1
  have hk := blk_cell HX2.out
  have hl := blk_lt HX2.out
  go_wp2_with fail
  refine (mailPutCards a2 n2 c2 ca cn cc m.cs (([] : List Int) ++ [(m.kd) % 256]) _ HA2.out HN2.out (by omega) (HM.out.ext HB2.out).1 HM.out.2.1 (by omega) HM.out.2.2.1 HSZ.out).mono ?_
  rintro e w3 ⟨v3, rfl, ho, hb⟩
  obtain ⟨a3, c3, rfl, -, -, -, hr9, -, -⟩ := own_read ho
  have HO3 := Lib.hid ho
  have HBS3 := HB2
  clear ho hk hl
  have HX3 := Lib.hid (blk_ext hb HX2.out)
  have HB3 := Lib.hid (ext_trans HB2.out hb)
  have HA3 := Lib.hid hr9
  obtain ⟨n3, hn9⟩ : ∃ n, (([] : List Int) ++ [(m.kd) % 256] ++ ([(cn : Int) % 256] ++ m.cs.flatMap cdB)).length = n := ⟨_, rfl⟩
  have hz3 : n3 ≤ 50000 := by have h8 := HN2.out; have h9 := hn9; simp only [List.length_append, be_len, List.length_cons, List.length_nil] at h9 h8; have h7 := flatC_len m.cs; have h6 := HM.out.2.1; have h5 := HN64.out; rw [h6] at h7; omega
  have HN3 := Lib.hid hn9
  rw [hn9]
  clear hb hr9 hn9 HX2 HB2 HA2
  have e9 : ([] : List Int) ++ [(m.kd) % 256] ++ ([(cn : Int) % 256] ++ m.cs.flatMap cdB) = mgB m := by simp [mgB, cdsB, kysB, HKD.out, HM.out.2.1, HM.out.2.2.2.2.2.1]
  have HO9 := Lib.hid (show w3.ownsRow w.heap.size 5 1 (.slice a3 n3 c3) n3 (bc (mgB m)) from by
    have h := HO3.out
    rw [e9] at h
    have h2 := HN3.out
    rw [e9] at h2
    rw [h2] at h
    exact ownsRow_base h HBS3.out.size)
  have HN9 := Lib.hid (show (mgB m).length = n3 from by rw [← e9]; exact HN3.out)
  clear e9
  go_wp2
  go_returns
  exact ⟨a3, n3, c3, rfl, HN9.out, HO9.out, HB3.out⟩

set_option maxRecDepth 100000 in
set_option maxHeartbeats 4000000 in
theorem mailBytes5 (m : Mg) (ca : Option Addr) (cn cc : Nat) (ka : Option Addr) (kn kc : Nat) (w : World) (hM : MgMem w m ca cn cc ka kn kc) (hok : MgOk m) (hkd : m.kd = 5) :
    Calls Tryd.prog 7 #[.agg #[.int .i64 m.kd, .int .i64 m.op, .int .i64 m.st, .int .i64 m.cod, .int .i64 m.tag, .int .i64 m.n, .int .i64 m.sq, .string m.k.1, .string m.k.2, .bool m.fu, .int .u32 m.su, .slice ca cn cc, .slice ka kn kc]] w fun r w' => ∃ a n c, r = .returned (.tuple #[.slice a n c, .nilIface]) ∧ (mgB m).length = n ∧ w'.ownsRow w.heap.size 5 1 (.slice a n c) n (bc (mgB m)) ∧ Below w.heap.size w w' := by
  have g1 : (m.kd == 1) = false := by rw [hkd]; rfl
  have g2 : (m.kd == 2) = false := by rw [hkd]; rfl
  have g3 : (m.kd == 3) = false := by rw [hkd]; rfl
  have g4 : (m.kd == 4) = false := by rw [hkd]; rfl
  have g5 : (m.kd == 5) = true := by rw [hkd]; rfl
  have HKD := Lib.hid hkd
  have HM := Lib.hid hM
  have HOK := Lib.hid hok
  have hs9 : m.ks.length ≤ 64 ∧ (∀ x ∈ m.ks, kyB x = true) := by rcases HOK.out.2 with h | h | h | h; (· omega); (· omega); (· omega); (· exact ⟨h.2.2.2.1, h.2.2.2.2⟩)
  have HSZ := Lib.hid (show ∀ x ∈ m.ks, x.1.size ≤ 1000 ∧ x.2.size ≤ 1000 from fun x hx => by have := kyB.sz (hs9.2 x hx); omega)
  have HN64 := Lib.hid (show kn ≤ 64 from by have := hM.2.2.2.2.2.1; have := hs9.1; omega)
  have hcn64 := HN64.out
  clear hs9
  clear hkd hM hok
  have hE := (Below.refl w.heap.size w).alloc (Nat.le_refl _) (.cells #[.int .i64 m.kd, .int .i64 m.op, .int .i64 m.st, .int .i64 m.cod, .int .i64 m.tag, .int .i64 m.n, .int .i64 m.sq, .string m.k.1, .string m.k.2, .bool m.fu, .int .u32 m.su, .slice ca cn cc, .slice ka kn kc] 29)
  have HB0 := Lib.hid hE
  have HX0 := Lib.hid (blk_new w #[.int .i64 m.kd, .int .i64 m.op, .int .i64 m.st, .int .i64 m.cod, .int .i64 m.tag, .int .i64 m.n, .int .i64 m.sq, .string m.k.1, .string m.k.2, .bool m.fu, .int .u32 m.su, .slice ca cn cc, .slice ka kn kc] 29)
  clear hE
  have hnn := neqNil
  go_enter Tryd.func7, Tryd.ntmps7
  go_upto_region 1 with (fail)
  obtain ⟨r, hr⟩ : ∃ r, w.heap.size = r := ⟨_, rfl⟩
  rw [hr] at HX0
  try rw [hr]
  clear hr
  generalize (w.alloc (.cells #[.int .i64 m.kd, .int .i64 m.op, .int .i64 m.st, .int .i64 m.cod, .int .i64 m.tag, .int .i64 m.n, .int .i64 m.sq, .string m.k.1, .string m.k.2, .bool m.fu, .int .u32 m.su, .slice ca cn cc, .slice ka kn kc] 29)) = w0 at *
  have hk := blk_cell HX0.out
  have hl := blk_lt HX0.out
  go_wp2_with fail
  refine (mailRightOk m ca cn cc ka kn kc w0 (HM.out.ext HB0.out) HOK.out).mono ?_
  rintro e w1 ⟨rfl, hb⟩
  have HX1 := Lib.hid (blk_ext hb HX0.out)
  have HB1 := Lib.hid (ext_trans HB0.out hb)
  clear hk hl hb HX0 HB0
  have HA1 := Lib.hid ((show BAt w1 none [] from .inl rfl))
  have HN1 := Lib.hid ((show ([] : List Int).length = 0 from rfl))
  have hk := blk_cell HX1.out
  have hl := blk_lt HX1.out
  go_wp2_with fail
  refine (packByte none 0 0 (m.kd) (([] : List Int)) _ HA1.out HN1.out (by omega)).mono ?_
  rintro e w2 ⟨v2, rfl, ho, hb⟩
  obtain ⟨a2, c2, rfl, -, -, -, hr9, -, -⟩ := own_read ho
  have HO2 := Lib.hid ho
  have HBS2 := HB1
  clear ho hk hl
  have HX2 := Lib.hid (blk_ext hb HX1.out)
  have HB2 := Lib.hid (ext_trans HB1.out hb)
  have HA2 := Lib.hid hr9
  obtain ⟨n2, hn9⟩ : ∃ n, (([] : List Int) ++ [(m.kd) % 256]).length = n := ⟨_, rfl⟩
  have hz2 : n2 ≤ 1 := by have h8 := HN1.out; have h9 := hn9; rw [List.length_append] at h9; simp only [List.length_cons, List.length_nil] at h9; simp only [List.length_nil] at h8; omega
  have HN2 := Lib.hid hn9
  rw [hn9]
  clear hb hr9 hn9 HX1 HB1 HA1
  have hk := blk_cell HX2.out
  have hl := blk_lt HX2.out
  go_wp2_with fail
  refine (mailPutKeys a2 n2 c2 ka kn kc m.ks (([] : List Int) ++ [(m.kd) % 256]) _ HA2.out HN2.out (by omega) (HM.out.ext HB2.out).2.2.2.2.1 HM.out.2.2.2.2.2.1 (by omega) HM.out.2.2.2.2.2.2.1 HSZ.out).mono ?_
  rintro e w3 ⟨v3, rfl, ho, hb⟩
  obtain ⟨a3, c3, rfl, -, -, -, hr9, -, -⟩ := own_read ho
  have HO3 := Lib.hid ho
  have HBS3 := HB2
  clear ho hk hl
  have HX3 := Lib.hid (blk_ext hb HX2.out)
  have HB3 := Lib.hid (ext_trans HB2.out hb)
  have HA3 := Lib.hid hr9
  obtain ⟨n3, hn9⟩ : ∃ n, (([] : List Int) ++ [(m.kd) % 256] ++ ([(kn : Int) % 256] ++ m.ks.flatMap keyB)).length = n := ⟨_, rfl⟩
  have hz3 : n3 ≤ 50000 := by have h8 := HN2.out; have h9 := hn9; simp only [List.length_append, be_len, List.length_cons, List.length_nil] at h9 h8; have h7 := flatK_len m.ks; have h6 := HM.out.2.2.2.2.2.1; have h5 := HN64.out; rw [h6] at h7; omega
  have HN3 := Lib.hid hn9
  rw [hn9]
  clear hb hr9 hn9 HX2 HB2 HA2
  have e9 : ([] : List Int) ++ [(m.kd) % 256] ++ ([(kn : Int) % 256] ++ m.ks.flatMap keyB) = mgB m := by simp [mgB, cdsB, kysB, HKD.out, HM.out.2.1, HM.out.2.2.2.2.2.1]
  have HO9 := Lib.hid (show w3.ownsRow w.heap.size 5 1 (.slice a3 n3 c3) n3 (bc (mgB m)) from by
    have h := HO3.out
    rw [e9] at h
    have h2 := HN3.out
    rw [e9] at h2
    rw [h2] at h
    exact ownsRow_base h HBS3.out.size)
  have HN9 := Lib.hid (show (mgB m).length = n3 from by rw [← e9]; exact HN3.out)
  clear e9
  go_wp2
  go_returns
  exact ⟨a3, n3, c3, rfl, HN9.out, HO9.out, HB3.out⟩

theorem MgOk.kd {m : Mg} (h : MgOk m) : m.kd = 1 ∨ m.kd = 2 ∨ m.kd = 3 ∨ m.kd = 4 ∨ m.kd = 5 := by
  rcases h.2 with h | h | h | h <;> omega
theorem mailBytesOk (m : Mg) (ca : Option Addr) (cn cc : Nat) (ka : Option Addr) (kn kc : Nat) (w : World) (hM : MgMem w m ca cn cc ka kn kc) (hok : MgOk m) :
    Calls Tryd.prog 7 #[.agg #[.int .i64 m.kd, .int .i64 m.op, .int .i64 m.st, .int .i64 m.cod, .int .i64 m.tag, .int .i64 m.n, .int .i64 m.sq, .string m.k.1, .string m.k.2, .bool m.fu, .int .u32 m.su, .slice ca cn cc, .slice ka kn kc]] w fun r w' => ∃ a n c, r = .returned (.tuple #[.slice a n c, .nilIface]) ∧ (mgB m).length = n ∧ w'.ownsRow w.heap.size 5 1 (.slice a n c) n (bc (mgB m)) ∧ Below w.heap.size w w' := by
  rcases hok.kd with h | h | h | h | h
  · exact mailBytes1 m ca cn cc ka kn kc w hM hok h
  · exact mailBytes2 m ca cn cc ka kn kc w hM hok h
  · exact mailBytes3 m ca cn cc ka kn kc w hM hok h
  · exact mailBytes4 m ca cn cc ka kn kc w hM hok h
  · exact mailBytes5 m ca cn cc ka kn kc w hM hok h
set_option maxRecDepth 100000 in
set_option maxHeartbeats 2000000 in
theorem mailBytesNo (kd : Int) (op st cod tag n sq : Int) (k1 k2 : ByteArray) (fu : Bool) (su : Int) (ca : Option Addr) (cn cc : Nat) (ka : Option Addr) (kn kc : Nat) (w : World) (op9 : ByteArray) (c9 : Int) (hR : ∀ w1, Below w.heap.size w w1 → Calls Tryd.prog 19 #[.agg #[.int .i64 kd, .int .i64 op, .int .i64 st, .int .i64 cod, .int .i64 tag, .int .i64 n, .int .i64 sq, .string k1, .string k2, .bool fu, .int .u32 su, .slice ca cn cc, .slice ka kn kc]] w1 fun r w' => ∃ e', r = .returned e' ∧ FC w' (.iface 43 (.int .i64 c9)) [op9] e' ∧ Below w1.heap.size w1 w') :
    Calls Tryd.prog 7 #[.agg #[.int .i64 kd, .int .i64 op, .int .i64 st, .int .i64 cod, .int .i64 tag, .int .i64 n, .int .i64 sq, .string k1, .string k2, .bool fu, .int .u32 su, .slice ca cn cc, .slice ka kn kc]] w fun r w' => ∃ e', r = .returned (.tuple #[.slice none 0 0, e']) ∧ FC w' (.iface 43 (.int .i64 c9)) [⟨#[119, 114, 105, 116, 101]⟩, op9] e' ∧ Below w.heap.size w w' := by
  have D0 := Lib.hid (show Below w.heap.size w (w.alloc (.cells #[.int .i64 kd, .int .i64 op, .int .i64 st, .int .i64 cod, .int .i64 tag, .int .i64 n, .int .i64 sq, .string k1, .string k2, .bool fu, .int .u32 su, .slice ca cn cc, .slice ka kn kc] 29)) from (Below.refl _ _).alloc (Nat.le_refl _) _)
  have HX := Lib.hid (blk_new w #[.int .i64 kd, .int .i64 op, .int .i64 st, .int .i64 cod, .int .i64 tag, .int .i64 n, .int .i64 sq, .string k1, .string k2, .bool fu, .int .u32 su, .slice ca cn cc, .slice ka kn kc] 29)
  have HR := Lib.hid hR
  clear hR
  go_enter Tryd.func7, Tryd.ntmps7
  go_upto_region 1 with (fail)
  obtain ⟨q, hp⟩ : ∃ p, w.heap.size = p := ⟨_, rfl⟩
  rw [hp] at HX
  try rw [hp]
  clear hp
  generalize (w.alloc (.cells #[.int .i64 kd, .int .i64 op, .int .i64 st, .int .i64 cod, .int .i64 tag, .int .i64 n, .int .i64 sq, .string k1, .string k2, .bool fu, .int .u32 su, .slice ca cn cc, .slice ka kn kc] 29)) = w1 at *
  have hk := blk_cell HX.out
  have hl := blk_lt HX.out
  go_wp2_with fail
  refine (HR.out w1 D0.out).mono ?_
  rintro e w2 ⟨e1, rfl, hf, hb⟩
  have HF := Lib.hid hf
  obtain ⟨p, e', rfl, -, -⟩ := hf
  have D2 := Lib.hid (ext_trans D0.out hb)
  have hz := neqF (.pointer (some ⟨p, 0, none⟩))
  clear hk hl hb HX
  go_wp2_with fail
  refine (faultWrap ⟨#[119, 114, 105, 116, 101]⟩ [op9] (.iface 43 (.int .i64 c9)) _ w2 (.no c9) HF.out (by simp)).mono ?_
  rintro e w3 ⟨e3, rfl, hf3, hb3⟩
  have HF3 := Lib.hid hf3
  have D3 := Lib.hid (ext_trans D2.out hb3)
  clear hf3 hb3
  go_wp2
  go_returns
  exact ⟨_, rfl, HF3.out, D3.out⟩

end Go.Proofs.YtfdalmodnkkfiaaDoor
