/- Messages that a tape gives. -/
import Derived.Test.YtkhcgopehmndgaaCacD
namespace Go.Proofs.Ytkhcgopehmndgaa
open Go.RowKit
set_option linter.unusedVariables false
set_option linter.unusedSimpArgs false

/-- a message -/
structure Mg where
  kd : Int
  op : Int
  st : Int
  cod : Int
  tag : Int
  n : Int
  sq : Int
  k : ByteArray × ByteArray
  fu : Bool
  su : Int
  cs : List Cd
  ks : List (ByteArray × ByteArray)
def kyB (k : ByteArray × ByteArray) : Bool := true
/-- where a message's rows lie -/
def MgMem (w : World) (m : Mg) (ca : Option Addr) (cn cc : Nat) (ka : Option Addr) (kn kc : Nat) : Prop := CAt w ca m.cs ∧ m.cs.length = cn ∧ cn ≤ cc ∧ cc ≤ maxLen ∧ KyAt w ka m.ks ∧ m.ks.length = kn ∧ kn ≤ kc ∧ kc ≤ maxLen ∧ ((m.kd = 1 ∨ m.kd = 5) → ca = none ∧ cc = 0) ∧ (m.kd ≠ 5 → ka = none ∧ kc = 0)
theorem MgMem.ext {w w' : World} {m : Mg} {ca : Option Addr} {cn cc : Nat} {ka : Option Addr} {kn kc : Nat} (h : MgMem w m ca cn cc ka kn kc) (hb : Below w.heap.size w w') : MgMem w' m ca cn cc ka kn kc := by
  obtain ⟨h1, h2, h3, h4, h5, h6⟩ := h
  exact ⟨h1.ext hb, h2, h3, h4, SAt.ext h5 hb, h6⟩
def opOk (op : Int) (k : ByteArray × ByteArray) : Prop := (1 ≤ op ∧ op < 5 ∧ NmOk k.1 ∧ NmOk k.2) ∨ (op = 5 ∧ k = (⟨#[]⟩, ⟨#[]⟩))
def MgI (m : Mg) : Prop := (-9223372036854775808 ≤ m.tag ∧ m.tag ≤ 9223372036854775807) ∧ (-9223372036854775808 ≤ m.n ∧ m.n ≤ 9223372036854775807) ∧ (m.sq ≤ 9223372036854775807) ∧ (0 ≤ m.su ∧ m.su < 4294967296)
def CdG (c : Cd) : Prop := CdF c
theorem CdF.g {c : Cd} (h : CdF c) : CdG c := h
/-- a message that is right, of a tape -/
def MgOk (m : Mg) : Prop := MgI m ∧ (
  (m.kd = 1 ∧ m.cod = 0 ∧ m.fu = false ∧ m.su = 0 ∧ m.cs = [] ∧ m.ks = [] ∧ (0 ≤ m.st ∧ m.st ≤ 255) ∧ -1 ≤ m.sq ∧ opOk m.op m.k) ∨
  (m.kd = 2 ∧ m.n = 0 ∧ m.st = 0 ∧ m.ks = [] ∧ (0 ≤ m.cod ∧ m.cod ≤ 255) ∧ -1 ≤ m.sq ∧ opOk m.op m.k ∧ m.cs.length ≤ 64 ∧ ∀ x ∈ m.cs, CdG x) ∨
  ((m.kd = 3 ∨ m.kd = 4) ∧ (m.op = 0 ∧ m.st = 0 ∧ m.cod = 0 ∧ m.tag = 0 ∧ m.n = 0 ∧ m.sq = 0 ∧ m.k = (⟨#[]⟩, ⟨#[]⟩) ∧ m.fu = false ∧ m.su = 0) ∧ m.ks = [] ∧ m.cs.length ≤ 64 ∧ ∀ x ∈ m.cs, CdG x) ∨
  (m.kd = 5 ∧ (m.op = 0 ∧ m.st = 0 ∧ m.cod = 0 ∧ m.tag = 0 ∧ m.n = 0 ∧ m.sq = 0 ∧ m.k = (⟨#[]⟩, ⟨#[]⟩) ∧ m.fu = false ∧ m.su = 0) ∧ m.cs = [] ∧ m.ks.length ≤ 64 ∧ ∀ x ∈ m.ks, kyB x = true))
theorem CAt.keptT {w w' : World} {a : Option Addr} {ls : List Cd} {t : Nat} {cs : Array Value} {T : TypeId} (h : CAt w a ls) (hx : w.heap[t]? = some (.cells cs T (0, 0))) (hT : T ≠ 49) (hk : Kept t w w') : CAt w' a ls :=
  h.keep fun b cur hc _ => hk.block b (by rintro rfl; rw [hx] at hc; simp at hc; exact hT hc.2)
theorem KyAt.keptT {w w' : World} {a : Option Addr} {ls : List Ky} {t : Nat} {cs : Array Value} {T : TypeId} (h : KyAt w a ls) (hx : w.heap[t]? = some (.cells cs T (0, 0))) (hT : T ≠ 31) (hk : Kept t w w') : KyAt w' a ls :=
  SAt.keep h fun b cur hc _ => hk.block b (by rintro rfl; rw [hx] at hc; simp at hc; exact hT hc.2)
theorem kept13 {t : Nat} {w : World} {v0 v1 v2 v3 v4 v5 v6 v7 v8 v9 v10 v11 v12 : Value} : Kept t w (((((((((((((w.setCell ⟨t, 0, none⟩ v0).setCell ⟨t, 1, none⟩ v1).setCell ⟨t, 2, none⟩ v2).setCell ⟨t, 3, none⟩ v3).setCell ⟨t, 4, none⟩ v4).setCell ⟨t, 5, none⟩ v5).setCell ⟨t, 6, none⟩ v6).setCell ⟨t, 7, none⟩ v7).setCell ⟨t, 8, none⟩ v8).setCell ⟨t, 9, none⟩ v9).setCell ⟨t, 10, none⟩ v10).setCell ⟨t, 11, none⟩ v11).setCell ⟨t, 12, none⟩ v12) := ((((((((((((((Kept.refl t w).setCell 0 v0).setCell 1 v1).setCell 2 v2).setCell 3 v3).setCell 4 v4).setCell 5 v5).setCell 6 v6).setCell 7 v7).setCell 8 v8).setCell 9 v9).setCell 10 v10).setCell 11 v11).setCell 12 v12)
theorem Bar.setnew {tb t o : Nat} {v : Value} {u w : World} (h : Bar tb u w) (ht : u.heap.size ≤ t) : Bar tb u (w.setCell ⟨t, o, none⟩ v) :=
  ⟨h.os, h.tape, h.output, by have := h.size; simpa [World.setCell] using this, fun i hi hl => (Below.heap_setCell _ _ _ _ (show i ≠ t by omega)).trans (h.block i hi hl)⟩
theorem TapeK.setn {a : Option Addr} {len cap : Nat} {w : World} {tb t o : Nat} {v : Value} (h : TapeK a len cap w tb) (ht : t ≠ tb) : TapeK a len cap (w.setCell ⟨t, o, none⟩ v) tb := by
  obtain ⟨k, h1, h2⟩ := h
  exact ⟨k, (((Kept.refl t w).setCell o v).block tb (Ne.symm ht)).trans h1, h2⟩
/-- what Tape.Msg answers -/
def MsgP (ra : Option Addr) (rlen rcap : Nat) (tb : Nat) (w : World) (r : Ending) (w' : World) : Prop := ∃ (m : Mg) (ca : Option Addr) (cn cc : Nat) (ka : Option Addr) (kn kc : Nat), r = .returned (.agg #[.int .i64 m.kd, .int .i64 m.op, .int .i64 m.st, .int .i64 m.cod, .int .i64 m.tag, .int .i64 m.n, .int .i64 m.sq, .string m.k.1, .string m.k.2, .bool m.fu, .int .u32 m.su, .slice ca cn cc, .slice ka kn kc]) ∧ MgMem w' m ca cn cc ka kn kc ∧ MgOk m ∧ TapeK ra rlen rcap w' tb ∧ Bar tb w w'
theorem CAt.bar {ra : Option Addr} {rlen rcap : Nat} {w w' : World} {tb : Nat} {a : Option Addr} {cs : List Cd} (h : CAt w a cs) (hT : TapeK ra rlen rcap w tb) (hb : Bar tb w w') : CAt w' a cs :=
  h.keep fun k cur hc _ => hb.block k (hT.ne (by decide) hc) (blk_lt hc)

end Go.Proofs.Ytkhcgopehmndgaa
