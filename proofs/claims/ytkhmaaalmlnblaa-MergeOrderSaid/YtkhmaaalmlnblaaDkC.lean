/- What becomes of an entry; Get of a desk's shelf; the next stamp. -/
import Derived.Test.YtkhmaaalmlnblaaDkM
namespace Go.Proofs.Ytkhmaaalmlnblaa
open Go.RowKit
set_option linter.unusedVariables false
set_option linter.unusedSimpArgs false

/-- what a renewal, a cancel, an override, a registration make of an entry -/
def renE (e : En) (now : Int) : En := if e.c.g = true then En.zero else ⟨e.c, mx e.seen now⟩
def canE (e : En) (s : Int × Int × Int) (now : Int) : En := if e.c.g = true then En.zero else ⟨{ e.c with t := s.1, k := s.2.1, n := s.2.2, g := true }, now⟩
def ovrE (e : En) (ov : Int) (s : Int × Int × Int) : En := if e.c.g = true then En.zero else ⟨{ e.c with o := ov, t := s.1, k := s.2.1, n := s.2.2 }, e.seen⟩
def regE (e : En) (inn : Bool) (c : Cd) (now : Int) : En := ⟨{ c with o := if inn && !e.c.g then e.c.o else 0, g := false }, now⟩
/-- the entry of a key; the empty one, if there is none -/
def ge (es : List En) (k : Ky) : En := if isIn k es = true then (es[low k es]?).getD En.zero else En.zero
theorem ge_yes {es : List En} {k : Ky} (hi : isIn k es = true) : es[low k es]? = some (ge es k) ∧ enK (ge es k) = k := by
  obtain ⟨x, hx, h2, h3⟩ := isIn_at hi
  have e : ge es k = x := by unfold ge; rw [if_pos hi, hx]; rfl
  rw [e]
  exact ⟨hx, (Prod.ext h2 h3 : enK x = k)⟩
theorem ge_no {es : List En} {k : Ky} (hi : isIn k es = false) : ge es k = En.zero := by unfold ge; rw [if_neg (by rw [hi]; simp)]
theorem dkGet (Dk0 : DkR) (sb : Nat) (most : Int) (es : List En) (k : Ky) (w : World) (h : DkS Dk0 w sb most es) (hs : Asc es) (hn : es.length ≤ 900) :
    Calls Try.prog 17 #[.pointer (some ⟨sb, 4, none⟩), .agg #[.string k.1, .string k.2]] w fun r w' => r = .returned (.tuple #[(ge es k).v, .bool (isIn k es)]) ∧ Below w.heap.size w w' := by
  cases hi : isIn k es
  · exact (dkGetNo Dk0 sb most es k w h hs hn hi).mono fun r w' ⟨h1, h2⟩ => ⟨by rw [h1, ge_no hi], h2⟩
  · obtain ⟨h3, h4⟩ := ge_yes hi
    exact (dkGetYes Dk0 sb most es k w h _ hs hn h3 hi).mono fun r w' ⟨h1, h2⟩ => ⟨h1, h2⟩
/-- the same, of a desk -/
theorem dkGetP (db : Nat) (nd t0 k0 n0 : Int) (es : List En) (g l tt : Int) (ks : List Ky) (k : Ky) (w : World) (h : DkP w db nd t0 k0 n0 es g l tt ks) (hs : Asc es) (hn : es.length ≤ 900) (e : En) (b : Bool) (he : ge es k = e) (hb : isIn k es = b) :
    Calls Try.prog 17 #[.pointer (some ⟨db, 4, none⟩), .agg #[.string k.1, .string k.2]] w fun r w' => r = .returned (.tuple #[.agg #[.string e.c.a, .string e.c.i, .int .i64 e.c.s, .int .i64 e.c.o, .int .i64 e.c.l, .int .i64 e.c.t, .int .i64 e.c.k, .int .i64 e.c.n, .bool e.c.g, .int .i64 e.seen], .bool b]) ∧ Below w.heap.size w w' := by
  obtain ⟨Dk0, h1, -⟩ := h.s
  subst he hb
  exact dkGet Dk0 db 32 es k w h1 hs hn
theorem rim_cell {w w' : World} {b c o : Nat} {v : Value} (h : Rim b w w') (hne : c ≠ b) (hc : w.cell? ⟨c, o, none⟩ = some v) : w'.cell? ⟨c, o, none⟩ = some v := (World.cell?_of_block (w := w) (h.block c hne (cell_lt hc))).trans hc
theorem rim_set {w w' : World} {b o : Nat} {v : Value} (h : Rim b w w') : Rim b w (w'.setCell ⟨b, o, none⟩ v) := h.trans (Rim.kept ((Kept.refl _ _).setCell _ _))
theorem rim_fill3 {w w' : World} {b : Nat} {v0 v1 v2 : Value} (h : Rim b w w') : Rim b w (((w'.setCell ⟨b, 0, none⟩ v0).setCell ⟨b, 1, none⟩ v1).setCell ⟨b, 2, none⟩ v2) := rim_set (rim_set (rim_set h))
/-- the stamp that follows -/
def nxt (t0 k0 n0 : Int) (es : List En) (k : Ky) (nd now : Int) : Int × Int × Int := sNext (if isIn k es then sMax t0 k0 n0 (ge es k).c.t (ge es k).c.k (ge es k).c.n else (t0, k0, n0)).1 (if isIn k es then sMax t0 k0 n0 (ge es k).c.t (ge es k).c.k (ge es k).c.n else (t0, k0, n0)).2.2 now nd
end Go.Proofs.Ytkhmaaalmlnblaa
