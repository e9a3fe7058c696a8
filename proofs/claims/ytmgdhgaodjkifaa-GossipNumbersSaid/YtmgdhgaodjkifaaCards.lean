/- Cards and entries as values. -/
import Derived.Test.YtmgdhgaodjkifaaStay
namespace Go.Proofs.Ytmgdhgaodjkifaa
open Go.RowKit
set_option linter.unusedVariables false

structure Cd where
  a : ByteArray
  i : ByteArray
  s : Int
  o : Int
  l : Int
  t : Int
  k : Int
  n : Int
  g : Bool
@[reducible] def Cd.v (c : Cd) : Value := .agg #[.string c.a, .string c.i, .int .i64 c.s, .int .i64 c.o, .int .i64 c.l, .int .i64 c.t, .int .i64 c.k, .int .i64 c.n, .bool c.g]
structure En where
  c : Cd
  seen : Int
@[reducible] def En.v (e : En) : Value := .agg #[.string e.c.a, .string e.c.i, .int .i64 e.c.s, .int .i64 e.c.o, .int .i64 e.c.l, .int .i64 e.c.t, .int .i64 e.c.k, .int .i64 e.c.n, .bool e.c.g, .int .i64 e.seen]
@[reducible] def Cd.zero : Cd := ⟨⟨#[]⟩, ⟨#[]⟩, 0, 0, 0, 0, 0, 0, false⟩
@[reducible] def En.zero : En := ⟨Cd.zero, 0⟩
@[reducible] def mx (a b : Int) : Int := if a < b then b else a
@[reducible] def stv (t k n : Int) : Value := .agg #[.int .i64 t, .int .i64 k, .int .i64 n]

end Go.Proofs.Ytmgdhgaodjkifaa
