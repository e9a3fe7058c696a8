/- Rows of asks; a shelf of any size. -/
import Derived.Test.YtnmpjagdkbaidaaShfNN
import Derived.Test.YtnmpjagdkbaidaaShfXC
import Derived.Test.YtnmpjagdkbaidaaShfM
namespace Go.Proofs.Ytnmpjagdkbaidaa
open Go.RowKit
set_option linter.unusedVariables false
set_option linter.unusedSimpArgs false

structure Ak where
  kd : Int
  c : Cd
  sn : Int
def ea (x : Ak) : List Value := [.int .i64 x.kd, .string x.c.a, .string x.c.i, .int .i64 x.c.s, .int .i64 x.c.o, .int .i64 x.c.l, .int .i64 x.c.t, .int .i64 x.c.k, .int .i64 x.c.n, .bool x.c.g, .int .i64 x.sn]
theorem ea_len (x : Ak) : (ea x).length = 11 := rfl
theorem ea_one (x : Ak) : ∀ u ∈ ea x, u.oneCell' = true := by intro u hu; simp [ea] at hu; rcases hu with rfl | rfl | rfl | rfl | rfl | rfl | rfl | rfl | rfl | rfl | rfl <;> rfl
/-- behind the address a the asks ls lie, in memory that is older than N -/
def AkR (w : World) (N : Nat) (a : Option Addr) (ls : List Ak) : Prop := ls = [] ∨ ∃ b o, a = some ⟨b, o, none⟩ ∧ b < N ∧ ∀ q u, (flat ea ls)[q]? = some u → w.cell? ⟨b, o + q, none⟩ = some u
theorem AkR.keep {w w' : World} {N : Nat} {a : Option Addr} {ls : List Ak} (h : AkR w N a ls) (hk : ∀ b, b < N → w'.heap[b]? = w.heap[b]?) : AkR w' N a ls := by
  rcases h with h | ⟨b, o, e, hb, h⟩
  · exact .inl h
  · exact .inr ⟨b, o, e, hb, fun q u hq => (World.cell?_of_block (w := w) (hk b hb)).trans (h q u hq)⟩
theorem AkR.ext {w w' : World} {N : Nat} {a : Option Addr} {ls : List Ak} (h : AkR w N a ls) (hb : Below N w w') : AkR w' N a ls := h.keep fun b hl => hb.block b hl
theorem AkR.at {w : World} {N b o i : Nat} {ls : List Ak} {x : Ak} (h : AkR w N (some ⟨b, o, none⟩) ls) (hi : ls[i]? = some x) :
    w.cell? ⟨b, o + i * 11, none⟩ = some (.int .i64 x.kd) ∧ w.cell? ⟨b, o + i * 11 + 1, none⟩ = some (.string x.c.a) ∧ w.cell? ⟨b, o + i * 11 + 2, none⟩ = some (.string x.c.i) ∧ w.cell? ⟨b, o + i * 11 + 3, none⟩ = some (.int .i64 x.c.s) ∧ w.cell? ⟨b, o + i * 11 + 4, none⟩ = some (.int .i64 x.c.o) ∧ w.cell? ⟨b, o + i * 11 + 5, none⟩ = some (.int .i64 x.c.l) ∧ w.cell? ⟨b, o + i * 11 + 6, none⟩ = some (.int .i64 x.c.t) ∧ w.cell? ⟨b, o + i * 11 + 7, none⟩ = some (.int .i64 x.c.k) ∧ w.cell? ⟨b, o + i * 11 + 8, none⟩ = some (.int .i64 x.c.n) ∧ w.cell? ⟨b, o + i * 11 + 9, none⟩ = some (.bool x.c.g) ∧ w.cell? ⟨b, o + i * 11 + 10, none⟩ = some (.int .i64 x.sn) := by
  rcases h with h | ⟨b', o', e, -, h⟩
  · rw [h] at hi; simp at hi
  · simp at e
    obtain ⟨rfl, rfl⟩ := e
    have g : ∀ q u, q < 11 → (ea x)[q]? = some u → w.cell? ⟨b, o + i * 11 + q, none⟩ = some u := fun q u hq hu => by rw [Nat.add_assoc]; exact h _ _ ((flat_at ea_len ls i x hi q hq).trans hu)
    exact ⟨g 0 _ (by omega) rfl, g 1 _ (by omega) rfl, g 2 _ (by omega) rfl, g 3 _ (by omega) rfl, g 4 _ (by omega) rfl, g 5 _ (by omega) rfl, g 6 _ (by omega) rfl, g 7 _ (by omega) rfl, g 8 _ (by omega) rfl, g 9 _ (by omega) rfl, g 10 _ (by omega) rfl⟩
theorem akr_of {w : World} {b o : Nat} {ls : List Ak} (hb : b < w.heap.size) (h : ∀ i x, ls[i]? = some x → ∀ q u, (ea x)[q]? = some u → w.cell? ⟨b, o + (i * 11 + q), none⟩ = some u) : AkR w w.heap.size (some ⟨b, o, none⟩) ls := by
  refine .inr ⟨b, o, rfl, hb, fun q u hq => ?_⟩
  have hl : q < ls.length * 11 := by
    rcases Nat.lt_or_ge q (ls.length * 11) with h' | h'
    · exact h'
    · rw [List.getElem?_eq_none (by rw [flat_len ea_len]; exact h')] at hq; cases hq
  have hi : q / 11 < ls.length := Nat.div_lt_of_lt_mul (by omega)
  have hx : ls[q / 11]? = some ls[q / 11] := List.getElem?_eq_getElem hi
  have e : q = q / 11 * 11 + q % 11 := by omega
  rw [e, flat_at ea_len ls (q / 11) _ hx (q % 11) (by omega)] at hq
  have := h _ _ hx _ _ hq
  rwa [← e] at this
theorem OwnR.akr {w : World} {base : Nat} {v : Value} {ls : List Ak} (h : OwnR ea 11 33 base w v ls) : ∃ a c, v = .slice a ls.length c ∧ ls.length ≤ c ∧ c ≤ maxLen ∧ AkR w w.heap.size a ls := by
  obtain ⟨a, c, e, h1, h2, h3, h4, h5⟩ := OwnR.read ea_len h
  refine ⟨a, c, e, h1, h2, ?_⟩
  rcases h3 with h3 | ⟨b, o, e, hc, h3⟩
  · exact .inl h3
  · exact .inr ⟨b, o, e, (h4 b o e).2.1, h3⟩
theorem info_ak : (Try.prog.info? 33).map (fun i => (i.zero, i.size, i.bytes)) = some (some (.agg #[.int .i64 0, .string ⟨#[]⟩, .string ⟨#[]⟩, .int .i64 0, .int .i64 0, .int .i64 0, .int .i64 0, .int .i64 0, .int .i64 0, .bool false, .int .i64 0]), 11, 104) := by kernel_rfl

set_option maxRecDepth 100000 in
set_option maxHeartbeats 1000000 in
theorem shNewI (m : Int) (M : Nat) (w : World) (hm : (M : Int) = min (max m 0) 32) :
    Calls Try.prog 13 #[.int .i64 m] w fun r w' => r = .returned (.pointer (some ⟨w.heap.size, 0, none⟩)) ∧ ShP w' w.heap.size M [] ∧ Below w.heap.size w w' := by
  obtain ⟨X, h1⟩ : ∃ X, max m 0 = X := ⟨_, rfl⟩
  have h2 : min X 32 = (M : Int) := by rw [← h1]; exact hm.symm
  have hM : M ≤ 32 := by omega
  have HR := Lib.hid (show ShP (w.alloc (.cells #[.int .i64 M, .slice none 0 0] 69)) w.heap.size M [] from ⟨none, 0, blk_new _ _ _, .inl rfl, Nat.le_refl _, by unfold maxLen; omega, .inl ⟨rfl, rfl⟩⟩)
  have HB := Lib.hid (show Below w.heap.size w (w.alloc (.cells #[.int .i64 M, .slice none 0 0] 69)) from (Below.refl _ _).alloc (Nat.le_refl _) _)
  clear hm
  go_enter Try.func13, Try.ntmps13
  go_wp2
  go_ret
  exact ⟨rfl, HR.out, HB.out⟩

set_option maxRecDepth 100000 in
set_option maxHeartbeats 1000000 in
theorem rshNewI (m : Int) (M : Nat) (w : World) (hm : (M : Int) = min (max m 0) 32) :
    Calls Try.prog 23 #[.int .i64 m] w fun r w' => r = .returned (.pointer (some ⟨w.heap.size, 0, none⟩)) ∧ RShP w' w.heap.size M [] ∧ Below w.heap.size w w' := by
  obtain ⟨X, h1⟩ : ∃ X, min m 32 = X := ⟨_, rfl⟩
  have h2 : max X 0 = (M : Int) := by omega
  have hM : M ≤ 32 := by omega
  have HR := Lib.hid (show RShP (w.alloc (.cells #[.int .i64 M, .slice none 0 0] 79)) w.heap.size M [] from ⟨none, 0, blk_new _ _ _, .inl rfl, Nat.le_refl _, by unfold maxLen; omega, .inl ⟨rfl, rfl⟩⟩)
  have HB := Lib.hid (show Below w.heap.size w (w.alloc (.cells #[.int .i64 M, .slice none 0 0] 79)) from (Below.refl _ _).alloc (Nat.le_refl _) _)
  clear hm
  go_enter Try.func23, Try.ntmps23
  go_wp2
  go_ret
  exact ⟨rfl, HR.out, HB.out⟩

end Go.Proofs.Ytnmpjagdkbaidaa
