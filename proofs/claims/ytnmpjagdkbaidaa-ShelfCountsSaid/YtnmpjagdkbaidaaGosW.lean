/- Package gossip's walks: keys and stamps compared, of each key the last. -/
import Derived.Test.YtnmpjagdkbaidaaOnce
import Derived.Test.YtnmpjagdkbaidaaRowAt
import Derived.Test.YtnmpjagdkbaidaaFill
namespace Go.Proofs.Ytnmpjagdkbaidaa
open Go.RowKit
set_option linter.unusedVariables false
set_option linter.unusedSimpArgs false

/-- grown, and some orders drawn -/
def Grew (w w' : World) : Prop := ∃ q os, w' = Go.Sort.grow (w.drewN q) os

theorem Grew.refl (w : World) : Grew w w := ⟨0, #[], by rw [Go.Sort.grow_empty]; rfl⟩

theorem Grew.alloc (w : World) (o : Obj) : Grew w (w.alloc o) := ⟨0, _, by rw [Go.Sort.alloc_eq_grow]; rfl⟩

theorem Grew.trans {a b c : World} (h : Grew a b) (k : Grew b c) : Grew a c := by
  obtain ⟨q, os, rfl⟩ := h
  obtain ⟨r, ot, rfl⟩ := k
  exact ⟨q + r, os ++ ot, by show Go.Sort.grow (Go.Sort.grow ((a.drewN q).drewN r) os) ot = _; rw [Go.Sort.grow_grow, World.drewN_drewN]⟩

theorem Grew.below {w w' : World} (h : Grew w w') : Below w.heap.size w w' := by
  obtain ⟨q, os, rfl⟩ := h
  refine ⟨rfl, rfl, rfl, by show _ ≤ (w.heap ++ os).size; simp, fun k hk => ?_⟩
  show (w.heap ++ os)[k]? = _
  rw [Array.getElem?_append_left hk]

set_option maxRecDepth 100000 in
set_option maxHeartbeats 1000000 in
theorem cardLess (a i b j : ByteArray) (w : World) :
    Calls Try.prog 42 #[.agg #[.string a, .string i], .agg #[.string b, .string j]] w fun e w' => e = .returned (.bool (decide (kc a i b j < 0))) ∧ Grew w w' := by
  go_enter Try.func42, Try.ntmps42
  go_wp2_with fail
  refine (cardCompare a i b j _).mono ?_
  rintro e w1 ⟨rfl, hg⟩
  have HG := Lib.hid (show Grew w w1 from ((Grew.alloc _ _).trans (Grew.alloc _ _)).trans hg)
  go_wp2
  go_ret
  exact ⟨rfl, HG.out⟩

/-- keys -/
abbrev Ky := ByteArray × ByteArray

def ky (k : Ky) : List Value := [.string k.1, .string k.2]

theorem ky_len (k : Ky) : (ky k).length = 2 := rfl

theorem ky_one (k : Ky) : ∀ u ∈ ky k, u.oneCell' = true := by
  intro u hu
  simp only [ky, List.mem_cons, List.not_mem_nil, or_false] at hu
  rcases hu with rfl | rfl <;> rfl

abbrev OwnK (base : Nat) (w : World) (v : Value) (ls : List Ky) : Prop := OwnR ky 2 27 base w v ls

abbrev KyAt (w : World) (a : Option Addr) (ls : List Ky) : Prop := SAt ky 2 27 w a ls

theorem KyAt.at {w : World} {b o i : Nat} {ls : List Ky} {x : Ky} (h : KyAt w (some ⟨b, o, none⟩) ls) (hi : ls[i]? = some x) :
    w.cell? ⟨b, o + i * 2, none⟩ = some (.string x.1) ∧ w.cell? ⟨b, o + i * 2 + 1, none⟩ = some (.string x.2) :=
  ⟨h.get ky_len hi 0 _ rfl, h.get ky_len hi 1 _ rfl⟩

theorem info_ky : (Try.prog.info? 27).map (fun i => (i.zero, i.size, i.bytes)) = some (some (.agg #[.string ⟨#[]⟩, .string ⟨#[]⟩]), 2, 32) := by kernel_rfl

def sLess (t k n t' k' n' : Int) : Bool := if t = t' then (if n = n' then decide (k < k') else decide (n < n')) else decide (t < t')

end Go.Proofs.Ytnmpjagdkbaidaa
