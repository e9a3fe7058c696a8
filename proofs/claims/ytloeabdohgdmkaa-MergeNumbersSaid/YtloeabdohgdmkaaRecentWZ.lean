/- The walks of package recent. -/
import Derived.Test.YtloeabdohgdmkaaKeysZ
import Derived.Test.YtloeabdohgdmkaaBaZ
import Derived.Test.YtloeabdohgdmkaaBdZ
namespace Go.Proofs.Ytloeabdohgdmkaa
open Go.RowKit
set_option linter.unusedVariables false

/-- at block rb a Row lies: its number, its keys -/
def RecAt (w : World) (rb : Nat) (seq : Nat) (ks : List KyR) : Prop := ∃ (a : Option Addr) (cap : Nat), w.heap[rb]? = some (.cells #[.int .i64 seq, .slice a ks.length cap] 90 (0, 0)) ∧ ks.length ≤ cap ∧ cap ≤ maxLen ∧ KAt w a ks ∧ (∀ b o, a = some ⟨b, o, none⟩ → b ≠ rb) ∧ (ks = [] → a = none ∧ cap = 0)
theorem RecAt.lt {w : World} {rb seq : Nat} {ks : List KyR} (h : RecAt w rb seq ks) : rb < w.heap.size := by
  obtain ⟨a, cap, h1, _⟩ := h; exact blk_lt h1
theorem RecAt.ext {w w' : World} {rb seq : Nat} {ks : List KyR} (h : RecAt w rb seq ks) (hb : Below w.heap.size w w') : RecAt w' rb seq ks := by
  obtain ⟨a, cap, h1, h2, h3, h4, h5, h6⟩ := h
  exact ⟨a, cap, blk_ext hb h1, h2, h3, h4.ext hb, h5, h6⟩

def Made (w : World) (e : Ending) (w' : World) : Prop := e = .returned (.pointer (some ⟨w.heap.size, 0, none⟩)) ∧ RecAt w' w.heap.size 0 [] ∧ Below w.heap.size w w'
set_option maxHeartbeats 400000 in
theorem recentNew (w : World) : Calls Try.prog 32 #[] w (Made w) := by
  go_enter Try.func32, Try.ntmps32
  go_wp2
  go_ret
  exact ⟨rfl, ⟨none, 0, blk_new _ _ _, Nat.le_refl _, by simp [maxLen], .inl rfl, by simp, by simp⟩, (Below.refl _ _).alloc (Nat.le_refl _) _⟩

theorem ownsRow_baseR {w : World} {base base' size n : Nat} {e : TypeId} {v : Value} {xs : List Value} (h : w.ownsRow base e size v n xs) (hb : base' ≤ base) : w.ownsRow base' e size v n xs := by
  obtain ⟨h1, h2⟩ := h
  refine ⟨h1, ?_⟩
  rcases h2 with h2 | ⟨g, cap, cur, hv, hg, r⟩
  · exact .inl h2
  · exact .inr ⟨g, cap, cur, hv, by omega, r⟩
theorem ownsRow_keptR {w w' : World} {base size n b : Nat} {e : TypeId} {v : Value} {xs : List Value} (h : w.ownsRow base e size v n xs) (hk : Kept b w w') (hb : b < base) : w'.ownsRow base e size v n xs := by
  obtain ⟨h1, h2⟩ := h
  refine ⟨h1, ?_⟩
  rcases h2 with h2 | ⟨g, cap, cur, hv, hg, hh, r⟩
  · exact .inl h2
  · exact .inr ⟨g, cap, cur, hv, hg, (hk.block g (by omega)).trans hh, r⟩

theorem keysClone_at (b o cap n : Nat) (ks : List KyR) (w : World) (h : KAt w (some ⟨b, o, none⟩) ks) (hn : ks.length = n) (hl : n ≤ 1000000) :
    Calls Try.prog 78 #[.slice (some ⟨b, o, none⟩) n cap] w (fun e w' => ∃ v, e = .returned v ∧ w'.ownsRow w.heap.size 30 2 v n (kf ks) ∧ Below w.heap.size w w') := by
  subst hn; exact keysClone b o cap ks w h hl

def addK (ks : List KyR) (k : KyR) : List KyR := ks.drop (ks.length + 1 - 16) ++ [k]
end Go.Proofs.Ytloeabdohgdmkaa
