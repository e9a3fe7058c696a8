/- Several texts as one: RecentEach, RecentK, RecentP. -/
import Derived.Test.YtkhcgopehmndgaaBm
import Derived.Test.YtkhcgopehmndgaaKeys
import Derived.Test.YtkhcgopehmndgaaBd
import Derived.Test.YtkhcgopehmndgaaRecentG
import Derived.Test.YtkhcgopehmndgaaHist
/- Layer 13's laws, walked: RecentEach. -/
namespace Go.Proofs.Ytkhcgopehmndgaa
open Go.RowKit
set_option linter.unusedVariables false

open Classical in
/-- how often a key is among keys -/
noncomputable def cntR (x : KyR) (l : List KyR) : Nat := l.countP (fun y => decide (x = y))
theorem cnt_snoc_eqR (x : KyR) (l : List KyR) : cntR x (l ++ [x]) = cntR x l + 1 := by simp [cntR]
theorem cnt_snoc_neR {x y : KyR} (l : List KyR) (h : x ≠ y) : cntR x (l ++ [y]) = cntR x l := by simp [cntR, h]
theorem cnt_kpR (x : KyR) (bs : List KyR) (p : Nat) (hp : p ≤ bs.length) : ((x ∈ bs ∧ x ∉ bs.drop p) → cntR x (kp bs p) = 1) ∧ (¬ (x ∈ bs ∧ x ∉ bs.drop p) → cntR x (kp bs p) = 0) := by
  induction p with
  | zero => exact ⟨fun h => absurd h.1 (by simpa using h.2), fun _ => by simp [kp, cntR]⟩
  | succ p ih =>
    obtain ⟨k, hk⟩ : ∃ k, bs[p]? = some k := ⟨bs[p]'(by omega), by simp⟩
    have hd : bs.drop p = k :: bs.drop (p + 1) := by
      rw [List.drop_eq_getElem_cons (by omega)]
      congr 1
      rw [List.getElem?_eq_getElem (by omega)] at hk
      exact Option.some.inj hk
    have hm : k ∈ bs := List.mem_of_getElem? hk
    have ih' := ih (by omega)
    rw [hd] at ih'
    cases hv : hasB (bs.drop (p + 1)) k
    · rw [kp_no hk hv]
      have hn : k ∉ bs.drop (p + 1) := fun h => by rw [hasB_yes h] at hv; cases hv
      by_cases hx : x = k
      · subst hx
        have h0 := ih'.2 (by simp)
        exact ⟨fun _ => by rw [cnt_snoc_eqR, h0], fun h => absurd ⟨hm, hn⟩ h⟩
      · rw [cnt_snoc_neR _ hx]
        simpa [hx] using ih'
    · rw [kp_yes hk hv]
      have hy : k ∈ bs.drop (p + 1) := Classical.byContradiction fun h => by rw [hasB_no h] at hv; cases hv
      by_cases hx : x = k
      · subst hx
        have h0 := ih'.2 (by simp)
        exact ⟨fun h => absurd hy h.2, fun _ => h0⟩
      · simpa [hx] using ih'
theorem cnt_allR {x : KyR} {bs : List KyR} (h : x ∈ bs) : cntR x (kp bs bs.length) = 1 := (cnt_kpR x bs bs.length (Nat.le_refl _)).1 ⟨h, by simp⟩

def lastK (ks : List KyR) (p : Nat) : List KyR := (ks.take p).drop (p - 16)
theorem lastK_len (ks : List KyR) (p : Nat) (h : p ≤ ks.length) : (lastK ks p).length = min p 16 := by simp [lastK]; omega
theorem lastK_succ {ks : List KyR} {p : Nat} {k : KyR} (hk : ks[p]? = some k) (h : p < ks.length) : addK (lastK ks p) k = lastK ks (p + 1) := by
  have hl := lastK_len ks p (by omega)
  unfold addK
  rw [hl]
  unfold lastK
  rw [List.drop_drop, List.take_add_one, hk]
  simp only [Option.toList_some]
  rw [List.drop_append_of_le_length (by simp; omega)]
  congr 2
  omega
theorem lastK_drop {ks : List KyR} {q : Nat} (hq : q ≤ ks.length) (hm : ks.length - q ≤ 16) : (lastK ks ks.length).drop ((lastK ks ks.length).length - (ks.length - q)) = ks.drop q := by
  rw [lastK_len ks _ (Nat.le_refl _)]
  unfold lastK
  rw [List.take_length, List.drop_drop]
  congr 1
  omega

end Go.Proofs.Ytkhcgopehmndgaa

/- Layer 13's laws, walked: the keys of a tape. -/
namespace Go.Proofs.Ytkhcgopehmndgaa
open Go.RowKit
set_option linter.unusedVariables false

theorem tapeK_new_at {a : Option Addr} {len cap b : Nat} {w : World} (e : w.heap.size = b) : TapeK a len cap (w.alloc (.cells #[.slice a len cap, .int .i64 0] 29)) b := by
  subst e; exact tapeK_new _
theorem rowOk_new_at {a : Option Addr} {len cap b : Nat} {zs : List Int} {w : World} (h : IsRow .i64 w a len cap zs) (o : Obj) (e : w.heap.size = b) : RowOk a len cap zs (w.alloc o) b := by
  subst e; exact rowOk_new h o
theorem ownsRow_bar {w w' : World} {base size n c : Nat} {e : TypeId} {v : Value} {xs : List Value} (h : w.ownsRow base e size v n xs) (hb : Bar c w w') (hn : some c ≠ v.ownBlock) : w'.ownsRow base e size v n xs := by
  obtain ⟨h1, h2⟩ := h
  refine ⟨h1, ?_⟩
  rcases h2 with h2 | ⟨g, cap, cur, hv, hg, hh, r⟩
  · exact .inl h2
  · exact .inr ⟨g, cap, cur, hv, hg, hb.blk (fun e => hn (by rw [hv]; simp [Value.ownBlock, e])) hh, r⟩
def vlen : Value → Nat
  | .slice _ n _ => n
  | _ => 0
def KeysOut (w : World) (e : Ending) (w' : World) : Prop := ∃ v ks, e = .returned v ∧ w'.ownsRow w.heap.size 31 2 v ks.length (kf ks) ∧ ks.length ≤ 50 ∧ Below w.heap.size w w'

end Go.Proofs.Ytkhcgopehmndgaa

/- Layer 13's laws, walked: play. -/
namespace Go.Proofs.Ytkhcgopehmndgaa
open Go.RowKit
set_option linter.unusedVariables false

theorem KAt_ne {w : World} {b o c : Nat} {ks : List KyR} {cs : Array Value} {T : TypeId} (h : KAt w (some ⟨b, o, none⟩) ks) (hne : ks ≠ []) (hb : w.heap[c]? = some (.cells cs T (0, 0))) (hs : ∀ (n : Nat) (s : ByteArray), cs[n]? ≠ some (Value.string s)) : b ≠ c := by
  rintro rfl
  rcases h with h | ⟨b', o', e, h⟩
  · exact hne h
  · simp at e
    obtain ⟨rfl, rfl⟩ := e
    cases ks with
    | nil => exact hne rfl
    | cons k ks =>
      have h1 := (h 0 k rfl).1
      rw [blk_cell hb] at h1
      exact hs _ _ h1
theorem str2 {x y : Value} (hx : ∀ s, x ≠ Value.string s) (hy : ∀ s, y ≠ Value.string s) : ∀ (n : Nat) (s : ByteArray), #[x, y][n]? ≠ some (Value.string s) := by
  intro n s h
  match n with
  | 0 => simp at h; exact hx _ h
  | 1 => simp at h; exact hy _ h
  | n + 2 => simp at h
theorem str1 {x : Value} (hx : ∀ s, x ≠ Value.string s) : ∀ (n : Nat) (s : ByteArray), #[x][n]? ≠ some (Value.string s) := by
  intro n s h
  match n with
  | 0 => simp at h; exact hx _ h
  | n + 1 => simp at h
theorem lastK_tail {ks : List KyR} {p m : Nat} (hp : p ≤ ks.length) (hm : m ≤ p) (hm16 : m ≤ 16) : (lastK ks p).drop ((lastK ks p).length - m) = (ks.take p).drop (p - m) := by
  rw [lastK_len ks p hp]
  unfold lastK
  rw [List.drop_drop]
  congr 1
  omega

end Go.Proofs.Ytkhcgopehmndgaa
