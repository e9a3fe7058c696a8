/- Rows of keys: what lies behind a slice of keys. -/
import Derived.Test.YtloeabdohgdmkaaBaZ
import Derived.Laws.AppendOwn
import Derived.ChangeAlike
namespace Go.Proofs.Ytloeabdohgdmkaa
open Go.RowKit
set_option linter.unusedVariables false

open Classical in
/-- whether a key is among keys -/
noncomputable def hasB (ks : List (ByteArray × ByteArray)) (k : ByteArray × ByteArray) : Bool := decide (k ∈ ks)
theorem info_partsR {t : TypeId} {z : Value} {s b : Nat} (h : (Try.prog.info? t).map (fun i => (i.zero, i.size, i.bytes)) = some (some z, s, b)) : ∃ i, Try.prog.info? t = some i ∧ i.zero = some z ∧ i.size = s ∧ i.bytes = b := by
  cases e : Try.prog.info? t with
  | none => rw [e] at h; cases h
  | some i =>
    rw [e] at h
    simp only [Option.map_some, Option.some.injEq, Prod.mk.injEq] at h
    exact ⟨i, rfl, h.1, h.2.1, h.2.2⟩
theorem info_key : (Try.prog.info? 30).map (fun i => (i.zero, i.size, i.bytes)) = some (some (.agg #[.string ⟨#[]⟩, .string ⟨#[]⟩]), 2, 32) := by kernel_rfl

/-- a key: its app, its id -/
abbrev KyR := ByteArray × ByteArray
def kcR (k : KyR) : List Value := [.string k.1, .string k.2]
def kf (ks : List KyR) : List Value := ks.flatMap kcR
theorem kf_nil : kf [] = [] := rfl
theorem kf_snoc (ks : List KyR) (k : KyR) : kf (ks ++ [k]) = kf ks ++ [.string k.1, .string k.2] := by simp [kf, kcR]
theorem kf_len (ks : List KyR) : (kf ks).length = ks.length * 2 := by
  induction ks with
  | nil => rfl
  | cons x xs ih => simp only [kf, List.flatMap_cons, List.length_append, kcR, List.length_cons, List.length_nil] at *; omega
theorem kf_at (ks : List KyR) (i : Nat) (k : KyR) (hi : ks[i]? = some k) : (kf ks)[i * 2]? = some (.string k.1) ∧ (kf ks)[i * 2 + 1]? = some (.string k.2) := by
  induction ks generalizing i with
  | nil => simp at hi
  | cons x xs ih =>
    cases i with
    | zero => simp at hi; subst hi; simp [kf, kcR]
    | succ i =>
      have h := ih i (by simpa using hi)
      have e : ∀ j, (kf (x :: xs))[j + 2]? = (kf xs)[j]? := fun j => by simp [kf, kcR]
      refine ⟨?_, ?_⟩
      · rw [show (i + 1) * 2 = i * 2 + 2 from by omega, e]; exact h.1
      · rw [show (i + 1) * 2 + 1 = i * 2 + 1 + 2 from by omega, e]; exact h.2
theorem kf_one (ks : List KyR) : ∀ u ∈ kf ks, u.oneCell' = true := by
  intro u hu
  simp only [kf, List.mem_flatMap, kcR, List.mem_cons, List.not_mem_nil, or_false] at hu
  obtain ⟨k, _, rfl | rfl⟩ := hu <;> rfl

/-- behind the address a the keys ks lie -/
def KAt (w : World) (a : Option Addr) (ks : List KyR) : Prop := ks = [] ∨ ∃ b o, a = some ⟨b, o, none⟩ ∧ ∀ i k, ks[i]? = some k → w.cell? ⟨b, o + i * 2, none⟩ = some (.string k.1) ∧ w.cell? ⟨b, o + i * 2 + 1, none⟩ = some (.string k.2)
theorem KAt.keep {w w' : World} {a : Option Addr} {ks : List KyR} (h : KAt w a ks) (hk : ∀ b o, a = some ⟨b, o, none⟩ → ∀ p v, w.cell? ⟨b, p, none⟩ = some v → w'.cell? ⟨b, p, none⟩ = some v) : KAt w' a ks := by
  rcases h with h | ⟨b, o, e, h⟩
  · exact .inl h
  · exact .inr ⟨b, o, e, fun i k hi => ⟨hk b o e _ _ (h i k hi).1, hk b o e _ _ (h i k hi).2⟩⟩
theorem KAt.ext {w w' : World} {a : Option Addr} {ks : List KyR} (h : KAt w a ks) (hb : Below w.heap.size w w') : KAt w' a ks := h.keep fun _ _ _ _ _ hc => ext_cell hb hc
theorem own_readR {w : World} {base n : Nat} {v : Value} {ks : List KyR} (h : w.ownsRow base 30 2 v n (kf ks)) : ∃ a cap, v = .slice a ks.length cap ∧ n = ks.length ∧ ks.length ≤ cap ∧ cap ≤ maxLen ∧ KAt w a ks ∧ ∀ b o, a = some ⟨b, o, none⟩ → v.ownBlock = some b := by
  obtain ⟨h1, h2⟩ := h
  rw [kf_len] at h1
  obtain rfl : n = ks.length := by omega
  rcases h2 with ⟨rfl, h0⟩ | ⟨g, cap, cur, rfl, hg, hh, hnc, hcm, hcs, ht⟩
  · exact ⟨none, 0, by rw [h0], rfl, by omega, by simp [maxLen], .inl (List.eq_nil_of_length_eq_zero h0), fun _ _ e => by cases e⟩
  · refine ⟨_, _, rfl, rfl, hnc, hcm, .inr ⟨g, 0, rfl, fun i k hi => ?_⟩, fun b o e => by cases e; rfl⟩
    have f := kf_at ks i k hi
    have fl := kf_len ks
    have rd : ∀ q u, (kf ks)[q]? = some u → w.cell? ⟨g, q, none⟩ = some u := fun q u hq => by
      rw [← ht] at hq
      have hq1 : q < ks.length * 2 := by
        rcases Nat.lt_or_ge q (ks.length * 2) with h | h
        · exact h
        · rw [List.getElem?_eq_none (by simp; omega)] at hq; cases hq
      rw [List.getElem?_take_of_lt hq1] at hq
      simp only [World.cell?, hh]
      simpa using hq
    exact ⟨by simpa using rd _ _ f.1, by simpa using rd _ _ f.2⟩
theorem KAt.drop {w : World} {b o : Nat} {ks : List KyR} {k : Nat} (h : KAt w (some ⟨b, o, none⟩) ks) : KAt w (some ⟨b, o + k * 2, none⟩) (ks.drop k) := by
  rcases h with h | ⟨b', o', e, h⟩
  · left; simp [h]
  · simp at e
    obtain ⟨rfl, rfl⟩ := e
    refine .inr ⟨_, _, rfl, fun i x hi => ?_⟩
    have h1 := h (k + i) x (by simpa using hi)
    rw [show o + k * 2 + i * 2 = o + (k + i) * 2 from by omega]
    exact h1
theorem KAt.cells {w : World} {b o : Nat} {ks : List KyR} (h : KAt w (some ⟨b, o, none⟩) ks) (j : Nat) (u : Value) (hj : (kf ks)[j]? = some u) : w.cell? ((⟨b, o, none⟩ : Addr).add j) = some u := by
  have hl := kf_len ks
  have hjl : j < ks.length * 2 := by
    rcases Nat.lt_or_ge j (ks.length * 2) with h | h
    · exact h
    · rw [List.getElem?_eq_none (by omega)] at hj; cases hj
  have e0 : (⟨b, o, none⟩ : Addr).add j = ⟨b, o + j, none⟩ := by
    by_cases h0 : j = 0
    · subst h0; simp [Addr.add]
    · simp [Addr.add, h0]
  rw [e0]
  obtain ⟨i, hi⟩ : ∃ i, j = i * 2 ∨ j = i * 2 + 1 := ⟨j / 2, by omega⟩
  obtain ⟨k, hk⟩ : ∃ k, ks[i]? = some k := ⟨ks[i]'(by omega), by simp⟩
  have f := kf_at ks i k hk
  rcases h with h | ⟨b', o', e, h⟩
  · subst h; simp at hjl
  · simp at e
    obtain ⟨rfl, rfl⟩ := e
    rcases hi with rfl | rfl
    · rw [f.1] at hj; cases hj; exact (h i k hk).1
    · rw [f.2] at hj; cases hj; exact (h i k hk).2
theorem ownsRow_extR {w w' : World} {base size n : Nat} {e : TypeId} {v : Value} {xs : List Value} (h : w.ownsRow base e size v n xs) (hb : Below w.heap.size w w') : w'.ownsRow base e size v n xs := by
  obtain ⟨h1, h2⟩ := h
  refine ⟨h1, ?_⟩
  rcases h2 with h2 | ⟨g, cap, cur, hv, hg, hh, r⟩
  · exact .inl h2
  · exact .inr ⟨g, cap, cur, hv, hg, ext_block hb hh, r⟩
theorem own_neR {w : World} {base size n : Nat} {e e' : TypeId} {v : Value} {xs : List Value} (h : w.ownsRow base e size v n xs) {b : Nat} {cur : Array Value} (hb : w.heap[b]? = some (.cells cur e' (0, 0))) (he : e' ≠ e) : some b ≠ v.ownBlock := by
  obtain ⟨_, h2⟩ := h
  rcases h2 with ⟨rfl, _⟩ | ⟨g, cap, cur', rfl, hg, hh, _⟩
  · simp [Value.ownBlock]
  · simp only [Value.ownBlock, ne_eq, Option.some.injEq]
    intro e1
    subst e1
    rw [hb] at hh
    simp at hh
    exact he hh.2

/-- a row of the call's own that holds these keys -/
def Cloned (ks : List KyR) (w : World) (e : Ending) (w' : World) : Prop := ∃ v, e = .returned v ∧ w'.ownsRow w.heap.size 30 2 v ks.length (kf ks) ∧ Below w.heap.size w w'
set_option maxHeartbeats 400000 in
theorem keysClone_nil (w : World) : Calls Try.prog 78 #[.slice none 0 0] w (Cloned [] w) := by
  have hq : ∀ w : World, (binOp .eql 73 (.slice none 0 0) (.slice none 0 0)).run Try.prog w = .ok (.bool true) w := fun _ => by kernel_rfl
  go_enter Try.func78, Try.ntmps78
  go_wp2
  go_ret
  exact ⟨_, rfl, World.ownsRow_nil _ _ _ _, Below.refl _ _⟩
set_option maxRecDepth 100000 in
set_option maxHeartbeats 1000000 in
theorem keysClone (b o cap : Nat) (ks : List KyR) (w : World) (h : KAt w (some ⟨b, o, none⟩) ks) (hl : ks.length ≤ 1000000) :
    Calls Try.prog 78 #[.slice (some ⟨b, o, none⟩) ks.length cap] w (Cloned ks w) := by
  obtain ⟨i0, hi, hz0, hz1, hz2⟩ := info_partsR info_key
  have HK := Lib.hid h
  have hln := kf_len ks
  have HL := Lib.hid hln
  clear h hln
  have H1 : Below w.heap.size w (w.alloc (.cells #[] 30)) := (Below.refl _ _).alloc (Nat.le_refl _) _
  have HR := Lib.hid (HK.out.ext H1)
  have hq : ∀ w : World, (binOp .eql 73 (.slice (some ⟨b, o, none⟩) ks.length cap) (.slice none 0 0)).run Try.prog w = .ok (.bool false) w := fun _ => by kernel_rfl
  go_enter Try.func78, Try.ntmps78
  go_wp2_with (first | (at_builtin; refine wpList_append_own _ rfl _ _ 73 rfl (w.heap.size) 30 i0 (.agg #[.string ⟨#[]⟩, .string ⟨#[]⟩]) 2 32 Try.underlying73 hi hz0 hz1 hz2 rfl (by decide) _ _ _ rfl (World.ownsRow_made w #[] 0 (Nat.le_refl _) (by simp [maxLen]) rfl) ⟨b, o, none⟩ ks.length cap (kf ks) rfl HL.out ?c1 ?c2 ?c3 ?c4 ?c5 ?_))
  case c1 => exact fun j u hj => HR.out.cells j u hj
  case c2 => exact kf_one ks
  case c3 => unfold maxLen; omega
  case c4 => omega
  case c5 => simp
  intro v' w1 hown' hgrow _
  go_wp2
  go_ret
  exact ⟨_, rfl, by simpa using hown', H1.grown hgrow (by simp) (by intro k hk; cases hk; exact Nat.le_refl _)⟩

end Go.Proofs.Ytloeabdohgdmkaa
