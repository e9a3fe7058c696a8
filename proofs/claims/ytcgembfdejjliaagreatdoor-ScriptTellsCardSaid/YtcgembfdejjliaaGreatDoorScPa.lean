/- The law's parses: what its walk shares. -/
import Derived.Test.YtcgembfdejjliaaGreatDoorScDd
import Derived.Test.YtcgembfdejjliaaGreatDoorScS
namespace Go.Proofs.YtcgembfdejjliaaGreatDoor
open Go.RowKit
open Go.PlainAid (bt get_bt bt_le bt_nonneg)
set_option linter.unusedVariables false
set_option linter.unusedSimpArgs false

theorem nl_word : ∀ (l r : List UInt8), (∀ c ∈ l, c ≠ 10) → nl (l ++ 10 :: r) = l :: nl r
  | [], r, _ => by simp [nl]
  | c :: l, r, h => nl_in c _ l (nl r) (h c (by simp)) (nl_word l r fun d hd => h d (List.mem_cons_of_mem _ hd))
theorem nl_last : ∀ (l : List UInt8), (∀ c ∈ l, c ≠ 10) → nl l = [l]
  | [], _ => rfl
  | c :: l, h => nl_in c _ l [] (h c (by simp)) (nl_last l fun d hd => h d (List.mem_cons_of_mem _ hd))
theorem drop_cons {α : Type} {A : List α} {k : Nat} {a : α} {r : List α} (h : A.drop k = a :: r) : A[k]? = some a ∧ r = A.drop (k + 1) := by
  have h1 := congrArg (·[0]?) h
  simp at h1
  refine ⟨h1, ?_⟩
  have h2 := congrArg (List.drop 1) h
  simpa using h2.symm
theorem pm_idle {p K : Nat} {x : List UInt8} {L : List (List UInt8)} {R : List Ac × List (Nat × ByteArray)} (h : pm p K (x :: L) = R) (hx : x = [] ∨ 400 ≤ K) : pm (p + 1) K L = R := by
  by_cases hK : 400 ≤ K
  · rw [← h, pm_full _ _ hK, pm_full _ _ hK]
  · rcases hx with hx | hx
    · subst hx
      rw [← h, pm, if_neg hK, if_pos rfl]
    · exact absurd hx hK
theorem pm_hit {p K k m : Nat} {x : ByteArray} {L : List (List UInt8)} {A : List Ac} {F : List (Nat × ByteArray)} {a : Ac} (h : pm p K (x.data.toList :: L) = (A.drop k, F.drop m)) (hK : K < 400) (hx : x.data.toList ≠ []) (ha : lineM x = some a) : A[k]? = some a ∧ pm (p + 1) (K + 1) L = (A.drop (k + 1), F.drop m) := by
  rw [pm_act p K hK x hx a ha] at h
  have h1 := (Prod.mk.inj h).1
  have h2 := (Prod.mk.inj h).2
  obtain ⟨h3, h4⟩ := drop_cons h1.symm
  exact ⟨h3, Prod.ext h4 h2⟩
theorem pm_none {p K k m : Nat} {x : ByteArray} {L : List (List UInt8)} {A : List Ac} {F : List (Nat × ByteArray)} (h : pm p K (x.data.toList :: L) = (A.drop k, F.drop m)) (hK : K < 400) (hx : x.data.toList ≠ []) (ha : lineM x = none) : F[m]? = some (p, hdw x) ∧ pm (p + 1) (K + 1) L = (A.drop k, F.drop (m + 1)) := by
  rw [pm_bad p K hK x hx ha] at h
  have h1 := (Prod.mk.inj h).1
  have h2 := (Prod.mk.inj h).2
  obtain ⟨h3, h4⟩ := drop_cons h2.symm
  exact ⟨h3, Prod.ext h1 h4⟩
theorem FErr.at2 {w : World} : ∀ {F : List (Nat × ByteArray)} {vs : List Value} {i : Nat} {f : Nat × ByteArray}, FErr w F vs → F[i]? = some f → ∃ v, vs[i]? = some v ∧ FC w (.iface 39 (.int .i64 12)) [lnm f.1, f.2] v
  | [], _, i, f, _, hi => by simp at hi
  | _ :: _, v :: _, 0, f, h, hi => by
    simp only [List.getElem?_cons_zero, Option.some.injEq] at hi
    subst hi
    exact ⟨v, rfl, h.1⟩
  | _ :: _, _ :: _, i + 1, f, h, hi => by
    obtain ⟨v, h1, h2⟩ := FErr.at2 h.2 (by simpa using hi)
    exact ⟨v, by simpa using h1, h2⟩
  | _ :: _, [], _, _, h, _ => h.elim
theorem pm_len : ∀ (l : List (List UInt8)) (p k : Nat), (pm p k l).1.length ≤ l.length ∧ (pm p k l).2.length ≤ l.length
  | [], p, k => ⟨Nat.le_refl _, Nat.le_refl _⟩
  | x :: r, p, k => by
    have h1 := pm_len r (p + 1) k
    have h2 := pm_len r (p + 1) (k + 1)
    unfold pm
    split
    · simp
    · split
      · simp; omega
      · split
        · simp; omega
        · simp; omega
/-- what is left of a text, and where one stands in it -/
def Lft (s : List UInt8) (n I A0 : Nat) (L : List (List UInt8)) : Prop := (I ≤ n ∧ A0 ≤ I ∧ L = nl (s.drop A0) ∧ ∀ k c, A0 ≤ k → k < I → s[k]? = some c → c ≠ 10) ∨ (I = n + 1 ∧ L = [])
theorem seg_no {s : List UInt8} {A0 I : Nat} (h : ∀ k c, A0 ≤ k → k < I → s[k]? = some c → c ≠ 10) : ∀ c ∈ (s.drop A0).take (I - A0), c ≠ 10 := fun c hc => by
  obtain ⟨k, hk⟩ := List.mem_iff_getElem?.1 hc
  rw [List.getElem?_take] at hk
  split at hk
  · rw [List.getElem?_drop] at hk
    exact h (A0 + k) c (by omega) (by omega) hk
  · cases hk
theorem Lft.go {s : List UInt8} {n I A0 : Nat} {L : List (List UInt8)} (h : Lft s n I A0 L) (hI : I < n) {c : UInt8} (hc : s[I]? = some c) (h10 : c ≠ 10) : Lft s n (I + 1) A0 L := by
  rcases h with ⟨h1, h2, h3, h4⟩ | ⟨h1, h2⟩
  · refine .inl ⟨by omega, by omega, h3, fun k d hk hk2 hd => ?_⟩
    by_cases hkI : k = I
    · subst hkI
      rw [hc] at hd
      obtain rfl := Option.some.inj hd
      exact h10
    · exact h4 k d hk (by omega) hd
  · omega
theorem Lft.cut {s : List UInt8} {n I A0 : Nat} {L : List (List UInt8)} (h : Lft s n I A0 L) (hI : I < n) (hc : s[I]? = some 10) : ∃ L', L = (s.drop A0).take (I - A0) :: L' ∧ Lft s n (I + 1) (I + 1) L' := by
  rcases h with ⟨h1, h2, h3, h4⟩ | ⟨h1, h2⟩
  · refine ⟨nl (s.drop (I + 1)), ?_, .inl ⟨by omega, by omega, rfl, fun k c hk hk2 => by omega⟩⟩
    have hd : s.drop A0 = (s.drop A0).take (I - A0) ++ 10 :: s.drop (I + 1) := by
      conv => lhs; rw [← List.take_append_drop (I - A0) (s.drop A0)]
      rw [List.drop_drop, show A0 + (I - A0) = I by omega]
      obtain ⟨k1, k2⟩ := List.getElem?_eq_some_iff.1 hc
      rw [List.drop_eq_getElem_cons k1, k2]
    rw [h3]
    conv => lhs; rw [hd]
    exact nl_word _ _ (seg_no h4)
  · omega
theorem Lft.fin {s : List UInt8} {n A0 : Nat} {L : List (List UInt8)} (h : Lft s n n A0 L) (hn : s.length = n) : ∃ L', L = (s.drop A0).take (n - A0) :: L' ∧ Lft s n (n + 1) (n + 1) L' := by
  rcases h with ⟨h1, h2, h3, h4⟩ | ⟨h1, h2⟩
  · refine ⟨[], ?_, .inr ⟨rfl, rfl⟩⟩
    have h5 : s.drop A0 = (s.drop A0).take (n - A0) := by rw [List.take_of_length_le (by simp; omega)]
    have h6 := nl_last _ (seg_no h4)
    rw [← h5] at h6 ⊢
    rw [h3, h6]
  · omega
theorem Lft.in {s : List UInt8} {n I A0 : Nat} {L : List (List UInt8)} (h : Lft s n I A0 L) (hI : I ≤ n) : A0 ≤ I := by
  rcases h with ⟨h1, h2, -⟩ | ⟨h1, h2⟩
  · exact h2
  · omega
theorem lineM_seg (q : ByteArray) (h : ∀ c ∈ q.data.toList, c ≠ 10) : lineM q = lineD q := lineM_plain q fun e => h 10 ((ib_in _ _).1 e) rfl
theorem Lft.seg {s : List UInt8} {n I A0 : Nat} {L : List (List UInt8)} (h : Lft s n I A0 L) (hI : I ≤ n) : ∀ c ∈ (s.drop A0).take (I - A0), c ≠ 10 := by
  rcases h with ⟨h1, h2, h3, h4⟩ | ⟨h1, h2⟩
  · exact seg_no h4
  · omega
theorem lnm_add (p : Nat) (h : (itoB (p : Int)).size ≤ 20) (y : World) : (Op.stringOp .add ⟨#[108, 105, 110, 101, 32]⟩ (itoB (p : Int))).run Tryz.prog y = .ok (.string (lnm p)) y := by
  rw [run_string_add_sum y _ _ (by show 5 + (itoB (p : Int)).size ≤ _; omega)]
  have e : (⟨#[108, 105, 110, 101, 32]⟩ ++ itoB (p : Int) : ByteArray) = lnm p := by
    unfold lnm itoB
    exact ByteArray.mk_append_mk [108, 105, 110, 101, 32] _
  rw [e]
/-- what holds while an error is looked at -/
structure RJ (W : World) (mv gs lv pa ev nv : Value) (T1 T2 op : ByteArray) (d : Nat → Bool) (x : World) (u73 u74 u75 u76 u77 u78 u79 u80 u81 u82 u83 u84 u85 u86 u87 u88 u89 : Value) : Prop where
  bl : Below W.heap.size W x
  s0 : d 0 = true → u73 = mv
  s1 : d 1 = true → u74 = gs
  s2 : d 2 = true → u75 = lv
  s3 : d 3 = true → u76 = .bool false
  s4 : d 4 = true → u77 = .bool false
  s5 : d 5 = true → u78 = gs
  s6 : d 6 = true → u79 = mv
  s7 : d 7 = true → u80 = pa
  s8 : d 8 = true → u81 = ev
  s9 : d 9 = true → u82 = nv
  s10 : d 10 = true → u83 = .string T1
  s11 : d 11 = true → u84 = .string T2
  s12 : d 12 = true → u85 = .string op
  s14 : d 14 = true → u87 = .bool true
  s15 : d 15 = true → u88 = .bool false
  s16 : d 16 = true → u89 = .bool false
  s13 : d 13 = true → TxAt x u86 [T2, op]
end Go.Proofs.YtcgembfdejjliaaGreatDoor
