/- The script in one model, pure: what a line is; what a text's lines are. -/
import Derived.Test.YtcgembfdejjliaaGreatDoorBlk
import Derived.Lib.IndexMore
import Derived.Lib.Split
import Derived.Lib.ParseIntB
import Derived.Lib.ItoaNum
namespace Go.Proofs.YtcgembfdejjliaaGreatDoor
set_option linter.unusedVariables false

/-- an act -/
structure Ac where
  k : Int
  a : Int
  b : Int
  op : Int
  st : Int
  n : Int
  app : ByteArray
/-- a line's shape -/
structure Sh where
  w : ByteArray
  k : Int
  op : Int
  fs : ByteArray
def shs : List Sh := [
  ⟨⟨#[116, 105, 99, 107]⟩, 1, 0, ⟨#[97, 110]⟩⟩, ⟨⟨#[100, 101, 108, 105, 118, 101, 114]⟩, 2, 0, ⟨#[110]⟩⟩, ⟨⟨#[100, 114, 111, 112]⟩, 3, 0, ⟨#[110]⟩⟩,
  ⟨⟨#[116, 119, 105, 99, 101]⟩, 4, 0, ⟨#[110]⟩⟩, ⟨⟨#[99, 117, 116]⟩, 5, 0, ⟨#[97, 98]⟩⟩, ⟨⟨#[104, 101, 97, 108]⟩, 6, 0, ⟨#[97, 98]⟩⟩, ⟨⟨#[99, 114, 97, 115, 104]⟩, 7, 0, ⟨#[97]⟩⟩,
  ⟨⟨#[114, 101, 103, 105, 115, 116, 101, 114]⟩, 8, 1, ⟨#[97, 110, 115]⟩⟩, ⟨⟨#[99, 97, 110, 99, 101, 108]⟩, 8, 3, ⟨#[97]⟩⟩, ⟨⟨#[111, 118, 101, 114, 114, 105, 100, 101]⟩, 8, 4, ⟨#[97, 115]⟩⟩,
  ⟨⟨#[108, 111, 111, 107]⟩, 9, 0, ⟨#[97, 116]⟩⟩]
/-- the number that a word is, if it is written as numbers are told -/
def num (x : List UInt8) : Option Int :=
  match Lib.parseIntB 64 x with
  | .ok v => if Lib.itoa v = x then some v else none
  | _ => none
/-- a word put into a field -/
def Ac.put (a : Ac) (f : UInt8) (x : ByteArray) : Option Ac :=
  if f = 116 then (if x.size = 0 then none else some { a with app := x })
  else match num x.data.toList with
    | none => none
    | some n => some (if f = 110 then { a with n := n } else if f = 97 then { a with a := n } else if f = 98 then { a with b := n } else if f = 115 then { a with st := n } else a)
/-- words put into fields, one by one -/
def puts (a : Ac) : List UInt8 → List ByteArray → Option Ac
  | [], [] => some a
  | f :: fs, x :: ws => match a.put f x with
    | none => none
    | some b => puts b fs ws
  | _, _ => none
/-- the words put into a shape's fields -/
def Sh.read (s : Sh) (ws : List ByteArray) : Option Ac :=
  if ws.length = s.fs.size then puts ⟨s.k, 0, 0, s.op, 0, 0, ⟨#[]⟩⟩ s.fs.data.toList ws else none
/-- the words of a line, five at most -/
def wds (x : ByteArray) : List ByteArray := Lib.splitB ⟨#[32]⟩ 0 (min 5 (x.size + 1) - 1) x
/-- the first shape that reads the words -/
def fnd (w0 : ByteArray) (ws : List ByteArray) : List Sh → Option Ac
  | [] => none
  | s :: r => if s.w = w0 then (match s.read ws with
      | some a => some a
      | none => fnd w0 ws r) else fnd w0 ws r
/-- the first word -/
def hdw (x : ByteArray) : ByteArray := (wds x).headD ⟨#[]⟩
/-- the act that a line is -/
def lineM (x : ByteArray) : Option Ac := if 0 ≤ Lib.indexByte x.data.toList 10 then none else fnd (hdw x) (wds x).tail shs

theorem splitB_ne (sep : ByteArray) (sv : Nat) : ∀ (k : Nat) (s : ByteArray), Lib.splitB sep sv k s ≠ []
  | 0, s => by rw [Lib.splitB_zero]; simp
  | k + 1, s => by
    unfold Lib.splitB
    split <;> simp
theorem splitB_len (sep : ByteArray) (sv : Nat) : ∀ (k : Nat) (s : ByteArray), (Lib.splitB sep sv k s).length ≤ k + 1
  | 0, s => by rw [Lib.splitB_zero]; simp
  | k + 1, s => by
    unfold Lib.splitB
    split
    · simp
    · simpa using splitB_len sep sv k _
theorem wds_len (x : ByteArray) : 1 ≤ (wds x).length ∧ (wds x).length ≤ min 5 (x.size + 1) := by
  have h1 := splitB_ne ⟨#[32]⟩ 0 (min 5 (x.size + 1) - 1) x
  have h2 := splitB_len ⟨#[32]⟩ 0 (min 5 (x.size + 1) - 1) x
  have h3 : (wds x).length ≠ 0 := fun h => h1 (List.length_eq_zero_iff.1 h)
  unfold wds at *
  constructor <;> omega

/-- lines: what stands between the line ends -/
def nl : List UInt8 → List (List UInt8)
  | [] => [[]]
  | c :: r => if c = 10 then [] :: nl r else match nl r with
    | [] => [[c]]
    | h :: t => (c :: h) :: t
theorem nl_end (r : List UInt8) : nl (10 :: r) = [] :: nl r := rfl
theorem nl_ne : ∀ l : List UInt8, nl l ≠ []
  | [] => by simp [nl]
  | c :: r => by
    unfold nl
    split
    · simp
    · split <;> simp
theorem nl_in (c : UInt8) (r h : List UInt8) (t : List (List UInt8)) (hc : c ≠ 10) (e : nl r = h :: t) : nl (c :: r) = (c :: h) :: t := by
  rw [nl, if_neg hc, e]
theorem nl_app : ∀ (l r : List UInt8), nl (l ++ 10 :: r) = nl l ++ nl r
  | [], r => by simp [nl]
  | c :: l, r => by
    have ih := nl_app l r
    show nl (c :: (l ++ 10 :: r)) = _
    by_cases hc : c = 10
    · subst hc; rw [nl_end, nl_end, ih]; rfl
    · obtain ⟨a, t, h⟩ : ∃ a t, nl l = a :: t := by
        cases h : nl l with
        | nil => exact absurd h (nl_ne l)
        | cons a t => exact ⟨a, t, rfl⟩
      rw [nl_in c l a t hc h, nl_in c _ a (t ++ nl r) hc (by rw [ih, h]; rfl)]
      rfl
theorem nl_miss : ∀ (l : List UInt8), Lib.index l [10] = -1 → nl l = [l]
  | [], _ => rfl
  | c :: l, h => by
    unfold Lib.index at h
    by_cases hc : c = 10
    · subst hc; simp at h
    · have h0 : ([10] : List UInt8).isPrefixOf (c :: l) = false := by
        simp [List.isPrefixOf]; exact fun e => hc e.symm
      rw [h0] at h
      have := Lib.index_ge l [10]
      have h1 : Lib.index l [10] = -1 := by
        by_cases h2 : Lib.index l [10] = -1
        · exact h2
        · rw [if_neg (by simp), if_neg (by simpa using h2)] at h
          omega
      exact nl_in c l l [] hc (nl_miss l h1)
theorem nl_hit : ∀ (l : List UInt8) (i : Nat), Lib.index l [10] = i → nl l = l.take i :: nl (l.drop (i + 1))
  | [], i, h => by simp [Lib.index] at h
  | c :: l, i, h => by
    unfold Lib.index at h
    by_cases hc : c = 10
    · subst hc
      rw [if_pos (by simp)] at h
      have : i = 0 := by omega
      subst this
      rfl
    · have h0 : ([10] : List UInt8).isPrefixOf (c :: l) = false := by
        simp [List.isPrefixOf]; exact fun e => hc e.symm
      rw [h0] at h
      have hge := Lib.index_ge l [10]
      by_cases h2 : Lib.index l [10] = -1
      · rw [if_neg (by simp), if_pos (by simpa using h2)] at h
        omega
      · rw [if_neg (by simp), if_neg (by simpa using h2)] at h
        obtain ⟨j, rfl⟩ : ∃ j, i = j + 1 := ⟨i - 1, by omega⟩
        exact nl_in c l _ _ hc (nl_hit l j (by omega))
/-- what a parse of lines gives: the acts; the lines that are none, by number and first word -/
def pm : Nat → Nat → List (List UInt8) → List Ac × List (Nat × ByteArray)
  | at_, k, [] => ([], [])
  | at_, k, x :: r => if 400 ≤ k then ([], []) else if x = [] then pm (at_ + 1) k r else match lineM ⟨x.toArray⟩ with
    | some a => (a :: (pm (at_ + 1) (k + 1) r).1, (pm (at_ + 1) (k + 1) r).2)
    | none => ((pm (at_ + 1) (k + 1) r).1, (at_, hdw ⟨x.toArray⟩) :: (pm (at_ + 1) (k + 1) r).2)
theorem pm_full (p k : Nat) (h : 400 ≤ k) (l : List (List UInt8)) : pm p k l = ([], []) := by
  cases l with
  | nil => rfl
  | cons x r => unfold pm; rw [if_pos h]
theorem pm_nil (p k : Nat) : pm p k [[]] = ([], []) := by
  unfold pm
  split
  · rfl
  · rfl
/-- a text that is cut at its first line end -/
theorem pm_cut (p k : Nat) (s : List UInt8) : pm p k (nl s) = pm p k ((Lib.cut s [10]).1 :: nl (Lib.cut s [10]).2.1) := by
  unfold Lib.cut
  by_cases h : 0 ≤ Lib.index s [10]
  · rw [if_pos h]
    obtain ⟨i, hi⟩ : ∃ i : Nat, Lib.index s [10] = i := ⟨(Lib.index s [10]).toNat, by omega⟩
    rw [nl_hit s i hi, hi]
    simp
  · rw [if_neg h]
    have hge := Lib.index_ge s [10]
    rw [nl_miss s (by omega)]
    show pm p k [s] = pm p k [s, []]
    unfold pm
    split
    · rfl
    · split
      · rw [pm_nil]; rfl
      · cases lineM ⟨s.toArray⟩ <;> simp [pm_nil] <;> exact ⟨rfl, rfl⟩
theorem cut_len (s : List UInt8) (h : s ≠ []) : (Lib.cut s [10]).2.1.length < s.length := by
  unfold Lib.cut
  have h0 : 0 < s.length := List.length_pos_iff.2 h
  split
  · simp; omega
  · simpa using h0
/-- how many a parse gives, where there are few lines -/
theorem pm_few : ∀ (l : List (List UInt8)) (p k : Nat), k + l.length ≤ 400 → (pm p k l).1.length + (pm p k l).2.length ≤ l.length
  | [], p, k, h => by simp [pm]
  | x :: r, p, k, h => by
    unfold pm
    simp at h
    have ih := pm_few r (p + 1) (k + 1) (by omega)
    have ih0 := pm_few r (p + 1) k (by omega)
    split
    · simp
    · split
      · simp; omega
      · split <;> simp <;> omega
/-- the acts of lines -/
def acts (l : List (List UInt8)) : List Ac := l.filterMap fun x => if x = [] then none else lineM ⟨x.toArray⟩
/-- how many lines are none -/
def bad (l : List (List UInt8)) : Nat := l.countP fun x => decide (x ≠ []) && (lineM ⟨x.toArray⟩).isNone
theorem pm_is : ∀ (l : List (List UInt8)) (p k : Nat), k + l.length ≤ 400 → (pm p k l).1 = acts l ∧ (pm p k l).2.length = bad l
  | [], p, k, h => ⟨rfl, rfl⟩
  | x :: r, p, k, h => by
    unfold pm
    simp at h
    have ih := pm_is r (p + 1) (k + 1) (by omega)
    have ih0 := pm_is r (p + 1) k (by omega)
    rw [if_neg (by omega)]
    by_cases hx : x = []
    · rw [if_pos hx]
      unfold acts bad at *
      rw [ih0.1, ih0.2]
      simp [hx]
    · rw [if_neg hx]
      unfold acts bad at *
      cases hl : lineM ⟨x.toArray⟩ with
      | some a =>
        show (a :: (pm (p + 1) (k + 1) r).1) = _ ∧ (pm (p + 1) (k + 1) r).2.length = _
        rw [ih.1, ih.2]
        simp [hx, hl]
      | none =>
        show (pm (p + 1) (k + 1) r).1 = _ ∧ (_ :: (pm (p + 1) (k + 1) r).2).length = _
        rw [List.length_cons, ih.1, ih.2]
        simp [hx, hl]
theorem nl_len : ∀ l : List UInt8, (nl l).length ≤ l.length + 1
  | [] => by simp [nl]
  | c :: r => by
    have ih := nl_len r
    unfold nl
    split
    · simp; omega
    · split
      · simp
      · rename_i h; rw [h] at ih; simp at ih ⊢; omega
/-- LINES PUT TOGETHER ARE THE ACTS PUT TOGETHER -/
theorem pm_app (s t : List UInt8) (p k : Nat) (h : k + s.length + t.length + 2 ≤ 400) :
    (pm p k (nl (s ++ 10 :: t))).1 = (pm p k (nl s)).1 ++ (pm p k (nl t)).1 ∧ (pm p k (nl (s ++ 10 :: t))).2.length = (pm p k (nl s)).2.length + (pm p k (nl t)).2.length := by
  have h1 := nl_len s
  have h2 := nl_len t
  rw [nl_app]
  obtain ⟨a1, b1⟩ := pm_is (nl s ++ nl t) p k (by simp; omega)
  obtain ⟨a2, b2⟩ := pm_is (nl s) p k (by omega)
  obtain ⟨a3, b3⟩ := pm_is (nl t) p k (by omega)
  rw [a1, a2, a3, b1, b2, b3]
  unfold acts bad
  simp
end Go.Proofs.YtcgembfdejjliaaGreatDoor
