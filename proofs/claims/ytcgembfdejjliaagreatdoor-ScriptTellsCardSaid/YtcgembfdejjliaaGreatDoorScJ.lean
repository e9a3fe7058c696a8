/- The document's own line: which shape; what its walk shares. -/
import Derived.Test.YtcgembfdejjliaaGreatDoorScI
import Derived.Test.YtcgembfdejjliaaGreatDoorScW
namespace Go.Proofs.YtcgembfdejjliaaGreatDoor
open Go.RowKit
open Go.PlainAid (bt get_bt bt_le bt_nonneg)
set_option linter.unusedVariables false
set_option linter.unusedSimpArgs false

/-- the act that a line is, by the document -/
def lineD (x : ByteArray) : Option Ac := fnd (hdw x) (wds x).tail shs
def DocP (x : ByteArray) (w : World) : Prop :=
  Calls Tryz.prog 18 #[.string x] w fun r w' => ∃ op, r = .returned (.tuple #[.agg (acC ((lineD x).getD acZ)), .string op, .bool (lineD x).isSome]) ∧ (lineD x = none → op = hdw x) ∧ Below w.heap.size w w'
theorem fnd_miss (w0 : ByteArray) (l2 : List ByteArray) : ∀ l : List Sh, (∀ s ∈ l, s.w ≠ w0) → fnd w0 l2 l = none
  | [], _ => rfl
  | s :: l, h => by
    unfold fnd
    rw [if_neg (h s (by simp))]
    exact fnd_miss w0 l2 l fun t ht => h t (List.mem_cons_of_mem _ ht)
theorem fnd_hit (w0 : ByteArray) (l2 : List ByteArray) : ∀ l : List Sh, (l.map (·.w)).Nodup → ∀ s ∈ l, s.w = w0 → fnd w0 l2 l = s.read l2
  | [], _, s, h, _ => by cases h
  | t :: l, hn, s, h, hw => by
    simp only [List.map_cons, List.nodup_cons] at hn
    unfold fnd
    rcases List.mem_cons.1 h with e | k
    · subst e
      rw [if_pos hw]
      have := fnd_miss w0 l2 l (fun u hu e => hn.1 (by rw [hw, ← e]; exact List.mem_map_of_mem (f := (·.w)) hu))
      rw [this]
      cases s.read l2 <;> rfl
    · have hne : t.w ≠ w0 := fun e => hn.1 (by rw [e, ← hw]; exact List.mem_map_of_mem (f := (·.w)) k)
      rw [if_neg hne]
      exact fnd_hit w0 l2 l hn.2 s k hw
theorem shs_nd : (shs.map (·.w)).Nodup := by decide
theorem lineD_no (x : ByteArray) (h : ∀ s ∈ shs, s.w ≠ hdw x) : lineD x = none := fnd_miss _ _ _ h
theorem lineD_len (x : ByteArray) (s : Sh) (hs : s ∈ shs) (hw : s.w = hdw x) (hl : (wsB x).length ≠ s.fs.size + 1) : lineD x = none := by
  unfold lineD
  rw [fnd_hit _ _ _ shs_nd s hs hw]
  unfold Sh.read
  rw [if_neg]
  have h3 := shs_sz s hs
  rw [List.length_tail]
  by_cases h5 : (wsB x).length ≤ 5
  · rw [wds_few x h5]; have := wsB_len x; omega
  · rw [wds_many x (by omega)]; omega
theorem lineD_go (x : ByteArray) (s : Sh) (hs : s ∈ shs) (hw : s.w = hdw x) (hl : (wsB x).length = s.fs.size + 1) : lineD x = puts ⟨s.k, 0, 0, s.op, 0, 0, ⟨#[]⟩⟩ s.fs.data.toList (wsB x).tail := by
  unfold lineD
  rw [fnd_hit _ _ _ shs_nd s hs hw]
  have h3 := shs_sz s hs
  unfold Sh.read
  rw [wds_few x (by omega), if_pos (by rw [List.length_tail]; omega)]
theorem ws_size : ∀ (l m : List UInt8), m ∈ ws l → m.length ≤ l.length
  | [], m, h => by simp [ws] at h; subst h; exact Nat.le_refl _
  | c :: r, m, h => by
    unfold ws at h
    split at h
    · rcases List.mem_cons.1 h with rfl | h
      · exact Nat.zero_le _
      · have := ws_size r m h; simp; omega
    · split at h
      · simp at h; subst h; simp
      · rename_i q t e
        rcases List.mem_cons.1 h with rfl | h
        · have := ws_size r q (by rw [e]; simp)
          simp; omega
        · have := ws_size r m (by rw [e]; exact List.mem_cons_of_mem _ h)
          simp; omega
theorem cell_fill7 {w : World} {b g o : Nat} {u v0 v1 v2 v3 v4 v5 v6 : Value} (hn : g ≠ b) (h : w.cell? ⟨g, o, none⟩ = some u) : (((((((w.setCell ⟨b, 0, none⟩ v0).setCell ⟨b, 1, none⟩ v1).setCell ⟨b, 2, none⟩ v2).setCell ⟨b, 3, none⟩ v3).setCell ⟨b, 4, none⟩ v4).setCell ⟨b, 5, none⟩ v5).setCell ⟨b, 6, none⟩ v6).cell? ⟨g, o, none⟩ = some u := by
  have e : ∀ (y : World) (k : Nat) (v : Value), (y.setCell ⟨b, k, none⟩ v).heap[g]? = y.heap[g]? := fun y k v => Below.heap_setCell _ _ _ _ hn
  have : (((((((w.setCell ⟨b, 0, none⟩ v0).setCell ⟨b, 1, none⟩ v1).setCell ⟨b, 2, none⟩ v2).setCell ⟨b, 3, none⟩ v3).setCell ⟨b, 4, none⟩ v4).setCell ⟨b, 5, none⟩ v5).setCell ⟨b, 6, none⟩ v6).heap[g]? = w.heap[g]? := by rw [e, e, e, e, e, e, e]
  rw [← h]
  unfold World.cell?
  simp only [this]
end Go.Proofs.YtcgembfdejjliaaGreatDoor
