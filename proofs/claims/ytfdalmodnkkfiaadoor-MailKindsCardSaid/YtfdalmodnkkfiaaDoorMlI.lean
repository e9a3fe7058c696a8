/- MailKinds: the walk. -/
import Derived.Test.YtfdalmodnkkfiaaDoorMlN
import Derived.Test.YtfdalmodnkkfiaaDoorHist
namespace Go.Proofs.YtfdalmodnkkfiaaDoor
open Go.RowKit
set_option linter.unusedVariables false
set_option linter.unusedSimpArgs false

theorem wrong_last {cs : List Cd} {d : Cd} (h : cdRB d = false) : (cs ++ [d]).any (fun x => !(cdRB x)) = true := any_yes (x := d) (by simp) h
theorem up9 : kyB ((⟨#[97]⟩, ⟨#[]⟩) : Ky) = false := by decide +kernel
theorem keys_sz : ∀ y ∈ ([(⟨#[97]⟩, ⟨#[98]⟩), (⟨#[97]⟩, ⟨#[]⟩)] : List Ky), y.1.size ≤ maxLen ∧ y.2.size ≤ maxLen := by
  have h : (⟨#[97]⟩ : ByteArray).size ≤ maxLen ∧ (⟨#[98]⟩ : ByteArray).size ≤ maxLen ∧ (⟨#[]⟩ : ByteArray).size ≤ maxLen := ⟨by simp [maxLen, ByteArray.size], by simp [maxLen, ByteArray.size], by simp [maxLen, ByteArray.size]⟩
  intro y hy
  simp only [List.mem_cons, List.not_mem_nil, or_false] at hy
  rcases hy with rfl | rfl
  · exact ⟨h.1, h.2.1⟩
  · exact ⟨h.1, h.2.2⟩
theorem keys2 (w : World) (a b c d : ByteArray) : KyAt (w.alloc (.cells #[.string a, .string b, .string c, .string d] 24)) (some ⟨w.heap.size, 0, none⟩) [(a, b), (c, d)] := by
  refine .inr ⟨_, _, rfl, ⟨_, blk_new _ _ _⟩, fun q u hq => ?_⟩
  rw [Nat.zero_add, blk_cell (blk_new _ _ _)]
  simpa [flat, ky] using hq
end Go.Proofs.YtfdalmodnkkfiaaDoor
