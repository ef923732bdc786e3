/- Whether a list has a number. -/
import Derived.Test.YtjghgbfagjhdgaaGreatDoorSchR
namespace Go.Proofs.YtjghgbfagjhdgaaGreatDoor
open Go Go.RowKit

theorem getD_at {l : List Nat} {i : Nat} (hi : i < l.length) : l.getD i 0 = l[i] := by simp [List.getD, List.getElem?_eq_getElem hi]
theorem contains_snoc {l : List Nat} {i a : Nat} (hi : i < l.length) (h : l.getD i 0 = a) : decide (a ∈ l) = true := by
  rw [decide_eq_true_eq, ← h, getD_at hi]
  exact List.getElem_mem _
theorem contains_none {l : List Nat} {a : Nat} (h : ∀ i, i < l.length → l.getD i 0 ≠ a) : decide (a ∈ l) = false := by
  rw [decide_eq_false_iff_not]
  intro hm
  obtain ⟨i, hi, e⟩ := List.getElem_of_mem hm
  exact h i hi (by rw [getD_at hi]; exact e)
end Go.Proofs.YtjghgbfagjhdgaaGreatDoor
