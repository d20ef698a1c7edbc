/-
  The calls Add, Mul (and mag) of the document's answer: the sum and the product of any two 64-bit numbers, kept at the ends; nothing in the world turns.
-/
import Derived.Test.YtfgdfdjoidpejabDoorSat
namespace Go.Proofs.YtfgdfdjoidpejabDoor
open Go.ChangeShapes Go.WideShapes Go.ChangeAt Go.RowKit
set_option linter.unusedVariables false
theorem over_div' (M : Int) (m x y : Nat) (hM : M = (m : Int)) (hx : 0 < x) : M / (x : Int) < (y : Int) ↔ m < x * y := by
  rw [over_div M m y x hM hx, Nat.mul_comm]
theorem mul_same' (a b : Int) (h : (a < 0 ∧ b < 0) ∨ (0 ≤ a ∧ 0 ≤ b)) : ((a.natAbs * b.natAbs : Nat) : Int) = a * b := by
  rcases h with ⟨h1, h2⟩ | ⟨h1, h2⟩
  · exact mul_same a b (.inl ⟨h1, h2⟩)
  · rw [← Int.natAbs_mul, Int.natAbs_of_nonneg (Int.mul_nonneg h1 h2)]
theorem mul_other' (a b : Int) (h : (a < 0 ∧ 0 ≤ b) ∨ (0 ≤ a ∧ b < 0)) : ((a.natAbs * b.natAbs : Nat) : Int) = -(a * b) := by
  rcases h with ⟨h1, h2⟩ | ⟨h1, h2⟩
  · have := mul_same' (-a) b (by omega); rw [Int.natAbs_neg, Int.neg_mul] at this; exact this
  · have := mul_same' a (-b) (by omega); rw [Int.natAbs_neg, Int.mul_neg] at this; exact this
end Go.Proofs.YtfgdfdjoidpejabDoor
