/-
  The document's Text of any moment: a date's twenty letters.
-/
import Derived.Test.YtfgdfdjoidpejabDoorWhenFld
import Derived.Test.YtfgdfdjoidpejabDoorTexts
import Derived.Test.YtfgdfdjoidpejabDoorHeld
namespace Go.Proofs.YtfgdfdjoidpejabDoor
open Go.ChangeShapes Go.WideShapes Go.ChangeAt Go.RowKit
set_option linter.unusedVariables false
set_option linter.unusedSimpArgs false
def twoN (n : Nat) : List Nat := [48 + n / 10 % 10, 48 + n % 10]
/-- A date's twenty letters. -/
def textN (y mo d h mi s : Nat) : List Nat := twoN (y / 100) ++ twoN (y % 100) ++ [45] ++ twoN mo ++ [45] ++ twoN d ++ [84] ++ twoN h ++ [58] ++ twoN mi ++ [58] ++ twoN s ++ [90]
theorem text_length (y mo d h mi s : Nat) : (textN y mo d h mi s).length = 20 := rfl
theorem add_fact (A B C : ByteArray) (n m : Nat) (hA : A.size = n) (hB : B.size = m) (h : n + m ≤ 1000) (hC : A ++ B = C) : (∀ W, (Op.stringOp .add A B).run Tryd.prog W = .ok (.string C) W) ∧ C.size = n + m := by
  refine ⟨fun W => ?_, by rw [← hC, ByteArray.size_append, hA, hB]⟩
  rw [run_string_add_sum W _ _ (by rw [hA, hB]; omega), hC]
theorem two_size (n : Nat) : (strN (twoN n)).size = 2 := by rw [strN_size]; rfl
end Go.Proofs.YtfgdfdjoidpejabDoor
