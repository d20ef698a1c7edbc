/-
  Put and Get of package bits and of the document's answer: which bytes, which number, which error, at any input; what is made lies in new memory.
-/
import Derived.Test.YtngojkleehgbaaaBytes
namespace Go.Proofs.Ytngojkleehgbaaa
open Go.ChangeShapes Go.WideShapes Go.ChangeAt Go.RowKit
set_option linter.unusedVariables false
set_option linter.unusedSimpArgs false
def be (n : Int) : Nat → List Int
  | 0 => []
  | s + 1 => be (n / 256) s ++ [n % 256]
theorem be_length (n : Int) (s : Nat) : (be n s).length = s := by
  induction s generalizing n with
  | zero => rfl
  | succ s ih => simp [be, ih]
def putL (n s : Int) : List Int := if 1 ≤ s ∧ s ≤ 8 ∧ n < 256 ^ s.toNat then be n s.toNat else []
def putErr (n s : Int) : Int := if s < 1 ∨ 8 < s then 1 else if n < 256 ^ s.toNat then 0 else 4
def getV (xs : List Int) : Int := if 1 ≤ xs.length ∧ xs.length ≤ 8 then val xs else 0
def getErr (xs : List Int) : Int := if 1 ≤ xs.length ∧ xs.length ≤ 8 then 0 else 1
end Go.Proofs.Ytngojkleehgbaaa
