/-
  The document's Parse of any text.
-/
import Derived.Test.YtfgdfdjoidpejabDoorWhenSecBad
import Derived.Test.YtfgdfdjoidpejabDoorWhenForm
import Derived.Test.YtfgdfdjoidpejabDoorWhenText
namespace Go.Proofs.YtfgdfdjoidpejabDoor
open Go.ChangeShapes Go.WideShapes Go.ChangeAt Go.RowKit
set_option linter.unusedVariables false
set_option linter.unusedSimpArgs false
/-- What Parse answers. -/
def ParseR (l : List Nat) (v : Value) : Prop :=
  (¬ PForm l ∧ v = .tuple #[.int .i64 0, .int .i64 5]) ∨
  (PForm l ∧ ∃ y mo d h mi s : Nat, arrAt l 20 = [y, mo, d, h, mi, s] ∧ ((OkD y mo d h mi s ∧ v = .tuple #[.int .i64 ((secN y mo d h mi s : Int) - 62135596800), .int .i64 0]) ∨ (¬ OkD y mo d h mi s ∧ v = .tuple #[.int .i64 0, .int .i64 4])))
theorem six_list (l : List Nat) : ∃ y mo d h mi s : Nat, arrAt l 20 = [y, mo, d, h, mi, s] := ⟨_, _, _, _, _, _, rfl⟩
theorem okI_nat {y mo d h mi s : Nat} (hn : ¬ OkD y mo d h mi s) : ¬ OkI y mo d h mi s := by
  rintro ⟨Y, MO, D, H, MI, S, e1, e2, e3, e4, e5, e6, hk⟩
  have := Int.ofNat_inj.1 e1
  have := Int.ofNat_inj.1 e2
  have := Int.ofNat_inj.1 e3
  have := Int.ofNat_inj.1 e4
  have := Int.ofNat_inj.1 e5
  have := Int.ofNat_inj.1 e6
  subst_vars
  exact hn hk
end Go.Proofs.YtfgdfdjoidpejabDoor
