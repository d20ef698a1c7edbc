/-
  The document's Seconds of a date that there is not: ErrRange.
-/
import Derived.Test.YtfgdfdjoidpejabDoorWhenSec
namespace Go.Proofs.YtfgdfdjoidpejabDoor
open Go.ChangeShapes Go.WideShapes Go.ChangeAt Go.RowKit
set_option linter.unusedVariables false
set_option linter.unusedSimpArgs false
/-- Six numbers that are a date. -/
def OkI (y mo d h mi s : Int) : Prop := ∃ Y MO D H MI S : Nat, y = (Y : Int) ∧ mo = (MO : Int) ∧ d = (D : Int) ∧ h = (H : Int) ∧ mi = (MI : Int) ∧ s = (S : Int) ∧ OkD Y MO D H MI S
end Go.Proofs.YtfgdfdjoidpejabDoor
