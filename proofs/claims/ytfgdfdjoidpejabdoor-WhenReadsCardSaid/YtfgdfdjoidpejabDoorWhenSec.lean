/-
  The document's Seconds of any date.
-/
import Derived.Test.YtfgdfdjoidpejabDoorWhenRef
import Derived.Test.YtfgdfdjoidpejabDoorWords
import Derived.Deep.QuietTactic
import Derived.BigQuiet
import Derived.Below
namespace Go.Proofs.YtfgdfdjoidpejabDoor
open Go.ChangeShapes Go.WideShapes Go.ChangeAt Go.RowKit
set_option linter.unusedVariables false
set_option linter.unusedSimpArgs false
/-- A date as a value. -/
def dateV (y mo d h mi s : Int) : Value := .agg #[.int .i64 y, .int .i64 mo, .int .i64 d, .int .i64 h, .int .i64 mi, .int .i64 s]
end Go.Proofs.YtfgdfdjoidpejabDoor
