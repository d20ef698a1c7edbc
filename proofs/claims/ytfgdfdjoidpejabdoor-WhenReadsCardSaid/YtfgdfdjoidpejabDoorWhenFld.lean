/-
  The document's Fields of any moment.
-/
import Derived.Test.YtfgdfdjoidpejabDoorWhenSec
import Derived.Test.YtfgdfdjoidpejabDoorStructs
namespace Go.Proofs.YtfgdfdjoidpejabDoor
open Go.ChangeShapes Go.WideShapes Go.ChangeAt Go.RowKit
set_option linter.unusedVariables false
set_option linter.unusedSimpArgs false
theorem date_enc (y mo d h mi s : Nat) : dateV y mo d h mi s = .agg (encL .i64 [y, mo, d, h, mi, s]) := rfl
end Go.Proofs.YtfgdfdjoidpejabDoor
