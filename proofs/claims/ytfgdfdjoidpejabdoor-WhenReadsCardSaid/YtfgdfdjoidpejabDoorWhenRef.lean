/-
  The document's small functions of layer 5: leap, length, year, Clamp, Days, Weekday, two.
-/
import Derived.Test.YtfgdfdjoidpejabDoorWhenMath
import Derived.Test.YtfgdfdjoidpejabDoorSatRef
namespace Go.Proofs.YtfgdfdjoidpejabDoor
open Go.ChangeShapes Go.WideShapes Go.ChangeAt Go.RowKit
set_option linter.unusedVariables false
set_option linter.unusedSimpArgs false
def clampN (t : Int) : Int := if t < -62135596800 then -62135596800 else if 253402300799 < t then 253402300799 else t
theorem clamp_bound (t : Int) : -62135596800 ≤ clampN t ∧ clampN t ≤ 253402300799 := by
  unfold clampN
  repeat' split
  all_goals omega
theorem clamp_in {t : Int} (h0 : -62135596800 ≤ t) (h1 : t ≤ 253402300799) : clampN t = t := by unfold clampN; rw [if_neg (by omega), if_neg (by omega)]
theorem sat_bound (x : Int) : -9223372036854775808 ≤ sat x ∧ sat x ≤ 9223372036854775807 := by
  unfold sat
  repeat' split
  all_goals omega
def daysN (t n : Int) : Int := clampN (sat (clampN t + sat (n * 86400)))
def weekN (t : Int) : Int := (t + 62135596800) / 86400 % 7
end Go.Proofs.YtfgdfdjoidpejabDoor
