/-
  The document's Next and Group, as plain functions of lists.
-/
import Derived.Test.YtbfgkogmojnilaaDoorLabelRef
namespace Go.Proofs.YtbfgkogmojnilaaDoor
open Go.ChangeShapes Go.WideShapes Go.ChangeAt Go.RowKit
set_option linter.unusedVariables false
set_option linter.unusedSimpArgs false
theorem str_to (s : ByteArray) (k : Nat) (kd : IntKind) (h : k ≤ s.size) (W : World) : (Instr.slice 9 (.string s) none (some (.int kd (k : Nat))) none).run Tryd.prog W = .ok (.string (s.extract 0 k)) W := by
  rw [run_slice_string_h W _ s Tryd.underlying9 kd (k : Nat) (by omega) (by omega), Int.toNat_natCast]
theorem str_from (s : ByteArray) (k : Nat) (kd : IntKind) (h : k ≤ s.size) (W : World) : (Instr.slice 9 (.string s) (some (.int kd (k : Nat))) none none).run Tryd.prog W = .ok (.string (s.extract k s.size)) W := by
  rw [run_slice_string_l W _ s Tryd.underlying9 kd (k : Nat) (by omega) (by omega), Int.toNat_natCast]
/-- A text that is told, or none. -/
def optR (o : Option (List Nat)) : Value := match o with | some l => .tuple #[.string (strN l), .bool true] | none => .tuple #[.string (strN []), .bool false]
theorem empty_txt (M : ByteArray) : M.toList.isEmpty = decide (txt M = []) := by
  rw [← toList_txt]
  cases M.toList <;> simp
theorem empty_iff (M : ByteArray) : M.toList = [] ↔ txt M = [] := by
  rw [← toList_txt]
  cases M.toList <;> simp
end Go.Proofs.YtbfgkogmojnilaaDoor
