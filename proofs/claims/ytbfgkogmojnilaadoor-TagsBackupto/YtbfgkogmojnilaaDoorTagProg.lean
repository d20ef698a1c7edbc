/-
  The landed program's contracts, all of layer 8; where the document's Within holds of sound tags, the program's does.
-/
import Derived.Test.YtbfgkogmojnilaaDoorTagPMerge
import Derived.Test.YtbfgkogmojnilaaDoorTagPText
namespace Go.Proofs.YtbfgkogmojnilaaDoor
open Go.ChangeShapes Go.WideShapes Go.ChangeAt Go.RowKit
set_option linter.unusedVariables false
set_option linter.unusedSimpArgs false
theorem get_mem : ∀ (ts : List (ByteArray × ByteArray)) (nm v : ByteArray), getB ts nm = some v → (nm, v) ∈ ts
  | [], nm, v, h => by cases h
  | t :: ts, nm, v, h => by
    rw [getB] at h
    split at h
    · rename_i he
      cases h
      rw [← (eqB_iff t.1 nm).1 he]
      exact List.mem_cons_self
    · exact List.mem_cons_of_mem _ (get_mem ts nm v h)
theorem within_all {us ts : List (ByteArray × ByteArray)} (h : withinB us ts = true) : allB us ts = true := by
  induction us with
  | nil => rfl
  | cons u us ih =>
    rw [withinB, Bool.and_eq_true] at h
    rw [allB, ih h.2, Bool.and_true, hasB_iff]
    cases hg : getB ts u.1 with
    | none => rw [hg] at h; cases h.1
    | some v =>
      rw [hg] at h
      have e := (eqB_iff v u.2).1 h.1
      have := get_mem ts u.1 v hg
      rw [e] at this
      exact this
end Go.Proofs.YtbfgkogmojnilaaDoor
