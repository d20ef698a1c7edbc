/-
  What the library's variables hold, on the roads of names and tags.
-/
import Derived.Test.YtbfgkogmojnilaaDoorTexts
import Derived.Test.YtbfgkogmojnilaaDoorShelf
import Derived.Lib.LaidU8T
import Derived.Below
namespace Go.Proofs.YtbfgkogmojnilaaDoor
open Go.ChangeShapes Go.WideShapes Go.ChangeAt Go.RowKit
set_option linter.unusedVariables false
set_option linter.unusedSimpArgs false
/-- What the library's variables hold: the two tables of utf8 as Go's text lays them, and in MaxLen whatever number. -/
def Tab6 (w : World) : Prop := Lib.Utf8Tabs 1 2 w ∧ ∃ m, w.cell? ⟨0, 0, none⟩ = some (.int .i64 m)
theorem Tab6.below {w w' : World} (h : Tab6 w) (hb : Below w.heap.size w w') : Tab6 w' := by
  refine ⟨Utf8Tabs_below h.1 hb, ?_⟩
  obtain ⟨m, hm⟩ := h.2
  exact ⟨m, (hb.cell (p := ⟨0, 0, none⟩) (World.block_lt_of_cell? _ _ hm)).trans hm⟩
theorem Tab6.below' {w w' : World} {B : Nat} (h : Tab6 w) (hb : Below B w w') (hB : w.heap.size ≤ B) : Tab6 w' := h.below (hb.mono hB)
end Go.Proofs.YtbfgkogmojnilaaDoor
