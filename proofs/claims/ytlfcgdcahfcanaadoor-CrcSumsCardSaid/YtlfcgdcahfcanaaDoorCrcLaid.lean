/-
  What the row's list gives of the table of halves: its sixteen cells, as the program's text lays them.
-/
import Derived.Test.YtlfcgdcahfcanaaDoorCrcAwake
import Derived.OpenShut
import Derived.Lib.LaidTab
namespace Go.Proofs.YtlfcgdcahfcanaaDoor
open Go.ChangeShapes Go.WideShapes Go.ChangeAt Go.RowKit
set_option linter.unusedVariables false
def halfZ : List Int := [0, 274646895, 549293790, 820201905, 1098587580, 1361435347, 1640403810, 1905808397, 2197175160, 2460548119, 2722870694, 2987750089, 3280807620, 3553878443, 3811616794, 4084100981]
theorem gHalf : Tryd.prog.globalNamed (Rows.crcSumsRow.laid.map (·.1))[0]! = some 0 := by kernel_rfl
theorem gHalfType : (Tryd.prog.globals[0]?).map (·.type) = some 40 := by kernel_rfl
theorem cellsHalf : Tryd.prog.cellsOf 40 = 16 := by kernel_rfl
theorem cellsU32 : Tryd.prog.cellsOf 24 = 1 := by kernel_rfl
theorem halfZ_at : ∀ i : Fin 16, halfZ[i.val]? = some ((halfN i.val : Nat) : Int) := by decide +kernel
theorem table {W : World} (h : laidMetH Tryd.prog Rows.crcSumsRow.laid W) : HalfTab W := by
  have h' : laidMet Tryd.prog Rows.crcSumsRow.laid W := h
  obtain ⟨ps, ⟨g', t', cs, fuel, p, q, hg', ht', hvar, hd, _, _⟩, _⟩ := h'
  obtain rfl : 0 = g' := Option.some.inj (gHalf.symm.trans hg')
  obtain rfl : 40 = t' := Option.some.inj (gHalfType.symm.trans ht')
  obtain ⟨l⟩ := cs
  have e := Lib.cells_of_tab (zs := halfZ) Tryd.underlying40 Tryd.underlying24 cellsU32 cellsHalf hd
  simp only [] at e
  subst e
  have hc := World.var?_cell hg' hvar
  have hall : ∀ i, i < 16 → W.cell? ⟨0, i, none⟩ = some (.int .u32 (halfN i : Nat)) := by
    intro i hi
    rw [hc i]
    have := halfZ_at ⟨i, hi⟩
    simp only [] at this
    simp [this]
  exact ⟨World.block_lt_of_cell? W _ (hall 0 (by decide)), hall⟩
end Go.Proofs.YtlfcgdcahfcanaaDoor
