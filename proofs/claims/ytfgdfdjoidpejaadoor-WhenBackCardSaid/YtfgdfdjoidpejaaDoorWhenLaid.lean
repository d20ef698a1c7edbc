/-
  What the row's list gives of the table of months: its 13 cells, as the program's text lays them.
-/
import Derived.Test.YtfgdfdjoidpejaaDoorWhenDate
import Derived.OpenShut
import Derived.Lib.LaidTab
namespace Go.Proofs.YtfgdfdjoidpejaaDoor
open Go.ChangeShapes Go.WideShapes Go.ChangeAt Go.RowKit
set_option linter.unusedVariables false
def moZ : List Int := [0, 31, 59, 90, 120, 151, 181, 212, 243, 273, 304, 334, 365]
theorem gMo : Tryd.prog.globalNamed (Rows.whenSecondsRow.laid.map (·.1))[0]! = some 0 := by kernel_rfl
theorem gMoType : (Tryd.prog.globals[0]?).map (·.type) = some 73 := by kernel_rfl
theorem cellsMo : Tryd.prog.cellsOf 73 = 13 := by kernel_rfl
theorem cellsI64 : Tryd.prog.cellsOf 3 = 1 := by kernel_rfl
theorem moZ_at : ∀ i : Fin 13, moZ[i.val]? = some ((moN.getD i.val 0 : Nat) : Int) := by decide +kernel
theorem table {W : World} (h : laidMetH Tryd.prog Rows.whenSecondsRow.laid W) : Tab W := by
  have h' : laidMet Tryd.prog Rows.whenSecondsRow.laid W := h
  obtain ⟨ps, ⟨g', t', cs, fuel, p, q, hg', ht', hvar, hd, _, _⟩, _⟩ := h'
  obtain rfl : 0 = g' := Option.some.inj (gMo.symm.trans hg')
  obtain rfl : 73 = t' := Option.some.inj (gMoType.symm.trans ht')
  obtain ⟨l⟩ := cs
  have e := Lib.cells_of_tab (zs := moZ) Tryd.underlying73 Tryd.underlying3 cellsI64 cellsMo hd
  simp only [] at e
  subst e
  have hc := World.var?_cell hg' hvar
  have hall : ∀ i, i < 13 → W.cell? ⟨0, i, none⟩ = some (.int .i64 (moN.getD i 0 : Nat)) := by
    intro i hi
    rw [hc i]
    have := moZ_at ⟨i, hi⟩
    simp only [] at this
    simp [this]
  exact ⟨World.block_lt_of_cell? W _ (hall 0 (by decide)), hall⟩
end Go.Proofs.YtfgdfdjoidpejaaDoor
