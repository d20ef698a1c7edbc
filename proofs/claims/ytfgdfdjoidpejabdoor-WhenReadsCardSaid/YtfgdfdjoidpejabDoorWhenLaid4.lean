/-
  What the row's list gives of the table of months and of the table of powers, as the program's text lays them.
-/
import Derived.Test.YtfgdfdjoidpejabDoorWhenNumer
import Derived.Test.YtfgdfdjoidpejabDoorWhenDate
import Derived.OpenShut
import Derived.Lib.LaidTab
namespace Go.Proofs.YtfgdfdjoidpejabDoor
open Go.ChangeShapes Go.WideShapes Go.ChangeAt Go.RowKit
set_option linter.unusedVariables false
def moZ4 : List Int := [0, 31, 59, 90, 120, 151, 181, 212, 243, 273, 304, 334, 365]
theorem gMo4 : Tryd.prog.globalNamed "chartulary/when.monthDays" = some 0 := by kernel_rfl
theorem gMoType4 : (Tryd.prog.globals[0]?).map (·.type) = some 62 := by kernel_rfl
theorem cellsMo4 : Tryd.prog.cellsOf 62 = 13 := by kernel_rfl
theorem cellsI644 : Tryd.prog.cellsOf 3 = 1 := by kernel_rfl
theorem moZ_at4 : ∀ i : Fin 13, moZ4[i.val]? = some ((moN.getD i.val 0 : Nat) : Int) := by decide +kernel
theorem gPw : Tryd.prog.globalNamed "internal/strconv.uint64pow10" = some 1 := by kernel_rfl
theorem gPwType : (Tryd.prog.globals[1]?).map (·.type) = some 64 := by kernel_rfl
theorem cellsPw : Tryd.prog.cellsOf 64 = 20 := by kernel_rfl
theorem cellsU64 : Tryd.prog.cellsOf 34 = 1 := by kernel_rfl
def Tab4 (w : World) : Prop := Tab w ∧ TabP w
theorem Tab4.below {w w' : World} (h : Tab4 w) (hb : Below w.heap.size w w') : Tab4 w' := ⟨h.1.own hb, h.2.below hb⟩
theorem table4 {W : World} (h : laidMetH Tryd.prog [("math/bits.deBruijn32tab", Rows.laid_math_bits_deBruijn32tab), ("math/bits.deBruijn64tab", Rows.laid_math_bits_deBruijn64tab), ("internal/strconv.uint64pow10", Rows.laid_internal_strconv_uint64pow10), ("chartulary/when.monthDays", Rows.laid_chartulary_when_monthDays)] W) : Tab4 W := by
  have h' : laidMet Tryd.prog [("math/bits.deBruijn32tab", Rows.laid_math_bits_deBruijn32tab), ("math/bits.deBruijn64tab", Rows.laid_math_bits_deBruijn64tab), ("internal/strconv.uint64pow10", Rows.laid_internal_strconv_uint64pow10), ("chartulary/when.monthDays", Rows.laid_chartulary_when_monthDays)] W := h
  obtain ⟨ps, ⟨_, _, _, _, _, _, _, _, _, _, ⟨_, _, _, _, _, _, _, _, _, _, ⟨g3, t3, c3, f3, p3, q3, hg3, ht3, hv3, hd3, ⟨g4, t4, c4, f4, p4, q4, hg4, ht4, hv4, hd4, _, _⟩, _⟩, _⟩, _⟩, _⟩ := h'
  constructor
  · obtain rfl : 0 = g4 := Option.some.inj (gMo4.symm.trans hg4)
    obtain rfl : 62 = t4 := Option.some.inj (gMoType4.symm.trans ht4)
    obtain ⟨l⟩ := c4
    have e := Lib.cells_of_tab (zs := moZ4) Tryd.underlying62 Tryd.underlying3 cellsI644 cellsMo4 hd4
    simp only [] at e
    subst e
    have hc := World.var?_cell hg4 hv4
    have hall : ∀ i, i < 13 → W.cell? ⟨0, i, none⟩ = some (.int .i64 (moN.getD i 0 : Nat)) := by
      intro i hi
      rw [hc i]
      have := moZ_at4 ⟨i, hi⟩
      simp only [] at this
      simp [this]
    exact ⟨World.block_lt_of_cell? W _ (hall 0 (by decide)), hall⟩
  · obtain rfl : 1 = g3 := Option.some.inj (gPw.symm.trans hg3)
    obtain rfl : 64 = t3 := Option.some.inj (gPwType.symm.trans ht3)
    have e := Lib.cells_of_tab (zs := Lib.pow10Tab) Tryd.underlying64 Tryd.underlying34 cellsU64 cellsPw hd3
    unfold TabP Lib.TabIs
    rw [hv3, ← e]
end Go.Proofs.YtfgdfdjoidpejabDoor
