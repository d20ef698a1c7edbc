/-
  What the row's list gives of the table of factors: its 64 cells, as the program's text lays them.
-/
import Derived.Test.YtmaaakcfbekboaaDoorShaMix
import Derived.OpenShut
import Derived.Lib.LaidTab
namespace Go.Proofs.YtmaaakcfbekboaaDoor
open Go.ChangeShapes Go.WideShapes Go.ChangeAt Go.RowKit
set_option linter.unusedVariables false
def factZ : List Int := [1116352408, 1899447441, 3049323471, 3921009573, 961987163, 1508970993, 2453635748, 2870763221, 3624381080, 310598401, 607225278, 1426881987, 1925078388, 2162078206, 2614888103, 3248222580, 3835390401, 4022224774, 264347078, 604807628, 770255983, 1249150122, 1555081692, 1996064986, 2554220882, 2821834349, 2952996808, 3210313671, 3336571891, 3584528711, 113926993, 338241895, 666307205, 773529912, 1294757372, 1396182291, 1695183700, 1986661051, 2177026350, 2456956037, 2730485921, 2820302411, 3259730800, 3345764771, 3516065817, 3600352804, 4094571909, 275423344, 430227734, 506948616, 659060556, 883997877, 958139571, 1322822218, 1537002063, 1747873779, 1955562222, 2024104815, 2227730452, 2361852424, 2428436474, 2756734187, 3204031479, 3329325298]
theorem gFact : Tryd.prog.globalNamed (Rows.shaSumsRow.laid.map (·.1))[0]! = some 0 := by kernel_rfl
theorem gFactType : (Tryd.prog.globals[0]?).map (·.type) = some 62 := by kernel_rfl
theorem cellsFact : Tryd.prog.cellsOf 62 = 64 := by kernel_rfl
theorem cellsU32 : Tryd.prog.cellsOf 42 = 1 := by kernel_rfl
theorem factZ_at : ∀ i : Fin 64, factZ[i.val]? = some ((factorsN.getD i.val 0 : Nat) : Int) := by rw [factors_are]; decide +kernel
theorem table {W : World} (h : laidMetH Tryd.prog Rows.shaSumsRow.laid W) : Tab W := by
  have h' : laidMet Tryd.prog Rows.shaSumsRow.laid W := h
  obtain ⟨ps, ⟨g', t', cs, fuel, p, q, hg', ht', hvar, hd, _, _⟩, _⟩ := h'
  obtain rfl : 0 = g' := Option.some.inj (gFact.symm.trans hg')
  obtain rfl : 62 = t' := Option.some.inj (gFactType.symm.trans ht')
  obtain ⟨l⟩ := cs
  have e := Lib.cells_of_tab (zs := factZ) Tryd.underlying62 Tryd.underlying42 cellsU32 cellsFact hd
  simp only [] at e
  subst e
  have hc := World.var?_cell hg' hvar
  have hall : ∀ i, i < 64 → W.cell? ⟨0, i, none⟩ = some (.int .u32 (factorsN.getD i 0 : Nat)) := by
    intro i hi
    rw [hc i]
    have := factZ_at ⟨i, hi⟩
    simp only [] at this
    simp [this]
  exact ⟨World.block_lt_of_cell? W _ (hall 0 (by decide)), hall⟩
end Go.Proofs.YtmaaakcfbekboaaDoor
