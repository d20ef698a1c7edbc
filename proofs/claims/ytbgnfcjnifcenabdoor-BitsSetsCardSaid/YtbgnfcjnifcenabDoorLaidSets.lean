/-
  What the row's list gives of the table of swaps: its ten cells, as the program's text lays them.
-/
import Derived.Test.YtbgnfcjnifcenabDoorSwap
import Derived.OpenShut
import Derived.Lib.LaidTab
namespace Go.Proofs.YtbgnfcjnifcenabDoor
open Go.ChangeShapes Go.WideShapes Go.ChangeAt Go.RowKit
set_option linter.unusedVariables false
set_option linter.unusedSimpArgs false
theorem grown_trans {a b c : World} (h : Grown a b) (k : Grown b c) : Grown a c :=
  ⟨World.keptBut_trans h.1 k.1, fun x => (k.2.1 x).trans (h.2.1 x), Nat.le_trans h.2.2 k.2.2⟩
theorem cellsPair : Tryd.prog.cellsOf 42 = 2 := by kernel_rfl
theorem cellsSwaps : Tryd.prog.cellsOf 43 = 10 := by kernel_rfl
theorem cellsU32 : Tryd.prog.cellsOf 28 = 1 := by kernel_rfl
theorem cellsUint : Tryd.prog.cellsOf 41 = 1 := by kernel_rfl
theorem pair_cells {H : Type} {enc : TypeId × Value → H} {w : World} {base : Nat} {sp : Nat → Bool} {held : Bool} {fuel : Nat} {cs : List Value} {a b : Int} {p : List MemPlace}
    (h : DataW.trod enc Tryd.prog w base sp held fuel 42 cs = some (.agg [.lit (.int .u32 a), .lit (.int .u64 b)], p)) : cs = [.int .u32 a, .int .u64 b] := by
  obtain ⟨y0, y1, n, hx, hl, h0, h1⟩ := trod_struct2 Tryd.underlying42 h
  obtain ⟨z0, e0, rfl, _⟩ := DataW.trod_int Tryd.underlying28 h0
  obtain ⟨z1, e1, rfl, _⟩ := DataW.trod_int Tryd.underlying41 h1
  simp only [Prod.mk.injEq, DataW.agg.injEq, List.cons.injEq, DataW.lit.injEq, Lit.int.injEq, true_and, and_true] at hx
  obtain ⟨⟨rfl, rfl⟩, _⟩ := hx
  rw [cellsPair] at hl
  rw [cellsU32] at e0
  rw [cellsUint] at e1
  match cs, hl with
  | [c0, c1], _ =>
    simp at e0 e1
    rw [e0, e1]
theorem swaps_cells {H : Type} {enc : TypeId × Value → H} {w : World} {base : Nat} {sp : Nat → Bool} {held : Bool} {fuel : Nat} {cs : List Value} {p : List MemPlace}
    (h : DataW.trod enc Tryd.prog w base sp held fuel 43 cs = some (Rows.laid_chartulary_bits_swaps, p)) :
    cs = [.int .u32 1431655765, .int .u64 1, .int .u32 858993459, .int .u64 2, .int .u32 252645135, .int .u64 4, .int .u32 16711935, .int .u64 8, .int .u32 65535, .int .u64 16] := by
  obtain ⟨xs, m, rfl, hx, hl, hlen, hf⟩ := DataW.trod_array Tryd.underlying43 h
  rw [cellsPair] at hf
  rw [cellsSwaps] at hl
  match xs, hlen with
  | [x0, x1, x2, x3, x4], _ =>
    have hd := congrArg Prod.fst hx
    simp only [Rows.laid_chartulary_bits_swaps, DataW.agg.injEq, List.map_cons, List.map_nil, List.cons.injEq, and_true] at hd
    obtain ⟨d0, d1, d2, d3, d4⟩ := hd
    obtain ⟨x0a, x0b⟩ := x0
    obtain ⟨x1a, x1b⟩ := x1
    obtain ⟨x2a, x2b⟩ := x2
    obtain ⟨x3a, x3b⟩ := x3
    obtain ⟨x4a, x4b⟩ := x4
    subst d0 d1 d2 d3 d4
    have p0 := pair_cells (hf 0 (by decide))
    have p1 := pair_cells (hf 1 (by decide))
    have p2 := pair_cells (hf 2 (by decide))
    have p3 := pair_cells (hf 3 (by decide))
    have p4 := pair_cells (hf 4 (by decide))
    match cs, hl with
    | [c0, c1, c2, c3, c4, c5, c6, c7, c8, c9], _ =>
      simp at p0 p1 p2 p3 p4
      simp [p0, p1, p2, p3, p4]
theorem gTab : Tryd.prog.globalNamed (Rows.bitsSetsRow.laid.map (·.1))[0]! = some 0 := by kernel_rfl
theorem gTabType : (Tryd.prog.globals[0]?).map (·.type) = some 43 := by kernel_rfl
theorem table {W : World} (h : laidMetH Tryd.prog Rows.bitsSetsRow.laid W) : SwapTab W := by
  have h' : laidMet Tryd.prog Rows.bitsSetsRow.laid W := h
  obtain ⟨ps, ⟨g', t', cs, fuel, p, q, hg', ht', hvar, hd, _, _⟩, _⟩ := h'
  obtain rfl : 0 = g' := Option.some.inj (gTab.symm.trans hg')
  obtain rfl : 43 = t' := Option.some.inj (gTabType.symm.trans ht')
  obtain ⟨l⟩ := cs
  have e := swaps_cells hd
  simp only [] at e
  subst e
  have hc := World.var?_cell hg' hvar
  have c0 := hc 0
  have c1 := hc 1
  have c2 := hc 2
  have c3 := hc 3
  have c4 := hc 4
  have c5 := hc 5
  have c6 := hc 6
  have c7 := hc 7
  have c8 := hc 8
  have c9 := hc 9
  exact ⟨c0, c1, c2, c3, c4, c5, c6, c7, c8, c9, World.block_lt_of_cell? W _ c0⟩
end Go.Proofs.YtbgnfcjnifcenabDoor
