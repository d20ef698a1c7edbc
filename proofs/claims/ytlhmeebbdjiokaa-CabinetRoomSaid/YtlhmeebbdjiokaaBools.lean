/-
  A table of truths in memory.
-/
import Derived.Test.YtlhmeebbdjiokaaHeld
import Derived.Deep.OwnRows
namespace Go.Proofs.Ytlhmeebbdjiokaa
open Go.ChangeShapes Go.WideShapes Go.ChangeAt Go.RowKit
set_option linter.unusedVariables false
set_option linter.unusedSimpArgs false
def encB (l : List Bool) : Array Value := (l.map Value.bool).toArray
theorem encB_get (l : List Bool) (i : Nat) (h : i < l.length) : (encB l)[i]? = some (.bool (l.getD i false)) := by simp [encB, h]
theorem encB_set (l : List Bool) (i : Nat) (x : Bool) : (encB l).setIfInBounds i (.bool x) = encB (l.set i x) := by
  unfold encB
  rw [List.map_set]
  simp
/-- A block that holds just these truths. -/
def BlkB (w : World) (g : Nat) (l : List Bool) : Prop := w.heap[g]? = some (.cells (encB l) 4 (0, 0))
theorem BlkB.lt {w : World} {g : Nat} {l : List Bool} (h : BlkB w g l) : g < w.heap.size := (Array.getElem?_eq_some_iff.1 h).1
theorem BlkB.alloc {w : World} {g : Nat} {l : List Bool} (h : BlkB w g l) (o : Obj) : BlkB (w.alloc o) g l := (Below.heap_alloc w o g h.lt).trans h
theorem BlkB.set {w : World} {g : Nat} {l : List Bool} (h : BlkB w g l) (i : Nat) (x : Bool) : BlkB (w.setCell ⟨g, i, none⟩ (.bool x)) g (l.set i x) := by
  unfold BlkB at *
  rw [← encB_set]
  simp [World.setCell, Array.getElem?_modify, h]
theorem BlkB.other {w : World} {g : Nat} {l : List Bool} {b : Nat} (h : BlkB w g l) (hne : g ≠ b) (i : Nat) (v : Value) : BlkB (w.setCell ⟨b, i, none⟩ v) g l :=
  (Below.heap_setCell w ⟨b, i, none⟩ v g hne).trans h
theorem BlkB.cell {w : World} {g : Nat} {l : List Bool} (h : BlkB w g l) (i : Nat) (hi : i < l.length) : w.cell? ⟨g, i, none⟩ = some (.bool (l.getD i false)) := by
  rw [cell_of_row w g i _ _ _ h, encB_get l i hi]
theorem BlkB.frozen {w : World} {g : Nat} {l : List Bool} (h : BlkB w g l) (i : Nat) : w.frozen? ⟨g, i, none⟩ = false := frozen_of_row w g i _ _ h
theorem BlkB.new (w : World) (n : Nat) : BlkB (w.alloc (.cells (madeCells #[.bool false] n) 4)) w.heap.size (List.replicate n false) := by
  unfold BlkB
  rw [heap_alloc_last w]
  congr 1
  unfold encB madeCells
  congr 1
  apply Array.ext
  · simp
  · intro i h1 h2
    simp [Nat.mod_one]
theorem boolT : (Try.prog.info? 4).map (fun i => (i.zero, i.size, i.bytes)) = some (some (.bool false), 1, 1) := by kernel_rfl
theorem make_bool (n : Nat) (h : n ≤ 281474976710656) (w : World) : (Instr.makeSlice 93 (.int .i64 (n : Int)) (.int .i64 (n : Int))).run Try.prog w = .ok (.slice (some ⟨w.heap.size, 0, none⟩) n n) (w.alloc (.cells (madeCells #[.bool false] n) 4)) :=
  run_make_row' 93 4 (.bool false) 1 Try.underlying93 boolT rfl .i64 .i64 n (by omega) (by omega) w
theorem make_tab (w : World) {ops : Array Oper} {rest : List Oper} {o : Oper} {a : Act} {Q : Exit → Act → World → Prop} (hg : o.guard = none) (l c : Operand) (ho : o.op = Op.makeSlice 93 l c)
    (n : Nat) (hl : a.eval l = .int .i64 (n : Int)) (hc : a.eval c = .int .i64 (n : Int)) (hb : n ≤ 281474976710656)
    (h : ∀ w', BlkB w' w.heap.size (List.replicate n false) → Below w.heap.size w w' → (∀ g t, BlkB w g t → BlkB w' g t) → wpList Try.prog ops Q rest (a.put o.dst (.slice (some ⟨w.heap.size, 0, none⟩) n n)) w') :
    wpList Try.prog ops Q (o :: rest) a w := by
  obtain ⟨i0, hi, hz0, hz1, hz2⟩ := info_parts boolT
  refine wpList_make_row w hg l c 93 ho 4 i0 (.bool false) Try.underlying93 hi hz0 hz1 rfl .i64 .i64 n hl hc (by rw [hz2]; omega) (by omega) ?_
  exact h _ (BlkB.new w n) (below_new w _) (fun g t hb => hb.alloc _)
end Go.Proofs.Ytlhmeebbdjiokaa
