/-
  Numbers in memory as lists: a block of the call's own that holds a list of numbers of one kind, and a slice of them; what a store, a new block and a draw leave.
-/
import Derived.Test.YtoaegepphkocoaaRows
import Derived.Handy
import Derived.Laws.BytesArg
import Derived.Laws.BitsAllLaws
import Derived.Deep.WholeRow
import Derived.Laws.CopyOwn
import Derived.Deep.QuietTactic
import Derived.BigQuiet
namespace Go.Proofs.Ytoaegepphkocoaa
open Go.ChangeShapes Go.WideShapes Go.ChangeAt Go.RowKit
set_option linter.unusedVariables false
set_option linter.unusedSimpArgs false
def encL (k : IntKind) (l : List Nat) : Array Value := (l.map fun c => Value.int k (c : Nat)).toArray
theorem encL_size (k : IntKind) (l : List Nat) : (encL k l).size = l.length := by simp [encL]
theorem encL_get (k : IntKind) (l : List Nat) (i : Nat) (h : i < l.length) : (encL k l)[i]? = some (.int k (l.getD i 0 : Nat)) := by simp [encL, h]
theorem encL_set (k : IntKind) (l : List Nat) (i x : Nat) : (encL k l).setIfInBounds i (.int k (x : Nat)) = encL k (l.set i x) := by
  unfold encL
  rw [List.map_set]
  simp
theorem encL_one (k : IntKind) (l : List Nat) : (encL k l).all (·.oneCell') = true := by
  rw [Array.all_eq_true]
  intro i hi
  simp [encL, Value.oneCell']
/-- A block that holds just these numbers. -/
def Blk (w : World) (g : Nat) (t : TypeId) (k : IntKind) (l : List Nat) : Prop := w.heap[g]? = some (.cells (encL k l) t (0, 0))
theorem Blk.lt {w : World} {g : Nat} {t : TypeId} {k : IntKind} {l : List Nat} (h : Blk w g t k l) : g < w.heap.size := (Array.getElem?_eq_some_iff.1 h).1
theorem Blk.alloc {w : World} {g : Nat} {t : TypeId} {k : IntKind} {l : List Nat} (h : Blk w g t k l) (o : Obj) : Blk (w.alloc o) g t k l := (Below.heap_alloc w o g h.lt).trans h
theorem Blk.new (w : World) (t : TypeId) (k : IntKind) (l : List Nat) : Blk (w.alloc (.cells (encL k l) t)) w.heap.size t k l := heap_alloc_last w _
theorem Blk.set {w : World} {g : Nat} {t : TypeId} {k : IntKind} {l : List Nat} (h : Blk w g t k l) (i x : Nat) : Blk (w.setCell ⟨g, i, none⟩ (.int k (x : Nat))) g t k (l.set i x) := by
  unfold Blk at *
  rw [← encL_set]
  simp [World.setCell, Array.getElem?_modify, h]
theorem Blk.other {w : World} {g : Nat} {t : TypeId} {k : IntKind} {l : List Nat} {b : Nat} (h : Blk w g t k l) (hne : g ≠ b) (i : Nat) (v : Value) : Blk (w.setCell ⟨b, i, none⟩ v) g t k l :=
  (Below.heap_setCell w ⟨b, i, none⟩ v g hne).trans h
theorem Blk.below {w w' : World} {g : Nat} {t : TypeId} {k : IntKind} {l : List Nat} (h : Blk w g t k l) (hb : Below w.heap.size w w') : Blk w' g t k l := (hb.block g h.lt).trans h
theorem Blk.drewN {w : World} {g : Nat} {t : TypeId} {k : IntKind} {l : List Nat} (h : Blk w g t k l) (n : Nat) : Blk (w.drewN n) g t k l := h
theorem Blk.cell {w : World} {g : Nat} {t : TypeId} {k : IntKind} {l : List Nat} (h : Blk w g t k l) (i : Nat) (hi : i < l.length) : w.cell? ⟨g, i, none⟩ = some (.int k (l.getD i 0 : Nat)) := by
  rw [cell_of_row w g i _ _ _ h, encL_get k l i hi]
theorem Blk.frozen {w : World} {g : Nat} {t : TypeId} {k : IntKind} {l : List Nat} (h : Blk w g t k l) (i : Nat) : w.frozen? ⟨g, i, none⟩ = false := frozen_of_row w g i _ _ h
theorem below_drew {B : Nat} {a w : World} (h : Below B a w) (n : Nat) : Below B a (w.drewN n) := h.trans ⟨rfl, rfl, rfl, Nat.le_refl _, fun _ _ => rfl⟩
theorem below_new (w : World) (o : Obj) : Below w.heap.size w (w.alloc o) := Below.alloc (Below.refl _ _) (Nat.le_refl _) _
/-- Numbers in memory: 'len' of them, at an address where there are any. -/
def RowL (k : IntKind) (w : World) (a : Option Addr) (len : Nat) (xs : List Nat) : Prop :=
  xs.length = len ∧ (len = 0 ∨ ∃ b off, a = some ⟨b, off, none⟩ ∧ b < w.heap.size ∧ ∀ i, i < len → w.cell? ⟨b, off + i, none⟩ = some (.int k (xs.getD i 0 : Nat)))
theorem RowL.below {k : IntKind} {w w' : World} {a : Option Addr} {len : Nat} {xs : List Nat} (h : RowL k w a len xs) (hb : Below w.heap.size w w') : RowL k w' a len xs := by
  obtain ⟨h1, h4⟩ := h
  refine ⟨h1, ?_⟩
  rcases h4 with h4 | ⟨b, off, ha, hlt, hc⟩
  · exact .inl h4
  · exact .inr ⟨b, off, ha, Nat.lt_of_lt_of_le hlt hb.size, fun i hi => (hb.cell (p := ⟨b, off + i, none⟩) hlt).trans (hc i hi)⟩
theorem Blk.row {w : World} {g : Nat} {t : TypeId} {k : IntKind} {l : List Nat} (h : Blk w g t k l) : RowL k w (some ⟨g, 0, none⟩) l.length l :=
  ⟨rfl, .inr ⟨g, 0, rfl, h.lt, fun i hi => by rw [Nat.zero_add]; exact h.cell i hi⟩⟩
/-- A place of a slice that has one. -/
theorem RowL.at {k : IntKind} {w : World} {a : Option Addr} {len : Nat} {xs : List Nat} (h : RowL k w a len xs) (i : Nat) (hi : i < len) :
    ∃ b off, a = some ⟨b, off, none⟩ ∧ b < w.heap.size ∧ ∀ j, j < len → w.cell? ⟨b, off + j, none⟩ = some (.int k (xs.getD j 0 : Nat)) := by
  rcases h.2 with h | h
  · omega
  · exact h
end Go.Proofs.Ytoaegepphkocoaa
