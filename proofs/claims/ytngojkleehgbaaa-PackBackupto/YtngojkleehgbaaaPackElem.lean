/-
  A field among those that came in: read as one letter, kept in a block of its own; what a law's list of fields is as bytes.
-/
import Derived.Test.YtngojkleehgbaaaPackArgs
import Derived.Test.YtngojkleehgbaaaPackAwake
import Derived.Deep.MidRow
namespace Go.Proofs.Ytngojkleehgbaaa
open Go.ChangeShapes Go.WideShapes Go.ChangeAt Go.RowKit
set_option linter.unusedVariables false
set_option linter.unusedSimpArgs false
theorem fldCells_len {x : Fld} (h : x.2.2.2.2.length = 32) : (fldCells x).length = 36 := by
  unfold fldCells
  simp [h]
theorem fieldInfo : (Try.prog.info? 29).map (·.size) = some 36 := by kernel_rfl
theorem digestInfo : (Try.prog.info? 27).map (·.size) = some 32 := by kernel_rfl
def FldBlk (w : World) (g : Nat) (x : Fld) : Prop := w.heap[g]? = some (.cells (fldCells x).toArray 29 (0, 0))
theorem FldBlk.keep {w w' : World} {g : Nat} {x : Fld} (h : FldBlk w g x) (hb : w'.heap[g]? = w.heap[g]?) : FldBlk w' g x := hb.trans h
theorem FldBlk.cells {w : World} {g : Nat} {x : Fld} (h : FldBlk w g x) : w.cell? ⟨g, 0, none⟩ = some (.int .i64 x.1) ∧ w.cell? ⟨g, 1, none⟩ = some (.int .u64 (x.2.1 : Nat)) ∧ w.cell? ⟨g, 2, none⟩ = some (.int .i64 x.2.2.1) ∧ w.cell? ⟨g, 3, none⟩ = some (.string x.2.2.2.1) :=
  ⟨by rw [cell_of_row w g 0 _ _ _ h]; rfl, by rw [cell_of_row w g 1 _ _ _ h]; rfl, by rw [cell_of_row w g 2 _ _ _ h]; rfl, by rw [cell_of_row w g 3 _ _ _ h]; rfl⟩
/-- The digest of a field whose cells lie somewhere. -/
theorem fld_digest {w : World} {b off : Nat} {x : Fld} (h : ∀ j, j < 36 → w.cell? ⟨b, off + j, none⟩ = (fldCells x)[j]?) (hx : x.2.2.2.2.length = 32) :
    (loadVar 27 ⟨b, off + 4, none⟩).run Try.prog w = .ok (.agg (encL .u8 x.2.2.2.2)) w := by
  refine run_loadVar_mid w b (off + 4) 27 (x.2.2.2.2.map fun c => Value.int .u8 (c : Nat)) _ ?_ Try.underlying27 rfl (by rw [List.length_map, hx]; exact digestInfo)
  intro j v hj
  have hj' : j < 32 := by have := (List.getElem?_eq_some_iff.1 hj).1; simpa [hx] using this
  rw [Nat.add_assoc, h (4 + j) (by omega), Nat.add_comm 4 j]
  exact hj
theorem FldBlk.digest {w : World} {g : Nat} {x : Fld} (h : FldBlk w g x) (hx : x.2.2.2.2.length = 32) : (loadVar 27 ⟨g, 4, none⟩).run Try.prog w = .ok (.agg (encL .u8 x.2.2.2.2)) w := by
  have := fld_digest (w := w) (b := g) (off := 0) (x := x) (fun j hj => by rw [Nat.zero_add, cell_of_row w g j _ _ _ h]; simp) hx
  rwa [Nat.zero_add] at this
theorem fld_load {w : World} {b off : Nat} {x : Fld} (h : ∀ j, j < 36 → w.cell? ⟨b, off + j, none⟩ = (fldCells x)[j]?) (hx : x.2.2.2.2.length = 32) :
    (loadVar 29 ⟨b, off, none⟩).run Try.prog w = .ok (.agg (fldCells x).toArray) w := by
  refine run_loadVar_mid w b off 29 (fldCells x) _ ?_ Try.underlying29 rfl (by rw [fldCells_len hx]; exact fieldInfo)
  intro j v hj
  have hj' : j < 36 := by have := (List.getElem?_eq_some_iff.1 hj).1; rw [fldCells_len hx] at this; exact this
  rw [h j hj', hj]
def fld0 : Fld := (0, 0, 0, ByteArray.empty, zeroD)
theorem fieldAlloc (w : World) : (Instr.alloc 29 true (.tuple #[])).run Try.prog w = .ok (.pointer (some ⟨w.heap.size, 0, none⟩)) (w.alloc (.cells (fldCells fld0).toArray 29)) := by kernel_rfl
theorem fld_one (x : Fld) : (fldCells x).toArray.all (·.oneCell') = true := by
  rw [Array.all_eq_true_iff_forall_mem]
  intro v hv
  simp [fldCells] at hv
  rcases hv with rfl | rfl | rfl | rfl | ⟨c, -, rfl⟩ <;> rfl
/-- A field is read, a block is made for it, and it lies there. -/
theorem fld_take {w : World} {b off : Nat} {x : Fld} (h : ∀ j, j < 36 → w.cell? ⟨b, off + j, none⟩ = (fldCells x)[j]?) (hx : x.2.2.2.2.length = 32) : ∃ wA wB,
    (loadVar 29 ⟨b, off, none⟩).run Try.prog w = .ok (.agg (fldCells x).toArray) w ∧
    (Instr.alloc 29 true (.tuple #[])).run Try.prog w = .ok (.pointer (some ⟨w.heap.size, 0, none⟩)) wA ∧
    (storeVar 29 ⟨w.heap.size, 0, none⟩ (.agg (fldCells x).toArray)).run Try.prog wA = .ok () wB ∧
    FldBlk wB w.heap.size x ∧ Below w.heap.size w wB ∧ wB.heap.size = w.heap.size + 1 := by
  refine ⟨w.alloc (.cells (fldCells fld0).toArray 29), w.alloc (.cells (fldCells x).toArray 29), fld_load h hx, fieldAlloc w, ?_, heap_alloc_last w _, below_new w _, by simp⟩
  have hs : (fldCells fld0).toArray.size = 36 := by decide
  have hs2 : (fldCells x).toArray.size = 36 := by rw [List.size_toArray]; exact fldCells_len hx
  exact run_storeVar_new w 29 _ _ (by rw [hs2]; exact fieldInfo) (by rw [hs, hs2]) (fld_one x)
/-- The cells of a field that came in, in a later world. -/
theorem ArgF.at {w wz : World} {a : Option Addr} {len : Nat} {fs : List Fld} (h : ArgF w a len fs) (hb : Below w.heap.size w wz) (i : Nat) (hi : i < len) :
    ∃ b off, a = some ⟨b, off, none⟩ ∧ b < w.heap.size ∧ ∀ j, j < 36 → wz.cell? ⟨b, off + i * 36 + j, none⟩ = (fldCells (fldAt fs i))[j]? := by
  rcases h.2.2 with h0 | ⟨b, off, ha, hlt, hc⟩
  · omega
  · exact ⟨b, off, ha, hlt, fun j hj => (hb.cell (p := ⟨b, off + i * 36 + j, none⟩) hlt).trans (hc i hi j hj)⟩
end Go.Proofs.Ytngojkleehgbaaa
