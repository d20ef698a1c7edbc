/-
  The call 'awake' of the law's package (Put of 258 in 3 bytes, Unpack of three bytes, Zig of -2, Turn of 1 by 33) returns true from every world, and lays at most new blocks.
-/
import Derived.Test.YtngojkleehgbaaaRows
import Derived.Handy
import Derived.Laws.BytesArg
namespace Go.Proofs.Ytngojkleehgbaaa
open Go.ChangeShapes Go.WideShapes Go.ChangeAt Go.RowKit
set_option linter.unusedVariables false
set_option linter.unusedSimpArgs false
theorem ret_int {k : IntKind} {a b : Int} (h : a = b) : Ending.returned (.int k a) = .returned (.int k b) := by rw [h]
theorem zig2 (w : World) :
    Calls Try.prog 38 #[.int .i64 (-2)] w fun e w' => e = .returned (.int .u64 3) ∧ w' = w := by
  go_enter Try.func38, Try.ntmps38
  go_wp2
  go_ret
  exact ⟨ret_int (by decide +kernel), rfl⟩
theorem info_u8 : (Try.prog.info? 5).map (fun i => (i.zero, i.size, i.bytes)) = some (some (.int .u8 0), 1, 1) := by kernel_rfl
theorem make_u8 (w : World) (n : Nat) (h : n ≤ 10) :
    Sem.run Try.prog (Instr.makeSlice 41 (Value.int IntKind.i64 n) (Value.int IntKind.i64 n)) w = .ok (.slice (some ⟨w.heap.size, 0, none⟩) n n) (w.alloc (.cells (Array.replicate n (.int .u8 0)) 5)) := by
  obtain ⟨i0, hi, hz0, hz1, hz2⟩ := info_parts info_u8
  have := run_make (P := Try.prog) w 41 5 i0 (.int .u8 0) Try.underlying41 hi hz0 .i64 .i64 n n (by omega) (by omega) (by rw [hz2]; omega) (by omega)
  rw [this, hz1]
  congr 3
  apply Array.toList_inj.1
  simp only [Int.toNat_natCast, Nat.mul_one]
  exact (toList_madeCells_one _ _).trans (by simp)
theorem unpack3 (w : World) (g : Nat) (h0 : w.cell? ⟨g, 0, none⟩ = some (.int .u8 128)) (h1 : w.cell? ⟨g, 1, none⟩ = some (.int .u8 1)) :
    Calls Try.prog 41 #[.slice (some ⟨g, 0, none⟩) 3 3] w fun e w' => e = .returned (.tuple #[.int .u64 128, .int .i64 2, .int .i64 0]) ∧ w' = w := by
  have e1 : bits BinOp.and IntKind.u8 128 127 = 0 := by decide +kernel
  have e2 : bits BinOp.and IntKind.u8 1 127 = 1 := by decide +kernel
  have e3 : bits BinOp.and IntKind.u8 128 128 = 128 := by decide +kernel
  have e4 : bits BinOp.and IntKind.u8 1 128 = 0 := by decide +kernel
  have e5 : bits BinOp.or IntKind.u64 0 0 = 0 := by decide +kernel
  have e6 : bits BinOp.or IntKind.u64 0 128 = 128 := by decide +kernel
  go_enter Try.func41, Try.ntmps41
  go_wp2
  go_rounds 3
  go_ret3
  exact ⟨rfl, rfl⟩
theorem conv3 (w : World) (o : Obj) :
    Sem.run Try.prog (convert 41 9 (Value.slice (some ⟨w.heap.size, 0, none⟩) 3 3)) ((w.alloc (Obj.cells #[Value.int IntKind.u8 0, Value.int IntKind.u8 1, Value.int IntKind.u8 2] 5)).alloc o) = .ok (.string ⟨#[0, 1, 2]⟩) ((w.alloc (Obj.cells #[Value.int IntKind.u8 0, Value.int IntKind.u8 1, Value.int IntKind.u8 2] 5)).alloc o) := by
  refine run_convert_bytes_arg _ 41 5 Try.underlying41 Try.underlying5 _ 0 3 3 [0, 1, 2] rfl (fun i hi => ?_) 9 Try.underlying9
  match i, hi with
  | 0, _ => simp [go_sem]
  | 1, _ => simp [go_sem]
  | 2, _ => simp [go_sem]
end Go.Proofs.Ytngojkleehgbaaa
