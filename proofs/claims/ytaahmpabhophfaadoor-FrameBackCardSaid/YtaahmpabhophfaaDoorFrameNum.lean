/-
  A number of 32 bits as four bytes, and back; the sum of bytes as four bytes: bits.Put, bits.Get, the landed frame's number and sum; the document's four and Sum.
-/
import Derived.Test.YtaahmpabhophfaaDoorCrcRef
import Derived.Test.YtaahmpabhophfaaDoorFrameMath
import Derived.Test.YtaahmpabhophfaaDoorTexts
import Derived.Test.YtaahmpabhophfaaDoorOwn
namespace Go.Proofs.YtaahmpabhophfaaDoor
open Go.ChangeShapes Go.WideShapes Go.ChangeAt Go.RowKit
set_option linter.unusedVariables false
set_option linter.unusedSimpArgs false
theorem row_of {w : World} {a : Option Addr} {n : Nat} {xs : List Nat} (h : RowL .u8 w a n xs) (hm : n ≤ maxLen) (hb : ∀ c ∈ xs, c < 256) : Row w a n xs := ⟨h.1, hm, hb, h.2⟩
theorem info_byte : (Tryd.prog.info? 5).map (fun i => (i.zero, i.size, i.bytes)) = some (some (.int .u8 0), 1, 1) := by kernel_rfl
theorem make_bytes (w : World) (n : Nat) (h : n ≤ 10) :
    Sem.run Tryd.prog (Instr.makeSlice 22 (Value.int IntKind.i64 n) (Value.int IntKind.i64 n)) w = .ok (.slice (some ⟨w.heap.size, 0, none⟩) n n) (w.alloc (.cells (Array.replicate n (.int .u8 0)) 5)) := by
  obtain ⟨i0, hi, hz0, hz1, hz2⟩ := info_parts info_byte
  have := run_make (P := Tryd.prog) w 22 5 i0 (.int .u8 0) Tryd.underlying22 hi hz0 .i64 .i64 n n (by omega) (by omega) (by rw [hz2]; omega) (by omega)
  rw [this, hz1]
  congr 3
  apply Array.toList_inj.1
  simp only [Int.toNat_natCast, Nat.mul_one]
  exact (toList_madeCells_one _ _).trans (by simp)
set_option maxHeartbeats 2000000 in
theorem put4_any (n : Nat) (w : World) (h : n < 4294967296) :
    Calls Tryd.prog 22 #[.int .u64 (n : Nat), .int .i64 4] w fun e w' => e = .returned (.tuple #[.slice (some ⟨w.heap.size, 0, none⟩) 4 4, .int .i64 0]) ∧ w' = w.alloc (.cells (encL .u8 (be4 n)) 5) := by
  have hm := make_bytes w 4 (by omega)
  simp at hm
  go_enter Tryd.func22, Tryd.ntmps22
  go_wp2
  go_rounds 5
  go_ret2
  refine ⟨rfl, congrArg (fun c => w.alloc (.cells c 5)) ?_⟩
  apply Array.toList_inj.1
  simp [be4, encL]
  omega
theorem number_any (n : Nat) (w : World) (h : n < 4294967296) :
    Calls Tryd.prog 16 #[.int .u32 (n : Nat)] w fun e w' => e = .returned (.slice (some ⟨w.heap.size, 0, none⟩) 4 4) ∧ w' = w.alloc (.cells (encL .u8 (be4 n)) 5) := by
  go_enter Tryd.func16, Tryd.ntmps16
  go_wp2_with fail
  refine (put4_any n w h).mono ?_
  rintro e w' ⟨rfl, rfl⟩
  go_wp2_with fail
  go_ret
  exact ⟨rfl, rfl⟩
theorem crcN_lt (xs : List Nat) (h : ∀ c ∈ xs, c < 256) : crcN xs < 4294967296 := by unfold crcN; exact ones_lt _ (regN_lt xs _ (by decide) h)
theorem sums_one (x : List Nat) : sumsN 0 [x] = crcN x := by
  show regN (0 ^^^ ones32) x ^^^ ones32 = crcN x
  rw [Nat.zero_xor]
  rfl
theorem parts_alloc1 (w : World) (a : Option Addr) (l c : Nat) (xs : List Nat) (h : Row w a l xs) :
    Parts (w.alloc (.cells #[.slice a l c] 22 (0, 0))) (some ⟨w.heap.size, 0, none⟩) 1 [xs] := by
  refine ⟨rfl, by decide, .inr ⟨w.heap.size, 0, rfl, by simp, fun i hi => ?_⟩⟩
  match i, hi with
  | 0, _ => exact ⟨a, l, c, by simp [go_sem], h.below (below_new w _)⟩
theorem HalfTab.new {w : World} (h : HalfTab w) (o : Obj) : HalfTab (w.alloc o) := h.below (below_new w o)
/-- The landed frame's sum: four bytes in a block of their own. -/
theorem fsum_any (a : Option Addr) (len cap : Nat) (xs : List Nat) (w : World) (hr : RowL .u8 w a len xs) (hm : len ≤ maxLen) (hb : ∀ c ∈ xs, c < 256) (hT : HalfTab w) :
    Calls Tryd.prog 17 #[.slice a len cap] w fun e w' => ∃ g, e = .returned (.slice (some ⟨g, 0, none⟩) 4 4) ∧ w.heap.size ≤ g ∧ Blk w' g 5 .u8 (be4 (crcN xs)) ∧ Below w.heap.size w w' := by
  have hP := parts_alloc1 w a len cap xs (row_of hr hm hb)
  have hT2 := hT.new (.cells #[.slice a len cap] 22 (0, 0))
  go_enter Tryd.func17, Tryd.ntmps17
  go_wp2_with fail
  refine (sum_any _ 1 1 [xs] _ hP hT2).mono ?_
  rintro e w' ⟨rfl, rfl⟩
  rw [sums_one]
  go_wp2_with fail
  refine (number_any (crcN xs) _ (crcN_lt xs hb)).mono ?_
  rintro e w' ⟨rfl, rfl⟩
  go_wp2_with fail
  go_ret
  exact ⟨_, rfl, by simp, by simpa using Blk.new (w.alloc (.cells #[.slice a len cap] 22)) 5 .u8 (be4 (crcN xs)), (below_new w _).alloc (by simp) _⟩
theorem get4_any (b off cap : Nat) (xs : List Nat) (w : World) (hr : RowL .u8 w (some ⟨b, off, none⟩) 4 xs) (hb : ∀ c ∈ xs, c < 256) :
    Calls Tryd.prog 24 #[.slice (some ⟨b, off, none⟩) 4 cap] w fun e w' => e = .returned (.tuple #[.int .u64 (val4 xs : Nat), .int .i64 0]) ∧ w' = w := by
  match xs, hr.1 with
  | [p, q, r, s], _ =>
    obtain ⟨b', off', e, -, hc⟩ := hr.at 0 (by omega)
    cases e
    have c0 := hc 0 (by omega)
    have c1 := hc 1 (by omega)
    have c2 := hc 2 (by omega)
    have c3 := hc 3 (by omega)
    simp at c0 c1 c2 c3 hb
    obtain ⟨b0, b1, b2, b3⟩ := hb
    have or8 : ∀ v c : Nat, v < 16777216 → c < 256 → bits .or .u64 ((v : Int) * 256) (c : Int) = ((v * 256 + c : Nat) : Int) := fun v c hv hcc => by
      rw [show ((v * 256 + c : Nat) : Int) = (v : Int) * 256 + c by omega]
      refine bits_join .u64 64 (by decide) (fun n a b => by rw [IntKind.wrap_u64]; omega) 8 ((v : Int) * 256) c (by omega) (by omega) ?_ (by omega) (by omega) ?_ <;> omega
    clear hr hc
    have H : Hid (val4 [p, q, r, s] = ((p * 256 + q) * 256 + r) * 256 + s) := rfl
    have o0 := or8 0 p (by omega) b0
    have o1 := or8 p q (by omega) b1
    have o2 := or8 (p * 256 + q) r (by omega) b2
    have o3 := or8 ((p * 256 + q) * 256 + r) s (by omega) b3
    simp at o0 o1 o2 o3
    clear or8
    go_enter Tryd.func24, Tryd.ntmps24
    go_wp2
    go_rounds 5
    go_ret2
    rw [H.out]
    exact ⟨by simp, rfl⟩
/-- The document's four. -/
theorem four_any (n : Nat) (w : World) (h : n < 4294967296) :
    Calls Tryd.prog 18 #[.int .u32 (n : Nat)] w fun e w' => e = .returned (.string (strN (be4 n))) ∧ Below w.heap.size w w' := by
  have he : encL .u8 (be4 n) = #[.int .u8 ((n : Int) / 16777216), .int .u8 ((n : Int) / 65536 % 256), .int .u8 ((n : Int) / 256 % 256), .int .u8 ((n : Int) % 256)] := by
    apply Array.toList_inj.1
    simp [encL, be4]
    omega
  have hcv := conv_row (Blk.new w 5 .u8 (be4 n)).row 4
  rw [he, be4_len] at hcv
  generalize strN (be4 n) = t at *
  go_enter Tryd.func18, Tryd.ntmps18
  go_wp2_with fail
  go_ret
  exact ⟨rfl, below_new w _⟩
end Go.Proofs.YtaahmpabhophfaaDoor
