/-
  Turn and Put of package bits, as layer 3 calls them: a word turned round to the right by so many places; a number as eight or four bytes in new memory.
-/
import Derived.Test.YtmaaakcfbekboaaDoorShaSpec
namespace Go.Proofs.YtmaaakcfbekboaaDoor
open Go.ChangeShapes Go.WideShapes Go.ChangeAt Go.RowKit
set_option linter.unusedVariables false
set_option linter.unusedSimpArgs false
theorem turn_count (n : Int) : bits .and .u32 (n % 4294967296) 31 = n % 32 := by
  have h := u32_and_nat (n % 4294967296).toNat 31 (by omega) (by decide)
  rw [show (n % 4294967296).toNat &&& 31 = (n % 4294967296).toNat % 32 from Nat.and_two_pow_sub_one_eq_mod _ 5] at h
  have e : n % 4294967296 = (((n % 4294967296).toNat : Nat) : Int) := by omega
  rw [e]
  exact h.trans (by omega)
theorem bturn_any (X n : Nat) (w : World) (hX : X < 4294967296) (h0 : 0 < n) (h1 : n < 32) (N : Int) (hN : N = -(n : Int)) :
    Calls Tryd.prog 29 #[.int .u32 X, .int .i64 N] w fun e w' => e = .returned (.int .u32 (trn X n : Nat)) ∧ w' = w := by
  have hc := turn_count N
  obtain ⟨k, hk⟩ := Int.eq_ofNat_of_zero_le (show 0 ≤ N % 32 by omega)
  have hk32 : k < 32 := by omega
  have hkn : n = 32 - k := by omega
  rw [hk] at hc
  have HV : Hid (bits .or .u32 (IntKind.u32.wrap ((X : Int) * 2 ^ k)) ((X : Int) / 2 ^ (32 - k)) = (trn X n : Nat)) := by
    have e1 : IntKind.u32.wrap ((X : Int) * 2 ^ k) = ((X * 2 ^ k % 4294967296 : Nat) : Int) := by
      rw [show ((2 : Int) ^ k) = ((2 ^ k : Nat) : Int) by simp, ← Int.natCast_mul, IntKind.wrap_u32]; omega
    have e2 : ((X : Int) / 2 ^ (32 - k)) = ((X / 2 ^ (32 - k) : Nat) : Int) := by simp
    unfold Hid
    rw [e1, e2, wor _ _ (Nat.mod_lt _ (by decide)) (Nat.lt_of_le_of_lt (Nat.div_le_self _ _) hX), trn, Nat.or_comm, hkn, show 32 - (32 - k) = k by omega]
  clear hk hkn hN
  go_enter Tryd.func29, Tryd.ntmps29
  go_wp2
  go_ret
  exact ⟨congrArg (fun z => Ending.returned (Value.int .u32 z)) HV.out, rfl⟩
/-- So many bytes of a number, the highest first. -/
def beN (n : Nat) : Nat → List Nat
  | 0 => []
  | s + 1 => beN (n / 256) s ++ [n % 256]
theorem beN_length (n : Nat) (s : Nat) : (beN n s).length = s := by
  induction s generalizing n with
  | zero => rfl
  | succ s ih => simp [beN, ih]
theorem make_b (w : World) (n : Nat) (h : n ≤ 1000) :
    Sem.run Tryd.prog (Instr.makeSlice 28 (Value.int IntKind.i64 n) (Value.int IntKind.i64 n)) w = .ok (.slice (some ⟨w.heap.size, 0, none⟩) n n) (w.alloc (.cells (encL .u8 (List.replicate n 0)) 5)) := by
  obtain ⟨i0, hi, hz0, hz1, hz2⟩ := info_parts (show (Tryd.prog.info? 5).map (fun i => (i.zero, i.size, i.bytes)) = some (some (.int .u8 0), 1, 1) by kernel_rfl)
  have := run_make (P := Tryd.prog) w 28 5 i0 (.int .u8 0) Tryd.underlying28 hi hz0 .i64 .i64 n n (by omega) (by omega) (by rw [hz2]; omega) (by omega)
  rw [this, hz1]
  congr 3
  apply Array.toList_inj.1
  simp only [Int.toNat_natCast, Nat.mul_one]
  exact (toList_madeCells_one _ _).trans (by simp [encL])
set_option maxHeartbeats 2000000 in
theorem put8 (n : Nat) (w : World) (h1 : n < 18446744073709551616) :
    Calls Tryd.prog 19 #[.int .u64 (n : Nat), .int .i64 8] w fun e w' => e = .returned (.tuple #[.slice (some ⟨w.heap.size, 0, none⟩) 8 8, .int .i64 0]) ∧ w' = w.alloc (.cells (encL .u8 (beN n 8)) 5) := by
  have hm := make_b w 8 (by omega)
  simp [encL, List.replicate] at hm
  go_enter Tryd.func19, Tryd.ntmps19
  go_wp2
  go_rounds 9
  go_ret2
  refine ⟨rfl, congrArg (fun c => w.alloc (.cells c 5)) ?_⟩
  apply Array.toList_inj.1
  simp [beN, encL]
  try omega
set_option maxHeartbeats 2000000 in
theorem put4 (n : Nat) (w : World) (h1 : n < 4294967296) :
    Calls Tryd.prog 19 #[.int .u64 (n : Nat), .int .i64 4] w fun e w' => e = .returned (.tuple #[.slice (some ⟨w.heap.size, 0, none⟩) 4 4, .int .i64 0]) ∧ w' = w.alloc (.cells (encL .u8 (beN n 4)) 5) := by
  have hm := make_b w 4 (by omega)
  simp [encL, List.replicate] at hm
  go_enter Tryd.func19, Tryd.ntmps19
  go_wp2
  go_rounds 9
  go_ret2
  refine ⟨rfl, congrArg (fun c => w.alloc (.cells c 5)) ?_⟩
  apply Array.toList_inj.1
  simp [beN, encL]
  try omega
end Go.Proofs.YtmaaakcfbekboaaDoor
