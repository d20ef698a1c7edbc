/-
  Zig and Zag of package bits: a number with a sign as one without, and back, at any number.
-/
import Derived.Test.YtngojkleehgbaaaAwake
import Derived.Laws.BitsAllLaws
namespace Go.Proofs.Ytngojkleehgbaaa
open Go.ChangeShapes Go.WideShapes Go.ChangeAt Go.RowKit
set_option linter.unusedVariables false
def zigV (a : Int) : Int := if 0 ≤ a then 2 * a else -2 * a - 1
def zagV (u : Int) : Int := if u % 2 = 0 then u / 2 else -(u / 2) - 1
theorem zag_zig (a : Int) : zagV (zigV a) = a := by
  unfold zigV zagV
  split <;> split <;> omega
theorem zigV_bounds (a : Int) (a0 : -9223372036854775808 ≤ a) (a1 : a ≤ 9223372036854775807) : 0 ≤ zigV a ∧ zigV a ≤ 18446744073709551615 := by
  unfold zigV
  split <;> omega
theorem xor_ones64 (b : Nat) (hb : b < 18446744073709551616) : b ^^^ 18446744073709551615 = 18446744073709551615 - b := by
  have h := congrArg BitVec.toNat (BitVec.xor_allOnes (x := BitVec.ofNat 64 b))
  rw [BitVec.toNat_xor, BitVec.toNat_not, BitVec.toNat_ofNat, Nat.mod_eq_of_lt (by omega)] at h
  exact h
theorem zig_pos (a : Int) (a0 : 0 ≤ a) (a1 : a ≤ 9223372036854775807) : bits .xor .u64 (a * 2) 0 = zigV a := by
  obtain ⟨n, rfl⟩ := Int.eq_ofNat_of_zero_le a0
  have h := u64_xor_nat (n * 2) 0 (by omega) (by decide)
  rw [Nat.xor_zero] at h
  unfold zigV
  rw [if_pos a0]
  have e : ((n : Int) * 2) = ((n * 2 : Nat) : Int) := by omega
  rw [e]
  exact h.trans (by omega)
theorem zig_neg (a : Int) (a0 : a < 0) (a1 : -9223372036854775808 ≤ a) : bits .xor .u64 (IntKind.u64.wrap (IntKind.u64.wrap a * 2)) (IntKind.u64.wrap (-1)) = zigV a := by
  have e1 : IntKind.u64.wrap (IntKind.u64.wrap a * 2) = (((2 * a + 18446744073709551616).toNat : Nat) : Int) := by
    rw [IntKind.wrap_u64, IntKind.wrap_u64]; omega
  have e2 : IntKind.u64.wrap (-1) = ((18446744073709551615 : Nat) : Int) := by rw [IntKind.wrap_u64]; rfl
  rw [e1, e2, u64_xor_nat _ _ (by omega) (by decide), xor_ones64 _ (by omega)]
  unfold zigV
  rw [if_neg (by omega)]
  omega
theorem zig_any (a : Int) (w : World) (a0 : -9223372036854775808 ≤ a) (a1 : a ≤ 9223372036854775807) :
    Calls Try.prog 38 #[.int .i64 a] w fun e w' => e = .returned (.int .u64 (zigV a)) ∧ w' = w := by
  by_cases h : 0 ≤ a
  · have hs : a / 9223372036854775808 = 0 := by omega
    go_enter Try.func38, Try.ntmps38
    go_wp2
    go_ret
    exact ⟨ret_int (zig_pos a h a1), rfl⟩
  · have hs : a / 9223372036854775808 = -1 := by omega
    go_enter Try.func38, Try.ntmps38
    go_wp2
    go_ret
    exact ⟨ret_int (zig_neg a (by omega) a0), rfl⟩
theorem i64_xor_ones (a : Nat) (ha : a < 9223372036854775808) : bits .xor .i64 (a : Int) (-1) = -(a : Int) - 1 := by
  show IntKind.i64.wrap ((BitVec.ofInt 64 (a : Int) ^^^ BitVec.ofInt 64 (-1)).toNat : Int) = _
  have h1 : BitVec.ofInt 64 (-1) = BitVec.allOnes 64 := by decide
  rw [h1, BitVec.xor_allOnes, BitVec.toNat_not, ofInt_u64 a (by omega), IntKind.wrap_i64]
  omega
theorem i64_xor_zero (a : Nat) (ha : a < 9223372036854775808) : bits .xor .i64 (a : Int) 0 = (a : Int) := by
  show IntKind.i64.wrap ((BitVec.ofInt 64 (a : Int) ^^^ BitVec.ofInt 64 0).toNat : Int) = _
  have h1 : BitVec.ofInt 64 0 = 0#64 := by decide
  rw [h1, BitVec.xor_zero, ofInt_u64 a (by omega), IntKind.wrap_i64]
  omega
theorem and_one64 (u : Int) (u0 : 0 ≤ u) (u1 : u ≤ 18446744073709551615) : bits .and .u64 u 1 = u % 2 := by
  obtain ⟨n, rfl⟩ := Int.eq_ofNat_of_zero_le u0
  have h := u64_and_nat n 1 (by omega) (by decide)
  rw [nat_mask1] at h
  exact h.trans (by omega)
theorem zag_val (u : Int) (u0 : 0 ≤ u) (u1 : u ≤ 18446744073709551615) :
    bits BinOp.xor IntKind.i64 (u / 2) (wrap64 (-wrap64 (bits BinOp.and IntKind.u64 u 1))) = zagV u := by
  rw [and_one64 u u0 u1]
  obtain ⟨x, hx⟩ := Int.eq_ofNat_of_zero_le (show 0 ≤ u / 2 by omega)
  unfold zagV
  by_cases h : u % 2 = 0
  · have e : wrap64 (-wrap64 (u % 2)) = 0 := by unfold wrap64; omega
    rw [e, if_pos h, hx]
    exact i64_xor_zero x (by omega)
  · have e : wrap64 (-wrap64 (u % 2)) = -1 := by unfold wrap64; omega
    rw [e, if_neg h, hx]
    exact i64_xor_ones x (by omega)
theorem zag_any (u : Int) (w : World) (u0 : 0 ≤ u) (u1 : u ≤ 18446744073709551615) :
    Calls Try.prog 44 #[.int .u64 u] w fun e w' => e = .returned (.int .i64 (zagV u)) ∧ w' = w := by
  go_enter Try.func44, Try.ntmps44
  go_wp2
  go_ret
  exact ⟨ret_int (zag_val u u0 u1), rfl⟩
end Go.Proofs.Ytngojkleehgbaaa
