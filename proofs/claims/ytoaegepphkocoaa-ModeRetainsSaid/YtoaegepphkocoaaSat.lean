/-
  Sums and products of 64-bit numbers, kept at the ends: plain mathematics.
-/
import Derived.Test.YtoaegepphkocoaaRows
import Derived.Handy
import Derived.Laws.BytesArg
namespace Go.Proofs.Ytoaegepphkocoaa
open Go.ChangeShapes Go.WideShapes Go.ChangeAt Go.RowKit
set_option linter.unusedVariables false
set_option linter.unusedSimpArgs false
theorem ret_int {k : IntKind} {a b : Int} (h : a = b) : Ending.returned (.int k a) = .returned (.int k b) := by rw [h]
def sat (x : Int) : Int := if 9223372036854775807 < x then 9223372036854775807 else if x < -9223372036854775808 then -9223372036854775808 else x
theorem sat_hi {x : Int} (h : 9223372036854775807 < x) : sat x = 9223372036854775807 := by unfold sat; rw [if_pos h]
theorem sat_lo {x : Int} (h : x < -9223372036854775808) : sat x = -9223372036854775808 := by unfold sat; rw [if_neg (by omega), if_pos h]
theorem sat_in {x : Int} (h0 : -9223372036854775808 ≤ x) (h1 : x ≤ 9223372036854775807) : sat x = x := by unfold sat; rw [if_neg (by omega), if_neg (by omega)]
theorem i64_bounds {a : Int} (h : (Lit.int .i64 a).wf = true) : -9223372036854775808 ≤ a ∧ a ≤ 9223372036854775807 := bounds_i64 h
theorem neg_u64 (a : Int) (h0 : a < 0) (h1 : -9223372036854775808 ≤ a) : IntKind.u64.wrap (wrap64 (-a)) = -a := by
  rw [IntKind.wrap_u64]; unfold wrap64; omega
theorem over_div (M : Int) (m x y : Nat) (hM : M = (m : Int)) (hy : 0 < y) : M / (y : Int) < (x : Int) ↔ m < x * y := by
  subst hM
  have h := Nat.div_lt_iff_lt_mul (x := m) (y := x) hy
  rw [← h]; omega
theorem neg_back (p : Int) (h0 : 0 ≤ p) (h1 : p ≤ 9223372036854775808) : wrap64 (-wrap64 p) = -p := by
  unfold wrap64; omega
theorem mul_same (a b : Int) (h : (a < 0 ∧ b < 0) ∨ (0 < a ∧ 0 < b)) : ((a.natAbs * b.natAbs : Nat) : Int) = a * b := by
  rcases h with ⟨h1, h2⟩ | ⟨h1, h2⟩
  · rw [← Int.natAbs_mul, Int.natAbs_of_nonneg (Int.mul_nonneg_of_nonpos_of_nonpos (by omega) (by omega))]
  · rw [← Int.natAbs_mul, Int.natAbs_of_nonneg (Int.mul_nonneg (by omega) (by omega))]
theorem mul_other (a b : Int) (h : (a < 0 ∧ 0 < b) ∨ (0 < a ∧ b < 0)) : ((a.natAbs * b.natAbs : Nat) : Int) = -(a * b) := by
  rcases h with ⟨h1, h2⟩ | ⟨h1, h2⟩
  · have := mul_same (-a) b (by omega); rw [Int.natAbs_neg, Int.neg_mul] at this; exact this
  · have := mul_same a (-b) (by omega); rw [Int.natAbs_neg, Int.mul_neg] at this; exact this
end Go.Proofs.Ytoaegepphkocoaa
