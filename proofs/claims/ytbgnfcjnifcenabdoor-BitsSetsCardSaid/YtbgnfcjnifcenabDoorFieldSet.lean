/-
  Field and Set of package bits (with inWord and lowest): some bits of a word, and a word with some bits as they should be, at any word, any places and any value; what is wrong by its error.
-/
import Derived.Test.YtbgnfcjnifcenabDoorAwake
import Derived.Laws.BitsAllLaws
import Derived.Deep.QuietTactic
import Derived.BigQuiet
namespace Go.Proofs.YtbgnfcjnifcenabDoor
open Go.ChangeShapes Go.WideShapes Go.ChangeAt Go.RowKit
set_option linter.unusedVariables false
set_option linter.unusedSimpArgs false
def good (i k : Int) : Prop := 0 ≤ i ∧ 0 ≤ k ∧ i ≤ 64 ∧ k ≤ 64 ∧ i + k ≤ 64
theorem inWord_yes (i k : Int) (w : World) (h : good i k) :
    Calls Tryd.prog 10 #[.int .i64 i, .int .i64 k] w fun e w' => e = .returned (.bool true) ∧ w' = w := by
  obtain ⟨h1, h2, h3, h4, h5⟩ := h
  go_enter Tryd.func10, Tryd.ntmps10
  go_wp2
  go_ret
  exact ⟨rfl, rfl⟩
theorem inWord_no (i k : Int) (w : World) (h : ¬ good i k) (i0 : -9223372036854775808 ≤ i) (i1 : i ≤ 9223372036854775807) (k0 : -9223372036854775808 ≤ k) (k1 : k ≤ 9223372036854775807) :
    Calls Tryd.prog 10 #[.int .i64 i, .int .i64 k] w fun e w' => e = .returned (.bool false) ∧ w' = w := by
  unfold good at h
  have hway : i < 0 ∨ (0 ≤ i ∧ k < 0) ∨ (0 ≤ i ∧ 0 ≤ k ∧ 64 < i) ∨ (0 ≤ i ∧ 0 ≤ k ∧ i ≤ 64 ∧ 64 < k) ∨ (0 ≤ i ∧ 0 ≤ k ∧ i ≤ 64 ∧ k ≤ 64 ∧ 64 < i + k) := by omega
  clear h
  rcases hway with h1 | ⟨h1, h2⟩ | ⟨h1, h2, h3⟩ | ⟨h1, h2, h3, h4⟩ | ⟨h1, h2, h3, h4, h5⟩
  all_goals
    go_enter Tryd.func10, Tryd.ntmps10
    go_wp2
    go_ret
    exact ⟨by first | rfl | (rw [show decide (i + k ≤ 64) = false from decide_eq_false (by omega)]; rfl), rfl⟩
theorem low_val (k : Nat) (h : k ≤ 64) : IntKind.u64.wrap (IntKind.u64.wrap (2 ^ k) - 1) = ((2 ^ k - 1 : Nat) : Int) := by
  have hp : 0 < 2 ^ k := Nat.two_pow_pos k
  have e : ((2 : Int) ^ k) = ((2 ^ k : Nat) : Int) := by simp
  rw [e, IntKind.wrap_u64, IntKind.wrap_u64]
  obtain h | h : k ≤ 63 ∨ k = 64 := by omega
  · have hl : 2 ^ k ≤ 2 ^ 63 := Nat.pow_le_pow_right (by decide) h
    omega
  · subst h; decide
theorem pow_lt64 (k : Nat) (h : k ≤ 64) : 2 ^ k - 1 < 18446744073709551616 := by
  have hl : 2 ^ k ≤ 2 ^ 64 := Nat.pow_le_pow_right (by decide) h
  omega
theorem field_val (W i k : Nat) (hW : W < 18446744073709551616) (h : k ≤ 64) : bits BinOp.and IntKind.u64 ((W : Int) / 2 ^ i) ((2 ^ k - 1 : Nat) : Int) = ((W / 2 ^ i % 2 ^ k : Nat) : Int) := by
  have e : ((W : Int) / 2 ^ i) = ((W / 2 ^ i : Nat) : Int) := by simp
  rw [e, u64_and_nat _ _ (Nat.lt_of_le_of_lt (Nat.div_le_self _ _) hW) (pow_lt64 k h), Nat.and_two_pow_sub_one_eq_mod]
theorem lowest_any (k : Nat) (w : World) (h : k ≤ 64) :
    Calls Tryd.prog 11 #[.int .i64 k] w fun e w' => e = .returned (.int .u64 ((2 ^ k - 1 : Nat) : Int)) ∧ w' = w := by
  go_enter Tryd.func11, Tryd.ntmps11
  go_wp2
  go_ret
  exact ⟨ret_int (low_val k h), rfl⟩
theorem field_ok (W i k : Nat) (w : World) (hW : W < 18446744073709551616) (h : i + k ≤ 64) :
    Calls Tryd.prog 4 #[.int .u64 W, .int .i64 i, .int .i64 k] w fun e w' => e = .returned (.tuple #[.int .u64 ((W / 2 ^ i % 2 ^ k : Nat) : Int), .int .i64 0]) ∧ ∃ n, w' = w.drewN n := by
  go_enter Tryd.func4, Tryd.ntmps4
  go_wp2_with (go_at_call 10; refine (inWord_yes _ _ _ ⟨by omega, by omega, by omega, by omega, by omega⟩).mono ?_; rintro e w' ⟨rfl, rfl⟩)
  go_quiet ((go_at_call 11; exact Calls.quiet_of_same (lowest_any _ _ (by omega))))
  go_wp2
  go_ret2
  exact ⟨by rw [← field_val W i k hW (by omega)]; rfl, _, rfl⟩
def fieldN (W i k : Nat) : Nat := W / 2 ^ i % 2 ^ k
theorem field_N (W i k : Nat) (w : World) (hW : W < 18446744073709551616) (h : i + k ≤ 64) :
    Calls Tryd.prog 4 #[.int .u64 W, .int .i64 i, .int .i64 k] w fun e w' => e = .returned (.tuple #[.int .u64 (fieldN W i k : Nat), .int .i64 0]) ∧ ∃ n, w' = w.drewN n := by
  unfold fieldN; exact field_ok W i k w hW h
theorem field_bad (W : Int) (i k : Int) (w : World) (h : ¬ good i k) (i0 : -9223372036854775808 ≤ i) (i1 : i ≤ 9223372036854775807) (k0 : -9223372036854775808 ≤ k) (k1 : k ≤ 9223372036854775807) :
    Calls Tryd.prog 4 #[.int .u64 W, .int .i64 i, .int .i64 k] w fun e w' => e = .returned (.tuple #[.int .u64 0, .int .i64 1]) ∧ w' = w := by
  go_enter Tryd.func4, Tryd.ntmps4
  go_wp2_with (go_at_call 10; refine (inWord_no _ _ _ h i0 i1 k0 k1).mono ?_; rintro e w' ⟨rfl, rfl⟩)
  go_ret2
  exact ⟨rfl, rfl⟩
theorem set_bad (W V : Int) (i k : Int) (w : World) (h : ¬ good i k) (i0 : -9223372036854775808 ≤ i) (i1 : i ≤ 9223372036854775807) (k0 : -9223372036854775808 ≤ k) (k1 : k ≤ 9223372036854775807) :
    Calls Tryd.prog 5 #[.int .u64 W, .int .i64 i, .int .i64 k, .int .u64 V] w fun e w' => e = .returned (.tuple #[.int .u64 0, .int .i64 1]) ∧ w' = w := by
  go_enter Tryd.func5, Tryd.ntmps5
  go_wp2_with (go_at_call 10; refine (inWord_no _ _ _ h i0 i1 k0 k1).mono ?_; rintro e w' ⟨rfl, rfl⟩)
  go_ret2
  exact ⟨rfl, rfl⟩
theorem div_pow (V k : Nat) : ((V : Int) / 2 ^ k != 0) = decide (2 ^ k ≤ V) := by
  have e : ((V : Int) / 2 ^ k) = ((V / 2 ^ k : Nat) : Int) := by simp
  rw [e, Bool.eq_iff_iff, bne_iff_ne, decide_eq_true_iff]
  have hp : 0 < 2 ^ k := Nat.two_pow_pos k
  constructor
  · intro h
    by_cases hl : 2 ^ k ≤ V
    · exact hl
    · rw [Nat.div_eq_of_lt (by omega)] at h; exact absurd rfl h
  · intro h h0
    have : 0 < V / 2 ^ k := Nat.div_pos h hp
    omega
theorem set_range (W V i k : Nat) (w : World) (hV : V < 18446744073709551616) (h : i + k ≤ 64) (hr : 2 ^ k ≤ V) :
    Calls Tryd.prog 5 #[.int .u64 W, .int .i64 i, .int .i64 k, .int .u64 V] w fun e w' => e = .returned (.tuple #[.int .u64 0, .int .i64 4]) ∧ w' = w := by
  have hd : ((V : Int) / 2 ^ k != 0) = true := by rw [div_pow]; exact decide_eq_true hr
  go_enter Tryd.func5, Tryd.ntmps5
  go_wp2_with (go_at_call 10; refine (inWord_yes _ _ _ ⟨by omega, by omega, by omega, by omega, by omega⟩).mono ?_; rintro e w' ⟨rfl, rfl⟩)
  go_ret2
  exact ⟨rfl, rfl⟩
def setN (W i k V : Nat) : Nat := (W &&& (18446744073709551615 - (2 ^ k - 1) * 2 ^ i)) ||| (V * 2 ^ i)
theorem mask_fits (i k : Nat) (h : i + k ≤ 64) (V : Nat) (hr : V < 2 ^ k) : V * 2 ^ i < 18446744073709551616 := by
  have h1 : V * 2 ^ i < 2 ^ k * 2 ^ i := Nat.mul_lt_mul_of_pos_right hr (Nat.two_pow_pos i)
  have h2 : 2 ^ k * 2 ^ i ≤ 2 ^ 64 := by rw [← Nat.pow_add]; exact Nat.pow_le_pow_right (by decide) (by omega)
  omega
theorem setN_lt (W i k V : Nat) (hW : W < 18446744073709551616) (h : i + k ≤ 64) (hr : V < 2 ^ k) : setN W i k V < 18446744073709551616 := by
  have h1 := mask_fits i k h V hr
  exact Nat.or_lt_two_pow (n := 64) (Nat.lt_of_le_of_lt Nat.and_le_left hW) h1
theorem set_val (W V i k : Nat) (hW : W < 18446744073709551616) (h : i + k ≤ 64) (hr : V < 2 ^ k) :
    bits BinOp.or IntKind.u64 (bits BinOp.andNot IntKind.u64 (W : Int) (IntKind.u64.wrap (((2 ^ k - 1 : Nat) : Int) * 2 ^ i))) (IntKind.u64.wrap ((V : Int) * 2 ^ i)) = (setN W i k V : Nat) := by
  have hp : 0 < 2 ^ k := Nat.two_pow_pos k
  have hm := mask_fits i k h (2 ^ k - 1) (by omega)
  have hv := mask_fits i k h V hr
  have e1 : IntKind.u64.wrap (((2 ^ k - 1 : Nat) : Int) * 2 ^ i) = (((2 ^ k - 1) * 2 ^ i : Nat) : Int) := by
    rw [show ((2 : Int) ^ i) = ((2 ^ i : Nat) : Int) by simp, ← Int.natCast_mul, IntKind.wrap_u64]; omega
  have e2 : IntKind.u64.wrap ((V : Int) * 2 ^ i) = ((V * 2 ^ i : Nat) : Int) := by
    rw [show ((2 : Int) ^ i) = ((2 ^ i : Nat) : Int) by simp, ← Int.natCast_mul, IntKind.wrap_u64]; omega
  rw [e1, e2, u64_andNot_nat _ _ hW hm, u64_or_nat _ _ (Nat.lt_of_le_of_lt Nat.and_le_left hW) hv]
  rfl
theorem setN_testBit (W V i k : Nat) (h : i + k ≤ 64) (hr : V < 2 ^ k) (j : Nat) (hj : j < 64) :
    (setN W i k V).testBit j = if i ≤ j ∧ j < i + k then V.testBit (j - i) else W.testBit j := by
  have hp : 0 < 2 ^ k := Nat.two_pow_pos k
  have hm := mask_fits i k h (2 ^ k - 1) (by omega)
  unfold setN
  rw [Nat.testBit_or, Nat.testBit_and, show 18446744073709551615 - (2 ^ k - 1) * 2 ^ i = 2 ^ 64 - ((2 ^ k - 1) * 2 ^ i + 1) by omega, Nat.testBit_two_pow_sub_succ (by omega)]
  rw [Nat.testBit_mul_two_pow, Nat.testBit_mul_two_pow, Nat.testBit_two_pow_sub_one]
  by_cases h1 : i ≤ j
  · by_cases h2 : j < i + k
    · have h3 : j - i < k := by omega
      simp [h1, h2, h3, hj]
    · have h3 : ¬ j - i < k := by omega
      have h4 : V.testBit (j - i) = false := Nat.testBit_lt_two_pow (Nat.lt_of_lt_of_le hr (Nat.pow_le_pow_right (by decide) (by omega)))
      simp [h1, h2, h3, h4, hj]
  · simp [h1, hj]
theorem set_ok (W V i k : Nat) (w : World) (hW : W < 18446744073709551616) (hV : V < 18446744073709551616) (h : i + k ≤ 64) (hr : V < 2 ^ k) :
    Calls Tryd.prog 5 #[.int .u64 W, .int .i64 i, .int .i64 k, .int .u64 V] w fun e w' => e = .returned (.tuple #[.int .u64 (setN W i k V : Nat), .int .i64 0]) ∧ ∃ n, w' = w.drewN n := by
  have hd : ((V : Int) / 2 ^ k != 0) = false := by rw [div_pow]; exact decide_eq_false (by omega)
  go_enter Tryd.func5, Tryd.ntmps5
  go_wp2_with (go_at_call 10; refine (inWord_yes _ _ _ ⟨by omega, by omega, by omega, by omega, by omega⟩).mono ?_; rintro e w' ⟨rfl, rfl⟩)
  go_quiet ((go_at_call 11; exact Calls.quiet_of_same (lowest_any _ _ (by omega))))
  go_wp2
  go_ret2
  exact ⟨by rw [← set_val W V i k hW h hr]; rfl, _, rfl⟩
end Go.Proofs.YtbgnfcjnifcenabDoor
