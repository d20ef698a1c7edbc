/-
  Turn, Swap, Ones, Zig and Zag of the document's answer: the same plain functions of the numbers.
-/
import Derived.Test.YtbgnfcjnifcenaaDoorTurnOnes
import Derived.Test.YtbgnfcjnifcenaaDoorSwap
import Derived.Test.YtbgnfcjnifcenaaDoorZigZag
namespace Go.Proofs.YtbgnfcjnifcenaaDoor
open Go.ChangeShapes Go.WideShapes Go.ChangeAt Go.RowKit
set_option linter.unusedVariables false
set_option linter.unusedSimpArgs false
theorem rot_core (P M X : Nat) (hPM : P * M = 2147483648) (hX : X < 4294967296) :
    X % M * (2 * P) + X / M = (X % (M * 2) * P + X / (M * 2)) * 2 % 4294967296 + (X % (M * 2) * P + X / (M * 2)) / 2147483648 := by
  have hM : 0 < M := Nat.pos_of_ne_zero (fun h => by rw [h] at hPM; simp at hPM)
  have hs : X % M < M := Nat.mod_lt _ hM
  have ht : X / M < 2 * P := by
    rw [Nat.div_lt_iff_lt_mul hM, Nat.mul_assoc, hPM]; exact hX
  rw [Nat.mod_mul, ← Nat.div_div_eq_div_mul]
  generalize X % M = s at *
  generalize X / M = t at *
  have hz : s * P + P ≤ 2147483648 := by
    rw [← hPM, ← Nat.succ_mul, Nat.mul_comm P M]
    exact Nat.mul_le_mul_right P hs
  have e1 : (s + M * (t % 2)) * P = s * P + t % 2 * 2147483648 := by rw [Nat.add_mul, ← hPM, Nat.mul_comm M, Nat.mul_assoc, Nat.mul_comm M P]
  have e2 : s * (2 * P) = 2 * (s * P) := by rw [Nat.mul_left_comm]
  rw [e1, e2]
  generalize s * P = z at *
  omega
theorem rot_step (X j : Nat) (hX : X < 4294967296) (hj : j < 31) : rotN X (j + 1) = rotN X j * 2 % 4294967296 + rotN X j / 2147483648 := by
  unfold rotN
  rw [split32 X (j + 1) (by omega), split32 X j (by omega)]
  have hPM : 2 ^ j * 2 ^ (31 - j) = 2147483648 := by rw [← Nat.pow_add, show j + (31 - j) = 31 by omega]
  have e1 : 2 ^ (32 - j) = 2 ^ (31 - j) * 2 := by rw [← Nat.pow_succ, show (31 - j).succ = 32 - j by omega]
  have e2 : 32 - (j + 1) = 31 - j := by omega
  have e3 : 2 ^ (j + 1) = 2 * 2 ^ j := by rw [Nat.pow_succ, Nat.mul_comm]
  rw [e1, e2, e3]
  exact rot_core _ _ X hPM hX
theorem rot_zero (X : Nat) (hX : X < 4294967296) : rotN X 0 = X := by
  unfold rotN
  rw [Nat.pow_zero, Nat.mul_one, Nat.mod_eq_of_lt hX, Nat.div_eq_of_lt (by simpa using hX), Nat.add_zero]
theorem rturn_count (n : Int) : (n.tmod 32 + 32) % 32 = n % 32 ∧ -31 ≤ n.tmod 32 ∧ n.tmod 32 ≤ 31 := by
  by_cases h : 0 ≤ n
  · rw [Int.tmod_eq_emod_of_nonneg h]; omega
  · have e : n.tmod 32 = -((-n) % 32) := by rw [← Int.tmod_eq_emod_of_nonneg (by omega : 0 ≤ -n), Int.neg_tmod]; omega
    rw [e]; omega
theorem rturn_any (X : Nat) (n : Int) (w : World) (hX : X < 4294967296) :
    Calls Tryd.prog 6 #[.int .u32 X, .int .i64 n] w fun e w' => e = .returned (.int .u32 (rotN X (n % 32).toNat : Nat)) ∧ w' = w := by
  obtain ⟨hc, b0, b1⟩ := rturn_count n
  obtain ⟨k, hk⟩ := Int.eq_ofNat_of_zero_le (show 0 ≤ n % 32 by omega)
  have hk32 : k < 32 := by omega
  rw [hk, Int.toNat_natCast]
  rw [hk] at hc
  clear hk
  go_enter Tryd.func6, Tryd.ntmps6
  go_wp2
  go_loop [0, 5] (fun v q => ∃ i : Nat, i ≤ k ∧ q = .int .i64 i ∧ v = .int .u32 (rotN X (k - i) : Nat)) (fun _ q => (intOf q).toNat)
  case atStart => exact ⟨k, Nat.le_refl _, by first | rfl | (rw [hc]), by rw [Nat.sub_self, rot_zero X hX]⟩
  case round =>
    obtain ⟨i, hi, rfl, rfl⟩ := hrel
    have hY := rotN_lt X (k - i) hX (by omega)
    clear hc b0 b1
    cases i with
    | zero =>
      go_wp2
      go_ret
      exact ⟨rfl, rfl⟩
    | succ i =>
      have HS : Hid (rotN X (k - i) = rotN X (k - (i + 1)) * 2 % 4294967296 + rotN X (k - (i + 1)) / 2147483648) := by
        have := rot_step X (k - (i + 1)) hX (by omega)
        rw [show k - (i + 1) + 1 = k - i by omega] at this
        exact this
      generalize rotN X (k - (i + 1)) = Y at *
      go_wp2
      go_round
      case rel => exact ⟨i, by omega, by go_num, by rw [HS.out]; go_num⟩
      case measure => simp [intOf]
/-- The lowest j bits in the other order. -/
def revN (X : Nat) : Nat → Nat
  | 0 => 0
  | j + 1 => revN X j * 2 + X / 2 ^ j % 2
theorem revN_lt (X : Nat) : ∀ j, revN X j < 2 ^ j
  | 0 => by simp [revN]
  | j + 1 => by have := revN_lt X j; rw [revN, Nat.pow_succ]; omega
theorem revN_bit (X : Nat) : ∀ j i, i < j → (revN X j).testBit i = X.testBit (j - 1 - i)
  | 0, i, h => by omega
  | j + 1, 0, _ => by
    rw [revN, Nat.testBit_zero, Nat.testBit_eq_decide_div_mod_eq]
    congr 1
    rw [show j + 1 - 1 - 0 = j by omega]
    generalize X / 2 ^ j = y
    apply propext
    omega
  | j + 1, i + 1, h => by
    rw [Nat.testBit_succ, show (revN X (j + 1)) / 2 = revN X j from by rw [revN]; omega, revN_bit X j i (by omega)]
    congr 1
    omega
theorem swap_rev (X : Nat) (hX : X < 4294967296) : swN X 5 = revN X 32 := by
  apply Nat.eq_of_testBit_eq
  intro i
  by_cases hi : i < 32
  · rw [swap_bit X hX i hi, revN_bit X 32 i hi]
  · have hp : 2 ^ 32 ≤ 2 ^ i := Nat.pow_le_pow_right (by decide) (by omega)
    rw [Nat.testBit_lt_two_pow (Nat.lt_of_lt_of_le (swN_lt X 5 hX) hp), Nat.testBit_lt_two_pow (Nat.lt_of_lt_of_le (revN_lt X 32) hp)]
theorem half32 (W j : Nat) : W / 2 ^ (j + 1) = W / 2 ^ j / 2 := by rw [Nat.pow_succ, Nat.div_div_eq_div_mul]
theorem rswap_any (X : Nat) (w : World) (hX : X < 4294967296) :
    Calls Tryd.prog 8 #[.int .u32 X] w fun e w' => e = .returned (.int .u32 (swN X 5 : Nat)) ∧ w' = w := by
  rw [swap_rev X hX]
  go_enter Tryd.func8, Tryd.ntmps8
  go_wp2
  go_loop [0, 3, 4] (fun v n q => ∃ j : Nat, j ≤ 32 ∧ q = .int .i64 j ∧ v = .int .u32 (X / 2 ^ j : Nat) ∧ n = .int .u32 (revN X j : Nat)) (fun _ _ q => 32 - (intOf q).toNat)
  case atStart => exact ⟨0, by omega, rfl, by rw [Nat.pow_zero, Nat.div_one], rfl⟩
  case round =>
    obtain ⟨j, hj, rfl, rfl, rfl⟩ := hrel
    by_cases hlt : j < 32
    · have h1 : X / 2 ^ j ≤ X := Nat.div_le_self _ _
      have h2 := revN_lt X j
      have h3 : 2 ^ j ≤ 2 ^ 31 := Nat.pow_le_pow_right (by decide) (by omega)
      have h4 : revN X j < 2147483648 := by omega
      have HH : Hid (X / 2 ^ (j + 1) = X / 2 ^ j / 2) := half32 X j
      have HR : Hid (revN X (j + 1) = revN X j * 2 + X / 2 ^ j % 2) := rfl
      clear h2 h3
      generalize X / 2 ^ j = Y at *
      generalize revN X j = N at *
      go_wp2
      go_round
      case rel => exact ⟨j + 1, by omega, by go_num, by rw [HH.out]; go_num, by rw [HR.out]; go_num⟩
      case measure => simp [intOf]; omega
    · have hj32 : j = 32 := by omega
      subst hj32
      go_wp2
      go_ret
      exact ⟨rfl, rfl⟩
theorem rones_any (W : Nat) (w : World) (hW : W < 18446744073709551616) :
    Calls Tryd.prog 10 #[.int .u64 W] w fun e w' => e = .returned (.int .i64 (pop64 W : Nat)) ∧ w' = w := by
  have hle := pop64_le W
  have H0 : Hid (0 + popF 64 W = pop64 W) := Nat.zero_add _
  generalize pop64 W = R at *
  go_enter Tryd.func10, Tryd.ntmps10
  go_wp2
  go_loop [0, 3, 4] (fun v n q => ∃ f j Y c : Nat, f + j = 64 ∧ Y < 18446744073709551616 ∧ q = .int .i64 j ∧ v = .int .u64 Y ∧ n = .int .i64 c ∧ c + popF f Y = R) (fun _ _ q => 64 - (intOf q).toNat)
  case atStart => exact ⟨64, 0, W, 0, rfl, hW, rfl, rfl, rfl, H0.out⟩
  case round =>
    obtain ⟨f, j, Y, c, hj, hY, rfl, rfl, rfl, hp⟩ := hrel
    have hc : c ≤ 64 := by omega
    have HP : Hid (c + popF f Y = R) := hp
    clear hp H0
    cases f with
    | zero =>
      have HZ : Hid (R = c) := HP.out.symm
      go_wp2
      go_ret
      exact ⟨by rw [HZ.out]; rfl, rfl⟩
    | succ f =>
      have HS : Hid (popF (f + 1) Y = Y % 2 + popF f (Y / 2)) := rfl
      go_wp2
      go_round
      case rel => exact ⟨f, j + 1, Y / 2, c + Y % 2, by omega, by omega, by go_num, by go_num, by go_num, by have := HS.out; have := HP.out; omega⟩
      case measure => simp [intOf]; omega
theorem rzig_any (a : Int) (w : World) (a0 : -9223372036854775808 ≤ a) (a1 : a ≤ 9223372036854775807) :
    Calls Tryd.prog 12 #[.int .i64 a] w fun e w' => e = .returned (.int .u64 (zigV a)) ∧ w' = w := by
  by_cases h : 0 ≤ a
  · go_enter Tryd.func12, Tryd.ntmps12
    go_wp2
    go_ret
    exact ⟨ret_int (by unfold zigV; rw [if_pos h]), rfl⟩
  · go_enter Tryd.func12, Tryd.ntmps12
    go_wp2
    go_ret
    exact ⟨ret_int (by unfold zigV; rw [if_neg (by omega)]; omega), rfl⟩
theorem rzag_any (u : Int) (w : World) (u0 : 0 ≤ u) (u1 : u ≤ 18446744073709551615) :
    Calls Tryd.prog 14 #[.int .u64 u] w fun e w' => e = .returned (.int .i64 (zagV u)) ∧ w' = w := by
  by_cases h : u % 2 = 0
  · have hb : (u % 2 == 0) = true := by simpa using h
    have HV : Hid (zagV u = u / 2) := by show zagV u = u / 2; unfold zagV; rw [if_pos h]
    clear h
    go_enter Tryd.func14, Tryd.ntmps14
    go_wp2
    go_ret
    exact ⟨ret_int HV.out.symm, rfl⟩
  · have hb : (u % 2 == 0) = false := by simpa using h
    have HV : Hid (zagV u = -(u / 2) - 1) := by show zagV u = _; unfold zagV; rw [if_neg h]
    clear h
    go_enter Tryd.func14, Tryd.ntmps14
    go_wp2
    go_ret
    exact ⟨ret_int HV.out.symm, rfl⟩
end Go.Proofs.YtbgnfcjnifcenaaDoor
