/-
  Plain facts on words: bits that are set are read again and the others stay, a word twice in the other order, or turned and turned back, is as it was, and has as many ones in the other order.
-/
import Derived.Test.YtbgnfcjnifcenabDoorFieldSet
import Derived.Test.YtbgnfcjnifcenabDoorTurnOnes
import Derived.Test.YtbgnfcjnifcenabDoorSwap
namespace Go.Proofs.YtbgnfcjnifcenabDoor
open Go.ChangeShapes Go.WideShapes Go.ChangeAt Go.RowKit
set_option linter.unusedVariables false
/-- The lowest j bits in the other order. -/
def revN (X : Nat) : Nat → Nat
  | 0 => 0
  | j + 1 => revN X j * 2 + X / 2 ^ j % 2
theorem revN_lt (X : Nat) : ∀ j, revN X j < 2 ^ j
  | 0 => by simp [revN]
  | j + 1 => by have := revN_lt X j; rw [revN, Nat.pow_succ]; omega
theorem revN_bit (X : Nat) : ∀ j i, i < j → (revN X j).testBit i = X.testBit (j - 1 - i)
  | 0, i, h => by omega
  | j + 1, 0, _ => by
    rw [revN, Nat.testBit_zero, Nat.testBit_eq_decide_div_mod_eq]
    congr 1
    rw [show j + 1 - 1 - 0 = j by omega]
    generalize X / 2 ^ j = y
    apply propext
    omega
  | j + 1, i + 1, h => by
    rw [Nat.testBit_succ, show (revN X (j + 1)) / 2 = revN X j from by rw [revN]; omega, revN_bit X j i (by omega)]
    congr 1
    omega
theorem swap_rev (X : Nat) (hX : X < 4294967296) : swN X 5 = revN X 32 := by
  apply Nat.eq_of_testBit_eq
  intro i
  by_cases hi : i < 32
  · rw [swap_bit X hX i hi, revN_bit X 32 i hi]
  · have hp : 2 ^ 32 ≤ 2 ^ i := Nat.pow_le_pow_right (by decide) (by omega)
    rw [Nat.testBit_lt_two_pow (Nat.lt_of_lt_of_le (swN_lt X 5 hX) hp), Nat.testBit_lt_two_pow (Nat.lt_of_lt_of_le (revN_lt X 32) hp)]
theorem bits_eq (a b f : Nat) (ha : a < 2 ^ f) (hb : b < 2 ^ f) (h : ∀ j, j < f → a.testBit j = b.testBit j) : a = b := by
  apply Nat.eq_of_testBit_eq
  intro j
  by_cases hj : j < f
  · exact h j hj
  · have hp : 2 ^ f ≤ 2 ^ j := Nat.pow_le_pow_right (by decide) (by omega)
    rw [Nat.testBit_lt_two_pow (Nat.lt_of_lt_of_le ha hp), Nat.testBit_lt_two_pow (Nat.lt_of_lt_of_le hb hp)]
theorem fieldN_lt (W i k : Nat) : fieldN W i k < 2 ^ k := Nat.mod_lt _ (Nat.two_pow_pos k)
theorem fieldN_bit (W i k j : Nat) : (fieldN W i k).testBit j = (decide (j < k) && W.testBit (j + i)) := by
  unfold fieldN; rw [Nat.testBit_mod_two_pow, Nat.testBit_div_two_pow]
theorem set_same (W i k : Nat) (hW : W < 18446744073709551616) (h : i + k ≤ 64) : setN W i k (fieldN W i k) = W := by
  refine bits_eq _ _ 64 (setN_lt W i k _ hW h (fieldN_lt W i k)) hW fun j hj => ?_
  rw [setN_testBit W _ i k h (fieldN_lt W i k) j hj, fieldN_bit]
  by_cases hin : i ≤ j ∧ j < i + k
  · have h1 : j - i < k := by omega
    have h2 : j - i + i = j := by omega
    simp [hin, h1, h2]
  · rw [if_neg hin]
theorem field_set (W i k V : Nat) (hW : W < 18446744073709551616) (h : i + k ≤ 64) (hr : V < 2 ^ k) : fieldN (setN W i k V) i k = V := by
  refine bits_eq _ _ k (fieldN_lt _ i k) hr fun j hj => ?_
  rw [fieldN_bit, setN_testBit W V i k h hr (j + i) (by omega), if_pos ⟨by omega, by omega⟩]
  simp [hj]
theorem set_back (W i k V : Nat) (hW : W < 18446744073709551616) (h : i + k ≤ 64) (hr : V < 2 ^ k) : setN (setN W i k V) i k (fieldN W i k) = W := by
  refine bits_eq _ _ 64 (setN_lt _ i k _ (setN_lt W i k V hW h hr) h (fieldN_lt W i k)) hW fun j hj => ?_
  rw [setN_testBit _ _ i k h (fieldN_lt W i k) j hj, fieldN_bit, setN_testBit W V i k h hr j hj]
  by_cases hin : i ≤ j ∧ j < i + k
  · have h1 : j - i < k := by omega
    have h2 : j - i + i = j := by omega
    simp [hin, h1, h2]
  · rw [if_neg hin, if_neg hin]
theorem swap_swap (X : Nat) (hX : X < 4294967296) : swN (swN X 5) 5 = X := by
  have h1 := swN_lt X 5 hX
  refine bits_eq _ _ 32 (swN_lt _ 5 h1) hX fun j hj => ?_
  rw [swap_bit _ h1 j hj, swap_bit X hX (31 - j) (by omega)]
  congr 1
  omega
theorem rot_back_core (P M X : Nat) (hP : 0 < P) (hM : 0 < M) (hPM : M * P = 4294967296) (hX : X < 4294967296) :
    (X % M * P + X / M) % P * M + (X % M * P + X / M) / P = X := by
  have hlt : X / M < P := by rw [Nat.div_lt_iff_lt_mul hM, Nat.mul_comm, hPM]; exact hX
  rw [Nat.add_comm (X % M * P), Nat.mul_comm (X % M) P, Nat.add_mul_mod_self_left, Nat.mod_eq_of_lt hlt, Nat.add_mul_div_left _ _ hP, Nat.div_eq_of_lt hlt, Nat.zero_add, Nat.mul_comm]
  exact Nat.div_add_mod X M
theorem rot_zero' (X : Nat) (hX : X < 4294967296) : rotN X 0 = X := by
  unfold rotN
  rw [Nat.pow_zero, Nat.mul_one, Nat.mod_eq_of_lt hX, Nat.div_eq_of_lt (by simpa using hX), Nat.add_zero]
theorem rot_back (X a : Nat) (hX : X < 4294967296) (h0 : 0 < a) (h1 : a < 32) : rotN (rotN X a) (32 - a) = X := by
  have e : rotN (rotN X a) (32 - a) = (rotN X a) % 2 ^ a * 2 ^ (32 - a) + (rotN X a) / 2 ^ a := by
    show rotN X a * 2 ^ (32 - a) % 4294967296 + rotN X a / 2 ^ (32 - (32 - a)) = _
    rw [split32 _ (32 - a) (by omega), show 32 - (32 - a) = a by omega]
  have e2 : rotN X a = X % 2 ^ (32 - a) * 2 ^ a + X / 2 ^ (32 - a) := by unfold rotN; rw [split32 X a (by omega)]
  rw [e, e2]
  exact rot_back_core (2 ^ a) (2 ^ (32 - a)) X (Nat.two_pow_pos _) (Nat.two_pow_pos _) (by rw [← Nat.pow_add, show 32 - a + a = 32 by omega]) hX
/-- Turned by m places and by as many back. -/
theorem turn_back (X : Nat) (m : Int) (hX : X < 4294967296) : rotN (rotN X (m % 32).toNat) ((-m) % 32).toNat = X := by
  by_cases h : m % 32 = 0
  · rw [h, show (-m) % 32 = 0 by omega, show (0 : Int).toNat = 0 from rfl, rot_zero' X hX, rot_zero' X hX]
  · rw [show ((-m) % 32).toNat = 32 - (m % 32).toNat by omega]
    exact rot_back X _ hX (by omega) (by omega)
theorem popF_top (j : Nat) : ∀ X, popF (j + 1) X = popF j X + X / 2 ^ j % 2 := by
  induction j with
  | zero => intro X; simp [popF]
  | succ j ih =>
    intro X
    have e : popF (j + 1 + 1) X = X % 2 + popF (j + 1) (X / 2) := rfl
    have e2 : popF (j + 1) X = X % 2 + popF j (X / 2) := rfl
    rw [e, ih (X / 2), e2, Nat.div_div_eq_div_mul, Nat.pow_succ, Nat.mul_comm 2]
    omega
theorem popF_rev (X : Nat) : ∀ j, popF j (revN X j) = popF j X
  | 0 => rfl
  | j + 1 => by
    have e : popF (j + 1) (revN X (j + 1)) = revN X (j + 1) % 2 + popF j (revN X (j + 1) / 2) := rfl
    rw [e, popF_top j X, show revN X (j + 1) / 2 = revN X j from by rw [revN]; omega, show revN X (j + 1) % 2 = X / 2 ^ j % 2 from by rw [revN]; omega, popF_rev X j]
    omega
theorem popF_more (f X : Nat) (hX : X < 2 ^ f) : ∀ g, popF (f + g) X = popF f X
  | 0 => rfl
  | g + 1 => by
    have hp : 2 ^ f ≤ 2 ^ (f + g) := Nat.pow_le_pow_right (by decide) (by omega)
    rw [← Nat.add_assoc, popF_top, popF_more f X hX g, Nat.div_eq_of_lt (by omega), Nat.zero_mod, Nat.add_zero]
theorem ones_swap (X : Nat) (hX : X < 4294967296) : pop64 (swN X 5) = pop64 X := by
  have h1 : popF (32 + 32) (swN X 5) = popF 32 (swN X 5) := popF_more 32 _ (swN_lt X 5 hX) 32
  have h2 : popF (32 + 32) X = popF 32 X := popF_more 32 X hX 32
  show popF (32 + 32) (swN X 5) = popF (32 + 32) X
  rw [h1, h2, swap_rev X hX, popF_rev X 32]
end Go.Proofs.YtbgnfcjnifcenabDoor
