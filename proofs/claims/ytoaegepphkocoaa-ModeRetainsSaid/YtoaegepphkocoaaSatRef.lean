/-
  The calls Add, Mul (and mag) of the document's answer: the sum and the product of any two 64-bit numbers, kept at the ends; nothing in the world turns.
-/
import Derived.Test.YtoaegepphkocoaaSat
namespace Go.Proofs.Ytoaegepphkocoaa
open Go.ChangeShapes Go.WideShapes Go.ChangeAt Go.RowKit
set_option linter.unusedVariables false
theorem radd_any (a b : Int) (w : World) (a0 : -9223372036854775808 ≤ a) (a1 : a ≤ 9223372036854775807) (b0 : -9223372036854775808 ≤ b) (b1 : b ≤ 9223372036854775807) :
    Calls Try.prog 31 #[.int .i64 a, .int .i64 b] w fun e w' => e = .returned (.int .i64 (sat (a + b))) ∧ w' = w := by
  by_cases h1 : 0 < b
  · by_cases h2 : 9223372036854775807 - b < a
    · go_enter Try.func31, Try.ntmps31
      go_wp2
      go_ret
      exact ⟨ret_int (sat_hi (by omega)).symm, rfl⟩
    · have h3 : ¬ b < 0 := by omega
      go_enter Try.func31, Try.ntmps31
      go_wp2
      go_ret
      exact ⟨ret_int (sat_in (by omega) (by omega)).symm, rfl⟩
  · by_cases h2 : b < 0
    · by_cases h3 : a < -9223372036854775808 - b
      · go_enter Try.func31, Try.ntmps31
        go_wp2
        go_ret
        exact ⟨ret_int (sat_lo (by omega)).symm, rfl⟩
      · go_enter Try.func31, Try.ntmps31
        go_wp2
        go_ret
        exact ⟨ret_int (sat_in (by omega) (by omega)).symm, rfl⟩
    · go_enter Try.func31, Try.ntmps31
      go_wp2
      go_ret
      exact ⟨ret_int (sat_in (by omega) (by omega)).symm, rfl⟩
theorem mag_any (a : Int) (w : World) (a0 : -9223372036854775808 ≤ a) (a1 : a ≤ 9223372036854775807) :
    Calls Try.prog 33 #[.int .i64 a] w fun e w' => e = .returned (.int .u64 (a.natAbs : Int)) ∧ w' = w := by
  by_cases h : a < 0
  · go_enter Try.func33, Try.ntmps33
    go_wp2
    go_ret
    exact ⟨ret_int (by omega), rfl⟩
  · go_enter Try.func33, Try.ntmps33
    go_wp2
    go_ret
    exact ⟨ret_int (by omega), rfl⟩
theorem over_div' (M : Int) (m x y : Nat) (hM : M = (m : Int)) (hx : 0 < x) : M / (x : Int) < (y : Int) ↔ m < x * y := by
  rw [over_div M m y x hM hx, Nat.mul_comm]
theorem mul_same' (a b : Int) (h : (a < 0 ∧ b < 0) ∨ (0 ≤ a ∧ 0 ≤ b)) : ((a.natAbs * b.natAbs : Nat) : Int) = a * b := by
  rcases h with ⟨h1, h2⟩ | ⟨h1, h2⟩
  · exact mul_same a b (.inl ⟨h1, h2⟩)
  · rw [← Int.natAbs_mul, Int.natAbs_of_nonneg (Int.mul_nonneg h1 h2)]
theorem mul_other' (a b : Int) (h : (a < 0 ∧ 0 ≤ b) ∨ (0 ≤ a ∧ b < 0)) : ((a.natAbs * b.natAbs : Nat) : Int) = -(a * b) := by
  rcases h with ⟨h1, h2⟩ | ⟨h1, h2⟩
  · have := mul_same' (-a) b (by omega); rw [Int.natAbs_neg, Int.neg_mul] at this; exact this
  · have := mul_same' a (-b) (by omega); rw [Int.natAbs_neg, Int.mul_neg] at this; exact this
theorem rmul_any (a b : Int) (w : World) (a0 : -9223372036854775808 ≤ a) (a1 : a ≤ 9223372036854775807) (b0 : -9223372036854775808 ≤ b) (b1 : b ≤ 9223372036854775807) :
    Calls Try.prog 32 #[.int .i64 a, .int .i64 b] w fun e w' => e = .returned (.int .i64 (sat (a * b))) ∧ w' = w := by
  by_cases ha : a = 0
  · subst ha
    have hs0 : sat (0 * b) = 0 := by rw [Int.zero_mul]; rfl
    rw [hs0]
    clear hs0
    by_cases hb : b < 0
    · go_enter Try.func32, Try.ntmps32
      go_wp2_with (go_at_call 33; refine (mag_any _ _ (by omega) (by omega)).mono ?_; rintro e w' ⟨rfl, rfl⟩)
      go_ret
      exact ⟨rfl, rfl⟩
    · go_enter Try.func32, Try.ntmps32
      go_wp2_with (go_at_call 33; refine (mag_any _ _ (by omega) (by omega)).mono ?_; rintro e w' ⟨rfl, rfl⟩)
      go_ret
      exact ⟨rfl, rfl⟩
  have hx : (1 : Int) ≤ (a.natAbs : Int) := by omega
  have hx' : ((a.natAbs : Int) != 0) = true := by rw [bne_iff_ne]; omega
  have h7 : 0 ≤ (a.natAbs : Int) * (b.natAbs : Int) := by rw [← Int.natCast_mul]; omega
  by_cases hs : (a < 0 ∧ b < 0) ∨ (0 ≤ a ∧ 0 ≤ b)
  · have hm := mul_same' a b hs
    have hd : (decide (a < 0) == decide (b < 0)) = true := by rcases hs with ⟨h1, h2⟩ | ⟨h1, h2⟩ <;> simp <;> omega
    have ho := over_div' 9223372036854775807 9223372036854775807 a.natAbs b.natAbs rfl (by omega)
    by_cases hov : (9223372036854775807 : Int) / (a.natAbs : Int) < (b.natAbs : Int)
    · have h9 := ho.1 hov
      have hr : sat (a * b) = 9223372036854775807 := sat_hi (by rw [← hm]; omega)
      rw [hr]
      clear hm ho h9 hr hs ha
      go_enter Try.func32, Try.ntmps32
      go_wp2_with (go_at_call 33; refine (mag_any _ _ (by omega) (by omega)).mono ?_; rintro e w' ⟨rfl, rfl⟩)
      go_ret
      exact ⟨rfl, rfl⟩
    · have h9 : a.natAbs * b.natAbs ≤ 9223372036854775807 := by
        have := fun h => hov (ho.2 h); omega
      have hr : sat (a * b) = (a.natAbs : Int) * (b.natAbs : Int) := by
        rw [sat_in (by rw [← hm]; omega) (by rw [← hm]; omega), ← hm, Int.natCast_mul]
      have h8 : (a.natAbs : Int) * (b.natAbs : Int) ≤ 9223372036854775807 := by rw [← Int.natCast_mul]; omega
      rw [hr]
      clear hm ho h9 hr hs ha
      go_enter Try.func32, Try.ntmps32
      go_wp2_with (go_at_call 33; refine (mag_any _ _ (by omega) (by omega)).mono ?_; rintro e w' ⟨rfl, rfl⟩)
      go_ret
      exact ⟨rfl, rfl⟩
  · have hm := mul_other' a b (by omega)
    have hd : (decide (a < 0) == decide (b < 0)) = false := by
      by_cases h1 : a < 0
      · have h2 : ¬ b < 0 := by omega
        simp [h1, h2]
      · have h2 : b < 0 := by omega
        simp [h1, h2]
    have ho := over_div' 9223372036854775808 9223372036854775808 a.natAbs b.natAbs rfl (by omega)
    by_cases hov : (9223372036854775808 : Int) / (a.natAbs : Int) < (b.natAbs : Int)
    · have h9 := ho.1 hov
      have hr : sat (a * b) = -9223372036854775808 := sat_lo (by omega)
      rw [hr]
      clear hm ho h9 hr hs ha
      go_enter Try.func32, Try.ntmps32
      go_wp2_with (go_at_call 33; refine (mag_any _ _ (by omega) (by omega)).mono ?_; rintro e w' ⟨rfl, rfl⟩)
      go_ret
      exact ⟨rfl, rfl⟩
    · have h9 : a.natAbs * b.natAbs ≤ 9223372036854775808 := by
        have := fun h => hov (ho.2 h); omega
      have hr : sat (a * b) = a * b := sat_in (by omega) (by omega)
      have hmm : (a.natAbs : Int) * (b.natAbs : Int) = -(a * b) := by rw [← Int.natCast_mul]; exact hm
      have h8 : (a.natAbs : Int) * (b.natAbs : Int) ≤ 9223372036854775808 := by rw [← Int.natCast_mul]; omega
      have HM : Hid ((a.natAbs : Int) * (b.natAbs : Int) = -(a * b)) := hmm
      by_cases hp : (a.natAbs : Int) * (b.natAbs : Int) = 0
      · have hab : a * b = 0 := by omega
        have hpp : ((a.natAbs : Int) * (b.natAbs : Int) == 0) = true := by simpa using hp
        rw [hr, hab]
        clear hm ho h9 hr hs hmm hab hp ha
        go_enter Try.func32, Try.ntmps32
        go_wp2_with (go_at_call 33; refine (mag_any _ _ (by omega) (by omega)).mono ?_; rintro e w' ⟨rfl, rfl⟩)
        go_ret
        exact ⟨rfl, rfl⟩
      · have hpp : ((a.natAbs : Int) * (b.natAbs : Int) == 0) = false := by simpa using hp
        have hp1 : 1 ≤ (a.natAbs : Int) * (b.natAbs : Int) := by omega
        rw [hr]
        clear hm ho h9 hr hs hmm hp ha
        go_enter Try.func32, Try.ntmps32
        go_wp2_with (go_at_call 33; refine (mag_any _ _ (by omega) (by omega)).mono ?_; rintro e w' ⟨rfl, rfl⟩)
        go_ret
        exact ⟨ret_int (by have := HM.out; omega), rfl⟩
end Go.Proofs.Ytoaegepphkocoaa
