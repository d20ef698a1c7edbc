/-
  The calls Add, Mul (and distance) of package bits: the sum and the product of any two 64-bit numbers, kept at the ends; nothing in the world turns.
-/
import Derived.Test.YtbgnfcjnifcenaaAwake
namespace Go.Proofs.Ytbgnfcjnifcenaa
open Go.ChangeShapes Go.WideShapes Go.ChangeAt Go.RowKit
set_option linter.unusedVariables false
def sat (x : Int) : Int := if 9223372036854775807 < x then 9223372036854775807 else if x < -9223372036854775808 then -9223372036854775808 else x
theorem sat_hi {x : Int} (h : 9223372036854775807 < x) : sat x = 9223372036854775807 := by unfold sat; rw [if_pos h]
theorem sat_lo {x : Int} (h : x < -9223372036854775808) : sat x = -9223372036854775808 := by unfold sat; rw [if_neg (by omega), if_pos h]
theorem sat_in {x : Int} (h0 : -9223372036854775808 ≤ x) (h1 : x ≤ 9223372036854775807) : sat x = x := by unfold sat; rw [if_neg (by omega), if_neg (by omega)]
theorem i64_bounds {a : Int} (h : (Lit.int .i64 a).wf = true) : -9223372036854775808 ≤ a ∧ a ≤ 9223372036854775807 := bounds_i64 h
theorem neg_u64 (a : Int) (h0 : a < 0) (h1 : -9223372036854775808 ≤ a) : IntKind.u64.wrap (wrap64 (-a)) = -a := by
  rw [IntKind.wrap_u64]; unfold wrap64; omega
theorem add_any (a b : Int) (w : World) (a0 : -9223372036854775808 ≤ a) (a1 : a ≤ 9223372036854775807) (b0 : -9223372036854775808 ≤ b) (b1 : b ≤ 9223372036854775807) :
    Calls Try.prog 22 #[.int .i64 a, .int .i64 b] w fun e w' => e = .returned (.int .i64 (sat (a + b))) ∧ w' = w := by
  by_cases h1 : 0 < b
  · by_cases h2 : 9223372036854775807 - b < a
    · go_enter Try.func22, Try.ntmps22
      go_wp2
      go_ret
      exact ⟨ret_int (sat_hi (by omega)).symm, rfl⟩
    · have h3 : ¬ b < 0 := by omega
      go_enter Try.func22, Try.ntmps22
      go_wp2
      go_ret
      exact ⟨ret_int (sat_in (by omega) (by omega)).symm, rfl⟩
  · by_cases h2 : b < 0
    · by_cases h3 : a < -9223372036854775808 - b
      · go_enter Try.func22, Try.ntmps22
        go_wp2
        go_ret
        exact ⟨ret_int (sat_lo (by omega)).symm, rfl⟩
      · go_enter Try.func22, Try.ntmps22
        go_wp2
        go_ret
        exact ⟨ret_int (sat_in (by omega) (by omega)).symm, rfl⟩
    · go_enter Try.func22, Try.ntmps22
      go_wp2
      go_ret
      exact ⟨ret_int (sat_in (by omega) (by omega)).symm, rfl⟩
theorem dist_any (a : Int) (w : World) (a0 : -9223372036854775808 ≤ a) (a1 : a ≤ 9223372036854775807) :
    Calls Try.prog 32 #[.int .i64 a] w fun e w' => e = .returned (.int .u64 (a.natAbs : Int)) ∧ w' = w := by
  by_cases h : a < 0
  · go_enter Try.func32, Try.ntmps32
    go_wp2
    go_ret
    exact ⟨ret_int ((neg_u64 a h a0).trans (by omega)), rfl⟩
  · go_enter Try.func32, Try.ntmps32
    go_wp2
    go_ret
    exact ⟨ret_int (by omega), rfl⟩
theorem over_div (M : Int) (m x y : Nat) (hM : M = (m : Int)) (hy : 0 < y) : M / (y : Int) < (x : Int) ↔ m < x * y := by
  subst hM
  have h := Nat.div_lt_iff_lt_mul (x := m) (y := x) hy
  rw [← h]; omega
theorem neg_back (p : Int) (h0 : 0 ≤ p) (h1 : p ≤ 9223372036854775808) : wrap64 (-wrap64 p) = -p := by
  unfold wrap64; omega
theorem mul_same (a b : Int) (h : (a < 0 ∧ b < 0) ∨ (0 < a ∧ 0 < b)) : ((a.natAbs * b.natAbs : Nat) : Int) = a * b := by
  rcases h with ⟨h1, h2⟩ | ⟨h1, h2⟩
  · rw [← Int.natAbs_mul, Int.natAbs_of_nonneg (Int.mul_nonneg_of_nonpos_of_nonpos (by omega) (by omega))]
  · rw [← Int.natAbs_mul, Int.natAbs_of_nonneg (Int.mul_nonneg (by omega) (by omega))]
theorem mul_other (a b : Int) (h : (a < 0 ∧ 0 < b) ∨ (0 < a ∧ b < 0)) : ((a.natAbs * b.natAbs : Nat) : Int) = -(a * b) := by
  rcases h with ⟨h1, h2⟩ | ⟨h1, h2⟩
  · have := mul_same (-a) b (by omega); rw [Int.natAbs_neg, Int.neg_mul] at this; exact this
  · have := mul_same a (-b) (by omega); rw [Int.natAbs_neg, Int.mul_neg] at this; exact this
theorem mul_any (a b : Int) (w : World) (a0 : -9223372036854775808 ≤ a) (a1 : a ≤ 9223372036854775807) (b0 : -9223372036854775808 ≤ b) (b1 : b ≤ 9223372036854775807) :
    Calls Try.prog 24 #[.int .i64 a, .int .i64 b] w fun e w' => e = .returned (.int .i64 (sat (a * b))) ∧ w' = w := by
  by_cases ha : a = 0
  · subst ha
    go_enter Try.func24, Try.ntmps24
    go_wp2
    go_ret
    exact ⟨ret_int (by rw [Int.zero_mul]; rfl), rfl⟩
  by_cases hb : b = 0
  · subst hb
    have ha' : (a == 0) = false := by simpa using ha
    go_enter Try.func24, Try.ntmps24
    go_wp2
    go_ret
    exact ⟨ret_int (by rw [Int.mul_zero]; rfl), rfl⟩
  have ha' : (a == 0) = false := by simpa using ha
  have hb' : (b == 0) = false := by simpa using hb
  have hy : (1 : Int) ≤ (b.natAbs : Int) := by omega
  by_cases hs : (a < 0 ∧ b < 0) ∨ (0 < a ∧ 0 < b)
  · have hm := mul_same a b hs
    have hd : (decide (a < 0) == decide (b < 0)) = true := by rcases hs with ⟨h1, h2⟩ | ⟨h1, h2⟩ <;> simp <;> omega
    have ho := over_div 9223372036854775807 9223372036854775807 a.natAbs b.natAbs rfl (by omega)
    have HM : Hid (((a.natAbs * b.natAbs : Nat) : Int) = a * b) := hm
    by_cases hov : (9223372036854775807 : Int) / (b.natAbs : Int) < (a.natAbs : Int)
    · have h9 := ho.1 hov
      have hr : sat (a * b) = 9223372036854775807 := sat_hi (by rw [← hm]; omega)
      rw [hr]
      clear hm ho h9 hr hs
      go_enter Try.func24, Try.ntmps24
      go_wp2_with (go_at_call 32; refine (dist_any _ _ (by omega) (by omega)).mono ?_; rintro e w' ⟨rfl, rfl⟩)
      go_ret
      exact ⟨rfl, rfl⟩
    · have h9 : a.natAbs * b.natAbs ≤ 9223372036854775807 := by
        have := fun h => hov (ho.2 h); omega
      have hr : sat (a * b) = (a.natAbs : Int) * (b.natAbs : Int) := by
        rw [sat_in (by rw [← hm]; omega) (by rw [← hm]; omega), ← hm, Int.natCast_mul]
      have h8 : (a.natAbs : Int) * (b.natAbs : Int) ≤ 9223372036854775807 := by rw [← Int.natCast_mul]; omega
      have h7 : 0 ≤ (a.natAbs : Int) * (b.natAbs : Int) := by rw [← Int.natCast_mul]; omega
      rw [hr]
      clear hm ho h9 hr hs
      go_enter Try.func24, Try.ntmps24
      go_wp2_with (go_at_call 32; refine (dist_any _ _ (by omega) (by omega)).mono ?_; rintro e w' ⟨rfl, rfl⟩)
      go_ret
      exact ⟨rfl, rfl⟩
  · have hm := mul_other a b (by omega)
    have hd : (decide (a < 0) == decide (b < 0)) = false := by
      by_cases h1 : a < 0
      · have h2 : ¬ b < 0 := by omega
        simp [h1, h2]
      · have h2 : b < 0 := by omega
        simp [h1, h2]
    have ho := over_div 9223372036854775808 9223372036854775808 a.natAbs b.natAbs rfl (by omega)
    have hq : ((-9223372036854775808 : Int).natAbs : Int) = 9223372036854775808 := rfl
    by_cases hov : (9223372036854775808 : Int) / (b.natAbs : Int) < (a.natAbs : Int)
    · have h9 := ho.1 hov
      have hr : sat (a * b) = -9223372036854775808 := sat_lo (by omega)
      rw [hr]
      clear hm ho h9 hr hs hq
      go_enter Try.func24, Try.ntmps24
      go_wp2_with (go_at_call 32; refine (dist_any _ _ (by omega) (by omega)).mono ?_; rintro e w' ⟨rfl, rfl⟩)
      go_ret
      exact ⟨rfl, rfl⟩
    · have h9 : a.natAbs * b.natAbs ≤ 9223372036854775808 := by
        have := fun h => hov (ho.2 h); omega
      have hr : sat (a * b) = a * b := sat_in (by omega) (by omega)
      have hmm : (a.natAbs : Int) * (b.natAbs : Int) = -(a * b) := by rw [← Int.natCast_mul]; exact hm
      have h8 : (a.natAbs : Int) * (b.natAbs : Int) ≤ 9223372036854775808 := by rw [← Int.natCast_mul]; omega
      have h7 : 0 ≤ (a.natAbs : Int) * (b.natAbs : Int) := by rw [← Int.natCast_mul]; omega
      have HM : Hid ((a.natAbs : Int) * (b.natAbs : Int) = -(a * b)) := hmm
      rw [hr]
      clear hm ho h9 hr hs hmm hq
      go_enter Try.func24, Try.ntmps24
      go_wp2_with (go_at_call 32; refine (dist_any _ _ (by omega) (by omega)).mono ?_; rintro e w' ⟨rfl, rfl⟩)
      go_ret
      exact ⟨ret_int ((neg_back _ h7 h8).trans (by rw [HM.out]; omega)), rfl⟩
end Go.Proofs.Ytbgnfcjnifcenaa
