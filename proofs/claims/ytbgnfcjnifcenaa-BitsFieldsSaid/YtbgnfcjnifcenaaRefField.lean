/-
  Bit, Field and Set of the document's answer: the same bits, the same word, the same errors as plain functions of the numbers.
-/
import Derived.Test.YtbgnfcjnifcenaaFieldSet
namespace Go.Proofs.Ytbgnfcjnifcenaa
open Go.ChangeShapes Go.WideShapes Go.ChangeAt Go.RowKit
set_option linter.unusedVariables false
set_option linter.unusedSimpArgs false
theorem half (W j : Nat) : W / 2 ^ (j + 1) = W / 2 ^ j / 2 := by rw [Nat.pow_succ, Nat.div_div_eq_div_mul]
theorem odd_bool (X : Nat) : ((X : Int) % 2 == 1) = decide (X % 2 = 1) := by
  rw [Bool.eq_iff_iff, beq_iff_eq, decide_eq_true_iff]; omega
theorem bit_any (W : Nat) (x : Int) (w : World) (hW : W < 18446744073709551616) (x0 : 0 ≤ x) (x1 : x ≤ 128) :
    Calls Try.prog 31 #[.int .u64 W, .int .i64 x] w fun e w' => e = .returned (.bool (W.testBit x.toNat)) ∧ w' = w := by
  obtain ⟨i, rfl⟩ := Int.eq_ofNat_of_zero_le x0
  rw [Int.toNat_natCast]
  go_enter Try.func31, Try.ntmps31
  go_wp2
  go_loop [0, 5] (fun v k => ∃ j : Nat, j ≤ i ∧ k = .int .i64 j ∧ v = .int .u64 ((W / 2 ^ j : Nat) : Int)) (fun _ k => i - (intOf k).toNat)
  case atStart => exact ⟨0, Nat.zero_le _, rfl, by rw [Nat.pow_zero, Nat.div_one]⟩
  case round =>
    obtain ⟨j, hj, rfl, rfl⟩ := hrel
    have hle : W / 2 ^ j ≤ W := Nat.div_le_self _ _
    by_cases hlt : j < i
    · have HH : Hid (W / 2 ^ (j + 1) = W / 2 ^ j / 2) := half W j
      generalize W / 2 ^ j = X at *
      go_wp2
      go_round
      case rel => exact ⟨j + 1, by omega, by go_num, by rw [HH.out]; go_num⟩
      case measure => simp [intOf]; omega
    · have hji : j = i := by omega
      subst hji
      have HT : Hid (W.testBit j = decide (W / 2 ^ j % 2 = 1)) := Nat.testBit_eq_decide_div_mod_eq
      generalize W / 2 ^ j = X at *
      go_wp2
      go_ret
      refine ⟨?_, rfl⟩
      rw [HT.out, ← odd_bool X]
      rfl
theorem zero_of_half (y : Nat) (h1 : y % 2 = 0) (h2 : y < 2) : y = 0 := by omega
theorem mod_step (X m : Nat) : X % 2 ^ (m + 1) = X / 2 % 2 ^ m * 2 + X % 2 := by
  rw [Nat.pow_succ, Nat.mul_comm, Nat.mod_mul, Nat.add_comm, Nat.mul_comm]
theorem rfield_ok (W i k : Nat) (w : World) (hW : W < 18446744073709551616) (h : i + k ≤ 64) :
    Calls Try.prog 19 #[.int .u64 W, .int .i64 i, .int .i64 k] w fun e w' => e = .returned (.tuple #[.int .u64 ((W / 2 ^ i % 2 ^ k : Nat) : Int), .int .i64 0]) ∧ w' = w := by
  go_enter Try.func19, Try.ntmps19
  go_wp2
  go_loop [8, 9] (fun n q => ∃ j : Nat, j ≤ k ∧ q = .int .i64 ((j : Int) - 1) ∧ n = .int .u64 ((W / 2 ^ (i + j) % 2 ^ (k - j) : Nat) : Int)) (fun _ q => (intOf q + 1).toNat)
  case atStart => exact ⟨k, Nat.le_refl _, by go_num, by rw [Nat.sub_self, Nat.pow_zero, Nat.mod_one]; rfl⟩
  case round =>
    obtain ⟨j, hj, rfl, rfl⟩ := hrel
    cases j with
    | zero =>
      go_wp2
      go_ret2
      exact ⟨rfl, rfl⟩
    | succ j =>
      have hstep : W / 2 ^ (i + j) % 2 ^ (k - j) = W / 2 ^ (i + (j + 1)) % 2 ^ (k - (j + 1)) * 2 + W / 2 ^ (i + j) % 2 := by
        rw [show k - j = (k - (j + 1)) + 1 by omega, mod_step, ← half, Nat.add_assoc]
      have hb : W / 2 ^ (i + j) % 2 ^ (k - j) < 18446744073709551616 := Nat.lt_of_le_of_lt (Nat.mod_le _ _) (Nat.lt_of_le_of_lt (Nat.div_le_self _ _) hW)
      have ht : W.testBit (i + j) = decide (W / 2 ^ (i + j) % 2 = 1) := Nat.testBit_eq_decide_div_mod_eq
      rw [hstep] at hb
      have HS : Hid (W / 2 ^ (i + j) % 2 ^ (k - j) = W / 2 ^ (i + (j + 1)) % 2 ^ (k - (j + 1)) * 2 + W / 2 ^ (i + j) % 2) := hstep
      clear hstep
      generalize W / 2 ^ (i + (j + 1)) % 2 ^ (k - (j + 1)) = n at *
      rw [show (((j + 1 : Nat) : Int) - 1) = (j : Int) by omega]
      by_cases hbit : W / 2 ^ (i + j) % 2 = 1
      · rw [hbit] at hb HS
        rw [decide_eq_true hbit] at ht
        have ht' : W.testBit ((i : Int) + (j : Int)).toNat = true := by rw [show ((i : Int) + (j : Int)).toNat = i + j by omega]; exact ht
        clear hbit
        go_wp2_with (go_at_call 31; refine (bit_any W _ _ hW (by omega) (by omega)).mono ?_; rintro e w' ⟨rfl, rfl⟩)
        go_round
        case rel => exact ⟨j, by omega, by go_num, by rw [HS.out]; go_num⟩
        case measure => simp [intOf]
      · have hz : W / 2 ^ (i + j) % 2 = 0 := by omega
        rw [hz] at hb HS
        rw [decide_eq_false hbit] at ht
        have ht' : W.testBit ((i : Int) + (j : Int)).toNat = false := by rw [show ((i : Int) + (j : Int)).toNat = i + j by omega]; exact ht
        clear hbit hz
        go_wp2_with (go_at_call 31; refine (bit_any W _ _ hW (by omega) (by omega)).mono ?_; rintro e w' ⟨rfl, rfl⟩)
        go_round
        case rel => exact ⟨j, by omega, by go_num, by rw [HS.out]; go_num⟩
        case measure => simp [intOf]
theorem rfield_N (W i k : Nat) (w : World) (hW : W < 18446744073709551616) (h : i + k ≤ 64) :
    Calls Try.prog 19 #[.int .u64 W, .int .i64 i, .int .i64 k] w fun e w' => e = .returned (.tuple #[.int .u64 (fieldN W i k : Nat), .int .i64 0]) ∧ w' = w := by
  unfold fieldN; exact rfield_ok W i k w hW h
theorem top_step (S j : Nat) : S / 2 ^ j = S / 2 ^ (j + 1) * 2 + S / 2 ^ j % 2 := by
  rw [half]; omega
set_option maxHeartbeats 2000000 in
theorem rset_ok (W V i k : Nat) (w : World) (hW : W < 18446744073709551616) (hV : V < 18446744073709551616) (h : i + k ≤ 64) (hr : V < 2 ^ k) :
    Calls Try.prog 21 #[.int .u64 W, .int .i64 i, .int .i64 k, .int .u64 V] w fun e w' => e = .returned (.tuple #[.int .u64 (setN W i k V : Nat), .int .i64 0]) ∧ w' = w := by
  have hS := setN_lt W i k V hW h hr
  have HB : Hid (∀ j, j < 64 → (setN W i k V).testBit j = if i ≤ j ∧ j < i + k then V.testBit (j - i) else W.testBit j) := fun j hj => setN_testBit W V i k h hr j hj
  have HV : Hid (V < 2 ^ k) := hr
  clear hr
  generalize setN W i k V = S at *
  go_enter Try.func21, Try.ntmps21
  go_wp2
  go_loop [10, 11] (fun n q => ∃ j : Nat, j ≤ 64 ∧ q = .int .i64 ((j : Int) - 1) ∧ n = .int .u64 ((S / 2 ^ j : Nat) : Int)) (fun _ q => (intOf q + 1).toNat)
  case atStart => exact ⟨64, Nat.le_refl _, rfl, by rw [Nat.div_eq_of_lt (by simpa using hS)]; rfl⟩
  case round =>
    obtain ⟨j, hj, rfl, rfl⟩ := hrel
    cases j with
    | zero =>
      go_wp2
      go_ret2
      exact ⟨rfl, rfl⟩
    | succ j =>
      have HS : Hid (S / 2 ^ j = S / 2 ^ (j + 1) * 2 + S / 2 ^ j % 2) := top_step S j
      have hb : S / 2 ^ (j + 1) * 2 + S / 2 ^ j % 2 < 18446744073709551616 := by rw [← top_step]; exact Nat.lt_of_le_of_lt (Nat.div_le_self _ _) hS
      have hx : S / 2 ^ j % 2 < 2 := Nat.mod_lt _ (by decide)
      have ht : S.testBit j = decide (S / 2 ^ j % 2 = 1) := Nat.testBit_eq_decide_div_mod_eq
      rw [HB.out j (by omega)] at ht
      have hvk : k ≤ j → V.testBit j = false := fun hkj => Nat.testBit_lt_two_pow (Nat.lt_of_lt_of_le HV.out (Nat.pow_le_pow_right (by decide) (by omega)))
      rw [show (((j + 1 : Nat) : Int) - 1) = (j : Int) by omega]
      have hway : (i ≤ j ∧ j < i + k ∧ V.testBit (j - i) = decide (S / 2 ^ j % 2 = 1)) ∨ (j < i ∧ W.testBit j = decide (S / 2 ^ j % 2 = 1)) ∨ (i ≤ j ∧ i + k ≤ j ∧ W.testBit j = decide (S / 2 ^ j % 2 = 1)) := by
        by_cases h1 : i ≤ j
        · by_cases h2 : j < i + k
          · rw [if_pos ⟨h1, h2⟩] at ht; exact .inl ⟨h1, h2, ht⟩
          · rw [if_neg (fun h => h2 h.2)] at ht; exact .inr (.inr ⟨h1, by omega, ht⟩)
        · rw [if_neg (fun h => h1 h.1)] at ht; exact .inr (.inl ⟨by omega, ht⟩)
      have hkw : (k ≤ j ∧ V.testBit j = false) ∨ j < k := by
        by_cases hkj : k ≤ j
        · exact .inl ⟨hkj, hvk hkj⟩
        · exact .inr (by omega)
      have HX : Hid (S / 2 ^ j % 2 = 1 ∨ S / 2 ^ j % 2 = 0) := by have := hx; show _ ∨ _; omega
      clear ht hvk hx
      generalize hbx : S / 2 ^ j % 2 = x at *
      have HBX : Hid (S / 2 ^ j % 2 = x) := hbx
      clear hbx
      generalize S / 2 ^ (j + 1) = n at *
      have hHX := HX.out
      clear HX
      rcases hHX with rfl | rfl
      · rw [decide_eq_true rfl] at hway
        rcases hway with ⟨i1, i2, i3⟩ | ⟨i1, i3⟩ | ⟨i1, i2, i3⟩ <;> rcases hkw with ⟨k1, k2⟩ | k1
        all_goals try (exfalso; omega)
        all_goals
          go_wp2_with (go_at_call 31; refine (bit_any _ _ _ (by assumption) (by omega) (by omega)).mono ?_; rintro e w' ⟨rfl, rfl⟩)
          go_round
          case rel => exact ⟨j, by omega, by go_num, by rw [HS.out]; go_num⟩
          case measure => simp [intOf]
      · rw [decide_eq_false (by decide)] at hway
        rcases hway with ⟨i1, i2, i3⟩ | ⟨i1, i3⟩ | ⟨i1, i2, i3⟩ <;> rcases hkw with ⟨k1, k2⟩ | k1
        all_goals try (exfalso; omega)
        all_goals
          go_wp2_with (go_at_call 31; refine (bit_any _ _ _ (by assumption) (by omega) (by omega)).mono ?_; rintro e w' ⟨rfl, rfl⟩)
          go_round
          case rel => exact ⟨j, by omega, by go_num, by rw [HS.out]; go_num⟩
          case measure => simp [intOf]
set_option maxHeartbeats 1000000 in
theorem rset_range (W V i k : Nat) (w : World) (hW : W < 18446744073709551616) (hV : V < 18446744073709551616) (h : i + k ≤ 64) (hr : 2 ^ k ≤ V) :
    Calls Try.prog 21 #[.int .u64 W, .int .i64 i, .int .i64 k, .int .u64 V] w fun e w' => e = .returned (.tuple #[.int .u64 0, .int .i64 4]) ∧ w' = w := by
  have HR : Hid (2 ^ k ≤ V) := hr
  clear hr
  go_enter Try.func21, Try.ntmps21
  go_wp2
  go_loop [10, 11] (fun n q => ∃ (j : Nat) (x : Int), j ≤ 64 ∧ q = .int .i64 ((j : Int) - 1) ∧ n = .int .u64 x ∧ V < 2 ^ j) (fun _ q => (intOf q + 1).toNat)
  case atStart => exact ⟨64, 0, Nat.le_refl _, rfl, rfl, hV⟩
  case round =>
    obtain ⟨j, x, hj, rfl, rfl, hvj⟩ := hrel
    have hkj : k < j := by
      by_cases hc : k < j
      · exact hc
      · have h1 : 2 ^ j ≤ 2 ^ k := Nat.pow_le_pow_right (by decide) (by omega)
        have := HR.out
        omega
    cases j with
    | zero => omega
    | succ j =>
      have HVJ : Hid (V < 2 ^ (j + 1)) := hvj
      clear hvj
      rw [show (((j + 1 : Nat) : Int) - 1) = (j : Int) by omega]
      cases hbit : V.testBit j with
      | true =>
        go_wp2_with (go_at_call 31; refine (bit_any _ _ _ (by assumption) (by omega) (by omega)).mono ?_; rintro e w' ⟨rfl, rfl⟩)
        go_ret2
        exact ⟨rfl, rfl⟩
      | false =>
        have HN : Hid (V < 2 ^ j) := by
          have h1 : V / 2 ^ j % 2 = 0 := by
            have := Nat.testBit_eq_decide_div_mod_eq (x := V) (i := j)
            rw [hbit] at this
            have := of_decide_eq_false this.symm
            omega
          have h2 : V / 2 ^ j < 2 := by
            rw [Nat.div_lt_iff_lt_mul (Nat.two_pow_pos j), Nat.mul_comm]
            have := HVJ.out
            rwa [Nat.pow_succ] at this
          have h3 : V / 2 ^ j = 0 := zero_of_half _ h1 h2
          exact (Nat.div_eq_zero_iff_lt (Nat.two_pow_pos j)).1 h3
        by_cases h1 : i ≤ j
        · by_cases h2 : j < i + k
          · cases hb2 : V.testBit (j - i)
            all_goals
              go_wp2_with (go_at_call 31; refine (bit_any _ _ _ (by assumption) (by omega) (by omega)).mono ?_; rintro e w' ⟨rfl, rfl⟩)
              go_round
              case rel => exact ⟨j, _, by omega, by go_num, rfl, HN.out⟩
              case measure => simp [intOf]
          · have h2' : i + k ≤ j := by omega
            cases hb2 : W.testBit j
            all_goals
              go_wp2_with (go_at_call 31; refine (bit_any _ _ _ (by assumption) (by omega) (by omega)).mono ?_; rintro e w' ⟨rfl, rfl⟩)
              go_round
              case rel => exact ⟨j, _, by omega, by go_num, rfl, HN.out⟩
              case measure => simp [intOf]
        · have h1' : j < i := by omega
          cases hb2 : W.testBit j
          all_goals
            go_wp2_with (go_at_call 31; refine (bit_any _ _ _ (by assumption) (by omega) (by omega)).mono ?_; rintro e w' ⟨rfl, rfl⟩)
            go_round
            case rel => exact ⟨j, _, by omega, by go_num, rfl, HN.out⟩
            case measure => simp [intOf]
theorem rbad_ways (i k : Int) (h : ¬ good i k) : i < 0 ∨ (0 ≤ i ∧ k < 0) ∨ (0 ≤ i ∧ 0 ≤ k ∧ 64 < i) ∨ (0 ≤ i ∧ 0 ≤ k ∧ i ≤ 64 ∧ 64 < k) ∨ (0 ≤ i ∧ 0 ≤ k ∧ i ≤ 64 ∧ k ≤ 64 ∧ 64 < i + k) := by
  unfold good at h; omega
theorem rfield_bad (W : Int) (i k : Int) (w : World) (h : ¬ good i k) :
    Calls Try.prog 19 #[.int .u64 W, .int .i64 i, .int .i64 k] w fun e w' => e = .returned (.tuple #[.int .u64 0, .int .i64 1]) ∧ w' = w := by
  rcases rbad_ways i k h with h1 | ⟨h1, h2⟩ | ⟨h1, h2, h3⟩ | ⟨h1, h2, h3, h4⟩ | ⟨h1, h2, h3, h4, h5⟩
  all_goals
    clear h
    go_enter Try.func19, Try.ntmps19
    go_wp2
    go_ret2
    exact ⟨rfl, rfl⟩
theorem rset_bad (W V : Int) (i k : Int) (w : World) (h : ¬ good i k) :
    Calls Try.prog 21 #[.int .u64 W, .int .i64 i, .int .i64 k, .int .u64 V] w fun e w' => e = .returned (.tuple #[.int .u64 0, .int .i64 1]) ∧ w' = w := by
  rcases rbad_ways i k h with h1 | ⟨h1, h2⟩ | ⟨h1, h2, h3⟩ | ⟨h1, h2, h3, h4⟩ | ⟨h1, h2, h3, h4, h5⟩
  all_goals
    clear h
    go_enter Try.func21, Try.ntmps21
    go_wp2
    go_ret2
    exact ⟨rfl, rfl⟩
end Go.Proofs.Ytbgnfcjnifcenaa
