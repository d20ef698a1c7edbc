/-
  The document's small functions of layer 5: leap, length, year, Clamp, Days, Weekday, two.
-/
import Derived.Test.YtfgdfdjoidpejaaDoorWhenMath
import Derived.Test.YtfgdfdjoidpejaaDoorSatRef
namespace Go.Proofs.YtfgdfdjoidpejaaDoor
open Go.ChangeShapes Go.WideShapes Go.ChangeAt Go.RowKit
set_option linter.unusedVariables false
set_option linter.unusedSimpArgs false
theorem leap_any (y : Nat) (w : World) (hy : y ≤ 9223372036854775807) :
    Calls Tryd.prog 45 #[.int .i64 (y : Nat)] w fun e w' => e = .returned (.bool (leapN y)) ∧ w' = w := by
  by_cases h1 : y % 100 = 0
  · have t1 : ((y : Int) % 100 == 0) = true := by rw [beq_iff_eq]; omega
    have t1' : ((y : Int).tmod 100 == 0) = true := by rw [Int.tmod_eq_emod_of_nonneg (by omega)]; exact t1
    have HL : Hid (leapN y = ((y : Int) % 400 == 0)) := by
      unfold Hid leapN
      rw [if_pos h1]
      by_cases h : y % 400 = 0
      · rw [h]
        have : (y : Int) % 400 = 0 := by omega
        rw [this]; rfl
      · have h' : ¬ (y : Int) % 400 = 0 := by omega
        rw [beq_eq_false_iff_ne.2 h, beq_eq_false_iff_ne.2 h']
    clear h1
    go_enter Tryd.func45, Tryd.ntmps45
    go_wp2
    go_ret
    exact ⟨by rw [HL.out]; rfl, rfl⟩
  · have t1 : ((y : Int) % 100 == 0) = false := by rw [beq_eq_false_iff_ne]; omega
    have HL : Hid (leapN y = ((y : Int) % 4 == 0)) := by
      unfold Hid leapN
      rw [if_neg h1]
      by_cases h : y % 4 = 0
      · rw [h]
        have : (y : Int) % 4 = 0 := by omega
        rw [this]; rfl
      · have h' : ¬ (y : Int) % 4 = 0 := by omega
        rw [beq_eq_false_iff_ne.2 h, beq_eq_false_iff_ne.2 h']
    clear h1
    go_enter Tryd.func45, Tryd.ntmps45
    go_wp2
    go_ret
    exact ⟨by rw [HL.out]; rfl, rfl⟩
theorem year_any (y : Nat) (w : World) (hy : y ≤ 9223372036854775807) :
    Calls Tryd.prog 31 #[.int .i64 (y : Nat)] w fun e w' => e = .returned (.int .i64 (yearN y : Nat)) ∧ w' = w := by
  have HC := leap_any y w hy
  have HL : Hid (yearN y = if leapN y then 366 else 365) := rfl
  cases hl : leapN y with
  | true =>
    rw [hl] at HC HL
    go_enter Tryd.func31, Tryd.ntmps31
    go_wp2_with fail
    refine Calls.mono HC ?_
    rintro _ w' ⟨rfl, hw⟩
    replace hw := hw.symm
    subst hw
    go_wp2_with fail
    go_ret
    exact ⟨by rw [HL.out]; rfl, rfl⟩
  | false =>
    rw [hl] at HC HL
    go_enter Tryd.func31, Tryd.ntmps31
    go_wp2_with fail
    refine Calls.mono HC ?_
    rintro _ w' ⟨rfl, hw⟩
    replace hw := hw.symm
    subst hw
    go_wp2_with fail
    go_ret
    exact ⟨by rw [HL.out]; rfl, rfl⟩
theorem length_any (y m : Nat) (w : World) (hy : y ≤ 9223372036854775807) (hm : m ≤ 9223372036854775807) :
    Calls Tryd.prog 30 #[.int .i64 (y : Nat), .int .i64 (m : Nat)] w fun e w' => e = .returned (.int .i64 (lenN y m : Nat)) ∧ w' = w := by
  have HC := leap_any y w hy
  by_cases h2 : m = 2
  · subst h2
    have HL : Hid (lenN y 2 = if leapN y then 29 else 28) := rfl
    cases hl : leapN y with
    | true =>
      rw [hl] at HC HL
      go_enter Tryd.func30, Tryd.ntmps30
      go_wp2_with fail
      refine Calls.mono HC ?_
      rintro _ w' ⟨rfl, hw⟩
      replace hw := hw.symm
      subst hw
      go_wp2_with fail
      go_ret
      exact ⟨by rw [HL.out]; rfl, rfl⟩
    | false =>
      rw [hl] at HC HL
      go_enter Tryd.func30, Tryd.ntmps30
      go_wp2_with fail
      refine Calls.mono HC ?_
      rintro _ w' ⟨rfl, hw⟩
      replace hw := hw.symm
      subst hw
      go_wp2_with fail
      go_ret
      exact ⟨by rw [HL.out]; rfl, rfl⟩
  · have t2 : ((m : Int) == 2) = false := by rw [beq_eq_false_iff_ne]; omega
    by_cases h30 : m = 4 ∨ m = 6 ∨ m = 9 ∨ m = 11
    · have HL : Hid (lenN y m = 30) := by unfold Hid lenN; rw [if_neg h2, if_pos h30]
      rcases h30 with rfl | rfl | rfl | rfl
      all_goals
        go_enter Tryd.func30, Tryd.ntmps30
        go_wp2_with fail
        go_ret
        exact ⟨by rw [HL.out]; rfl, rfl⟩
    · have HL : Hid (lenN y m = 31) := by unfold Hid lenN; rw [if_neg h2, if_neg h30]
      have t4 : ((m : Int) == 4) = false := by rw [beq_eq_false_iff_ne]; omega
      have t6 : ((m : Int) == 6) = false := by rw [beq_eq_false_iff_ne]; omega
      have t9 : ((m : Int) == 9) = false := by rw [beq_eq_false_iff_ne]; omega
      have t11 : ((m : Int) == 11) = false := by rw [beq_eq_false_iff_ne]; omega
      clear h2 h30
      go_enter Tryd.func30, Tryd.ntmps30
      go_wp2_with fail
      go_ret
      exact ⟨by rw [HL.out]; rfl, rfl⟩
def clampN (t : Int) : Int := if t < -62135596800 then -62135596800 else if 253402300799 < t then 253402300799 else t
theorem clamp_bound (t : Int) : -62135596800 ≤ clampN t ∧ clampN t ≤ 253402300799 := by
  unfold clampN
  repeat' split
  all_goals omega
theorem clamp_in {t : Int} (h0 : -62135596800 ≤ t) (h1 : t ≤ 253402300799) : clampN t = t := by unfold clampN; rw [if_neg (by omega), if_neg (by omega)]
theorem sat_bound (x : Int) : -9223372036854775808 ≤ sat x ∧ sat x ≤ 9223372036854775807 := by
  unfold sat
  repeat' split
  all_goals omega
theorem rclamp_any (t : Int) (w : World) :
    Calls Tryd.prog 23 #[.int .i64 t] w fun e w' => e = .returned (.int .i64 (clampN t)) ∧ w' = w := by
  by_cases h1 : t < -62135596800
  · have HL : Hid (clampN t = -62135596800) := by unfold Hid clampN; rw [if_pos h1]
    go_enter Tryd.func23, Tryd.ntmps23
    go_wp2_with fail
    go_ret
    exact ⟨by rw [HL.out]; rfl, rfl⟩
  · by_cases h2 : 253402300799 < t
    · have HL : Hid (clampN t = 253402300799) := by unfold Hid clampN; rw [if_neg h1, if_pos h2]
      go_enter Tryd.func23, Tryd.ntmps23
      go_wp2_with fail
      go_ret
      exact ⟨by rw [HL.out]; rfl, rfl⟩
    · have HL : Hid (clampN t = t) := by unfold Hid clampN; rw [if_neg h1, if_neg h2]
      go_enter Tryd.func23, Tryd.ntmps23
      go_wp2_with fail
      go_ret
      exact ⟨by rw [HL.out]; rfl, rfl⟩
def daysN (t n : Int) : Int := clampN (sat (clampN t + sat (n * 86400)))
theorem rdays_any (t n : Int) (w : World) (n0 : -9223372036854775808 ≤ n) (n1 : n ≤ 9223372036854775807) :
    Calls Tryd.prog 21 #[.int .i64 t, .int .i64 n] w fun e w' => e = .returned (.int .i64 (daysN t n)) ∧ w' = w := by
  obtain ⟨c0, c1⟩ := clamp_bound t
  obtain ⟨s0, s1⟩ := sat_bound (n * 86400)
  have HM := rmul_any n 86400 w n0 n1 (by decide) (by decide)
  have HC := rclamp_any t w
  have HA := radd_any (clampN t) (sat (n * 86400)) w (by omega) (by omega) s0 s1
  have HR := rclamp_any (sat (clampN t + sat (n * 86400))) w
  have HE : Hid (clampN (sat (clampN t + sat (n * 86400))) = daysN t n) := rfl
  generalize sat (n * 86400) = m at *
  generalize clampN t = c at *
  generalize sat (c + m) = z at *
  generalize clampN z = z' at *
  clear c0 c1 s0 s1 n0 n1
  go_enter Tryd.func21, Tryd.ntmps21
  go_wp2_with fail
  refine Calls.mono HC ?_
  rintro _ w' ⟨rfl, hw⟩
  replace hw := hw.symm
  subst hw
  go_wp2_with fail
  refine Calls.mono HM ?_
  rintro _ w' ⟨rfl, hw⟩
  replace hw := hw.symm
  subst hw
  go_wp2_with fail
  refine Calls.mono HA ?_
  rintro _ w' ⟨rfl, hw⟩
  replace hw := hw.symm
  subst hw
  go_wp2_with fail
  refine Calls.mono HR ?_
  rintro _ w' ⟨rfl, hw⟩
  replace hw := hw.symm
  subst hw
  go_wp2_with fail
  go_ret
  exact ⟨by rw [← HE.out]; rfl, rfl⟩
def weekN (t : Int) : Int := (t + 62135596800) / 86400 % 7
theorem rweek_any (t : Int) (w : World) (t0 : -9223372036854775808 ≤ t) (t1 : t ≤ 9223372036854775807) :
    Calls Tryd.prog 14 #[.int .i64 t] w fun e w' => e = .returned (if -62135596800 ≤ t ∧ t ≤ 253402300799 then .tuple #[.int .i64 (weekN t), .int .i64 0] else .tuple #[.int .i64 0, .int .i64 4]) ∧ w' = w := by
  have HC := rclamp_any t w
  by_cases h : -62135596800 ≤ t ∧ t ≤ 253402300799
  · rw [if_pos h]
    rw [clamp_in h.1 h.2] at HC
    obtain ⟨h0, h1⟩ := h
    obtain ⟨T, hT⟩ : ∃ T : Nat, t + 62135596800 = (T : Int) := ⟨(t + 62135596800).toNat, by omega⟩
    obtain ⟨Q, hQ⟩ : ∃ Q, Q = T / 86400 := ⟨_, rfl⟩
    have hTb : T ≤ 315537897599 := by omega
    have hq : (T : Int) / 86400 = (Q : Int) := by omega
    have HW : Hid (weekN t = (Q : Int) % 7) := by unfold Hid weekN; rw [hT, hq]
    have hQb : Q ≤ 3652059 := by omega
    clear hQ
    go_enter Tryd.func14, Tryd.ntmps14
    go_wp2_with fail
    refine Calls.mono HC ?_
    rintro _ w' ⟨rfl, hw⟩
    replace hw := hw.symm
    subst hw
    go_wp2_with fail
    go_ret2
    exact ⟨by rw [HW.out]; rfl, rfl⟩
  · rw [if_neg h]
    have hne : (clampN t != t) = true := by
      rw [bne_iff_ne]
      unfold clampN
      repeat' split
      all_goals omega
    generalize clampN t = c at *
    clear h
    go_enter Tryd.func14, Tryd.ntmps14
    go_wp2_with fail
    refine Calls.mono HC ?_
    rintro _ w' ⟨rfl, hw⟩
    replace hw := hw.symm
    subst hw
    go_wp2_with fail
    go_ret2
    exact ⟨rfl, rfl⟩
end Go.Proofs.YtfgdfdjoidpejaaDoor
