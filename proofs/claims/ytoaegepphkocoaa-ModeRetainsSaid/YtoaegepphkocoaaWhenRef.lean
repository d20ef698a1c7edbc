/-
  The document's small functions of layer 5: leap, length, year, Clamp, Days, Weekday, two.
-/
import Derived.Test.YtoaegepphkocoaaWhenMath
import Derived.Test.YtoaegepphkocoaaSatRef
namespace Go.Proofs.Ytoaegepphkocoaa
open Go.ChangeShapes Go.WideShapes Go.ChangeAt Go.RowKit
set_option linter.unusedVariables false
set_option linter.unusedSimpArgs false
def clampN (t : Int) : Int := if t < -62135596800 then -62135596800 else if 253402300799 < t then 253402300799 else t
theorem clamp_bound (t : Int) : -62135596800 ≤ clampN t ∧ clampN t ≤ 253402300799 := by
  unfold clampN
  repeat' split
  all_goals omega
theorem clamp_in {t : Int} (h0 : -62135596800 ≤ t) (h1 : t ≤ 253402300799) : clampN t = t := by unfold clampN; rw [if_neg (by omega), if_neg (by omega)]
theorem sat_bound (x : Int) : -9223372036854775808 ≤ sat x ∧ sat x ≤ 9223372036854775807 := by
  unfold sat
  repeat' split
  all_goals omega
theorem rclamp_any (t : Int) (w : World) :
    Calls Try.prog 24 #[.int .i64 t] w fun e w' => e = .returned (.int .i64 (clampN t)) ∧ w' = w := by
  by_cases h1 : t < -62135596800
  · have HL : Hid (clampN t = -62135596800) := by unfold Hid clampN; rw [if_pos h1]
    go_enter Try.func24, Try.ntmps24
    go_wp2_with fail
    go_ret
    exact ⟨by rw [HL.out]; rfl, rfl⟩
  · by_cases h2 : 253402300799 < t
    · have HL : Hid (clampN t = 253402300799) := by unfold Hid clampN; rw [if_neg h1, if_pos h2]
      go_enter Try.func24, Try.ntmps24
      go_wp2_with fail
      go_ret
      exact ⟨by rw [HL.out]; rfl, rfl⟩
    · have HL : Hid (clampN t = t) := by unfold Hid clampN; rw [if_neg h1, if_neg h2]
      go_enter Try.func24, Try.ntmps24
      go_wp2_with fail
      go_ret
      exact ⟨by rw [HL.out]; rfl, rfl⟩
def daysN (t n : Int) : Int := clampN (sat (clampN t + sat (n * 86400)))
theorem rdays_any (t n : Int) (w : World) (n0 : -9223372036854775808 ≤ n) (n1 : n ≤ 9223372036854775807) :
    Calls Try.prog 30 #[.int .i64 t, .int .i64 n] w fun e w' => e = .returned (.int .i64 (daysN t n)) ∧ w' = w := by
  obtain ⟨c0, c1⟩ := clamp_bound t
  obtain ⟨s0, s1⟩ := sat_bound (n * 86400)
  have HM := rmul_any n 86400 w n0 n1 (by decide) (by decide)
  have HC := rclamp_any t w
  have HA := radd_any (clampN t) (sat (n * 86400)) w (by omega) (by omega) s0 s1
  have HR := rclamp_any (sat (clampN t + sat (n * 86400))) w
  have HE : Hid (clampN (sat (clampN t + sat (n * 86400))) = daysN t n) := rfl
  generalize sat (n * 86400) = m at *
  generalize clampN t = c at *
  generalize sat (c + m) = z at *
  generalize clampN z = z' at *
  clear c0 c1 s0 s1 n0 n1
  go_enter Try.func30, Try.ntmps30
  go_wp2_with fail
  refine Calls.mono HC ?_
  rintro _ w' ⟨rfl, hw⟩
  replace hw := hw.symm
  subst hw
  go_wp2_with fail
  refine Calls.mono HM ?_
  rintro _ w' ⟨rfl, hw⟩
  replace hw := hw.symm
  subst hw
  go_wp2_with fail
  refine Calls.mono HA ?_
  rintro _ w' ⟨rfl, hw⟩
  replace hw := hw.symm
  subst hw
  go_wp2_with fail
  refine Calls.mono HR ?_
  rintro _ w' ⟨rfl, hw⟩
  replace hw := hw.symm
  subst hw
  go_wp2_with fail
  go_ret
  exact ⟨by rw [← HE.out]; rfl, rfl⟩
def weekN (t : Int) : Int := (t + 62135596800) / 86400 % 7
end Go.Proofs.Ytoaegepphkocoaa
