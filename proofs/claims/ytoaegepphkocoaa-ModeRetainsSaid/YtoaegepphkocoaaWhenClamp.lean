/-
  The program's Clamp, Days, split, Weekday, yearOf.
-/
import Derived.Test.YtoaegepphkocoaaWhenRef
import Derived.OwnWalk
namespace Go.Proofs.Ytoaegepphkocoaa
open Go.ChangeShapes Go.WideShapes Go.ChangeAt Go.RowKit
set_option linter.unusedVariables false
set_option linter.unusedSimpArgs false
theorem clamp_any (t : Int) (w : World) :
    Calls Try.prog 25 #[.int .i64 t] w fun e w' => e = .returned (.int .i64 (clampN t)) ∧ w' = w := by
  by_cases h1 : t < -62135596800
  · have HL : Hid (clampN t = -62135596800) := by unfold Hid clampN; rw [if_pos h1]
    have h2 : ¬ 253402300799 < t := by omega
    have h3 : t ≤ -62135596800 := by omega
    have h4 : ¬ -62135596800 < t := by omega
    go_enter Try.func25, Try.ntmps25
    go_wp2
    go_ret
    exact ⟨by rw [HL.out]; rfl, rfl⟩
  · by_cases h2 : 253402300799 < t
    · have HL : Hid (clampN t = 253402300799) := by unfold Hid clampN; rw [if_neg h1, if_pos h2]
      go_enter Try.func25, Try.ntmps25
      go_wp2
      go_ret
      exact ⟨by rw [HL.out]; rfl, rfl⟩
    · have HL : Hid (clampN t = t) := by unfold Hid clampN; rw [if_neg h1, if_neg h2]
      by_cases h3 : -62135596800 < t
      · go_enter Try.func25, Try.ntmps25
        go_wp2
        go_ret
        exact ⟨by rw [HL.out]; rfl, rfl⟩
      · obtain rfl : t = -62135596800 := by omega
        go_enter Try.func25, Try.ntmps25
        go_wp2
        go_ret
        exact ⟨by rw [HL.out]; rfl, rfl⟩
theorem days_clamp (t n : Int) : clampN (clampN t + (if n < -3652059 then -3652059 else if 3652059 < n then 3652059 else n) * 86400) = daysN t n := by
  obtain ⟨c0, c1⟩ := clamp_bound t
  unfold daysN
  generalize clampN t = c at *
  unfold clampN sat
  repeat' split
  all_goals omega
theorem pdays_any (t n : Int) (w : World) (n0 : -9223372036854775808 ≤ n) (n1 : n ≤ 9223372036854775807) :
    Calls Try.prog 29 #[.int .i64 t, .int .i64 n] w fun e w' => e = .returned (.int .i64 (daysN t n)) ∧ w' = w := by
  obtain ⟨c0, c1⟩ := clamp_bound t
  have HE : Hid _ := days_clamp t n
  have HC := clamp_any t w
  generalize clampN t = c at *
  obtain ⟨N, hN⟩ : ∃ N, (if n < -3652059 then -3652059 else if 3652059 < n then 3652059 else n) = N := ⟨_, rfl⟩
  rw [hN] at HE
  have hNb : -3652059 ≤ N ∧ N ≤ 3652059 := by rw [← hN]; repeat' split <;> omega
  have HR := clamp_any (c + N * 86400) w
  rw [HE.out] at HR
  generalize daysN t n = z at *
  obtain ⟨p, hp⟩ : ∃ p, N * 86400 = p := ⟨_, rfl⟩
  have hpb : -315537897600 ≤ p ∧ p ≤ 315537897600 := by omega
  rw [hp] at HR
  clear HE
  have fin : ∀ (Q : Prop), Q → Q := fun _ h => h
  by_cases h1 : n < -3652059
  · rw [if_pos h1] at hN
    have h2 : ¬ 3652059 < n := by omega
    have h3 : ¬ -3652059 < n := by omega
    subst hN
    have hp' : (-3652059 : Int) * 86400 = p := hp
    obtain rfl : p = -315537897600 := by omega
    clear hp hp' hpb hNb n0
    go_enter Try.func29, Try.ntmps29
    go_wp2_with fail
    refine Calls.mono HC ?_
    rintro _ w' ⟨rfl, hw⟩
    replace hw := hw.symm
    subst hw
    go_wp2_with fail
    refine Calls.mono HR ?_
    rintro _ w' ⟨rfl, hw⟩
    replace hw := hw.symm
    subst hw
    go_wp2_with fail
    go_ret
    exact ⟨rfl, rfl⟩
  · rw [if_neg h1] at hN
    by_cases h2 : 3652059 < n
    · rw [if_pos h2] at hN
      subst hN
      have hp' : (3652059 : Int) * 86400 = p := hp
      obtain rfl : p = 315537897600 := by omega
      clear hp hp' hpb hNb n1
      go_enter Try.func29, Try.ntmps29
      go_wp2_with fail
      refine Calls.mono HC ?_
      rintro _ w' ⟨rfl, hw⟩
      replace hw := hw.symm
      subst hw
      go_wp2_with fail
      refine Calls.mono HR ?_
      rintro _ w' ⟨rfl, hw⟩
      replace hw := hw.symm
      subst hw
      go_wp2_with fail
      go_ret
      exact ⟨rfl, rfl⟩
    · rw [if_neg h2] at hN
      subst hN
      by_cases h3 : -3652059 < n
      · go_enter Try.func29, Try.ntmps29
        go_wp2_with fail
        refine Calls.mono HC ?_
        rintro _ w' ⟨rfl, hw⟩
        replace hw := hw.symm
        subst hw
        go_wp2_with fail
        refine Calls.mono HR ?_
        rintro _ w' ⟨rfl, hw⟩
        replace hw := hw.symm
        subst hw
        go_wp2_with fail
        go_ret
        exact ⟨rfl, rfl⟩
      · obtain rfl : n = -3652059 := by omega
        have hp' : (-3652059 : Int) * 86400 = p := hp
        obtain rfl : p = -315537897600 := by omega
        clear hp hp' hpb hNb
        go_enter Try.func29, Try.ntmps29
        go_wp2_with fail
        refine Calls.mono HC ?_
        rintro _ w' ⟨rfl, hw⟩
        replace hw := hw.symm
        subst hw
        go_wp2_with fail
        refine Calls.mono HR ?_
        rintro _ w' ⟨rfl, hw⟩
        replace hw := hw.symm
        subst hw
        go_wp2_with fail
        go_ret
        exact ⟨rfl, rfl⟩
/-- The year in which a day is, by parts of four hundred, a hundred, four and one. -/
theorem year_parts {N a b h c f g o r : Nat} (ha : a = N / 146097) (hb : b = N % 146097) (hh : h = min (b / 36524) 3) (hc : c = b - h * 36524) (hf : f = c / 1461) (hg : g = c % 1461) (ho : o = min (g / 365) 3) (hr : r = g - o * 365) :
    dbk (400 * a + 100 * h + 4 * f + o) + r = N ∧ r < yearN (400 * a + 100 * h + 4 * f + o + 1) := by
  have h3 : h ≤ 3 := by omega
  have hcb : c ≤ 36524 := by omega
  have hf24 : f ≤ 24 := by omega
  have ho3 : o ≤ 3 := by omega
  have e4 : (400 * a + 100 * h + 4 * f + o) / 4 = 100 * a + 25 * h + f := by omega
  have e100 : (400 * a + 100 * h + 4 * f + o) / 100 = 4 * a + h := by omega
  have e400 : (400 * a + 100 * h + 4 * f + o) / 400 = a := by omega
  constructor
  · rw [dbk_closed, e4, e100, e400]
    omega
  · have hr5 : r ≤ 365 := by omega
    rcases Nat.lt_or_ge r 365 with hlt | hge
    · rcases year_two (400 * a + 100 * h + 4 * f + o + 1) with h' | h' <;> omega
    · have hg' : g = 1460 := by omega
      have ho' : o = 3 := by omega
      have : yearN (400 * a + 100 * h + 4 * f + o + 1) = 366 := by
        rw [year_closed, if_pos (by omega)]
        by_cases hx : (400 * a + 100 * h + 4 * f + o + 1) % 100 = 0
        · rw [if_pos hx, if_pos (by omega)]
        · rw [if_neg hx, if_neg (by omega)]
      omega
theorem ret_two {a b a' : Int} (h : a = a') : Ending.returned (.tuple #[.int .i64 a, .int .i64 b]) = .returned (.tuple #[.int .i64 a', .int .i64 b]) := by rw [h]
end Go.Proofs.Ytoaegepphkocoaa
