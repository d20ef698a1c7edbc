/-
  The program's Clamp, Days, split, Weekday, yearOf.
-/
import Derived.Test.YtfgdfdjoidpejabDoorWhenRef
import Derived.OwnWalk
namespace Go.Proofs.YtfgdfdjoidpejabDoor
open Go.ChangeShapes Go.WideShapes Go.ChangeAt Go.RowKit
set_option linter.unusedVariables false
set_option linter.unusedSimpArgs false
theorem clamp_any (t : Int) (w : World) :
    Calls Tryd.prog 21 #[.int .i64 t] w fun e w' => e = .returned (.int .i64 (clampN t)) ∧ w' = w := by
  by_cases h1 : t < -62135596800
  · have HL : Hid (clampN t = -62135596800) := by unfold Hid clampN; rw [if_pos h1]
    have h2 : ¬ 253402300799 < t := by omega
    have h3 : t ≤ -62135596800 := by omega
    have h4 : ¬ -62135596800 < t := by omega
    go_enter Tryd.func21, Tryd.ntmps21
    go_wp2
    go_ret
    exact ⟨by rw [HL.out]; rfl, rfl⟩
  · by_cases h2 : 253402300799 < t
    · have HL : Hid (clampN t = 253402300799) := by unfold Hid clampN; rw [if_neg h1, if_pos h2]
      go_enter Tryd.func21, Tryd.ntmps21
      go_wp2
      go_ret
      exact ⟨by rw [HL.out]; rfl, rfl⟩
    · have HL : Hid (clampN t = t) := by unfold Hid clampN; rw [if_neg h1, if_neg h2]
      by_cases h3 : -62135596800 < t
      · go_enter Tryd.func21, Tryd.ntmps21
        go_wp2
        go_ret
        exact ⟨by rw [HL.out]; rfl, rfl⟩
      · obtain rfl : t = -62135596800 := by omega
        go_enter Tryd.func21, Tryd.ntmps21
        go_wp2
        go_ret
        exact ⟨by rw [HL.out]; rfl, rfl⟩
theorem days_clamp (t n : Int) : clampN (clampN t + (if n < -3652059 then -3652059 else if 3652059 < n then 3652059 else n) * 86400) = daysN t n := by
  obtain ⟨c0, c1⟩ := clamp_bound t
  unfold daysN
  generalize clampN t = c at *
  unfold clampN sat
  repeat' split
  all_goals omega
theorem pdays_any (t n : Int) (w : World) (n0 : -9223372036854775808 ≤ n) (n1 : n ≤ 9223372036854775807) :
    Calls Tryd.prog 12 #[.int .i64 t, .int .i64 n] w fun e w' => e = .returned (.int .i64 (daysN t n)) ∧ w' = w := by
  obtain ⟨c0, c1⟩ := clamp_bound t
  have HE : Hid _ := days_clamp t n
  have HC := clamp_any t w
  generalize clampN t = c at *
  obtain ⟨N, hN⟩ : ∃ N, (if n < -3652059 then -3652059 else if 3652059 < n then 3652059 else n) = N := ⟨_, rfl⟩
  rw [hN] at HE
  have hNb : -3652059 ≤ N ∧ N ≤ 3652059 := by rw [← hN]; repeat' split <;> omega
  have HR := clamp_any (c + N * 86400) w
  rw [HE.out] at HR
  generalize daysN t n = z at *
  obtain ⟨p, hp⟩ : ∃ p, N * 86400 = p := ⟨_, rfl⟩
  have hpb : -315537897600 ≤ p ∧ p ≤ 315537897600 := by omega
  rw [hp] at HR
  clear HE
  have fin : ∀ (Q : Prop), Q → Q := fun _ h => h
  by_cases h1 : n < -3652059
  · rw [if_pos h1] at hN
    have h2 : ¬ 3652059 < n := by omega
    have h3 : ¬ -3652059 < n := by omega
    subst hN
    have hp' : (-3652059 : Int) * 86400 = p := hp
    obtain rfl : p = -315537897600 := by omega
    clear hp hp' hpb hNb n0
    go_enter Tryd.func12, Tryd.ntmps12
    go_wp2_with fail
    refine Calls.mono HC ?_
    rintro _ w' ⟨rfl, hw⟩
    replace hw := hw.symm
    subst hw
    go_wp2_with fail
    refine Calls.mono HR ?_
    rintro _ w' ⟨rfl, hw⟩
    replace hw := hw.symm
    subst hw
    go_wp2_with fail
    go_ret
    exact ⟨rfl, rfl⟩
  · rw [if_neg h1] at hN
    by_cases h2 : 3652059 < n
    · rw [if_pos h2] at hN
      subst hN
      have hp' : (3652059 : Int) * 86400 = p := hp
      obtain rfl : p = 315537897600 := by omega
      clear hp hp' hpb hNb n1
      go_enter Tryd.func12, Tryd.ntmps12
      go_wp2_with fail
      refine Calls.mono HC ?_
      rintro _ w' ⟨rfl, hw⟩
      replace hw := hw.symm
      subst hw
      go_wp2_with fail
      refine Calls.mono HR ?_
      rintro _ w' ⟨rfl, hw⟩
      replace hw := hw.symm
      subst hw
      go_wp2_with fail
      go_ret
      exact ⟨rfl, rfl⟩
    · rw [if_neg h2] at hN
      subst hN
      by_cases h3 : -3652059 < n
      · go_enter Tryd.func12, Tryd.ntmps12
        go_wp2_with fail
        refine Calls.mono HC ?_
        rintro _ w' ⟨rfl, hw⟩
        replace hw := hw.symm
        subst hw
        go_wp2_with fail
        refine Calls.mono HR ?_
        rintro _ w' ⟨rfl, hw⟩
        replace hw := hw.symm
        subst hw
        go_wp2_with fail
        go_ret
        exact ⟨rfl, rfl⟩
      · obtain rfl : n = -3652059 := by omega
        have hp' : (-3652059 : Int) * 86400 = p := hp
        obtain rfl : p = -315537897600 := by omega
        clear hp hp' hpb hNb
        go_enter Tryd.func12, Tryd.ntmps12
        go_wp2_with fail
        refine Calls.mono HC ?_
        rintro _ w' ⟨rfl, hw⟩
        replace hw := hw.symm
        subst hw
        go_wp2_with fail
        refine Calls.mono HR ?_
        rintro _ w' ⟨rfl, hw⟩
        replace hw := hw.symm
        subst hw
        go_wp2_with fail
        go_ret
        exact ⟨rfl, rfl⟩
theorem split_good (T : Nat) (t : Int) (w : World) (ht : t + 62135596800 = (T : Int)) (h9 : T < 315537897600) :
    Calls Tryd.prog 20 #[.int .i64 t] w fun e w' => e = .returned (.tuple #[.int .i64 (T / 86400 : Nat), .int .i64 (T % 86400 : Nat), .int .i64 0]) ∧ w' = w := by
  have HC := clamp_any t w
  rw [clamp_in (by omega) (by omega)] at HC
  obtain ⟨Q, hQ⟩ : ∃ Q, Q = T / 86400 := ⟨_, rfl⟩
  obtain ⟨R, hR⟩ : ∃ R, R = T % 86400 := ⟨_, rfl⟩
  have hQi : (T : Int) / 86400 = (Q : Int) := by omega
  have hRi : (T : Int) % 86400 = (R : Int) := by omega
  have hRt : (T : Int).tmod 86400 = (R : Int) := by rw [Int.tmod_eq_emod_of_nonneg (by omega)]; exact hRi
  have hti : t - -62135596800 = (T : Int) := by omega
  have htb : -62135596800 ≤ t ∧ t ≤ 253402300799 := by omega
  rw [← hQ, ← hR]
  clear hQ hR
  go_enter Tryd.func20, Tryd.ntmps20
  go_wp2_with fail
  refine Calls.mono HC ?_
  rintro _ w' ⟨rfl, hw⟩
  replace hw := hw.symm
  subst hw
  go_wp2_with fail
  go_ret3
  exact ⟨rfl, rfl⟩
theorem split_bad (t : Int) (w : World) (h : t < -62135596800 ∨ 253402300799 < t) :
    Calls Tryd.prog 20 #[.int .i64 t] w fun e w' => e = .returned (.tuple #[.int .i64 0, .int .i64 0, .int .i64 4]) ∧ w' = w := by
  have HC := clamp_any t w
  have hne : (t != clampN t) = true := by
    rw [bne_iff_ne]
    unfold clampN
    repeat' split
    all_goals omega
  generalize clampN t = c at *
  clear h
  go_enter Tryd.func20, Tryd.ntmps20
  go_wp2_with fail
  refine Calls.mono HC ?_
  rintro _ w' ⟨rfl, hw⟩
  replace hw := hw.symm
  subst hw
  go_wp2_with fail
  go_ret3
  exact ⟨rfl, rfl⟩
theorem week_good (T : Nat) (t : Int) (w : World) (ht : t + 62135596800 = (T : Int)) (h9 : T < 315537897600) :
    Calls Tryd.prog 11 #[.int .i64 t] w fun e w' => e = .returned (.tuple #[.int .i64 (weekN t), .int .i64 0]) ∧ w' = w := by
  have HS := split_good T t w ht h9
  have HW : Hid (weekN t = ((T / 86400 : Nat) : Int) % 7) := by unfold Hid weekN; rw [ht]; omega
  have hb : T / 86400 ≤ 3652059 := by omega
  generalize T / 86400 = Q at *
  generalize T % 86400 = R at *
  clear ht
  go_enter Tryd.func11, Tryd.ntmps11
  go_wp2_with fail
  refine Calls.mono HS ?_
  rintro _ w' ⟨rfl, hw⟩
  replace hw := hw.symm
  subst hw
  go_wp2_with fail
  go_ret2
  exact ⟨by rw [HW.out]; rfl, rfl⟩
theorem week_bad (t : Int) (w : World) (h : t < -62135596800 ∨ 253402300799 < t) :
    Calls Tryd.prog 11 #[.int .i64 t] w fun e w' => e = .returned (.tuple #[.int .i64 0, .int .i64 4]) ∧ w' = w := by
  have HS := split_bad t w h
  clear h
  go_enter Tryd.func11, Tryd.ntmps11
  go_wp2_with fail
  refine Calls.mono HS ?_
  rintro _ w' ⟨rfl, hw⟩
  replace hw := hw.symm
  subst hw
  go_wp2_with fail
  go_ret2
  exact ⟨rfl, rfl⟩
/-- The year in which a day is, by parts of four hundred, a hundred, four and one. -/
theorem year_parts {N a b h c f g o r : Nat} (ha : a = N / 146097) (hb : b = N % 146097) (hh : h = min (b / 36524) 3) (hc : c = b - h * 36524) (hf : f = c / 1461) (hg : g = c % 1461) (ho : o = min (g / 365) 3) (hr : r = g - o * 365) :
    dbk (400 * a + 100 * h + 4 * f + o) + r = N ∧ r < yearN (400 * a + 100 * h + 4 * f + o + 1) := by
  have h3 : h ≤ 3 := by omega
  have hcb : c ≤ 36524 := by omega
  have hf24 : f ≤ 24 := by omega
  have ho3 : o ≤ 3 := by omega
  have e4 : (400 * a + 100 * h + 4 * f + o) / 4 = 100 * a + 25 * h + f := by omega
  have e100 : (400 * a + 100 * h + 4 * f + o) / 100 = 4 * a + h := by omega
  have e400 : (400 * a + 100 * h + 4 * f + o) / 400 = a := by omega
  constructor
  · rw [dbk_closed, e4, e100, e400]
    omega
  · have hr5 : r ≤ 365 := by omega
    rcases Nat.lt_or_ge r 365 with hlt | hge
    · rcases year_two (400 * a + 100 * h + 4 * f + o + 1) with h' | h' <;> omega
    · have hg' : g = 1460 := by omega
      have ho' : o = 3 := by omega
      have : yearN (400 * a + 100 * h + 4 * f + o + 1) = 366 := by
        rw [year_closed, if_pos (by omega)]
        by_cases hx : (400 * a + 100 * h + 4 * f + o + 1) % 100 = 0
        · rw [if_pos hx, if_pos (by omega)]
        · rw [if_neg hx, if_neg (by omega)]
      omega
theorem ret_two {a b a' : Int} (h : a = a') : Ending.returned (.tuple #[.int .i64 a, .int .i64 b]) = .returned (.tuple #[.int .i64 a', .int .i64 b]) := by rw [h]
set_option maxHeartbeats 1000000 in
theorem yearof_any (N : Nat) (w : World) (hN : N < 3652059) :
    Calls Tryd.prog 31 #[.int .i64 (N : Nat)] w fun e w' => (∃ k r : Nat, e = .returned (.tuple #[.int .i64 (k + 1 : Nat), .int .i64 (r : Nat)]) ∧ dbk k + r = N ∧ r < yearN (k + 1)) ∧ w' = w := by
  obtain ⟨a, ha⟩ : ∃ a, a = N / 146097 := ⟨_, rfl⟩
  obtain ⟨b, hb⟩ : ∃ b, b = N % 146097 := ⟨_, rfl⟩
  obtain ⟨p, hp⟩ : ∃ p, p = b / 36524 := ⟨_, rfl⟩
  obtain ⟨h, hh⟩ : ∃ h, h = min p 3 := ⟨_, rfl⟩
  obtain ⟨c, hc⟩ : ∃ c, c = b - h * 36524 := ⟨_, rfl⟩
  obtain ⟨f, hf⟩ : ∃ f, f = c / 1461 := ⟨_, rfl⟩
  obtain ⟨g, hg⟩ : ∃ g, g = c % 1461 := ⟨_, rfl⟩
  obtain ⟨q, hq⟩ : ∃ q, q = g / 365 := ⟨_, rfl⟩
  obtain ⟨o, ho⟩ : ∃ o, o = min q 3 := ⟨_, rfl⟩
  obtain ⟨r, hr⟩ : ∃ r, r = g - o * 365 := ⟨_, rfl⟩
  have HY : Hid _ := year_parts ha hb (by rw [← hp]; exact hh) hc hf hg (by rw [← hq]; exact ho) hr
  have ai : (N : Int) / 146097 = (a : Int) := by omega
  have bi : (N : Int) % 146097 = (b : Int) := by omega
  have bt : (N : Int).tmod 146097 = (b : Int) := by rw [Int.tmod_eq_emod_of_nonneg (by omega)]; exact bi
  have pi : (b : Int) / 36524 = (p : Int) := by omega
  have ci : (b : Int) - (h : Int) * 36524 = (c : Int) := by omega
  have fi : (c : Int) / 1461 = (f : Int) := by omega
  have gi : (c : Int) % 1461 = (g : Int) := by omega
  have gt : (c : Int).tmod 1461 = (g : Int) := by rw [Int.tmod_eq_emod_of_nonneg (by omega)]; exact gi
  have qi : (g : Int) / 365 = (q : Int) := by omega
  have ri : (g : Int) - (o : Int) * 365 = (r : Int) := by omega
  have hb1 : b < 146097 := by omega
  have hab : a ≤ 25 := by omega
  have hhb : h ≤ 3 := by omega
  have hfb : f ≤ 24 := by omega
  have hob : o ≤ 3 := by omega
  have hpb : p ≤ 4 := by omega
  have hqb : q ≤ 4 := by omega
  clear ha hb hp hc hf hg hq hr
  have mp : (¬ 3 < (p : Int) ∧ h = p) ∨ (3 < (p : Int) ∧ h = 3) := by omega
  have mq : (¬ 3 < (q : Int) ∧ o = q) ∨ (3 < (q : Int) ∧ o = 3) := by omega
  clear hh ho
  rcases mp with ⟨hp3, rfl⟩ | ⟨hp3, rfl⟩ <;> rcases mq with ⟨hq3, rfl⟩ | ⟨hq3, rfl⟩
  · go_enter Tryd.func31, Tryd.ntmps31
    go_wp2
    go_ret2
    exact ⟨⟨_, r, ret_two (by omega), HY.out⟩, rfl⟩
  · have ri3 : (g : Int) - 1095 = (r : Int) := by omega
    clear ri
    go_enter Tryd.func31, Tryd.ntmps31
    go_wp2
    go_ret2
    exact ⟨⟨_, r, ret_two (by omega), HY.out⟩, rfl⟩
  · have ci3 : (b : Int) - 109572 = (c : Int) := by omega
    clear ci
    go_enter Tryd.func31, Tryd.ntmps31
    go_wp2
    go_ret2
    exact ⟨⟨_, r, ret_two (by omega), HY.out⟩, rfl⟩
  · have ci3 : (b : Int) - 109572 = (c : Int) := by omega
    have ri3 : (g : Int) - 1095 = (r : Int) := by omega
    clear ci ri
    go_enter Tryd.func31, Tryd.ntmps31
    go_wp2
    go_ret2
    exact ⟨⟨_, r, ret_two (by omega), HY.out⟩, rfl⟩
end Go.Proofs.YtfgdfdjoidpejabDoor
