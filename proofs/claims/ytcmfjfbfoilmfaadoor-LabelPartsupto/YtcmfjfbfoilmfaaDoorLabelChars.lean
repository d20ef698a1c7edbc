/-
  The program's looks at one byte: isSmall, isGreat, isDigit, isNamed, isPlain, mayFollow.
-/
import Derived.Test.YtcmfjfbfoilmfaaDoorLabelRef
namespace Go.Proofs.YtcmfjfbfoilmfaaDoor
open Go.ChangeShapes Go.WideShapes Go.ChangeAt Go.RowKit
set_option linter.unusedVariables false
set_option linter.unusedSimpArgs false
def smallN (b : Nat) : Bool := decide (97 ≤ b) && decide (b ≤ 122)
def greatN (b : Nat) : Bool := decide (65 ≤ b) && decide (b ≤ 90)
def digN (b : Nat) : Bool := decide (48 ≤ b) && decide (b ≤ 57)
theorem low_parts (b : Nat) : lowN b = (smallN b || digN b) := rfl
theorem small_any (b : Nat) (w : World) (hb : b < 256) :
    Calls Tryd.prog 41 #[.int .u8 (b : Nat)] w fun e w' => e = .returned (.bool (smallN b)) ∧ w' = w := by
  by_cases h1 : 97 ≤ b
  · have i1 : (97 : Int) ≤ (b : Int) := by omega
    by_cases h2 : b ≤ 122
    · have i2 : (b : Int) ≤ 122 := by omega
      have HL : Hid (smallN b = true) := by unfold Hid smallN; simp; omega
      go_enter Tryd.func41, Tryd.ntmps41
      go_wp2
      go_ret
      exact ⟨by rw [HL.out]; rfl, rfl⟩
    · have i2 : ¬ (b : Int) ≤ 122 := by omega
      have HL : Hid (smallN b = false) := by unfold Hid smallN; simp; omega
      go_enter Tryd.func41, Tryd.ntmps41
      go_wp2
      go_ret
      exact ⟨by rw [HL.out]; rfl, rfl⟩
  · have i1 : ¬ (97 : Int) ≤ (b : Int) := by omega
    have HL : Hid (smallN b = false) := by unfold Hid smallN; simp; omega
    go_enter Tryd.func41, Tryd.ntmps41
    go_wp2
    go_ret
    exact ⟨by rw [HL.out]; rfl, rfl⟩
theorem great_any (b : Nat) (w : World) (hb : b < 256) :
    Calls Tryd.prog 42 #[.int .u8 (b : Nat)] w fun e w' => e = .returned (.bool (greatN b)) ∧ w' = w := by
  by_cases h1 : 65 ≤ b
  · have i1 : (65 : Int) ≤ (b : Int) := by omega
    by_cases h2 : b ≤ 90
    · have i2 : (b : Int) ≤ 90 := by omega
      have HL : Hid (greatN b = true) := by unfold Hid greatN; simp; omega
      go_enter Tryd.func42, Tryd.ntmps42
      go_wp2
      go_ret
      exact ⟨by rw [HL.out]; rfl, rfl⟩
    · have i2 : ¬ (b : Int) ≤ 90 := by omega
      have HL : Hid (greatN b = false) := by unfold Hid greatN; simp; omega
      go_enter Tryd.func42, Tryd.ntmps42
      go_wp2
      go_ret
      exact ⟨by rw [HL.out]; rfl, rfl⟩
  · have i1 : ¬ (65 : Int) ≤ (b : Int) := by omega
    have HL : Hid (greatN b = false) := by unfold Hid greatN; simp; omega
    go_enter Tryd.func42, Tryd.ntmps42
    go_wp2
    go_ret
    exact ⟨by rw [HL.out]; rfl, rfl⟩
theorem dig_any (b : Nat) (w : World) (hb : b < 256) :
    Calls Tryd.prog 43 #[.int .u8 (b : Nat)] w fun e w' => e = .returned (.bool (digN b)) ∧ w' = w := by
  by_cases h1 : 48 ≤ b
  · have i1 : (48 : Int) ≤ (b : Int) := by omega
    by_cases h2 : b ≤ 57
    · have i2 : (b : Int) ≤ 57 := by omega
      have HL : Hid (digN b = true) := by unfold Hid digN; simp; omega
      go_enter Tryd.func43, Tryd.ntmps43
      go_wp2
      go_ret
      exact ⟨by rw [HL.out]; rfl, rfl⟩
    · have i2 : ¬ (b : Int) ≤ 57 := by omega
      have HL : Hid (digN b = false) := by unfold Hid digN; simp; omega
      go_enter Tryd.func43, Tryd.ntmps43
      go_wp2
      go_ret
      exact ⟨by rw [HL.out]; rfl, rfl⟩
  · have i1 : ¬ (48 : Int) ≤ (b : Int) := by omega
    have HL : Hid (digN b = false) := by unfold Hid digN; simp; omega
    go_enter Tryd.func43, Tryd.ntmps43
    go_wp2
    go_ret
    exact ⟨by rw [HL.out]; rfl, rfl⟩
theorem named_any (b : Nat) (w : World) (hb : b < 256) :
    Calls Tryd.prog 36 #[.int .u8 (b : Nat)] w fun e w' => e = .returned (.bool (lowN b)) ∧ w' = w := by
  have HS := small_any b w hb
  have HD := dig_any b w hb
  rw [low_parts]
  generalize smallN b = x at *
  generalize digN b = y at *
  go_enter Tryd.func36, Tryd.ntmps36
  go_wp2_with fail
  refine Calls.mono HS ?_
  rintro _ w' ⟨rfl, hw⟩
  replace hw := hw.symm
  subst hw
  clear HS
  cases x with
  | true =>
    go_wp2_with fail
    go_ret
    exact ⟨rfl, rfl⟩
  | false =>
    go_wp2_with fail
    refine Calls.mono HD ?_
    rintro _ w' ⟨rfl, hw⟩
    replace hw := hw.symm
    subst hw
    clear HD
    go_wp2_with fail
    go_ret
    exact ⟨rfl, rfl⟩
theorem plain_parts (b : Nat) : plainN b = (smallN b || greatN b || digN b || ((b : Int) == 45) || ((b : Int) == 46) || ((b : Int) == 95) || ((b : Int) == 47)) := by
  have e : ∀ k : Nat, ((b : Int) == (k : Int)) = (b == k) := fun k => by
    by_cases h : b = k
    · rw [h]; simp
    · rw [beq_eq_false_iff_ne.2 h, beq_eq_false_iff_ne]; omega
  have e1 := e 45
  have e2 := e 46
  have e3 := e 95
  have e4 := e 47
  rw [show ((b : Int) == 45) = (b == 45) from e1, show ((b : Int) == 46) = (b == 46) from e2, show ((b : Int) == 95) = (b == 95) from e3, show ((b : Int) == 47) = (b == 47) from e4]
  unfold plainN
  rw [low_parts]
  show (smallN b || digN b || greatN b || _ || _ || _ || _) = _
  cases smallN b <;> cases digN b <;> cases greatN b <;> rfl
set_option maxHeartbeats 1000000 in
theorem plain_any (b : Nat) (w : World) (hb : b < 256) :
    Calls Tryd.prog 32 #[.int .u8 (b : Nat)] w fun e w' => e = .returned (.bool (plainN b)) ∧ w' = w := by
  have HS := small_any b w hb
  have HG := great_any b w hb
  have HD := dig_any b w hb
  rw [plain_parts]
  generalize smallN b = x at *
  generalize greatN b = g at *
  generalize digN b = y at *
  obtain ⟨c1, h1⟩ : ∃ c, ((b : Int) == 45) = c := ⟨_, rfl⟩
  obtain ⟨c2, h2⟩ : ∃ c, ((b : Int) == 46) = c := ⟨_, rfl⟩
  obtain ⟨c3, h3⟩ : ∃ c, ((b : Int) == 95) = c := ⟨_, rfl⟩
  obtain ⟨c4, h4⟩ : ∃ c, ((b : Int) == 47) = c := ⟨_, rfl⟩
  rw [h1, h2, h3, h4]
  go_enter Tryd.func32, Tryd.ntmps32
  go_wp2_with fail
  refine Calls.mono HS ?_
  rintro _ w' ⟨rfl, hw⟩
  replace hw := hw.symm
  subst hw
  clear HS
  cases x with
  | true =>
    go_wp2_with fail
    go_ret
    exact ⟨rfl, rfl⟩
  | false =>
    go_wp2_with fail
    refine Calls.mono HG ?_
    rintro _ w' ⟨rfl, hw⟩
    replace hw := hw.symm
    subst hw
    clear HG
    cases g with
    | true =>
      go_wp2_with fail
      go_ret
      exact ⟨rfl, rfl⟩
    | false =>
      go_wp2_with fail
      refine Calls.mono HD ?_
      rintro _ w' ⟨rfl, hw⟩
      replace hw := hw.symm
      subst hw
      clear HD
      cases y with
      | true =>
        go_wp2_with fail
        go_ret
        exact ⟨rfl, rfl⟩
      | false =>
        cases c1 with
        | true =>
          go_wp2_with fail
          go_ret
          exact ⟨rfl, rfl⟩
        | false =>
          cases c2 with
          | true =>
            go_wp2_with fail
            go_ret
            exact ⟨rfl, rfl⟩
          | false =>
            cases c3 with
            | true =>
              go_wp2_with fail
              go_ret
              exact ⟨rfl, rfl⟩
            | false =>
              cases c4 with
              | true =>
                go_wp2_with fail
                go_ret
                exact ⟨rfl, rfl⟩
              | false =>
                go_wp2_with fail
                go_ret
                exact ⟨rfl, rfl⟩
/-- What mayFollow answers. -/
def followN (c last : Nat) : Bool := if c = 45 then lowN last || (last == 45) else if c = 46 then lowN last else lowN c
set_option maxHeartbeats 1000000 in
theorem follow_any (c l : Nat) (w : World) (hc : c < 256) (hl : l < 256) :
    Calls Tryd.prog 35 #[.int .u8 (c : Nat), .int .u8 (l : Nat)] w fun e w' => e = .returned (.bool (followN c l)) ∧ w' = w := by
  have HC : Hid _ := named_any c w hc
  have HL : Hid _ := named_any l w hl
  by_cases h1 : c = 45
  · have e1 : ((c : Int) == 45) = true := by rw [h1]; rfl
    have HF : Hid (followN c l = (lowN l || ((l : Int) == 45))) := by
      unfold Hid followN
      rw [if_pos h1]
      congr 1
      by_cases h : l = 45
      · rw [h]; rfl
      · rw [beq_eq_false_iff_ne.2 h]
        symm
        rw [beq_eq_false_iff_ne]
        omega
    obtain ⟨d, hd⟩ : ∃ d, ((l : Int) == 45) = d := ⟨_, rfl⟩
    rw [hd] at HF
    generalize lowN l = x at *
    clear h1 HC
    go_enter Tryd.func35, Tryd.ntmps35
    go_wp2_with fail
    refine Calls.mono HL.out ?_
    rintro _ w' ⟨rfl, hw⟩
    replace hw := hw.symm
    subst hw
    clear HL
    cases x with
    | true =>
      go_wp2_with fail
      go_ret
      exact ⟨by rw [HF.out]; rfl, rfl⟩
    | false =>
      cases d with
      | true =>
        go_wp2_with fail
        go_ret
        exact ⟨by rw [HF.out]; rfl, rfl⟩
      | false =>
        go_wp2_with fail
        go_ret
        exact ⟨by rw [HF.out]; rfl, rfl⟩
  · have e1 : ((c : Int) == 45) = false := by rw [beq_eq_false_iff_ne]; omega
    by_cases h2 : c = 46
    · have e2 : ((c : Int) == 46) = true := by rw [h2]; rfl
      have HF : Hid (followN c l = lowN l) := by unfold Hid followN; rw [if_neg h1, if_pos h2]
      rw [HF.out]
      clear h1 h2 HC
      go_enter Tryd.func35, Tryd.ntmps35
      go_wp2_with fail
      refine Calls.mono HL.out ?_
      rintro _ w' ⟨rfl, hw⟩
      replace hw := hw.symm
      subst hw
      clear HL
      go_wp2_with fail
      go_ret
      exact ⟨rfl, rfl⟩
    · have e2 : ((c : Int) == 46) = false := by rw [beq_eq_false_iff_ne]; omega
      have HF : Hid (followN c l = lowN c) := by unfold Hid followN; rw [if_neg h1, if_neg h2]
      rw [HF.out]
      clear h1 h2 HL
      go_enter Tryd.func35, Tryd.ntmps35
      go_wp2_with fail
      refine Calls.mono HC.out ?_
      rintro _ w' ⟨rfl, hw⟩
      replace hw := hw.symm
      subst hw
      clear HC
      go_wp2_with fail
      go_ret
      exact ⟨rfl, rfl⟩
end Go.Proofs.YtcmfjfbfoilmfaaDoor
