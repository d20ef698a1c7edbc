/-
  The program's looks at one byte: isSmall, isGreat, isDigit, isNamed, isPlain, mayFollow.
-/
import Derived.Test.YtbfgkogmojnilaaDoorLabelRef
namespace Go.Proofs.YtbfgkogmojnilaaDoor
open Go.ChangeShapes Go.WideShapes Go.ChangeAt Go.RowKit
set_option linter.unusedVariables false
set_option linter.unusedSimpArgs false
def smallN (b : Nat) : Bool := decide (97 ≤ b) && decide (b ≤ 122)
def greatN (b : Nat) : Bool := decide (65 ≤ b) && decide (b ≤ 90)
def digN (b : Nat) : Bool := decide (48 ≤ b) && decide (b ≤ 57)
theorem low_parts (b : Nat) : lowN b = (smallN b || digN b) := rfl
theorem small_any (b : Nat) (w : World) (hb : b < 256) :
    Calls Tryd.prog 59 #[.int .u8 (b : Nat)] w fun e w' => e = .returned (.bool (smallN b)) ∧ w' = w := by
  by_cases h1 : 97 ≤ b
  · have i1 : (97 : Int) ≤ (b : Int) := by omega
    by_cases h2 : b ≤ 122
    · have i2 : (b : Int) ≤ 122 := by omega
      have HL : Hid (smallN b = true) := by unfold Hid smallN; simp; omega
      go_enter Tryd.func59, Tryd.ntmps59
      go_wp2
      go_ret
      exact ⟨by rw [HL.out]; rfl, rfl⟩
    · have i2 : ¬ (b : Int) ≤ 122 := by omega
      have HL : Hid (smallN b = false) := by unfold Hid smallN; simp; omega
      go_enter Tryd.func59, Tryd.ntmps59
      go_wp2
      go_ret
      exact ⟨by rw [HL.out]; rfl, rfl⟩
  · have i1 : ¬ (97 : Int) ≤ (b : Int) := by omega
    have HL : Hid (smallN b = false) := by unfold Hid smallN; simp; omega
    go_enter Tryd.func59, Tryd.ntmps59
    go_wp2
    go_ret
    exact ⟨by rw [HL.out]; rfl, rfl⟩
theorem great_any (b : Nat) (w : World) (hb : b < 256) :
    Calls Tryd.prog 60 #[.int .u8 (b : Nat)] w fun e w' => e = .returned (.bool (greatN b)) ∧ w' = w := by
  by_cases h1 : 65 ≤ b
  · have i1 : (65 : Int) ≤ (b : Int) := by omega
    by_cases h2 : b ≤ 90
    · have i2 : (b : Int) ≤ 90 := by omega
      have HL : Hid (greatN b = true) := by unfold Hid greatN; simp; omega
      go_enter Tryd.func60, Tryd.ntmps60
      go_wp2
      go_ret
      exact ⟨by rw [HL.out]; rfl, rfl⟩
    · have i2 : ¬ (b : Int) ≤ 90 := by omega
      have HL : Hid (greatN b = false) := by unfold Hid greatN; simp; omega
      go_enter Tryd.func60, Tryd.ntmps60
      go_wp2
      go_ret
      exact ⟨by rw [HL.out]; rfl, rfl⟩
  · have i1 : ¬ (65 : Int) ≤ (b : Int) := by omega
    have HL : Hid (greatN b = false) := by unfold Hid greatN; simp; omega
    go_enter Tryd.func60, Tryd.ntmps60
    go_wp2
    go_ret
    exact ⟨by rw [HL.out]; rfl, rfl⟩
theorem dig_any (b : Nat) (w : World) (hb : b < 256) :
    Calls Tryd.prog 61 #[.int .u8 (b : Nat)] w fun e w' => e = .returned (.bool (digN b)) ∧ w' = w := by
  by_cases h1 : 48 ≤ b
  · have i1 : (48 : Int) ≤ (b : Int) := by omega
    by_cases h2 : b ≤ 57
    · have i2 : (b : Int) ≤ 57 := by omega
      have HL : Hid (digN b = true) := by unfold Hid digN; simp; omega
      go_enter Tryd.func61, Tryd.ntmps61
      go_wp2
      go_ret
      exact ⟨by rw [HL.out]; rfl, rfl⟩
    · have i2 : ¬ (b : Int) ≤ 57 := by omega
      have HL : Hid (digN b = false) := by unfold Hid digN; simp; omega
      go_enter Tryd.func61, Tryd.ntmps61
      go_wp2
      go_ret
      exact ⟨by rw [HL.out]; rfl, rfl⟩
  · have i1 : ¬ (48 : Int) ≤ (b : Int) := by omega
    have HL : Hid (digN b = false) := by unfold Hid digN; simp; omega
    go_enter Tryd.func61, Tryd.ntmps61
    go_wp2
    go_ret
    exact ⟨by rw [HL.out]; rfl, rfl⟩
theorem plain_parts (b : Nat) : plainN b = (smallN b || greatN b || digN b || ((b : Int) == 45) || ((b : Int) == 46) || ((b : Int) == 95) || ((b : Int) == 47)) := by
  have e : ∀ k : Nat, ((b : Int) == (k : Int)) = (b == k) := fun k => by
    by_cases h : b = k
    · rw [h]; simp
    · rw [beq_eq_false_iff_ne.2 h, beq_eq_false_iff_ne]; omega
  have e1 := e 45
  have e2 := e 46
  have e3 := e 95
  have e4 := e 47
  rw [show ((b : Int) == 45) = (b == 45) from e1, show ((b : Int) == 46) = (b == 46) from e2, show ((b : Int) == 95) = (b == 95) from e3, show ((b : Int) == 47) = (b == 47) from e4]
  unfold plainN
  rw [low_parts]
  show (smallN b || digN b || greatN b || _ || _ || _ || _) = _
  cases smallN b <;> cases digN b <;> cases greatN b <;> rfl
set_option maxHeartbeats 1000000 in
theorem plain_any (b : Nat) (w : World) (hb : b < 256) :
    Calls Tryd.prog 38 #[.int .u8 (b : Nat)] w fun e w' => e = .returned (.bool (plainN b)) ∧ w' = w := by
  have HS := small_any b w hb
  have HG := great_any b w hb
  have HD := dig_any b w hb
  rw [plain_parts]
  generalize smallN b = x at *
  generalize greatN b = g at *
  generalize digN b = y at *
  obtain ⟨c1, h1⟩ : ∃ c, ((b : Int) == 45) = c := ⟨_, rfl⟩
  obtain ⟨c2, h2⟩ : ∃ c, ((b : Int) == 46) = c := ⟨_, rfl⟩
  obtain ⟨c3, h3⟩ : ∃ c, ((b : Int) == 95) = c := ⟨_, rfl⟩
  obtain ⟨c4, h4⟩ : ∃ c, ((b : Int) == 47) = c := ⟨_, rfl⟩
  rw [h1, h2, h3, h4]
  go_enter Tryd.func38, Tryd.ntmps38
  go_wp2_with fail
  refine Calls.mono HS ?_
  rintro _ w' ⟨rfl, hw⟩
  replace hw := hw.symm
  subst hw
  clear HS
  cases x with
  | true =>
    go_wp2_with fail
    go_ret
    exact ⟨rfl, rfl⟩
  | false =>
    go_wp2_with fail
    refine Calls.mono HG ?_
    rintro _ w' ⟨rfl, hw⟩
    replace hw := hw.symm
    subst hw
    clear HG
    cases g with
    | true =>
      go_wp2_with fail
      go_ret
      exact ⟨rfl, rfl⟩
    | false =>
      go_wp2_with fail
      refine Calls.mono HD ?_
      rintro _ w' ⟨rfl, hw⟩
      replace hw := hw.symm
      subst hw
      clear HD
      cases y with
      | true =>
        go_wp2_with fail
        go_ret
        exact ⟨rfl, rfl⟩
      | false =>
        cases c1 with
        | true =>
          go_wp2_with fail
          go_ret
          exact ⟨rfl, rfl⟩
        | false =>
          cases c2 with
          | true =>
            go_wp2_with fail
            go_ret
            exact ⟨rfl, rfl⟩
          | false =>
            cases c3 with
            | true =>
              go_wp2_with fail
              go_ret
              exact ⟨rfl, rfl⟩
            | false =>
              cases c4 with
              | true =>
                go_wp2_with fail
                go_ret
                exact ⟨rfl, rfl⟩
              | false =>
                go_wp2_with fail
                go_ret
                exact ⟨rfl, rfl⟩
/-- What mayFollow answers. -/
def followN (c last : Nat) : Bool := if c = 45 then lowN last || (last == 45) else if c = 46 then lowN last else lowN c
end Go.Proofs.YtbfgkogmojnilaaDoor
