/-
  The document's small functions of layer 6: low, plain, digit, Begins, Next, Group.
-/
import Derived.Test.YtbfgkogmojnilaaDoorLabelMath
import Derived.Test.YtbfgkogmojnilaaDoorTexts
namespace Go.Proofs.YtbfgkogmojnilaaDoor
open Go.ChangeShapes Go.WideShapes Go.ChangeAt Go.RowKit
set_option linter.unusedVariables false
set_option linter.unusedSimpArgs false
theorem rlow_any (b : Nat) (w : World) (hb : b < 256) :
    Calls Tryd.prog 64 #[.int .u8 (b : Nat)] w fun e w' => e = .returned (.bool (lowN b)) ∧ w' = w := by
  by_cases h1 : 97 ≤ b
  · have i1 : (97 : Int) ≤ (b : Int) := by omega
    by_cases h2 : b ≤ 122
    · have i2 : (b : Int) ≤ 122 := by omega
      have HL : Hid (lowN b = true) := by unfold Hid lowN; simp; omega
      go_enter Tryd.func64, Tryd.ntmps64
      go_wp2
      go_ret
      exact ⟨by rw [HL.out]; rfl, rfl⟩
    · have i2 : ¬ (b : Int) ≤ 122 := by omega
      have i3 : (48 : Int) ≤ (b : Int) := by omega
      have i4 : ¬ (b : Int) ≤ 57 := by omega
      have HL : Hid (lowN b = false) := by unfold Hid lowN; simp; omega
      go_enter Tryd.func64, Tryd.ntmps64
      go_wp2
      go_ret
      exact ⟨by rw [HL.out]; rfl, rfl⟩
  · have i1 : ¬ (97 : Int) ≤ (b : Int) := by omega
    by_cases h2 : 48 ≤ b
    · have i3 : (48 : Int) ≤ (b : Int) := by omega
      by_cases h3 : b ≤ 57
      · have i4 : (b : Int) ≤ 57 := by omega
        have HL : Hid (lowN b = true) := by unfold Hid lowN; simp; omega
        go_enter Tryd.func64, Tryd.ntmps64
        go_wp2
        go_ret
        exact ⟨by rw [HL.out]; rfl, rfl⟩
      · have i4 : ¬ (b : Int) ≤ 57 := by omega
        have HL : Hid (lowN b = false) := by unfold Hid lowN; simp; omega
        go_enter Tryd.func64, Tryd.ntmps64
        go_wp2
        go_ret
        exact ⟨by rw [HL.out]; rfl, rfl⟩
    · have i3 : ¬ (48 : Int) ≤ (b : Int) := by omega
      have HL : Hid (lowN b = false) := by unfold Hid lowN; simp; omega
      go_enter Tryd.func64, Tryd.ntmps64
      go_wp2
      go_ret
      exact ⟨by rw [HL.out]; rfl, rfl⟩
def digZ (o : Option Nat) : Int := match o with | some a => (a : Int) | none => -1
theorem rdigit_any (b : Nat) (w : World) (hb : b < 256) :
    Calls Tryd.prog 45 #[.int .u8 (b : Nat)] w fun e w' => e = .returned (.int .i64 (digZ (digU b))) ∧ w' = w := by
  by_cases h1 : 48 ≤ b ∧ b ≤ 57
  · have HL : Hid (digU b = some (b - 48)) := by unfold Hid digU; rw [if_pos h1]
    obtain ⟨d, hd⟩ : ∃ d, d = b - 48 := ⟨_, rfl⟩
    have hdi : (b : Int) - 48 = (d : Int) := by omega
    have hdb : d ≤ 9 := by omega
    rw [← hd] at HL
    have i1 : (48 : Int) ≤ (b : Int) := by omega
    have i2 : (b : Int) ≤ 57 := by omega
    clear hd h1
    go_enter Tryd.func45, Tryd.ntmps45
    go_wp2
    go_ret
    exact ⟨by rw [HL.out]; rfl, rfl⟩
  · by_cases h2 : 65 ≤ b ∧ b ≤ 70
    · have HL : Hid (digU b = some (b - 55)) := by unfold Hid digU; rw [if_neg h1, if_pos h2]
      obtain ⟨d, hd⟩ : ∃ d, d = b - 65 := ⟨_, rfl⟩
      have hdi : (b : Int) - 65 = (d : Int) := by omega
      have hdb : d ≤ 5 := by omega
      have HD : Hid (((b - 55 : Nat) : Int) = (d : Int) + 10) := by unfold Hid; omega
      have i1 : (48 : Int) ≤ (b : Int) := by omega
      have i2 : ¬ (b : Int) ≤ 57 := by omega
      have i3 : (65 : Int) ≤ (b : Int) := by omega
      have i4 : (b : Int) ≤ 70 := by omega
      clear hd h1 h2
      go_enter Tryd.func45, Tryd.ntmps45
      go_wp2
      go_ret
      exact ⟨by rw [HL.out, show digZ (some (b - 55)) = ((b - 55 : Nat) : Int) from rfl, HD.out]; rfl, rfl⟩
    · have HL : Hid (digU b = none) := by unfold Hid digU; rw [if_neg h1, if_neg h2]
      by_cases c1 : 48 ≤ b
      · have i1 : (48 : Int) ≤ (b : Int) := by omega
        have i2 : ¬ (b : Int) ≤ 57 := by omega
        by_cases c2 : 65 ≤ b
        · have i3 : (65 : Int) ≤ (b : Int) := by omega
          have i4 : ¬ (b : Int) ≤ 70 := by omega
          clear h1 h2
          go_enter Tryd.func45, Tryd.ntmps45
          go_wp2
          go_ret
          exact ⟨by rw [HL.out]; rfl, rfl⟩
        · have i3 : ¬ (65 : Int) ≤ (b : Int) := by omega
          clear h1 h2
          go_enter Tryd.func45, Tryd.ntmps45
          go_wp2
          go_ret
          exact ⟨by rw [HL.out]; rfl, rfl⟩
      · have i1 : ¬ (48 : Int) ≤ (b : Int) := by omega
        have i3 : ¬ (65 : Int) ≤ (b : Int) := by omega
        clear h1 h2
        go_enter Tryd.func45, Tryd.ntmps45
        go_wp2
        go_ret
        exact ⟨by rw [HL.out]; rfl, rfl⟩
theorem rplain_any (b : Nat) (w : World) (hb : b < 256) :
    Calls Tryd.prog 42 #[.int .u8 (b : Nat)] w fun e w' => e = .returned (.bool (plainN b)) ∧ w' = w := by
  have HC := rlow_any b w hb
  have HP : Hid (plainN b = (lowN b || (decide (65 ≤ b) && decide (b ≤ 90)) || b == 45 || b == 46 || b == 95 || b == 47)) := rfl
  cases hl : lowN b with
  | true =>
    rw [hl] at HC HP
    go_enter Tryd.func42, Tryd.ntmps42
    go_wp2_with fail
    refine Calls.mono HC ?_
    rintro _ w' ⟨rfl, hw⟩
    replace hw := hw.symm
    subst hw
    clear HC
    go_wp2_with fail
    go_ret
    exact ⟨by rw [HP.out]; simp, rfl⟩
  | false =>
    rw [hl] at HC HP
    clear hl
    by_cases h1 : 65 ≤ b
    · have i1 : (65 : Int) ≤ (b : Int) := by omega
      by_cases h2 : b ≤ 90
      · have i2 : (b : Int) ≤ 90 := by omega
        have HQ : Hid (plainN b = true) := by unfold Hid; rw [HP.out]; simp; omega
        clear HP
        go_enter Tryd.func42, Tryd.ntmps42
        go_wp2_with fail
        refine Calls.mono HC ?_
        rintro _ w' ⟨rfl, hw⟩
        replace hw := hw.symm
        subst hw
        clear HC
        go_wp2_with fail
        go_ret
        exact ⟨by rw [HQ.out]; rfl, rfl⟩
      · have i2 : ¬ (b : Int) ≤ 90 := by omega
        have d2 : decide ((b : Int) ≤ 90) = false := decide_eq_false i2
        have e1 : ((b : Int) == 45) = false := by rw [beq_eq_false_iff_ne]; omega
        have e2 : ((b : Int) == 46) = false := by rw [beq_eq_false_iff_ne]; omega
        have e4 : ((b : Int) == 47) = false := by rw [beq_eq_false_iff_ne]; omega
        by_cases h3 : b = 95
        · have e3 : ((b : Int) == 95) = true := by rw [h3]; rfl
          have HQ : Hid (plainN b = true) := by unfold Hid; rw [HP.out]; simp; omega
          clear HP h3
          go_enter Tryd.func42, Tryd.ntmps42
          go_wp2_with fail
          refine Calls.mono HC ?_
          rintro _ w' ⟨rfl, hw⟩
          replace hw := hw.symm
          subst hw
          clear HC
          go_wp2_with fail
          go_ret
          exact ⟨by rw [HQ.out]; rfl, rfl⟩
        · have e3 : ((b : Int) == 95) = false := by rw [beq_eq_false_iff_ne]; omega
          have HQ : Hid (plainN b = false) := by unfold Hid; rw [HP.out]; simp; omega
          clear HP h3
          go_enter Tryd.func42, Tryd.ntmps42
          go_wp2_with fail
          refine Calls.mono HC ?_
          rintro _ w' ⟨rfl, hw⟩
          replace hw := hw.symm
          subst hw
          clear HC
          go_wp2_with fail
          go_ret
          exact ⟨by rw [HQ.out]; rfl, rfl⟩
    · have i1 : ¬ (65 : Int) ≤ (b : Int) := by omega
      have e3 : ((b : Int) == 95) = false := by rw [beq_eq_false_iff_ne]; omega
      by_cases c1 : b = 45
      · have e1 : ((b : Int) == 45) = true := by rw [c1]; rfl
        have HQ : Hid (plainN b = true) := by unfold Hid; rw [HP.out]; simp; omega
        clear HP c1
        go_enter Tryd.func42, Tryd.ntmps42
        go_wp2_with fail
        refine Calls.mono HC ?_
        rintro _ w' ⟨rfl, hw⟩
        replace hw := hw.symm
        subst hw
        clear HC
        go_wp2_with fail
        go_ret
        exact ⟨by rw [HQ.out]; rfl, rfl⟩
      · have e1 : ((b : Int) == 45) = false := by rw [beq_eq_false_iff_ne]; omega
        by_cases c2 : b = 46
        · have e2 : ((b : Int) == 46) = true := by rw [c2]; rfl
          have HQ : Hid (plainN b = true) := by unfold Hid; rw [HP.out]; simp; omega
          clear HP c1 c2
          go_enter Tryd.func42, Tryd.ntmps42
          go_wp2_with fail
          refine Calls.mono HC ?_
          rintro _ w' ⟨rfl, hw⟩
          replace hw := hw.symm
          subst hw
          clear HC
          go_wp2_with fail
          go_ret
          exact ⟨by rw [HQ.out]; rfl, rfl⟩
        · have e2 : ((b : Int) == 46) = false := by rw [beq_eq_false_iff_ne]; omega
          by_cases c3 : b = 47
          · have e4 : ((b : Int) == 47) = true := by rw [c3]; rfl
            have HQ : Hid (plainN b = true) := by unfold Hid; rw [HP.out]; simp; omega
            clear HP c1 c2 c3
            go_enter Tryd.func42, Tryd.ntmps42
            go_wp2_with fail
            refine Calls.mono HC ?_
            rintro _ w' ⟨rfl, hw⟩
            replace hw := hw.symm
            subst hw
            clear HC
            go_wp2_with fail
            go_ret
            exact ⟨by rw [HQ.out]; rfl, rfl⟩
          · have e4 : ((b : Int) == 47) = false := by rw [beq_eq_false_iff_ne]; omega
            have HQ : Hid (plainN b = false) := by unfold Hid; rw [HP.out]; simp; omega
            clear HP c1 c2 c3
            go_enter Tryd.func42, Tryd.ntmps42
            go_wp2_with fail
            refine Calls.mono HC ?_
            rintro _ w' ⟨rfl, hw⟩
            replace hw := hw.symm
            subst hw
            clear HC
            go_wp2_with fail
            go_ret
            exact ⟨by rw [HQ.out]; rfl, rfl⟩
theorem txt_extract (S : ByteArray) (i j : Nat) : txt (S.extract i j) = ((txt S).take j).drop i := by
  unfold txt
  rw [ByteArray.data_extract, Array.toList_extract, List.extract_eq_take_drop, List.map_take, List.map_drop, List.drop_take]
theorem txt_inj {s t : ByteArray} (h : txt s = txt t) : s = t := by rw [← strN_txt s, h, strN_txt]
end Go.Proofs.YtbfgkogmojnilaaDoor
