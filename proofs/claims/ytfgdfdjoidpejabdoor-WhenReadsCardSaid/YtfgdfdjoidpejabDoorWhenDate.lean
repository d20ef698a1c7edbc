/-
  The program's small functions over a date: within, isLeap, ahead, days, seconds; its table of months.
-/
import Derived.Test.YtfgdfdjoidpejabDoorWhenSec
namespace Go.Proofs.YtfgdfdjoidpejabDoor
open Go.ChangeShapes Go.WideShapes Go.ChangeAt Go.RowKit
set_option linter.unusedVariables false
set_option linter.unusedSimpArgs false
def moN : List Nat := [0, 31, 59, 90, 120, 151, 181, 212, 243, 273, 304, 334, 365]
/-- The table of months, as the program's text lays it. -/
def Tab (w : World) : Prop := 0 < w.heap.size ∧ ∀ i, i < 13 → w.cell? ⟨0, i, none⟩ = some (.int .i64 (moN.getD i 0 : Nat))
theorem Tab.below {w w' : World} {B : Nat} (h : Tab w) (hb : Below B w w') (hB : 0 < B) : Tab w' :=
  ⟨Nat.lt_of_lt_of_le h.1 hb.size, fun i hi => (hb.cell (p := ⟨0, i, none⟩) hB).trans (h.2 i hi)⟩
theorem Tab.own {w w' : World} (h : Tab w) (hb : Below w.heap.size w w') : Tab w' := h.below hb h.1
theorem dmk_tab (y m : Nat) (h1 : 1 ≤ m) (h2 : m ≤ 13) : dmk y (m - 1) = if 2 < m ∧ leapN y = true then moN.getD (m - 1) 0 + 1 else moN.getD (m - 1) 0 := by
  have : m = 1 ∨ m = 2 ∨ m = 3 ∨ m = 4 ∨ m = 5 ∨ m = 6 ∨ m = 7 ∨ m = 8 ∨ m = 9 ∨ m = 10 ∨ m = 11 ∨ m = 12 ∨ m = 13 := by omega
  cases hl : leapN y <;> rcases this with rfl | rfl | rfl | rfl | rfl | rfl | rfl | rfl | rfl | rfl | rfl | rfl | rfl <;> simp [dmk, lenN, hl, moN]
theorem within_any (n a b : Int) (w : World) :
    Calls Tryd.prog 29 #[.int .i64 n, .int .i64 a, .int .i64 b] w fun e w' => e = .returned (.bool (decide (a ≤ n) && decide (n ≤ b))) ∧ w' = w := by
  by_cases h : a ≤ n
  · have HD : Hid (decide (a ≤ n) = true) := decide_eq_true h
    go_enter Tryd.func29, Tryd.ntmps29
    go_wp2
    go_ret
    exact ⟨by rw [HD.out]; rfl, rfl⟩
  · have HD : Hid (decide (a ≤ n) = false) := decide_eq_false h
    go_enter Tryd.func29, Tryd.ntmps29
    go_wp2
    go_ret
    exact ⟨by rw [HD.out]; rfl, rfl⟩
theorem isleap_any (y : Nat) (mo d h mi s : Int) (w : World) (hy : y ≤ 9223372036854775807) :
    Calls Tryd.prog 36 #[dateV y mo d h mi s] w fun e w' => e = .returned (.bool (leapN y)) ∧ Below w.heap.size w w' := by
  have t4 : (y : Int).tmod 4 = (y : Int) % 4 := Int.tmod_eq_emod_of_nonneg (by omega)
  have t100 : (y : Int).tmod 100 = (y : Int) % 100 := Int.tmod_eq_emod_of_nonneg (by omega)
  have t400 : (y : Int).tmod 400 = (y : Int) % 400 := Int.tmod_eq_emod_of_nonneg (by omega)
  by_cases h4 : y % 4 = 0
  · have b4 : ((y : Int) % 4 == 0) = true := by rw [beq_iff_eq]; omega
    by_cases h100 : y % 100 = 0
    · have b100 : ((y : Int) % 100 == 0) = true := by rw [beq_iff_eq]; omega
      have b100' : ((y : Int) % 100 != 0) = false := by rw [bne, b100]; rfl
      have HL : Hid (leapN y = ((y : Int) % 400 == 0)) := by
        unfold Hid leapN
        rw [if_pos h100]
        by_cases h : y % 400 = 0
        · rw [h, show (y : Int) % 400 = 0 by omega]; rfl
        · rw [beq_eq_false_iff_ne.2 h, beq_eq_false_iff_ne.2 (show ¬ (y : Int) % 400 = 0 by omega)]
      clear h4 h100
      unfold dateV
      go_enter Tryd.func36, Tryd.ntmps36
      go_wp2
      go_ret
      exact ⟨by rw [HL.out]; rfl, below_new w _⟩
    · have b100 : ((y : Int) % 100 == 0) = false := by rw [beq_eq_false_iff_ne]; omega
      have b100' : ((y : Int) % 100 != 0) = true := by rw [bne, b100]; rfl
      have HL : Hid (leapN y = true) := by
        unfold Hid leapN
        rw [if_neg h100, h4]; rfl
      clear h4 h100
      unfold dateV
      go_enter Tryd.func36, Tryd.ntmps36
      go_wp2
      go_ret
      exact ⟨by rw [HL.out]; rfl, below_new w _⟩
  · have b4 : ((y : Int) % 4 == 0) = false := by rw [beq_eq_false_iff_ne]; omega
    have b400 : ((y : Int) % 400 == 0) = false := by rw [beq_eq_false_iff_ne]; omega
    have HL : Hid (leapN y = false) := by
      unfold Hid leapN
      rw [if_neg (by omega), beq_eq_false_iff_ne.2 h4]
    clear h4
    unfold dateV
    go_enter Tryd.func36, Tryd.ntmps36
    go_wp2
    go_ret
    exact ⟨by rw [HL.out]; rfl, below_new w _⟩
end Go.Proofs.YtfgdfdjoidpejabDoor
