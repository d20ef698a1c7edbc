/-
  The simplest facts of layer 5: the law's awake.
-/
import Derived.Test.YtfgdfdjoidpejabDoorWhenParse0
import Derived.Test.YtfgdfdjoidpejabDoorWhenText1
import Derived.Test.YtfgdfdjoidpejabDoorWhenOrder
namespace Go.Proofs.YtfgdfdjoidpejabDoor
open Go.ChangeShapes Go.WideShapes Go.ChangeAt Go.RowKit
set_option linter.unusedVariables false
set_option linter.unusedSimpArgs false
theorem bytes_ext {a b : ByteArray} (h : a.data.toList = b.data.toList) : a = b := by
  cases a; cases b
  simp only [] at h
  rw [Array.toList_inj.1 h]
theorem ok_leap : OkD 2000 2 29 12 30 45 := ⟨by decide, by decide, by decide, by decide, by decide, by decide, by decide, by decide, by decide⟩
theorem ok_first : OkD 1970 1 1 0 0 0 := ⟨by decide, by decide, by decide, by decide, by decide, by decide, by decide, by decide, by decide⟩
theorem sec_leap : secN 2000 2 29 12 30 45 = 63087424245 := by unfold secN dayN; rw [dbk_closed]; rfl
theorem sec_first : secN 1970 1 1 0 0 0 = 62135596800 := by unfold secN dayN; rw [dbk_closed]; rfl
def leapS : ByteArray := ⟨#[50, 48, 48, 48, 45, 48, 50, 45, 50, 57, 84, 49, 50, 58, 51, 48, 58, 52, 53, 90]⟩
theorem leap_txt : txt leapS = textN 2000 2 29 12 30 45 := by decide
theorem first_str : strN (textN 1970 1 1 0 0 0) = ByteArray.mk #[49, 57, 55, 48, 45, 48, 49, 45, 48, 49, 84, 48, 48, 58, 48, 48, 58, 48, 48, 90] := bytes_ext (by decide +kernel)
/-- A date's text is read as its moment. -/
theorem parse_text {y mo d h mi s : Nat} (hk : OkD y mo d h mi s) {v : Value} (hv : ParseR (textN y mo d h mi s) v) : v = .tuple #[.int .i64 ((secN y mo d h mi s : Int) - 62135596800), .int .i64 0] := by
  obtain ⟨h1, h2⟩ := form_text hk
  rcases hv with ⟨h3, -⟩ | ⟨-, a, b, c, e, f, g, h4, h5⟩
  · exact absurd h1 h3
  · rw [h2] at h4
    simp only [List.cons.injEq, and_true] at h4
    obtain ⟨rfl, rfl, rfl, rfl, rfl, rfl⟩ := h4
    rcases h5 with ⟨-, h5⟩ | ⟨h5, -⟩
    · exact h5
    · exact absurd hk h5
set_option maxHeartbeats 4000000 in
theorem awake_true (w : World) (hT : Tab w) : Calls Tryd.prog 5 #[] w fun e w' => e = .returned (.bool true) ∧ Below w.heap.size w w' := by
  have HP : Hid (Calls Tryd.prog 9 #[.string leapS] w fun e w' => e = .returned (.tuple #[.int .i64 951827445, .int .i64 0]) ∧ Below w.heap.size w w') := (pparse_any leapS w hT (by decide)).mono fun e w' ⟨⟨v, h1, h2⟩, h3⟩ => by
    rw [leap_txt] at h2
    have := parse_text ok_leap h2
    rw [sec_leap] at this
    exact ⟨by rw [h1, this]; rfl, h3⟩
  have HX : Hid (∀ W, Tab W → Calls Tryd.prog 10 #[.int .i64 0] W fun e w' => e = .returned (.tuple #[.string (ByteArray.mk #[49, 57, 55, 48, 45, 48, 49, 45, 48, 49, 84, 48, 48, 58, 48, 48, 58, 48, 48, 90]), .int .i64 0]) ∧ Below W.heap.size W w') := fun W hW => (ptext_good 62135596800 0 W hW (by decide) (by decide)).mono fun e w' ⟨⟨y, mo, d, h, mi, s, h1, h2, h3⟩, h4⟩ => by
    obtain ⟨rfl, rfl, rfl, rfl, rfl, rfl⟩ := sec_one h2 ok_first (by rw [h3, sec_first])
    rw [first_str] at h1
    exact ⟨h1, h4⟩
  have HW : Hid (∀ W, Calls Tryd.prog 11 #[.int .i64 0] W fun e w' => e = .returned (.tuple #[.int .i64 3, .int .i64 0]) ∧ w' = W) := fun W => week_good 62135596800 0 W (by decide) (by decide)
  have HD : Hid (∀ W, Calls Tryd.prog 12 #[.int .i64 0, .int .i64 1] W fun e w' => e = .returned (.int .i64 86400) ∧ w' = W) := fun W => pdays_any 0 1 W (by decide) (by decide)
  unfold leapS at HP
  go_enter Tryd.func5, Tryd.ntmps5
  go_wp2_with fail
  refine Calls.mono HP.out ?_
  rintro _ w1 ⟨rfl, hb1⟩
  have hT1 := hT.own hb1
  clear HP
  go_wp2_with fail
  refine Calls.mono (HX.out _ hT1) ?_
  rintro _ w2 ⟨rfl, hb2⟩
  have hb12 := hb1.trans (hb2.mono hb1.size)
  clear HX hb1 hb2 hT hT1
  go_wp2_with fail
  refine Calls.mono (HW.out _) ?_
  rintro _ w3 ⟨rfl, hw⟩
  replace hw := hw.symm
  subst hw
  go_wp2_with fail
  refine Calls.mono (HD.out _) ?_
  rintro _ w3 ⟨rfl, hw⟩
  replace hw := hw.symm
  subst hw
  go_wp2_with fail
  go_ret
  exact ⟨rfl, hb12⟩
end Go.Proofs.YtfgdfdjoidpejabDoor
