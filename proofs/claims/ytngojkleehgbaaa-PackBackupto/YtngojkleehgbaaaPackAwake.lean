/-
  The law's 'awake'.
-/
import Derived.Test.YtngojkleehgbaaaPackRef
import Derived.Test.YtngojkleehgbaaaPackR3
namespace Go.Proofs.Ytngojkleehgbaaa
open Go.ChangeShapes Go.WideShapes Go.ChangeAt Go.RowKit
set_option linter.unusedVariables false
set_option linter.unusedSimpArgs false
def abS : ByteArray := ⟨#[97, 98]⟩
def xsA : List Nat := [172, 2, 1, 1, 2, 97, 98]
theorem xsA_is : (((([] ++ pkN 300) ++ pkN (zigN (-1))) ++ flagN true) ++ textN abS) = xsA := by decide +kernel
theorem A1 : numS (xsA, 0) = (300, xsA.drop 2, 0) := by decide +kernel
theorem A2 : numS (xsA.drop 2, 0) = (1, xsA.drop 3, 0) := by decide +kernel
theorem A3 : flagS (xsA.drop 3, 0) = (true, xsA.drop 4, 0) := by decide +kernel
theorem A4 : textS (xsA.drop 4, 0) = ([97, 98], [], 0) := by decide +kernel
theorem A2z : zagV ((1 : Nat) : Int) = -1 := by decide
theorem xsA_byt : Byt xsA := by
  intro c hc
  simp [xsA] at hc
  omega
theorem strAb : strN [97, 98] = abS := by decide +kernel
theorem A5 : endS (([], 0) : RSt) = ([], 0) := by decide +kernel
set_option maxHeartbeats 2000000 in
theorem awake_any (w : World) : Calls Try.prog 19 #[] w fun e w' => e = .returned (.bool true) ∧ Below w.heap.size w w' := by
  go_enter Try.func19, Try.ntmps19
  go_wp2_with fail
  refine (new_any w).mono ?_
  rintro _ w1 ⟨rfl, hW1, b1⟩
  go_wp2_with fail
  refine (wnum_any w1 _ 300 _ hW1 (by decide) (by decide)).mono ?_
  rintro _ w2 ⟨rfl, hW2, b2⟩
  go_wp2_with fail
  refine (wint_any w2 _ (-1) _ hW2 (by decide) (by decide) (by decide +kernel)).mono ?_
  rintro _ w3 ⟨rfl, hW3, b3⟩
  go_wp2_with fail
  refine (wflag_any w3 _ true _ hW3 (by decide +kernel)).mono ?_
  rintro _ w4 ⟨rfl, hW4, b4⟩
  go_wp2_with fail
  refine (wtext_any w4 _ abS _ hW4 (by decide +kernel)).mono ?_
  rintro _ w5 ⟨rfl, hW5, b5⟩
  rw [xsA_is] at hW5
  have hB5 : Hid (Below w.heap.size w w5) := (((b1.trans b2).trans b3).trans b4).trans b5
  clear hW1 hW2 hW3 hW4 b1 b2 b3 b4 b5
  go_wp2_with fail
  refine (wout_any w5 _ xsA hW5 (by decide)).mono ?_
  rintro _ w6 ⟨a, cap, r, rfl, hr, hn, hc, hcm, hi, hlt, b6⟩
  have hB6 : Hid (Below w.heap.size w w6) := hB5.out.trans (b6.mono hB5.out.size)
  have hxl : xsA.length = 7 := by decide
  have HRE := read_any w6 a cap xsA hr hc hcm (fun h => (hn h).2) r hi hlt xsA_byt
  have HR : Hid (RowL .u8 w6 a xsA.length xsA ∧ (a = none → xsA.length = 0)) := ⟨hr, fun h => (hn h).1⟩
  rw [hxl] at HRE hc
  clear hr hn hi b6 hB5 hW5 hcm
  go_wp2_with fail
  refine HRE.mono ?_
  clear HRE
  rintro _ w7 ⟨rfl, hR7, b7⟩
  have hB7 : Hid (Below w.heap.size w w7) := hB6.out.trans (b7.mono hB6.out.size)
  have HCV := conv_any (HR.out.1.below b7) HR.out.2 cap
  have hsx : strN xsA = ⟨#[172, 2, 1, 1, 2, 97, 98]⟩ := by decide +kernel
  rw [hsx, hxl] at HCV
  have hG : w.heap.size ≤ w6.heap.size := hB6.out.size
  have P1 : Calls Try.prog 22 #[.pointer (some ⟨w6.heap.size, 0, none⟩)] w7 (RdR w7 w6.heap.size r (.int .u64 300) (xsA.drop 2, 0)) := by
    have := pnum_any w7 _ r _ hR7
    rw [A1] at this
    exact this
  generalize w6.heap.size = G at *
  clear HR hxl hsx hlt hB6 hR7 b7
  go_wp2_with fail
  refine P1.mono ?_
  clear P1 HCV
  rintro _ w8 ⟨rfl, hR8, o8⟩
  have hB8 : Hid (Below w.heap.size w w8) := hB7.out.trans (o8.below hG hB7.out.size)
  have P2 : Calls Try.prog 24 #[.pointer (some ⟨G, 0, none⟩)] w8 (RdR w8 G r (.int .i64 (-1)) (xsA.drop 3, 0)) := by
    have := pint_any w8 _ r _ hR8
    rw [A2] at this
    simp only [A2z] at this
    exact this
  clear hB7 hR8 o8
  go_wp2_with fail
  refine P2.mono ?_
  clear P2
  rintro _ w9 ⟨rfl, hR9, o9⟩
  have hB9 : Hid (Below w.heap.size w w9) := hB8.out.trans (o9.below hG hB8.out.size)
  have P3 : Calls Try.prog 25 #[.pointer (some ⟨G, 0, none⟩)] w9 (RdR w9 G r (.bool true) (xsA.drop 4, 0)) := by
    have := pflag_any w9 _ r _ hR9
    rw [A3] at this
    exact this
  clear hB8 hR9 o9
  go_wp2_with fail
  refine P3.mono ?_
  clear P3
  rintro _ w10 ⟨rfl, hR10, o10⟩
  have hB10 : Hid (Below w.heap.size w w10) := hB9.out.trans (o10.below hG hB9.out.size)
  have P4 : Calls Try.prog 27 #[.pointer (some ⟨G, 0, none⟩)] w10 (RdR w10 G r (.string ⟨#[97, 98]⟩) ([], 0)) := by
    have := ptext_any w10 _ r _ hR10
    rw [A4, strAb] at this
    exact this
  clear hB9 hR10 o10
  go_wp2_with fail
  refine P4.mono ?_
  clear P4
  rintro _ w11 ⟨rfl, hR11, o11⟩
  have hB11 : Hid (Below w.heap.size w w11) := hB10.out.trans (o11.below hG hB10.out.size)
  have P5 : Calls Try.prog 34 #[.pointer (some ⟨G, 0, none⟩)] w11 (RdR w11 G r (.int .i64 0) ([], 0)) := by
    have := pend_any w11 _ r _ hR11
    rw [A5] at this
    exact this
  clear hB10 hR11 o11
  go_wp2_with fail
  refine P5.mono ?_
  clear P5
  rintro _ w12 ⟨rfl, hR12, o12⟩
  have hB12 : Hid (Below w.heap.size w w12) := hB11.out.trans (o12.below hG hB11.out.size)
  go_wp2_with fail
  go_ret
  exact ⟨rfl, hB12.out⟩
end Go.Proofs.Ytngojkleehgbaaa
