/-
  The simplest facts of layer 7.
-/
import Derived.Test.YtehieeahiicnhaaGlobProg
namespace Go.Proofs.Ytehieeahiicnhaa
open Go.ChangeShapes Go.WideShapes Go.ChangeAt Go.RowKit
set_option linter.unusedVariables false
set_option linter.unusedSimpArgs false
theorem aw_m1 : matchR (txt (ByteArray.mk #[97, 42, 63, 99])) (txt (ByteArray.mk #[97, 98, 98, 99])) = .tuple #[.bool true, .int .i64 0] := by kernel_rfl
theorem aw_m2 : matchR (txt (ByteArray.mk #[97, 92, 42])) (txt (ByteArray.mk #[97, 98])) = .tuple #[.bool false, .int .i64 0] := by kernel_rfl
theorem aw_p : optR (plainO (txt (ByteArray.mk #[97, 92, 42, 98]))) = .tuple #[.string (ByteArray.mk #[97, 42, 98]), .bool true] := by kernel_rfl
theorem aw_q : strN (quoteN (txt (ByteArray.mk #[42]))) = ByteArray.mk #[92, 42] := by kernel_rfl
theorem aw_s : soundN (txt (ByteArray.mk #[92])) = false := by kernel_rfl
set_option maxHeartbeats 4000000 in
theorem awake_true (w : World) : Calls Try.prog 8 #[] w fun e w' => e = .returned (.bool true) ∧ Below w.heap.size w w' := by
  have H1 : Hid (Calls Try.prog 9 #[.string (ByteArray.mk #[97, 42, 63, 99]), .string (ByteArray.mk #[97, 98, 98, 99])] w fun e w' => e = .returned (.tuple #[.bool true, .int .i64 0]) ∧ Below w.heap.size w w') := by
    have := gmatch_any (ByteArray.mk #[97, 42, 63, 99]) (ByteArray.mk #[97, 98, 98, 99]) w (by decide) (by decide)
    rw [aw_m1] at this
    exact this
  have H2 : Hid (∀ W, Calls Try.prog 9 #[.string (ByteArray.mk #[97, 92, 42]), .string (ByteArray.mk #[97, 98])] W fun e w' => e = .returned (.tuple #[.bool false, .int .i64 0]) ∧ Below W.heap.size W w') := fun W => by
    have := gmatch_any (ByteArray.mk #[97, 92, 42]) (ByteArray.mk #[97, 98]) W (by decide) (by decide)
    rw [aw_m2] at this
    exact this
  have H3 : Hid (∀ W, Calls Try.prog 15 #[.string (ByteArray.mk #[97, 92, 42, 98])] W fun e w' => e = .returned (.tuple #[.string (ByteArray.mk #[97, 42, 98]), .bool true]) ∧ Below W.heap.size W w') := fun W => by
    have := gplain_any (ByteArray.mk #[97, 92, 42, 98]) W (by decide)
    rw [aw_p] at this
    exact this
  have H4 : Hid (∀ W, Calls Try.prog 17 #[.string (ByteArray.mk #[42])] W fun e w' => e = .returned (.string (ByteArray.mk #[92, 42])) ∧ Below W.heap.size W w') := fun W => by
    have := gquote_any (ByteArray.mk #[42]) W (by decide)
    rw [aw_q] at this
    exact this
  have H5 : Hid (∀ W, Calls Try.prog 11 #[.string (ByteArray.mk #[92])] W fun e w' => e = .returned (.bool false) ∧ Below W.heap.size W w') := fun W => by
    have := gsound_any (ByteArray.mk #[92]) W (by decide)
    rw [aw_s] at this
    exact this
  go_enter Try.func8, Try.ntmps8
  go_wp2_with fail
  refine Calls.mono H1.out ?_
  rintro _ w1 ⟨rfl, hb⟩
  have HB1 : Hid (Below w.heap.size w w1) := hb
  clear hb H1
  go_wp2_with fail
  refine Calls.mono (H2.out _) ?_
  rintro _ w2 ⟨rfl, hb⟩
  have HB2 : Hid (Below w.heap.size w w2) := HB1.out.trans (hb.mono HB1.out.size)
  clear hb H2 HB1
  go_wp2_with fail
  refine Calls.mono (H3.out _) ?_
  rintro _ w3 ⟨rfl, hb⟩
  have HB3 : Hid (Below w.heap.size w w3) := HB2.out.trans (hb.mono HB2.out.size)
  clear hb H3 HB2
  go_wp2_with fail
  refine Calls.mono (H4.out _) ?_
  rintro _ w4 ⟨rfl, hb⟩
  have HB4 : Hid (Below w.heap.size w w4) := HB3.out.trans (hb.mono HB3.out.size)
  clear hb H4 HB3
  go_wp2_with fail
  refine Calls.mono (H5.out _) ?_
  rintro _ w5 ⟨rfl, hb⟩
  have HB5 : Hid (Below w.heap.size w w5) := HB4.out.trans (hb.mono HB4.out.size)
  clear hb H5 HB4
  go_wp2_with fail
  go_ret
  exact ⟨rfl, HB5.out⟩
end Go.Proofs.Ytehieeahiicnhaa
