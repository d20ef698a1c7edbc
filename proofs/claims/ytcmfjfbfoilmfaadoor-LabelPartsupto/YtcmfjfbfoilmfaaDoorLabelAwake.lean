/-
  The program's Group at texts of some size; the simplest facts.
-/
import Derived.Test.YtcmfjfbfoilmfaaDoorLabelGroup0
import Derived.Test.YtcmfjfbfoilmfaaDoorLabelKey
import Derived.Test.YtcmfjfbfoilmfaaDoorLabelPEsc
import Derived.Test.YtcmfjfbfoilmfaaDoorLabelPNext
namespace Go.Proofs.YtcmfjfbfoilmfaaDoor
open Go.ChangeShapes Go.WideShapes Go.ChangeAt Go.RowKit
set_option linter.unusedVariables false
set_option linter.unusedSimpArgs false
theorem group_any (S P M : ByteArray) (w : World) (hT : Tab6 w) (hs : S.size ≤ 4294967280) (hp : P.size ≤ 281474976710656) (hm : M.size ≤ 281474976710656) :
    Calls Tryd.prog 20 #[.string S, .string P, .string M] w fun e w' => e = .returned (optR (groupN (txt S) (txt P) (txt M))) ∧ w' = w := by
  obtain ⟨m, hc⟩ := hT.2
  exact group_of S P M w (by omega) hp hm (fun D hD => Tryd.strings_Index D M m w (by omega) hc)
theorem aw_un : unsR (unescN (txt (ByteArray.mk #[97, 37, 50, 48, 98]))) = .tuple #[.string (ByteArray.mk #[97, 32, 98]), .int .i64 0] := by kernel_rfl
theorem aw_next : optR (nextN (txt (ByteArray.mk #[97, 122, 255]))) = .tuple #[.string (ByteArray.mk #[97, 123]), .bool true] := by kernel_rfl
theorem aw_group : optR (groupN (txt (ByteArray.mk #[97, 47, 98, 47, 99])) (txt (ByteArray.mk #[97, 47])) (txt (ByteArray.mk #[47]))) = .tuple #[.string (ByteArray.mk #[97, 47, 98, 47]), .bool true] := by kernel_rfl
theorem aw_b1 : bucketN (txt (ByteArray.mk #[109, 121, 45, 98, 117, 99, 107, 101, 116, 46, 49])) = true := by kernel_rfl
theorem aw_b2 : bucketN (txt (ByteArray.mk #[49, 46, 50, 46, 51, 46, 52])) = false := by kernel_rfl
theorem aw_key : keyN (txt (ByteArray.mk #[195, 169])) = true := by kernel_rfl
theorem aw_esc : strN (escN (txt (ByteArray.mk #[97, 32, 98]))) = ByteArray.mk #[97, 37, 50, 48, 98] := by kernel_rfl
set_option maxHeartbeats 4000000 in
theorem awake_true (w : World) (hT : Tab6 w) : Calls Tryd.prog 9 #[] w fun e w' => e = .returned (.bool true) ∧ Below w.heap.size w w' := by
  have H1 : Hid (Calls Tryd.prog 14 #[.string (ByteArray.mk #[97, 37, 50, 48, 98])] w fun e w' => e = .returned (.tuple #[.string (ByteArray.mk #[97, 32, 98]), .int .i64 0]) ∧ Below w.heap.size w w') := by
    have := unesc_any (ByteArray.mk #[97, 37, 50, 48, 98]) w (by decide)
    rw [aw_un] at this
    exact this
  have H2 : Hid (∀ W, Calls Tryd.prog 18 #[.string (ByteArray.mk #[97, 122, 255])] W fun e w' => e = .returned (.tuple #[.string (ByteArray.mk #[97, 123]), .bool true]) ∧ Below W.heap.size W w') := fun W => by
    have := next_any (ByteArray.mk #[97, 122, 255]) W (by decide)
    rw [aw_next] at this
    exact this
  have H3 : Hid (∀ W, Tab6 W → Calls Tryd.prog 20 #[.string (ByteArray.mk #[97, 47, 98, 47, 99]), .string (ByteArray.mk #[97, 47]), .string (ByteArray.mk #[47])] W fun e w' => e = .returned (.tuple #[.string (ByteArray.mk #[97, 47, 98, 47]), .bool true]) ∧ w' = W) := fun W hW => by
    have := group_any (ByteArray.mk #[97, 47, 98, 47, 99]) (ByteArray.mk #[97, 47]) (ByteArray.mk #[47]) W hW (by decide) (by decide) (by decide)
    rw [aw_group] at this
    exact this
  have H4 : Hid (∀ W, Tab6 W → Calls Tryd.prog 10 #[.string (ByteArray.mk #[109, 121, 45, 98, 117, 99, 107, 101, 116, 46, 49])] W fun e w' => e = .returned (.bool true) ∧ Below W.heap.size W w') := fun W hW => by
    have := bucket_any (ByteArray.mk #[109, 121, 45, 98, 117, 99, 107, 101, 116, 46, 49]) W hW (by decide)
    rw [aw_b1] at this
    exact this
  have H5 : Hid (∀ W, Tab6 W → Calls Tryd.prog 10 #[.string (ByteArray.mk #[49, 46, 50, 46, 51, 46, 52])] W fun e w' => e = .returned (.bool false) ∧ Below W.heap.size W w') := fun W hW => by
    have := bucket_any (ByteArray.mk #[49, 46, 50, 46, 51, 46, 52]) W hW (by decide)
    rw [aw_b2] at this
    exact this
  have H6 : Hid (∀ W, Tab6 W → Calls Tryd.prog 12 #[.string (ByteArray.mk #[195, 169])] W fun e w' => e = .returned (.bool true) ∧ Below W.heap.size W w') := fun W hW => by
    have := key_any (ByteArray.mk #[195, 169]) W hW (by decide)
    rw [aw_key] at this
    exact this
  have H7 : Hid (∀ W, Calls Tryd.prog 16 #[.string (ByteArray.mk #[97, 32, 98])] W fun e w' => e = .returned (.string (ByteArray.mk #[97, 37, 50, 48, 98])) ∧ Below W.heap.size W w') := fun W => by
    have := esc_any (ByteArray.mk #[97, 32, 98]) W (by decide)
    rw [aw_esc] at this
    exact this
  have HT : Hid (Tab6 w) := hT
  clear hT
  go_enter Tryd.func9, Tryd.ntmps9
  go_wp2_with fail
  refine Calls.mono H1.out ?_
  rintro _ w1 ⟨rfl, hb⟩
  have HB1 : Hid (Below w.heap.size w w1) := hb
  clear hb H1
  go_wp2_with fail
  refine Calls.mono (H2.out _) ?_
  rintro _ w2 ⟨rfl, hb⟩
  have HB2 : Hid (Below w.heap.size w w2) := HB1.out.trans (hb.mono HB1.out.size)
  clear hb H2 HB1
  go_wp2_with fail
  refine Calls.mono (H3.out _ (HT.out.below HB2.out)) ?_
  rintro _ w3 ⟨rfl, hw⟩
  replace hw := hw.symm
  subst hw
  clear H3
  go_wp2_with fail
  refine Calls.mono (H4.out _ (HT.out.below HB2.out)) ?_
  rintro _ w3 ⟨rfl, hb⟩
  have HB3 : Hid (Below w.heap.size w w3) := HB2.out.trans (hb.mono HB2.out.size)
  clear hb H4 HB2
  go_wp2_with fail
  refine Calls.mono (H5.out _ (HT.out.below HB3.out)) ?_
  rintro _ w4 ⟨rfl, hb⟩
  have HB4 : Hid (Below w.heap.size w w4) := HB3.out.trans (hb.mono HB3.out.size)
  clear hb H5 HB3
  go_wp2_with fail
  refine Calls.mono (H6.out _ (HT.out.below HB4.out)) ?_
  rintro _ w5 ⟨rfl, hb⟩
  have HB5 : Hid (Below w.heap.size w w5) := HB4.out.trans (hb.mono HB4.out.size)
  clear hb H6 HB4
  go_wp2_with fail
  refine Calls.mono (H7.out _) ?_
  rintro _ w6 ⟨rfl, hb⟩
  have HB6 : Hid (Below w.heap.size w w6) := HB5.out.trans (hb.mono HB5.out.size)
  clear hb H7 HB5
  go_wp2_with fail
  go_ret
  exact ⟨rfl, HB6.out⟩
end Go.Proofs.YtcmfjfbfoilmfaaDoor
