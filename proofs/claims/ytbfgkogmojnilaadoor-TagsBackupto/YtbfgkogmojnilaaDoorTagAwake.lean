/-
  The simplest facts of layer 8.
-/
import Derived.Test.YtbfgkogmojnilaaDoorTagProg
namespace Go.Proofs.YtbfgkogmojnilaaDoor
open Go.ChangeShapes Go.WideShapes Go.ChangeAt Go.RowKit
set_option linter.unusedVariables false
set_option linter.unusedSimpArgs false
def tB : ByteArray × ByteArray := (ByteArray.mk #[98], ByteArray.mk #[49])
def tA : ByteArray × ByteArray := (ByteArray.mk #[97], ByteArray.mk #[])
theorem aw_make : makeB [tB, tA] = .ok [tA, tB] := by kernel_rfl
theorem aw_text : textR [tA, tB] = .tuple #[.string (ByteArray.mk #[97, 61, 38, 98, 61, 49]), .int .i64 0] := by kernel_rfl
theorem aw_get : optT (getB [tA, tB] (ByteArray.mk #[98])) = .tuple #[.string (ByteArray.mk #[49]), .bool true] := by kernel_rfl
theorem aw_within : allB [tA] [tA, tB] = true := by kernel_rfl
theorem aw_sound : soundB [tA, tB] = true := by kernel_rfl
theorem aw_short : Short [tA, tB] := fun i hi => by
  have : i = 0 ∨ i = 1 := by simp at hi; omega
  rcases this with rfl | rfl
  · exact ⟨by decide, by decide⟩
  · exact ⟨by decide, by decide⟩
theorem aw_short2 : Short [tB, tA] := fun i hi => by
  have : i = 0 ∨ i = 1 := by simp at hi; omega
  rcases this with rfl | rfl
  · exact ⟨by decide, by decide⟩
  · exact ⟨by decide, by decide⟩
theorem aw_row (w : World) : RowT (w.alloc (.cells #[.string (ByteArray.mk #[98]), .string (ByteArray.mk #[49]), .string (ByteArray.mk #[97]), .string (ByteArray.mk #[])] 40)) (some ⟨w.heap.size, 0, none⟩) [tB, tA] := by
  refine .inr ⟨w.heap.size, 0, rfl, by simp, fun i hi => ?_⟩
  have : i = 0 ∨ i = 1 := by simp at hi; omega
  rcases this with rfl | rfl
  · constructor <;> (rw [cell_of_row _ w.heap.size _ _ _ _ (heap_alloc_last w _)]; rfl)
  · constructor <;> (rw [cell_of_row _ w.heap.size _ _ _ _ (heap_alloc_last w _)]; rfl)
set_option maxHeartbeats 4000000 in
theorem awake_true (w : World) (hT : Tab6 w) : Calls Tryd.prog 9 #[] w fun e w' => e = .returned (.bool true) ∧ Below w.heap.size w w' := by
  have H1 : Hid (Calls Tryd.prog 7 #[.slice (some ⟨w.heap.size, 0, none⟩) 2 2] (w.alloc (.cells #[.string (ByteArray.mk #[98]), .string (ByteArray.mk #[49]), .string (ByteArray.mk #[97]), .string (ByteArray.mk #[])] 40)) fun e w' => (∃ a cap, e = .returned (.tuple #[.slice a 2 cap, .int .i64 0]) ∧ RowT w' a [tA, tB] ∧ 2 ≤ cap) ∧ Below w.heap.size w w') := by
    refine Calls.mono (tmake_any (some ⟨w.heap.size, 0, none⟩) 2 2 [tB, tA] _ (hT.below (below_new w _)) (aw_row w) rfl (by decide)) fun e w' ⟨h1, h2⟩ => ⟨?_, (below_new w _).trans (h2.mono (by simp))⟩
    rw [aw_make] at h1
    exact h1
  have HTW : Hid (Tab6 w) := hT
  clear hT
  go_enter Tryd.func9, Tryd.ntmps9
  go_wp2_with fail
  refine Calls.mono H1.out ?_
  rintro _ w1 ⟨⟨a, cap, rfl, hr, hcap⟩, hb⟩
  have HB1 : Hid (Below w.heap.size w w1) := hb
  rcases hr with h0 | ⟨g, off, ha, hg, hc⟩
  · cases h0
  · subst ha
    have HR1 : Hid (RowT w1 (some ⟨g, off, none⟩) [tA, tB]) := .inr ⟨g, off, rfl, hg, hc⟩
    have H2 : Hid (Calls Tryd.prog 13 #[.slice (some ⟨g, off, none⟩) 2 cap] w1 fun e w' => e = .returned (.tuple #[.string (ByteArray.mk #[97, 61, 38, 98, 61, 49]), .int .i64 0]) ∧ Below w1.heap.size w1 w') := by
      have := ttext_any (some ⟨g, off, none⟩) 2 cap [tA, tB] w1 (HTW.out.below HB1.out) HR1.out rfl (by decide)
      rw [aw_text] at this
      exact this
    clear hb hc H1
    go_wp2_with fail
    refine Calls.mono H2.out ?_
    rintro _ w2 ⟨rfl, hb⟩
    have HB2 : Hid (Below w.heap.size w w2) := HB1.out.trans (hb.mono HB1.out.size)
    have HR2 : Hid (RowT w2 (some ⟨g, off, none⟩) [tA, tB]) := HR1.out.below hb
    have H3 : Hid (Calls Tryd.prog 18 #[.slice (some ⟨g, off, none⟩) 2 cap, .string (ByteArray.mk #[98])] w2 fun e w' => e = .returned (.tuple #[.string (ByteArray.mk #[49]), .bool true]) ∧ Below w2.heap.size w2 w') := by
      have := tget_any (some ⟨g, off, none⟩) 2 cap [tA, tB] (ByteArray.mk #[98]) w2 HR2.out rfl (by decide)
      rw [aw_get] at this
      exact this
    clear hb H2 HB1 HR1
    go_wp2_with fail
    refine Calls.mono H3.out ?_
    rintro _ w3 ⟨rfl, hb⟩
    have HB3 : Hid (Below w.heap.size w w3) := HB2.out.trans (hb.mono HB2.out.size)
    have HR3 : Hid (RowT w3 (some ⟨g, off, none⟩) [tA, tB]) := HR2.out.below hb
    clear hb H3 HB2 HR2
    have s1 : ∀ W, _ := slice_to g off 2 cap 1 (by omega)
    have s1' : ∀ W, (Instr.slice 22 (.slice (some ⟨g, off, none⟩) 2 cap) none (some (.int .i64 1)) none).run Tryd.prog W = .ok (.slice (some ⟨g, off, none⟩) 1 cap) W := s1
    have H4 : Hid (Calls Tryd.prog 19 #[.slice (some ⟨g, off, none⟩) 1 cap, .slice (some ⟨g, off, none⟩) 2 cap] w3 fun e w' => e = .returned (.bool true) ∧ Below w3.heap.size w3 w') := by
      have := twithin_any (some ⟨g, off, none⟩) 1 cap [tA] (some ⟨g, off, none⟩) 2 cap [tA, tB] w3 (HR3.out.take 1) rfl (by decide) HR3.out rfl (by decide)
      rw [aw_within] at this
      exact this
    clear s1
    go_wp2_with fail
    refine Calls.mono H4.out ?_
    rintro _ w4 ⟨rfl, hb⟩
    have HB4 : Hid (Below w.heap.size w w4) := HB3.out.trans (hb.mono HB3.out.size)
    have HR4 : Hid (RowT w4 (some ⟨g, off, none⟩) [tA, tB]) := HR3.out.below hb
    have H5 : Hid (Calls Tryd.prog 11 #[.slice (some ⟨g, off, none⟩) 2 cap] w4 fun e w' => e = .returned (.bool true) ∧ Below w4.heap.size w4 w') := by
      have := tsound_any (some ⟨g, off, none⟩) 2 cap [tA, tB] w4 (HTW.out.below HB4.out) HR4.out rfl (by decide)
      rw [aw_sound] at this
      exact this
    clear hb H4 HB3 HR3
    go_wp2_with fail
    refine Calls.mono H5.out ?_
    rintro _ w5 ⟨rfl, hb⟩
    have HB5 : Hid (Below w.heap.size w w5) := HB4.out.trans (hb.mono HB4.out.size)
    clear hb H5 HB4
    go_wp2_with fail
    go_ret
    exact ⟨rfl, HB5.out⟩
end Go.Proofs.YtbfgkogmojnilaaDoor
