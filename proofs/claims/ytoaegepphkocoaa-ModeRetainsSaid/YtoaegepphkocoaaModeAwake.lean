/-
  The law's 'awake' (layer 12) returns true.
-/
import Derived.Test.YtoaegepphkocoaaModeProg
namespace Go.Proofs.Ytoaegepphkocoaa
open Go.ChangeShapes Go.WideShapes Go.ChangeAt Go.RowKit
set_option linter.unusedVariables false
set_option linter.unusedSimpArgs false
theorem aw_retain : retainE 2 100 2 200 50 false = 0 := by decide +kernel
theorem aw_held : heldL 2 100 false 99 = true ∧ heldL 2 100 false 100 = false ∧ eraseL 2 100 false 50 true = 13 ∧ eraseL 2 100 false 100 false = 0 ∧ coversL 2 200 false 2 100 false 0 = true := by decide +kernel
theorem awake_true (w : World) : Calls Try.prog 9 #[] w fun e w' => e = .returned (.bool true) ∧ Below w.heap.size w w' := by
  have HR : Hid _ := mretain_any 2 100 false 2 200 50 false (w.alloc (.cells #[.int .i64 2, .int .i64 100, .bool false] 23))
  rw [show retainV 2 100 false 2 200 50 false = lockV 2 200 false from by unfold retainV; rw [aw_retain]; rfl, aw_retain] at HR
  have HL0 : Hid (LockB (w.alloc (.cells #[.int .i64 2, .int .i64 100, .bool false] 23)) w.heap.size 2 100 false ∧ Below w.heap.size w (w.alloc (.cells #[.int .i64 2, .int .i64 100, .bool false] 23))) := ⟨LockB.new w 2 100 false, below_new w _⟩
  go_enter Try.func9, Try.ntmps9
  go_wp2_with fail
  refine Calls.mono HR.out ?_
  rintro e w1 ⟨rfl, hb1⟩
  have HL1 : Hid (LockB w1 w.heap.size 2 100 false ∧ Below w.heap.size w w1) := ⟨HL0.out.1.below hb1, HL0.out.2.trans (hb1.mono HL0.out.2.size)⟩
  clear hb1 HR HL0
  have HLA : Hid (LockB (w1.alloc (.cells #[.int .i64 2, .int .i64 200, .bool false] 23)) w.heap.size 2 100 false ∧ LockB (w1.alloc (.cells #[.int .i64 2, .int .i64 200, .bool false] 23)) w1.heap.size 2 200 false ∧ Below w.heap.size w (w1.alloc (.cells #[.int .i64 2, .int .i64 200, .bool false] 23))) :=
    ⟨HL1.out.1.below (below_new _ _), LockB.new w1 2 200 false, HL1.out.2.alloc HL1.out.2.size _⟩
  obtain ⟨A1, A2, A3, A4, A5⟩ := aw_held
  obtain ⟨g, hg⟩ : ∃ g, g = w1.heap.size := ⟨_, rfl⟩
  obtain ⟨wA, hwA⟩ : ∃ wA, wA = w1.alloc (.cells #[.int .i64 2, .int .i64 200, .bool false] 23) := ⟨_, rfl⟩
  rw [← hwA, ← hg] at HLA
  have HWA : Hid (w1.alloc (.cells #[.int .i64 2, .int .i64 200, .bool false] 23) = wA ∧ w1.heap.size = g) := ⟨hwA.symm, hg.symm⟩
  clear hwA hg HL1
  obtain ⟨⟨k0, k1, k2⟩, -⟩ := HLA.out.1.cells
  obtain ⟨⟨n0, n1, n2⟩, -⟩ := HLA.out.2.1.cells
  rw [← HWA.out.1] at k0 k1 k2
  show _
  go_wp2_with fail
  rw [HWA.out.1, HWA.out.2]
  refine Calls.mono (mheld_any 2 100 false 99 _) ?_
  rw [A1]
  rintro e v0 ⟨rfl, hb⟩
  have HLv0 : Hid (LockB v0 w.heap.size 2 100 false ∧ LockB v0 g 2 200 false ∧ Below w.heap.size w v0) := ⟨HLA.out.1.below hb, HLA.out.2.1.below hb, HLA.out.2.2.trans (hb.mono HLA.out.2.2.size)⟩
  clear hb HLA k0 k1 k2 n0 n1 n2
  obtain ⟨⟨k0, k1, k2⟩, -⟩ := HLv0.out.1.cells
  obtain ⟨⟨n0, n1, n2⟩, -⟩ := HLv0.out.2.1.cells
  show _
  go_wp2_with fail
  refine Calls.mono (mheld_any 2 100 false 100 _) ?_
  rw [A2]
  rintro e v1 ⟨rfl, hb⟩
  have HLv1 : Hid (LockB v1 w.heap.size 2 100 false ∧ LockB v1 g 2 200 false ∧ Below w.heap.size w v1) := ⟨HLv0.out.1.below hb, HLv0.out.2.1.below hb, HLv0.out.2.2.trans (hb.mono HLv0.out.2.2.size)⟩
  clear hb HLv0 k0 k1 k2 n0 n1 n2
  obtain ⟨⟨k0, k1, k2⟩, -⟩ := HLv1.out.1.cells
  obtain ⟨⟨n0, n1, n2⟩, -⟩ := HLv1.out.2.1.cells
  show _
  go_wp2_with fail
  refine Calls.mono (merase_any 2 100 false 50 true _) ?_
  rw [A3]
  rintro e v2 ⟨rfl, hb⟩
  have HLv2 : Hid (LockB v2 w.heap.size 2 100 false ∧ LockB v2 g 2 200 false ∧ Below w.heap.size w v2) := ⟨HLv1.out.1.below hb, HLv1.out.2.1.below hb, HLv1.out.2.2.trans (hb.mono HLv1.out.2.2.size)⟩
  clear hb HLv1 k0 k1 k2 n0 n1 n2
  obtain ⟨⟨k0, k1, k2⟩, -⟩ := HLv2.out.1.cells
  obtain ⟨⟨n0, n1, n2⟩, -⟩ := HLv2.out.2.1.cells
  show _
  go_wp2_with fail
  refine Calls.mono (merase_any 2 100 false 100 false _) ?_
  rw [A4]
  rintro e v3 ⟨rfl, hb⟩
  have HLv3 : Hid (LockB v3 w.heap.size 2 100 false ∧ LockB v3 g 2 200 false ∧ Below w.heap.size w v3) := ⟨HLv2.out.1.below hb, HLv2.out.2.1.below hb, HLv2.out.2.2.trans (hb.mono HLv2.out.2.2.size)⟩
  clear hb HLv2 k0 k1 k2 n0 n1 n2
  obtain ⟨⟨k0, k1, k2⟩, -⟩ := HLv3.out.1.cells
  obtain ⟨⟨n0, n1, n2⟩, -⟩ := HLv3.out.2.1.cells
  show _
  go_wp2_with fail
  refine Calls.mono (mcovers_any 2 200 false 2 100 false 0 _) ?_
  rw [A5]
  rintro e v4 ⟨rfl, hb⟩
  have HLv4 : Hid (LockB v4 w.heap.size 2 100 false ∧ LockB v4 g 2 200 false ∧ Below w.heap.size w v4) := ⟨HLv3.out.1.below hb, HLv3.out.2.1.below hb, HLv3.out.2.2.trans (hb.mono HLv3.out.2.2.size)⟩
  clear hb HLv3 k0 k1 k2 n0 n1 n2
  obtain ⟨⟨k0, k1, k2⟩, -⟩ := HLv4.out.1.cells
  obtain ⟨⟨n0, n1, n2⟩, -⟩ := HLv4.out.2.1.cells
  show _
  go_wp2_with fail
  go_ret
  exact ⟨rfl, HLv4.out.2.2⟩
end Go.Proofs.Ytoaegepphkocoaa
