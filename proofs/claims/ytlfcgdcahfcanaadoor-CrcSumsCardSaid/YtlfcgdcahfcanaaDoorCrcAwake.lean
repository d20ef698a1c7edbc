/-
  The call 'awake' of the law's package returns true where the table's cells are as its text lays them, and lays at most new blocks.
-/
import Derived.Test.YtlfcgdcahfcanaaDoorCrcZ
import Derived.Lib.SlBytesConst
namespace Go.Proofs.YtlfcgdcahfcanaaDoor
open Go.ChangeShapes Go.WideShapes Go.ChangeAt Go.RowKit
set_option linter.unusedVariables false
set_option linter.unusedSimpArgs false
def u8n (l : List Nat) : Array Value := (l.map fun c => Value.int .u8 (c : Nat)).toArray
theorem row_alloc (w : World) (l : List Nat) (fr : Nat × Nat) (hl : l.length ≤ maxLen) (h : ∀ c ∈ l, c < 256) : Row (w.alloc (.cells (u8n l) 5 fr)) (some ⟨w.heap.size, 0, none⟩) l.length l := by
  refine ⟨rfl, hl, h, .inr ⟨w.heap.size, 0, rfl, by simp, fun i hi => ?_⟩⟩
  have hg : (w.alloc (.cells (u8n l) 5 fr)).heap[w.heap.size]? = some (.cells (u8n l) 5 fr) := heap_alloc_last w _
  rw [cell_of_row _ _ (0 + i) _ _ _ hg]
  simp [u8n, hi]
theorem below_new (w : World) (o : Obj) : Below w.heap.size w (w.alloc o) := Below.alloc (Below.refl _ _) (Nat.le_refl _) _
theorem parts_alloc1 (w : World) (a : Option Addr) (l c : Nat) (xs : List Nat) (h : Row w a l xs) :
    Parts (w.alloc (.cells #[.slice a l c] 23)) (some ⟨w.heap.size, 0, none⟩) 1 [xs] := by
  have hb : Below w.heap.size w (w.alloc (.cells #[.slice a l c] 23)) := Below.alloc (Below.refl _ _) (Nat.le_refl _) _
  refine ⟨rfl, by decide, .inr ⟨w.heap.size, 0, rfl, by simp, fun i hi => ?_⟩⟩
  obtain rfl : i = 0 := by omega
  exact ⟨a, l, c, by simp [go_sem], h.below hb⟩
theorem parts_alloc2 (w : World) (a a' : Option Addr) (l c l' c' : Nat) (xs ys : List Nat) (h : Row w a l xs) (h' : Row w a' l' ys) :
    Parts (w.alloc (.cells #[.slice a l c, .slice a' l' c'] 23)) (some ⟨w.heap.size, 0, none⟩) 2 [xs, ys] := by
  have hb : Below w.heap.size w (w.alloc (.cells #[.slice a l c, .slice a' l' c'] 23)) := Below.alloc (Below.refl _ _) (Nat.le_refl _) _
  refine ⟨rfl, by decide, .inr ⟨w.heap.size, 0, rfl, by simp, fun i hi => ?_⟩⟩
  obtain rfl | rfl : i = 0 ∨ i = 1 := by omega
  · exact ⟨a, l, c, by simp [go_sem], h.below hb⟩
  · exact ⟨a', l', c', by simp [go_sem], h'.below hb⟩
theorem sum9 : sumsN 0 [[49, 50, 51, 52], [53, 54, 55, 56, 57]] = 3808858755 := by decide +kernel
theorem sum0 : sumsN 0 [] = 0 := rfl
theorem sum1 : sumsN 0 [[97]] = 3251651376 := by decide +kernel
theorem sum3 : sumsN 0 [[97, 0, 0]] = 3808709321 := by decide +kernel
theorem zero2 : zerosN 3251651376 2 = 3808709321 := by decide +kernel
theorem two_nat : (2 : Int).toNat = 2 := rfl
theorem conv_const (w : World) (C : Array Value) (n c g : Nat) (hg : g = w.heap.size) :
    Sem.run Tryd.prog (convert 23 23 (Value.slice (some ⟨g, 0, none⟩) n c)) (w.alloc (.cells C 5)) = .ok (.slice (some ⟨g, 0, none⟩) n c) (w.alloc (.cells C 5 (C.size, C.size + 1))) := by
  subst hg
  exact Lib.run_convert_bytes_const w 23 5 C n c Tryd.underlying23 Tryd.underlying5
theorem lit2 (w : World) :
    Parts (((w.alloc (.cells #[.int .u8 49, .int .u8 50, .int .u8 51, .int .u8 52] 5 (4, 5))).alloc (.cells #[.int .u8 53, .int .u8 54, .int .u8 55, .int .u8 56, .int .u8 57] 5 (5, 6))).alloc (.cells #[.slice (some ⟨w.heap.size, 0, none⟩) 4 4, .slice (some ⟨w.heap.size + 1, 0, none⟩) 5 5] 23)) (some ⟨w.heap.size + 1 + 1, 0, none⟩) 2 [[49, 50, 51, 52], [53, 54, 55, 56, 57]] ∧
    Below w.heap.size w (((w.alloc (.cells #[.int .u8 49, .int .u8 50, .int .u8 51, .int .u8 52] 5 (4, 5))).alloc (.cells #[.int .u8 53, .int .u8 54, .int .u8 55, .int .u8 56, .int .u8 57] 5 (5, 6))).alloc (.cells #[.slice (some ⟨w.heap.size, 0, none⟩) 4 4, .slice (some ⟨w.heap.size + 1, 0, none⟩) 5 5] 23)) := by
  have r1 := row_alloc w [49, 50, 51, 52] (4, 5) (by decide) (by decide)
  have r2 := row_alloc (w.alloc (.cells #[.int .u8 49, .int .u8 50, .int .u8 51, .int .u8 52] 5 (4, 5))) [53, 54, 55, 56, 57] (5, 6) (by decide) (by decide)
  have r1' := r1.below (below_new _ (.cells #[.int .u8 53, .int .u8 54, .int .u8 55, .int .u8 56, .int .u8 57] 5 (5, 6)))
  have hp := parts_alloc2 ((w.alloc (.cells #[.int .u8 49, .int .u8 50, .int .u8 51, .int .u8 52] 5 (4, 5))).alloc (.cells #[.int .u8 53, .int .u8 54, .int .u8 55, .int .u8 56, .int .u8 57] 5 (5, 6))) _ _ 4 4 5 5 _ _ r1' r2
  refine ⟨?_, ?_⟩
  · simpa using hp
  · exact Below.alloc (Below.alloc (below_new w _) (by simp) _) (by simp; omega) _
theorem litA (w : World) :
    Parts ((w.alloc (.cells #[.int .u8 97] 5 (1, 2))).alloc (.cells #[.slice (some ⟨w.heap.size, 0, none⟩) 1 1] 23)) (some ⟨w.heap.size + 1, 0, none⟩) 1 [[97]] ∧
    Below w.heap.size w ((w.alloc (.cells #[.int .u8 97] 5 (1, 2))).alloc (.cells #[.slice (some ⟨w.heap.size, 0, none⟩) 1 1] 23)) := by
  have r1 := row_alloc w [97] (1, 2) (by decide) (by decide)
  have hp := parts_alloc1 (w.alloc (.cells #[.int .u8 97] 5 (1, 2))) _ 1 1 _ r1
  refine ⟨?_, ?_⟩
  · simpa using hp
  · exact Below.alloc (below_new w _) (by simp) _
theorem litB (w : World) :
    Parts ((w.alloc (.cells #[.int .u8 97, .int .u8 0, .int .u8 0] 5 (3, 4))).alloc (.cells #[.slice (some ⟨w.heap.size, 0, none⟩) 3 3] 23)) (some ⟨w.heap.size + 1, 0, none⟩) 1 [[97, 0, 0]] ∧
    Below w.heap.size w ((w.alloc (.cells #[.int .u8 97, .int .u8 0, .int .u8 0] 5 (3, 4))).alloc (.cells #[.slice (some ⟨w.heap.size, 0, none⟩) 3 3] 23)) := by
  have r1 := row_alloc w [97, 0, 0] (3, 4) (by decide) (by decide)
  have hp := parts_alloc1 (w.alloc (.cells #[.int .u8 97, .int .u8 0, .int .u8 0] 5 (3, 4))) _ 3 3 _ r1
  refine ⟨?_, ?_⟩
  · simpa using hp
  · exact Below.alloc (below_new w _) (by simp) _
set_option maxHeartbeats 1000000 in
theorem awake_true (w : World) (h : HalfTab w) :
    Calls Tryd.prog 10 #[] w fun e w' => e = .returned (.bool true) ∧ Below w.heap.size w w' := by
  have HT : Hid (HalfTab w) := h
  clear h
  have hcv := conv_const
  go_enter Tryd.func10, Tryd.ntmps10
  go_wp2_with fail
  obtain ⟨hp, hb⟩ := lit2 w
  have HP : Hid _ := hp
  have HB : Hid _ := hb
  have HT1 := HalfTab.below HT.out hb
  clear hp hb HT
  generalize (((w.alloc (.cells #[.int .u8 49, .int .u8 50, .int .u8 51, .int .u8 52] 5 (4, 5))).alloc (.cells #[.int .u8 53, .int .u8 54, .int .u8 55, .int .u8 56, .int .u8 57] 5 (5, 6))).alloc (.cells #[.slice (some ⟨w.heap.size, 0, none⟩) 4 4, .slice (some ⟨w.heap.size + 1, 0, none⟩) 5 5] 23)) = w1 at *
  refine (sum_any _ 2 2 _ w1 HP.out HT1).mono ?_
  rintro e w' ⟨rfl, rfl⟩
  rw [sum9]
  have HT1' : Hid (HalfTab w') := HT1
  clear HT1 HP
  go_wp2_with fail
  refine (sum_any none 0 0 [] w' (Parts.nil _ _) HT1'.out).mono ?_
  rintro e w2 ⟨rfl, rfl⟩
  rw [sum0]
  go_wp2_with fail
  obtain ⟨hp, hb⟩ := litA w2
  have HP : Hid _ := hp
  have HT2 : Hid (HalfTab _) := HalfTab.below HT1'.out hb
  have HB2 : Hid _ := HB.out.trans (hb.mono HB.out.size)
  clear hp hb HB HT1'
  generalize ((w2.alloc (.cells #[.int .u8 97] 5 (1, 2))).alloc (.cells #[.slice (some ⟨w2.heap.size, 0, none⟩) 1 1] 23)) = w3 at *
  refine (sum_any _ 1 1 _ w3 HP.out HT2.out).mono ?_
  rintro e w4 ⟨rfl, rfl⟩
  rw [sum1]
  clear HP
  go_wp2_with fail
  refine (zeros_any 3251651376 2 w4 (by decide) (by decide) (by decide)).mono ?_
  rintro e w5 ⟨rfl, hb⟩
  have HT5 : Hid (HalfTab _) := HalfTab.below HT2.out hb
  have HB5 : Hid _ := HB2.out.trans (hb.mono HB2.out.size)
  clear hb HB2 HT2
  rw [two_nat, zero2]
  go_wp2_with fail
  obtain ⟨hp, hb⟩ := litB w5
  have HP : Hid _ := hp
  have HT6 : Hid (HalfTab _) := HalfTab.below HT5.out hb
  have HB6 : Hid _ := HB5.out.trans (hb.mono HB5.out.size)
  clear hp hb HB5 HT5
  generalize ((w5.alloc (.cells #[.int .u8 97, .int .u8 0, .int .u8 0] 5 (3, 4))).alloc (.cells #[.slice (some ⟨w5.heap.size, 0, none⟩) 3 3] 23)) = w6 at *
  refine (sum_any _ 1 1 _ w6 HP.out HT6.out).mono ?_
  rintro e w7 ⟨rfl, rfl⟩
  rw [sum3]
  clear HP
  go_wp2_with fail
  go_ret
  exact ⟨rfl, HB6.out⟩
end Go.Proofs.YtlfcgdcahfcanaaDoor
