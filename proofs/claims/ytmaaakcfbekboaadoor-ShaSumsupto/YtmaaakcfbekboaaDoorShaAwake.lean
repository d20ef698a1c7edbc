/-
  The call 'awake' of the law's package returns true where the table is as its text lays it, and lays at most new blocks.
-/
import Derived.Test.YtmaaakcfbekboaaDoorShaSum
import Derived.Lib.SlBytesConst
namespace Go.Proofs.YtmaaakcfbekboaaDoor
open Go.ChangeShapes Go.WideShapes Go.ChangeAt Go.RowKit
set_option linter.unusedVariables false
set_option linter.unusedSimpArgs false
theorem abc_is : shaN [97, 98, 99] = [186, 120, 22, 191, 143, 1, 207, 234, 65, 65, 64, 222, 93, 174, 34, 35, 176, 3, 97, 163, 150, 23, 122, 156, 180, 16, 255, 97, 242, 0, 21, 173] := by
  unfold shaN
  rw [factors_are, start_is]
  decide +kernel
theorem row_lit (w : World) (l : List Nat) (fr : Nat × Nat) : RowL .u8 (w.alloc (.cells (encL .u8 l) 5 fr)) (some ⟨w.heap.size, 0, none⟩) l.length l := by
  refine ⟨rfl, .inr ⟨w.heap.size, 0, rfl, by simp, fun i hi => ?_⟩⟩
  have hg : (w.alloc (.cells (encL .u8 l) 5 fr)).heap[w.heap.size]? = some (.cells (encL .u8 l) 5 fr) := heap_alloc_last w _
  rw [cell_of_row _ _ (0 + i) _ _ _ hg, Nat.zero_add, encL_get _ _ _ hi]
/-- A slice of slices that the call types out. -/
theorem parts1 (w : World) (a : Option Addr) (l c : Nat) (xs : List Nat) (h : RowL .u8 w a l xs) (hn : a = none → l = 0 ∧ c = 0) :
    PartsL (w.alloc (.cells #[.slice a l c] 28)) (some ⟨w.heap.size, 0, none⟩) 1 [xs] := by
  have hb := below_new w (.cells #[.slice a l c] 28)
  refine ⟨rfl, .inr ⟨w.heap.size, 0, rfl, by simp, fun i hi => ?_⟩⟩
  obtain rfl : i = 0 := by omega
  exact ⟨a, l, c, by simp [go_sem], h.below hb, hn⟩
theorem parts2 (w : World) (a a' : Option Addr) (l c l' c' : Nat) (xs ys : List Nat) (h : RowL .u8 w a l xs) (hn : a = none → l = 0 ∧ c = 0) (h' : RowL .u8 w a' l' ys) (hn' : a' = none → l' = 0 ∧ c' = 0) :
    PartsL (w.alloc (.cells #[.slice a l c, .slice a' l' c'] 28)) (some ⟨w.heap.size, 0, none⟩) 2 [xs, ys] := by
  have hb := below_new w (.cells #[.slice a l c, .slice a' l' c'] 28)
  refine ⟨rfl, .inr ⟨w.heap.size, 0, rfl, by simp, fun i hi => ?_⟩⟩
  obtain rfl | rfl : i = 0 ∨ i = 1 := by omega
  · exact ⟨a, l, c, by simp [go_sem], h.below hb, hn⟩
  · exact ⟨a', l', c', by simp [go_sem], h'.below hb, hn'⟩
theorem conv_const (w : World) (C : Array Value) (n c g : Nat) (hg : g = w.heap.size) :
    Sem.run Tryd.prog (convert 28 28 (Value.slice (some ⟨g, 0, none⟩) n c)) (w.alloc (.cells C 5)) = .ok (.slice (some ⟨g, 0, none⟩) n c) (w.alloc (.cells C 5 (C.size, C.size + 1))) := by
  subst hg
  exact Lib.run_convert_bytes_const w 28 5 C n c Tryd.underlying28 Tryd.underlying5
theorem lit_abc (w : World) :
    PartsL (((w.alloc (.cells #[.int .u8 97] 5 (1, 2))).alloc (.cells #[.int .u8 98, .int .u8 99] 5 (2, 3))).alloc (.cells #[.slice (some ⟨w.heap.size, 0, none⟩) 1 1, .slice (some ⟨w.heap.size + 1, 0, none⟩) 2 2] 28)) (some ⟨w.heap.size + 1 + 1, 0, none⟩) 2 [[97], [98, 99]] ∧
    Below w.heap.size w (((w.alloc (.cells #[.int .u8 97] 5 (1, 2))).alloc (.cells #[.int .u8 98, .int .u8 99] 5 (2, 3))).alloc (.cells #[.slice (some ⟨w.heap.size, 0, none⟩) 1 1, .slice (some ⟨w.heap.size + 1, 0, none⟩) 2 2] 28)) := by
  have r1 := row_lit w [97] (1, 2)
  have r2 := row_lit (w.alloc (.cells #[.int .u8 97] 5 (1, 2))) [98, 99] (2, 3)
  have r1' := r1.below (below_new _ (.cells #[.int .u8 98, .int .u8 99] 5 (2, 3)))
  have hp := parts2 ((w.alloc (.cells #[.int .u8 97] 5 (1, 2))).alloc (.cells #[.int .u8 98, .int .u8 99] 5 (2, 3))) _ _ 1 1 2 2 _ _ r1' (fun h => by cases h) r2 (fun h => by cases h)
  refine ⟨?_, ?_⟩
  · simpa using hp
  · exact Below.alloc (Below.alloc (below_new w _) (by simp) _) (by simp; omega) _
set_option maxRecDepth 100000 in
set_option maxHeartbeats 4000000 in
theorem awake_true (w : World) (h : Tab w) :
    Calls Tryd.prog 7 #[] w fun e w' => e = .returned (.bool true) ∧ Below w.heap.size w w' := by
  have HT : Hid (Tab w) := h
  clear h
  have hcv := conv_const
  obtain ⟨D, hD⟩ : ∃ D, D = shaN [97, 98, 99] := ⟨_, rfl⟩
  have HD : Hid (D = shaN [97, 98, 99]) := hD
  have HDL : Hid (D.length = 32) := by rw [hD]; exact shaN_length _
  have HD0 : Hid (D.getD 0 0 = 186 ∧ D.getD 1 0 = 120 ∧ D.getD 31 0 = 173) := by rw [hD, abc_is]; exact ⟨rfl, rfl, rfl⟩
  clear hD
  obtain ⟨hp, hb⟩ := lit_abc w
  have HS1 : Hid _ := ssum_any _ _ 2 2 [[97], [98, 99]] hp (HT.out.below hb HT.out.1) (by intro xs hx j; simp at hx; rcases hx with rfl | rfl <;> (rcases j with _ | _ | j <;> simp)) (by intro xs hx; simp at hx; rcases hx with rfl | rfl <;> simp) (by decide) (by simp)
  rw [show ([[97], [98, 99]] : List (List Nat)).flatten = [97, 98, 99] from rfl, ← HD.out] at HS1
  have HB : Hid (Below w.heap.size w _) := hb
  clear hp hb
  go_enter Tryd.func7, Tryd.ntmps7
  go_wp2_with fail
  generalize (((w.alloc (.cells #[.int .u8 97] 5 (1, 2))).alloc (.cells #[.int .u8 98, .int .u8 99] 5 (2, 3))).alloc (.cells #[.slice (some ⟨w.heap.size, 0, none⟩) 1 1, .slice (some ⟨w.heap.size + 1, 0, none⟩) 2 2] 28)) = w1 at *
  refine Calls.mono HS1.out ?_
  rintro e w2 ⟨rfl, hb2⟩
  have HB2 : Hid (Below w.heap.size w w2) := HB.out.trans (hb2.mono HB.out.size)
  clear HB HS1 hb2
  have bG : Blk (w2.alloc (.cells (encL .u8 zeros32) 25)) w2.heap.size 25 .u8 zeros32 := Blk.new w2 _ _ _
  have HST : Hid ((storeVar 25 ⟨w2.heap.size, 0, none⟩ (.agg (encL .u8 D))).run Tryd.prog (w2.alloc (.cells (encL .u8 zeros32) 25)) = .ok () ((w2.alloc (.cells (encL .u8 zeros32) 25)).setRow w2.heap.size (encL .u8 D))) := bG.store digT rfl HDL.out
  have HBG : Hid (Blk ((w2.alloc (.cells (encL .u8 zeros32) 25)).setRow w2.heap.size (encL .u8 D)) w2.heap.size 25 .u8 D) := bG.setRow D
  have HB3 : Hid (Below w.heap.size w ((w2.alloc (.cells (encL .u8 zeros32) 25)).setRow w2.heap.size (encL .u8 D))) := HB2.out.trans ((below_setRow (below_new w2 _) (Nat.le_refl _) _).mono HB2.out.size)
  clear bG
  go_wp2_with (first
    | (refine alloc_op rfl 25 rfl _ (digAlloc _) ?_)
    | (refine store_op rfl 25 (.tmp 1) (.tmp 8) rfl ⟨w2.heap.size, 0, none⟩ rfl _ rfl HST.out ?_))
  clear HST
  generalize (w2.alloc (.cells (encL .u8 zeros32) 25)).setRow w2.heap.size (encL .u8 D) = w3 at *
  have hgl := HBG.out.lt
  refine (new_any w3).mono ?_
  rintro e w4 ⟨rfl, hw4⟩
  have HH4 : Hid (Hash w4 w3.heap.size w.heap.size []) := by rw [hw4]; exact hash_new w3 _
  have hb4 : Below w3.heap.size w3 w4 := by rw [hw4]; exact below_new w3 _
  have HBG4 : Hid (Blk w4 w2.heap.size 25 .u8 D) := HBG.out.below hb4
  have HB4 : Hid (Below w.heap.size w w4) := HB3.out.trans (hb4.mono HB3.out.size)
  clear hw4 hb4 HBG
  go_wp2_with fail
  have b5 : Below w4.heap.size w4 (w4.alloc (.cells #[.int .u8 97, .int .u8 98, .int .u8 99] 5 (3, 4))) := below_new w4 _
  have r5 : RowL .u8 (w4.alloc (.cells #[.int .u8 97, .int .u8 98, .int .u8 99] 5 (3, 4))) (some ⟨w4.heap.size, 0, none⟩) 3 [97, 98, 99] := row_lit w4 [97, 98, 99] (3, 4)
  have HBG5 : Hid (Blk (w4.alloc (.cells #[.int .u8 97, .int .u8 98, .int .u8 99] 5 (3, 4))) w2.heap.size 25 .u8 D) := HBG4.out.below b5
  have HB5 : Hid (Below w.heap.size w (w4.alloc (.cells #[.int .u8 97, .int .u8 98, .int .u8 99] 5 (3, 4)))) := HB4.out.trans (b5.mono HB4.out.size)
  have HW : Hid _ := write_any _ w3.heap.size w.heap.size [] (HH4.out.below b5) (HT.out.below HB5.out HT.out.1) (by omega) HB5.out.size _ 3 3 [97, 98, 99] r5 (by intro j; rcases j with _ | _ | _ | j <;> simp) (fun h => by cases h) (by decide) (by simp)
  rw [List.nil_append] at HW
  clear b5 r5
  generalize w4.alloc (.cells #[.int .u8 97, .int .u8 98, .int .u8 99] 5 (3, 4)) = w5 at *
  refine Calls.mono HW.out ?_
  rintro e w6 ⟨rfl, hH6, hA6⟩
  have HS : Hid ((Blk w6 w2.heap.size 25 .u8 D) ∧ Hash w6 w3.heap.size w.heap.size [97, 98, 99] ∧ Below w.heap.size w w6) := ⟨HBG5.out.aside hA6 (by omega), hH6, HB5.out.trans (hA6.below (by have := HB3.out.size; omega) HB5.out.size)⟩
  clear hH6 hA6 HBG4 HBG5 HB2 HB3 HB4 HB5 HH4 HW
  have heq := same_digest D HDL.out
  have HEQ : Hid _ := heq
  clear heq hcv
  go_wp2_with fail
  refine wp_region_held_drew (S := fun w' => Blk w' w2.heap.size 25 .u8 D ∧ Hash w' w3.heap.size w.heap.size [97, 98, 99] ∧ Below w.heap.size w w') (by kernel_rfl) ⟨HS.out.1, HS.out.2.1.below ((Below.refl _ w6).drew), HS.out.2.2.drew⟩ (fun hHeld => ?_)
  clear HS
  refine held_take 0 (some 14) (.pointer (some ⟨w2.heap.size, 0, none⟩)) rfl rfl (by kernel_rfl) (by kernel_rfl) (by kernel_rfl) (fun _ _ _ h => h) rfl (fun w' hS => ?_) hHeld ?_
  · clear hS; go_simp
  simp only [Act.put, List.setIfInBounds_toArray, List.set_cons_zero, List.set_cons_succ]
  refine held_take 1 (some 15) (.int .u8 186) rfl rfl (by kernel_rfl) (by kernel_rfl) (by kernel_rfl) (fun _ _ _ h => h) rfl (fun w' hS => ?_) hHeld ?_
  · have c := hS.1.cell 0 (by rw [HDL.out]; decide); rw [HD0.out.1] at c; clear hS; go_simp
  simp only [Act.put, List.setIfInBounds_toArray, List.set_cons_zero, List.set_cons_succ]
  refine held_take 2 (some 16) (.bool true) rfl rfl (by kernel_rfl) (by kernel_rfl) (by kernel_rfl) (fun _ _ _ h => h) rfl (fun w' hS => ?_) hHeld ?_
  · clear hS; go_simp
  simp only [Act.put, List.setIfInBounds_toArray, List.set_cons_zero, List.set_cons_succ]
  refine held_take 3 (some 17) (.bool true) rfl rfl (by kernel_rfl) (by kernel_rfl) (by kernel_rfl) (fun _ _ _ h => h) rfl (fun w' hS => ?_) hHeld ?_
  · clear hS; go_simp
  simp only [Act.put, List.setIfInBounds_toArray, List.set_cons_zero, List.set_cons_succ]
  refine held_take 4 (some 18) (.pointer (some ⟨w2.heap.size, 1, none⟩)) rfl rfl (by kernel_rfl) (by kernel_rfl) (by kernel_rfl) (fun _ _ _ h => h) rfl (fun w' hS => ?_) hHeld ?_
  · clear hS; go_simp
  simp only [Act.put, List.setIfInBounds_toArray, List.set_cons_zero, List.set_cons_succ]
  refine held_take 5 (some 19) (.int .u8 120) rfl rfl (by kernel_rfl) (by kernel_rfl) (by kernel_rfl) (fun _ _ _ h => h) rfl (fun w' hS => ?_) hHeld ?_
  · have c := hS.1.cell 1 (by rw [HDL.out]; decide); rw [HD0.out.2.1] at c; clear hS; go_simp
  simp only [Act.put, List.setIfInBounds_toArray, List.set_cons_zero, List.set_cons_succ]
  refine held_take 6 (some 20) (.bool true) rfl rfl (by kernel_rfl) (by kernel_rfl) (by kernel_rfl) (fun _ _ _ h => h) rfl (fun w' hS => ?_) hHeld ?_
  · clear hS; go_simp
  simp only [Act.put, List.setIfInBounds_toArray, List.set_cons_zero, List.set_cons_succ]
  refine held_take 7 (some 21) (.bool true) rfl rfl (by kernel_rfl) (by kernel_rfl) (by kernel_rfl) (fun _ _ _ h => h) rfl (fun w' hS => ?_) hHeld ?_
  · clear hS; go_simp
  simp only [Act.put, List.setIfInBounds_toArray, List.set_cons_zero, List.set_cons_succ]
  refine held_take 8 (some 22) (.bool true) rfl rfl (by kernel_rfl) (by kernel_rfl) (by kernel_rfl) (fun _ _ _ h => h) rfl (fun w' hS => ?_) hHeld ?_
  · clear hS; go_simp
  simp only [Act.put, List.setIfInBounds_toArray, List.set_cons_zero, List.set_cons_succ]
  refine held_take 9 (some 23) (.pointer (some ⟨w2.heap.size, 31, none⟩)) rfl rfl (by kernel_rfl) (by kernel_rfl) (by kernel_rfl) (fun _ _ _ h => h) rfl (fun w' hS => ?_) hHeld ?_
  · clear hS; go_simp
  simp only [Act.put, List.setIfInBounds_toArray, List.set_cons_zero, List.set_cons_succ]
  refine held_take 10 (some 24) (.int .u8 173) rfl rfl (by kernel_rfl) (by kernel_rfl) (by kernel_rfl) (fun _ _ _ h => h) rfl (fun w' hS => ?_) hHeld ?_
  · have c := hS.1.cell 31 (by rw [HDL.out]; decide); rw [HD0.out.2.2] at c; clear hS; go_simp
  simp only [Act.put, List.setIfInBounds_toArray, List.set_cons_zero, List.set_cons_succ]
  refine held_take 11 (some 25) (.bool true) rfl rfl (by kernel_rfl) (by kernel_rfl) (by kernel_rfl) (fun _ _ _ h => h) rfl (fun w' hS => ?_) hHeld ?_
  · clear hS; go_simp
  simp only [Act.put, List.setIfInBounds_toArray, List.set_cons_zero, List.set_cons_succ]
  refine held_take 12 (some 26) (.bool true) rfl rfl (by kernel_rfl) (by kernel_rfl) (by kernel_rfl) (fun _ _ _ h => h) rfl (fun w' hS => ?_) hHeld ?_
  · clear hS; go_simp
  simp only [Act.put, List.setIfInBounds_toArray, List.set_cons_zero, List.set_cons_succ]
  refine held_take 13 (some 27) (.bool true) rfl rfl (by kernel_rfl) (by kernel_rfl) (by kernel_rfl) (fun _ _ _ h => h) rfl (fun w' hS => ?_) hHeld ?_
  · clear hS; go_simp
  simp only [Act.put, List.setIfInBounds_toArray, List.set_cons_zero, List.set_cons_succ]
  refine held_take 14 (some 28) (.pointer (some ⟨w3.heap.size, 0, none⟩)) rfl rfl (by kernel_rfl) (by kernel_rfl) (by kernel_rfl) (fun _ _ _ h => h) rfl (fun w' hS => ?_) hHeld ?_
  · clear hS; go_simp
  simp only [Act.put, List.setIfInBounds_toArray, List.set_cons_zero, List.set_cons_succ]
  refine held_take 16 (some 30) (.agg (encL .u8 D)) rfl rfl (by kernel_rfl) (by kernel_rfl) (by kernel_rfl) (fun _ _ _ h => h) rfl (fun w' hS => ?_) hHeld ?_
  · have hl := hS.1.load digT HDL.out; exact held_yield (S := fun w => w = w') 25 (.tmp 1) rfl ⟨w2.heap.size, 0, none⟩ rfl _ (fun w hw => by rw [hw]; exact hl) w' rfl
  simp only [Act.put, List.setIfInBounds_toArray, List.set_cons_zero, List.set_cons_succ]
  refine held_one (i := 15) (by kernel_rfl) rfl rfl (fun K hK => ?_)
  go_simp
  refine (hsum_any _ w3.heap.size w.heap.size [97, 98, 99] hHeld.2.1 (HT.out.below hHeld.2.2 HT.out.1) (by simp)).mono ?_
  rintro e w7 ⟨rfl, hb7⟩
  rw [← HD.out]
  dsimp only
  have hHeld7 : Blk w7 w2.heap.size 25 .u8 D ∧ Hash w7 w3.heap.size w.heap.size [97, 98, 99] ∧ Below w.heap.size w w7 := ⟨hHeld.1.below hb7, hHeld.2.1.below hb7, hHeld.2.2.trans (hb7.mono hHeld.2.2.size)⟩
  refine hK.out _ _ hHeld7 ?_
  clear hK K hb7 hHeld
  refine held_take 17 (some 31) (.bool true) rfl rfl (by kernel_rfl) (by kernel_rfl) (by kernel_rfl) (fun _ _ _ h => h) rfl (fun w' hS => ?_) hHeld7 ?_
  · clear hS; have heq := HEQ.out; go_simp
  simp only [Act.put, List.setIfInBounds_toArray, List.set_cons_zero, List.set_cons_succ]
  refine held_take 18 (some 32) (.bool true) rfl rfl (by kernel_rfl) (by kernel_rfl) (by kernel_rfl) (fun _ _ _ h => h) rfl (fun w' hS => ?_) hHeld7 ?_
  · clear hS; go_simp
  simp only [Act.put, List.setIfInBounds_toArray, List.set_cons_zero, List.set_cons_succ]
  refine held_take 19 (some 33) (.bool true) rfl rfl (by kernel_rfl) (by kernel_rfl) (by kernel_rfl) (fun _ _ _ h => h) rfl (fun w' hS => ?_) hHeld7 ?_
  · clear hS; go_simp
  simp only [Act.put, List.setIfInBounds_toArray, List.set_cons_zero, List.set_cons_succ]
  refine held_take 20 (some 34) (.pointer (some ⟨w3.heap.size, 0, none⟩)) rfl rfl (by kernel_rfl) (by kernel_rfl) (by kernel_rfl) (fun _ _ _ h => h) rfl (fun w' hS => ?_) hHeld7 ?_
  · clear hS; go_simp
  simp only [Act.put, List.setIfInBounds_toArray, List.set_cons_zero, List.set_cons_succ]
  refine held_one (i := 21) (by kernel_rfl) rfl rfl (fun K hK => ?_)
  go_simp
  refine (len_any _ w3.heap.size w.heap.size [97, 98, 99] hHeld7.2.1).mono ?_
  rintro e w8 ⟨rfl, rfl⟩
  dsimp only
  refine hK.out _ _ hHeld7 ?_
  clear hK K
  refine held_take 22 (some 36) (.bool true) rfl rfl (by kernel_rfl) (by kernel_rfl) (by kernel_rfl) (fun _ _ _ h => h) rfl (fun w' hS => ?_) hHeld7 ?_
  · clear hS; go_simp
  simp only [Act.put, List.setIfInBounds_toArray, List.set_cons_zero, List.set_cons_succ]
  refine held_take 23 (some 37) (.bool true) rfl rfl (by kernel_rfl) (by kernel_rfl) (by kernel_rfl) (fun _ _ _ h => h) rfl (fun w' hS => ?_) hHeld7 ?_
  · clear hS; go_simp
  simp only [Act.put, List.setIfInBounds_toArray, List.set_cons_zero, List.set_cons_succ]
  refine held_take 24 (some 0) (.bool true) rfl rfl (by kernel_rfl) (by kernel_rfl) (by kernel_rfl) (fun _ _ _ h => h) rfl (fun w' hS => ?_) hHeld7 ?_
  · clear hS; go_simp
  simp only [Act.put, List.setIfInBounds_toArray, List.set_cons_zero, List.set_cons_succ]
  refine wpAnyH_done (by kernel_rfl) ?_ _
  have hfin := hHeld7.2.2
  clear hHeld7
  go_wp2_with fail
  go_ret
  exact ⟨rfl, hfin⟩
end Go.Proofs.YtmaaakcfbekboaaDoor
