/-
  The program's test whether there is a date: the first part that is out of its bounds, or none.
-/
import Derived.Test.YtfgdfdjoidpejabDoorWhenAhead
import Derived.Test.YtfgdfdjoidpejabDoorHeldMore
namespace Go.Proofs.YtfgdfdjoidpejabDoor
open Go.ChangeShapes Go.WideShapes Go.ChangeAt Go.RowKit
set_option linter.unusedVariables false
set_option linter.unusedSimpArgs false
theorem within_yes (n a b : Int) (w : World) (h1 : a ≤ n) (h2 : n ≤ b) : Calls Tryd.prog 29 #[.int .i64 n, .int .i64 a, .int .i64 b] w fun e w' => e = .returned (.bool true) ∧ w' = w := by
  have := within_any n a b w
  rw [decide_eq_true h1, decide_eq_true h2] at this
  exact this
theorem within_no (n a b : Int) (w : World) (h : ¬ (a ≤ n ∧ n ≤ b)) : Calls Tryd.prog 29 #[.int .i64 n, .int .i64 a, .int .i64 b] w fun e w' => e = .returned (.bool false) ∧ w' = w := by
  have h1 : (decide (a ≤ n) && decide (n ≤ b)) = false := by
    by_cases h1 : a ≤ n
    · rw [decide_eq_true h1, decide_eq_false (fun h2 => h ⟨h1, h2⟩)]; rfl
    · rw [decide_eq_false h1]; rfl
  have := within_any n a b w
  rw [h1] at this
  exact this
set_option maxRecDepth 100000 in
set_option maxHeartbeats 16000000 in
theorem there0 (y mo d h mi s : Int) (w : World) (t0 : ¬ ((1 : Int) ≤ (y : Int) ∧ (y : Int) ≤ (9999 : Int))) :
    Calls Tryd.prog 23 #[dateV y mo d h mi s] w fun e w' => e = .returned (.bool false) ∧ Below w.heap.size w w' := by
  have HW0 : Hid (∀ W, Calls Tryd.prog 29 #[.int .i64 y, .int .i64 1, .int .i64 9999] W fun e w' => e = .returned (.bool false) ∧ w' = W) := fun W => within_no _ _ _ W t0
  clear t0
  have hD := DateAt.new w y mo d h mi s
  have hB := below_new w (.cells (dateC y mo d h mi s) 40)
  unfold dateV
  go_enter Tryd.func23, Tryd.ntmps23
  go_wp2_with fail
  unfold dateC at hD hB
  generalize (w.alloc (.cells #[.int .i64 y, .int .i64 mo, .int .i64 d, .int .i64 h, .int .i64 mi, .int .i64 s] 40)) = w1 at *
  generalize hg : w.heap.size = g at *
  have HG : Hid (w.heap.size = g) := hg
  clear hg
  refine wp_region_held_drew (S := fun w' => DateAt w' g y mo d h mi s ∧ Below g w w') (by kernel_rfl) (⟨hD.below ((Below.refl _ _).drew), hB.drew⟩) (fun hHeld => ?_)
  clear hD hB
  refine held_take 0 (some 3) (.pointer (some ⟨g, 0, none⟩)) rfl rfl (by kernel_rfl) (by kernel_rfl) (by kernel_rfl) (fun _ _ _ h => h) rfl (fun w' hS => ?_) hHeld ?_
  · clear hS; go_simp
  try simp only [Act.put, List.setIfInBounds_toArray, List.set_cons_zero, List.set_cons_succ]
  refine held_take 1 (some 4) (.int .i64 y) rfl rfl (by kernel_rfl) (by kernel_rfl) (by kernel_rfl) (fun _ _ _ h => h) rfl (fun w' hS => ?_) hHeld ?_
  · have hc := hS.1.cells.1; clear hS; go_simp
  try simp only [Act.put, List.setIfInBounds_toArray, List.set_cons_zero, List.set_cons_succ]
  refine held_one (i := 2) (by kernel_rfl) rfl rfl (fun K hK => ?_)
  go_simp
  refine Calls.mono (HW0.out _) ?_
  rintro _ v1 ⟨rfl, hb1⟩
  dsimp only
  have hH1 : DateAt v1 g y mo d h mi s ∧ Below g w v1 := by rw [hb1]; exact hHeld
  refine hK.out _ _ hH1 ?_
  clear hK K hb1 
  try simp only [Act.put, List.setIfInBounds_toArray, List.set_cons_zero, List.set_cons_succ]
  refine held_take 3 (some 6) (.bool false) rfl rfl (by kernel_rfl) (by kernel_rfl) (by kernel_rfl) (fun _ _ _ h => h) rfl (fun w' hS => ?_) hH1 ?_
  · clear hS; go_simp
  try simp only [Act.put, List.setIfInBounds_toArray, List.set_cons_zero, List.set_cons_succ]
  refine held_skip 4 (some 7) rfl rfl (by kernel_rfl) (by kernel_rfl) (by kernel_rfl) (fun _ _ _ h => h) rfl hH1 ?_
  try simp only [Act.put, List.setIfInBounds_toArray, List.set_cons_zero, List.set_cons_succ]
  refine held_skip 5 (some 8) rfl rfl (by kernel_rfl) (by kernel_rfl) (by kernel_rfl) (fun _ _ _ h => h) rfl hH1 ?_
  try simp only [Act.put, List.setIfInBounds_toArray, List.set_cons_zero, List.set_cons_succ]
  refine held_skip 6 (some 9) rfl rfl (by kernel_rfl) (by kernel_rfl) (by kernel_rfl) (fun _ _ _ h => h) rfl hH1 ?_
  try simp only [Act.put, List.setIfInBounds_toArray, List.set_cons_zero, List.set_cons_succ]
  refine held_take 7 (some 10) (.bool false) rfl rfl (by kernel_rfl) (by kernel_rfl) (by kernel_rfl) (fun _ _ _ h => h) rfl (fun w' hS => ?_) hH1 ?_
  · clear hS; go_simp
  try simp only [Act.put, List.setIfInBounds_toArray, List.set_cons_zero, List.set_cons_succ]
  refine held_take 8 (some 11) (.bool false) rfl rfl (by kernel_rfl) (by kernel_rfl) (by kernel_rfl) (fun _ _ _ h => h) rfl (fun w' hS => ?_) hH1 ?_
  · clear hS; go_simp
  try simp only [Act.put, List.setIfInBounds_toArray, List.set_cons_zero, List.set_cons_succ]
  refine held_skip 9 (some 12) rfl rfl (by kernel_rfl) (by kernel_rfl) (by kernel_rfl) (fun _ _ _ h => h) rfl hH1 ?_
  try simp only [Act.put, List.setIfInBounds_toArray, List.set_cons_zero, List.set_cons_succ]
  refine held_skip 10 (some 13) rfl rfl (by kernel_rfl) (by kernel_rfl) (by kernel_rfl) (fun _ _ _ h => h) rfl hH1 ?_
  try simp only [Act.put, List.setIfInBounds_toArray, List.set_cons_zero, List.set_cons_succ]
  refine held_skip 11 (some 14) rfl rfl (by kernel_rfl) (by kernel_rfl) (by kernel_rfl) (fun _ _ _ h => h) rfl hH1 ?_
  try simp only [Act.put, List.setIfInBounds_toArray, List.set_cons_zero, List.set_cons_succ]
  refine held_skip 12 (some 15) rfl rfl (by kernel_rfl) (by kernel_rfl) (by kernel_rfl) (fun _ _ _ h => h) rfl hH1 ?_
  try simp only [Act.put, List.setIfInBounds_toArray, List.set_cons_zero, List.set_cons_succ]
  refine held_skip 13 (some 16) rfl rfl (by kernel_rfl) (by kernel_rfl) (by kernel_rfl) (fun _ _ _ h => h) rfl hH1 ?_
  try simp only [Act.put, List.setIfInBounds_toArray, List.set_cons_zero, List.set_cons_succ]
  refine held_skip 14 (some 17) rfl rfl (by kernel_rfl) (by kernel_rfl) (by kernel_rfl) (fun _ _ _ h => h) rfl hH1 ?_
  try simp only [Act.put, List.setIfInBounds_toArray, List.set_cons_zero, List.set_cons_succ]
  refine held_skip 15 (some 18) rfl rfl (by kernel_rfl) (by kernel_rfl) (by kernel_rfl) (fun _ _ _ h => h) rfl hH1 ?_
  try simp only [Act.put, List.setIfInBounds_toArray, List.set_cons_zero, List.set_cons_succ]
  refine held_skip 16 (some 19) rfl rfl (by kernel_rfl) (by kernel_rfl) (by kernel_rfl) (fun _ _ _ h => h) rfl hH1 ?_
  try simp only [Act.put, List.setIfInBounds_toArray, List.set_cons_zero, List.set_cons_succ]
  refine held_skip 17 (some 20) rfl rfl (by kernel_rfl) (by kernel_rfl) (by kernel_rfl) (fun _ _ _ h => h) rfl hH1 ?_
  try simp only [Act.put, List.setIfInBounds_toArray, List.set_cons_zero, List.set_cons_succ]
  refine held_skip 18 (some 21) rfl rfl (by kernel_rfl) (by kernel_rfl) (by kernel_rfl) (fun _ _ _ h => h) rfl hH1 ?_
  try simp only [Act.put, List.setIfInBounds_toArray, List.set_cons_zero, List.set_cons_succ]
  refine held_skip 19 (some 22) rfl rfl (by kernel_rfl) (by kernel_rfl) (by kernel_rfl) (fun _ _ _ h => h) rfl hH1 ?_
  try simp only [Act.put, List.setIfInBounds_toArray, List.set_cons_zero, List.set_cons_succ]
  refine held_skip 20 (some 23) rfl rfl (by kernel_rfl) (by kernel_rfl) (by kernel_rfl) (fun _ _ _ h => h) rfl hH1 ?_
  try simp only [Act.put, List.setIfInBounds_toArray, List.set_cons_zero, List.set_cons_succ]
  refine held_skip 21 (some 24) rfl rfl (by kernel_rfl) (by kernel_rfl) (by kernel_rfl) (fun _ _ _ h => h) rfl hH1 ?_
  try simp only [Act.put, List.setIfInBounds_toArray, List.set_cons_zero, List.set_cons_succ]
  refine held_take 22 (some 25) (.bool false) rfl rfl (by kernel_rfl) (by kernel_rfl) (by kernel_rfl) (fun _ _ _ h => h) rfl (fun w' hS => ?_) hH1 ?_
  · clear hS; go_simp
  try simp only [Act.put, List.setIfInBounds_toArray, List.set_cons_zero, List.set_cons_succ]
  refine held_take 23 (some 26) (.bool false) rfl rfl (by kernel_rfl) (by kernel_rfl) (by kernel_rfl) (fun _ _ _ h => h) rfl (fun w' hS => ?_) hH1 ?_
  · clear hS; go_simp
  try simp only [Act.put, List.setIfInBounds_toArray, List.set_cons_zero, List.set_cons_succ]
  refine held_skip 24 (some 27) rfl rfl (by kernel_rfl) (by kernel_rfl) (by kernel_rfl) (fun _ _ _ h => h) rfl hH1 ?_
  try simp only [Act.put, List.setIfInBounds_toArray, List.set_cons_zero, List.set_cons_succ]
  refine held_skip 25 (some 28) rfl rfl (by kernel_rfl) (by kernel_rfl) (by kernel_rfl) (fun _ _ _ h => h) rfl hH1 ?_
  try simp only [Act.put, List.setIfInBounds_toArray, List.set_cons_zero, List.set_cons_succ]
  refine held_skip 26 (some 29) rfl rfl (by kernel_rfl) (by kernel_rfl) (by kernel_rfl) (fun _ _ _ h => h) rfl hH1 ?_
  try simp only [Act.put, List.setIfInBounds_toArray, List.set_cons_zero, List.set_cons_succ]
  refine held_take 27 (some 30) (.bool false) rfl rfl (by kernel_rfl) (by kernel_rfl) (by kernel_rfl) (fun _ _ _ h => h) rfl (fun w' hS => ?_) hH1 ?_
  · clear hS; go_simp
  try simp only [Act.put, List.setIfInBounds_toArray, List.set_cons_zero, List.set_cons_succ]
  refine held_take 28 (some 31) (.bool false) rfl rfl (by kernel_rfl) (by kernel_rfl) (by kernel_rfl) (fun _ _ _ h => h) rfl (fun w' hS => ?_) hH1 ?_
  · clear hS; go_simp
  try simp only [Act.put, List.setIfInBounds_toArray, List.set_cons_zero, List.set_cons_succ]
  refine held_skip 29 (some 32) rfl rfl (by kernel_rfl) (by kernel_rfl) (by kernel_rfl) (fun _ _ _ h => h) rfl hH1 ?_
  try simp only [Act.put, List.setIfInBounds_toArray, List.set_cons_zero, List.set_cons_succ]
  refine held_skip 30 (some 33) rfl rfl (by kernel_rfl) (by kernel_rfl) (by kernel_rfl) (fun _ _ _ h => h) rfl hH1 ?_
  try simp only [Act.put, List.setIfInBounds_toArray, List.set_cons_zero, List.set_cons_succ]
  refine held_skip 31 (some 34) rfl rfl (by kernel_rfl) (by kernel_rfl) (by kernel_rfl) (fun _ _ _ h => h) rfl hH1 ?_
  try simp only [Act.put, List.setIfInBounds_toArray, List.set_cons_zero, List.set_cons_succ]
  refine held_take 32 (some 35) (.bool false) rfl rfl (by kernel_rfl) (by kernel_rfl) (by kernel_rfl) (fun _ _ _ h => h) rfl (fun w' hS => ?_) hH1 ?_
  · clear hS; go_simp
  try simp only [Act.put, List.setIfInBounds_toArray, List.set_cons_zero, List.set_cons_succ]
  refine held_take 33 (some 36) (.bool false) rfl rfl (by kernel_rfl) (by kernel_rfl) (by kernel_rfl) (fun _ _ _ h => h) rfl (fun w' hS => ?_) hH1 ?_
  · clear hS; go_simp
  try simp only [Act.put, List.setIfInBounds_toArray, List.set_cons_zero, List.set_cons_succ]
  refine held_skip 34 (some 37) rfl rfl (by kernel_rfl) (by kernel_rfl) (by kernel_rfl) (fun _ _ _ h => h) rfl hH1 ?_
  try simp only [Act.put, List.setIfInBounds_toArray, List.set_cons_zero, List.set_cons_succ]
  refine held_skip 35 (some 38) rfl rfl (by kernel_rfl) (by kernel_rfl) (by kernel_rfl) (fun _ _ _ h => h) rfl hH1 ?_
  try simp only [Act.put, List.setIfInBounds_toArray, List.set_cons_zero, List.set_cons_succ]
  refine held_skip 36 (some 39) rfl rfl (by kernel_rfl) (by kernel_rfl) (by kernel_rfl) (fun _ _ _ h => h) rfl hH1 ?_
  try simp only [Act.put, List.setIfInBounds_toArray, List.set_cons_zero, List.set_cons_succ]
  refine held_take 37 (some 40) (.bool false) rfl rfl (by kernel_rfl) (by kernel_rfl) (by kernel_rfl) (fun _ _ _ h => h) rfl (fun w' hS => ?_) hH1 ?_
  · clear hS; go_simp
  try simp only [Act.put, List.setIfInBounds_toArray, List.set_cons_zero, List.set_cons_succ]
  refine held_take 38 (some 2) (.bool false) rfl rfl (by kernel_rfl) (by kernel_rfl) (by kernel_rfl) (fun _ _ _ h => h) rfl (fun w' hS => ?_) hH1 ?_
  · clear hS; go_simp
  try simp only [Act.put, List.setIfInBounds_toArray, List.set_cons_zero, List.set_cons_succ]
  refine wpAnyH_done (by kernel_rfl) ?_ _
  have hfin := hH1.2
  clear hH1 hHeld
  go_wp2_with fail
  go_ret
  exact ⟨rfl, by rw [HG.out]; exact hfin⟩
set_option maxRecDepth 100000 in
set_option maxHeartbeats 16000000 in
theorem there1 (y mo d h mi s : Int) (w : World) (t0 : (1 : Int) ≤ (y : Int) ∧ (y : Int) ≤ (9999 : Int)) (t1 : ¬ ((1 : Int) ≤ (mo : Int) ∧ (mo : Int) ≤ (12 : Int))) :
    Calls Tryd.prog 23 #[dateV y mo d h mi s] w fun e w' => e = .returned (.bool false) ∧ Below w.heap.size w w' := by
  have HW0 : Hid (∀ W, Calls Tryd.prog 29 #[.int .i64 y, .int .i64 1, .int .i64 9999] W fun e w' => e = .returned (.bool true) ∧ w' = W) := fun W => within_yes _ _ _ W t0.1 t0.2
  have HW1 : Hid (∀ W, Calls Tryd.prog 29 #[.int .i64 mo, .int .i64 1, .int .i64 12] W fun e w' => e = .returned (.bool false) ∧ w' = W) := fun W => within_no _ _ _ W t1
  clear t0 t1
  have hD := DateAt.new w y mo d h mi s
  have hB := below_new w (.cells (dateC y mo d h mi s) 40)
  unfold dateV
  go_enter Tryd.func23, Tryd.ntmps23
  go_wp2_with fail
  unfold dateC at hD hB
  generalize (w.alloc (.cells #[.int .i64 y, .int .i64 mo, .int .i64 d, .int .i64 h, .int .i64 mi, .int .i64 s] 40)) = w1 at *
  generalize hg : w.heap.size = g at *
  have HG : Hid (w.heap.size = g) := hg
  clear hg
  refine wp_region_held_drew (S := fun w' => DateAt w' g y mo d h mi s ∧ Below g w w') (by kernel_rfl) (⟨hD.below ((Below.refl _ _).drew), hB.drew⟩) (fun hHeld => ?_)
  clear hD hB
  refine held_take 0 (some 3) (.pointer (some ⟨g, 0, none⟩)) rfl rfl (by kernel_rfl) (by kernel_rfl) (by kernel_rfl) (fun _ _ _ h => h) rfl (fun w' hS => ?_) hHeld ?_
  · clear hS; go_simp
  try simp only [Act.put, List.setIfInBounds_toArray, List.set_cons_zero, List.set_cons_succ]
  refine held_take 1 (some 4) (.int .i64 y) rfl rfl (by kernel_rfl) (by kernel_rfl) (by kernel_rfl) (fun _ _ _ h => h) rfl (fun w' hS => ?_) hHeld ?_
  · have hc := hS.1.cells.1; clear hS; go_simp
  try simp only [Act.put, List.setIfInBounds_toArray, List.set_cons_zero, List.set_cons_succ]
  refine held_one (i := 2) (by kernel_rfl) rfl rfl (fun K hK => ?_)
  go_simp
  refine Calls.mono (HW0.out _) ?_
  rintro _ v1 ⟨rfl, hb1⟩
  dsimp only
  have hH1 : DateAt v1 g y mo d h mi s ∧ Below g w v1 := by rw [hb1]; exact hHeld
  refine hK.out _ _ hH1 ?_
  clear hK K hb1 
  try simp only [Act.put, List.setIfInBounds_toArray, List.set_cons_zero, List.set_cons_succ]
  refine held_take 3 (some 6) (.bool true) rfl rfl (by kernel_rfl) (by kernel_rfl) (by kernel_rfl) (fun _ _ _ h => h) rfl (fun w' hS => ?_) hH1 ?_
  · clear hS; go_simp
  try simp only [Act.put, List.setIfInBounds_toArray, List.set_cons_zero, List.set_cons_succ]
  refine held_take 4 (some 7) (.pointer (some ⟨g, 1, none⟩)) rfl rfl (by kernel_rfl) (by kernel_rfl) (by kernel_rfl) (fun _ _ _ h => h) rfl (fun w' hS => ?_) hH1 ?_
  · clear hS; go_simp
  try simp only [Act.put, List.setIfInBounds_toArray, List.set_cons_zero, List.set_cons_succ]
  refine held_take 5 (some 8) (.int .i64 mo) rfl rfl (by kernel_rfl) (by kernel_rfl) (by kernel_rfl) (fun _ _ _ h => h) rfl (fun w' hS => ?_) hH1 ?_
  · have hc := hS.1.cells.2.1; clear hS; go_simp
  try simp only [Act.put, List.setIfInBounds_toArray, List.set_cons_zero, List.set_cons_succ]
  refine held_one (i := 6) (by kernel_rfl) rfl rfl (fun K hK => ?_)
  go_simp
  refine Calls.mono (HW1.out _) ?_
  rintro _ v2 ⟨rfl, hb2⟩
  dsimp only
  have hH2 : DateAt v2 g y mo d h mi s ∧ Below g w v2 := by rw [hb2]; exact hH1
  refine hK.out _ _ hH2 ?_
  clear hK K hb2 
  try simp only [Act.put, List.setIfInBounds_toArray, List.set_cons_zero, List.set_cons_succ]
  refine held_take 7 (some 10) (.bool false) rfl rfl (by kernel_rfl) (by kernel_rfl) (by kernel_rfl) (fun _ _ _ h => h) rfl (fun w' hS => ?_) hH2 ?_
  · clear hS; go_simp
  try simp only [Act.put, List.setIfInBounds_toArray, List.set_cons_zero, List.set_cons_succ]
  refine held_take 8 (some 11) (.bool false) rfl rfl (by kernel_rfl) (by kernel_rfl) (by kernel_rfl) (fun _ _ _ h => h) rfl (fun w' hS => ?_) hH2 ?_
  · clear hS; go_simp
  try simp only [Act.put, List.setIfInBounds_toArray, List.set_cons_zero, List.set_cons_succ]
  refine held_skip 9 (some 12) rfl rfl (by kernel_rfl) (by kernel_rfl) (by kernel_rfl) (fun _ _ _ h => h) rfl hH2 ?_
  try simp only [Act.put, List.setIfInBounds_toArray, List.set_cons_zero, List.set_cons_succ]
  refine held_skip 10 (some 13) rfl rfl (by kernel_rfl) (by kernel_rfl) (by kernel_rfl) (fun _ _ _ h => h) rfl hH2 ?_
  try simp only [Act.put, List.setIfInBounds_toArray, List.set_cons_zero, List.set_cons_succ]
  refine held_skip 11 (some 14) rfl rfl (by kernel_rfl) (by kernel_rfl) (by kernel_rfl) (fun _ _ _ h => h) rfl hH2 ?_
  try simp only [Act.put, List.setIfInBounds_toArray, List.set_cons_zero, List.set_cons_succ]
  refine held_skip 12 (some 15) rfl rfl (by kernel_rfl) (by kernel_rfl) (by kernel_rfl) (fun _ _ _ h => h) rfl hH2 ?_
  try simp only [Act.put, List.setIfInBounds_toArray, List.set_cons_zero, List.set_cons_succ]
  refine held_skip 13 (some 16) rfl rfl (by kernel_rfl) (by kernel_rfl) (by kernel_rfl) (fun _ _ _ h => h) rfl hH2 ?_
  try simp only [Act.put, List.setIfInBounds_toArray, List.set_cons_zero, List.set_cons_succ]
  refine held_skip 14 (some 17) rfl rfl (by kernel_rfl) (by kernel_rfl) (by kernel_rfl) (fun _ _ _ h => h) rfl hH2 ?_
  try simp only [Act.put, List.setIfInBounds_toArray, List.set_cons_zero, List.set_cons_succ]
  refine held_skip 15 (some 18) rfl rfl (by kernel_rfl) (by kernel_rfl) (by kernel_rfl) (fun _ _ _ h => h) rfl hH2 ?_
  try simp only [Act.put, List.setIfInBounds_toArray, List.set_cons_zero, List.set_cons_succ]
  refine held_skip 16 (some 19) rfl rfl (by kernel_rfl) (by kernel_rfl) (by kernel_rfl) (fun _ _ _ h => h) rfl hH2 ?_
  try simp only [Act.put, List.setIfInBounds_toArray, List.set_cons_zero, List.set_cons_succ]
  refine held_skip 17 (some 20) rfl rfl (by kernel_rfl) (by kernel_rfl) (by kernel_rfl) (fun _ _ _ h => h) rfl hH2 ?_
  try simp only [Act.put, List.setIfInBounds_toArray, List.set_cons_zero, List.set_cons_succ]
  refine held_skip 18 (some 21) rfl rfl (by kernel_rfl) (by kernel_rfl) (by kernel_rfl) (fun _ _ _ h => h) rfl hH2 ?_
  try simp only [Act.put, List.setIfInBounds_toArray, List.set_cons_zero, List.set_cons_succ]
  refine held_skip 19 (some 22) rfl rfl (by kernel_rfl) (by kernel_rfl) (by kernel_rfl) (fun _ _ _ h => h) rfl hH2 ?_
  try simp only [Act.put, List.setIfInBounds_toArray, List.set_cons_zero, List.set_cons_succ]
  refine held_skip 20 (some 23) rfl rfl (by kernel_rfl) (by kernel_rfl) (by kernel_rfl) (fun _ _ _ h => h) rfl hH2 ?_
  try simp only [Act.put, List.setIfInBounds_toArray, List.set_cons_zero, List.set_cons_succ]
  refine held_skip 21 (some 24) rfl rfl (by kernel_rfl) (by kernel_rfl) (by kernel_rfl) (fun _ _ _ h => h) rfl hH2 ?_
  try simp only [Act.put, List.setIfInBounds_toArray, List.set_cons_zero, List.set_cons_succ]
  refine held_take 22 (some 25) (.bool false) rfl rfl (by kernel_rfl) (by kernel_rfl) (by kernel_rfl) (fun _ _ _ h => h) rfl (fun w' hS => ?_) hH2 ?_
  · clear hS; go_simp
  try simp only [Act.put, List.setIfInBounds_toArray, List.set_cons_zero, List.set_cons_succ]
  refine held_take 23 (some 26) (.bool false) rfl rfl (by kernel_rfl) (by kernel_rfl) (by kernel_rfl) (fun _ _ _ h => h) rfl (fun w' hS => ?_) hH2 ?_
  · clear hS; go_simp
  try simp only [Act.put, List.setIfInBounds_toArray, List.set_cons_zero, List.set_cons_succ]
  refine held_skip 24 (some 27) rfl rfl (by kernel_rfl) (by kernel_rfl) (by kernel_rfl) (fun _ _ _ h => h) rfl hH2 ?_
  try simp only [Act.put, List.setIfInBounds_toArray, List.set_cons_zero, List.set_cons_succ]
  refine held_skip 25 (some 28) rfl rfl (by kernel_rfl) (by kernel_rfl) (by kernel_rfl) (fun _ _ _ h => h) rfl hH2 ?_
  try simp only [Act.put, List.setIfInBounds_toArray, List.set_cons_zero, List.set_cons_succ]
  refine held_skip 26 (some 29) rfl rfl (by kernel_rfl) (by kernel_rfl) (by kernel_rfl) (fun _ _ _ h => h) rfl hH2 ?_
  try simp only [Act.put, List.setIfInBounds_toArray, List.set_cons_zero, List.set_cons_succ]
  refine held_take 27 (some 30) (.bool false) rfl rfl (by kernel_rfl) (by kernel_rfl) (by kernel_rfl) (fun _ _ _ h => h) rfl (fun w' hS => ?_) hH2 ?_
  · clear hS; go_simp
  try simp only [Act.put, List.setIfInBounds_toArray, List.set_cons_zero, List.set_cons_succ]
  refine held_take 28 (some 31) (.bool false) rfl rfl (by kernel_rfl) (by kernel_rfl) (by kernel_rfl) (fun _ _ _ h => h) rfl (fun w' hS => ?_) hH2 ?_
  · clear hS; go_simp
  try simp only [Act.put, List.setIfInBounds_toArray, List.set_cons_zero, List.set_cons_succ]
  refine held_skip 29 (some 32) rfl rfl (by kernel_rfl) (by kernel_rfl) (by kernel_rfl) (fun _ _ _ h => h) rfl hH2 ?_
  try simp only [Act.put, List.setIfInBounds_toArray, List.set_cons_zero, List.set_cons_succ]
  refine held_skip 30 (some 33) rfl rfl (by kernel_rfl) (by kernel_rfl) (by kernel_rfl) (fun _ _ _ h => h) rfl hH2 ?_
  try simp only [Act.put, List.setIfInBounds_toArray, List.set_cons_zero, List.set_cons_succ]
  refine held_skip 31 (some 34) rfl rfl (by kernel_rfl) (by kernel_rfl) (by kernel_rfl) (fun _ _ _ h => h) rfl hH2 ?_
  try simp only [Act.put, List.setIfInBounds_toArray, List.set_cons_zero, List.set_cons_succ]
  refine held_take 32 (some 35) (.bool false) rfl rfl (by kernel_rfl) (by kernel_rfl) (by kernel_rfl) (fun _ _ _ h => h) rfl (fun w' hS => ?_) hH2 ?_
  · clear hS; go_simp
  try simp only [Act.put, List.setIfInBounds_toArray, List.set_cons_zero, List.set_cons_succ]
  refine held_take 33 (some 36) (.bool false) rfl rfl (by kernel_rfl) (by kernel_rfl) (by kernel_rfl) (fun _ _ _ h => h) rfl (fun w' hS => ?_) hH2 ?_
  · clear hS; go_simp
  try simp only [Act.put, List.setIfInBounds_toArray, List.set_cons_zero, List.set_cons_succ]
  refine held_skip 34 (some 37) rfl rfl (by kernel_rfl) (by kernel_rfl) (by kernel_rfl) (fun _ _ _ h => h) rfl hH2 ?_
  try simp only [Act.put, List.setIfInBounds_toArray, List.set_cons_zero, List.set_cons_succ]
  refine held_skip 35 (some 38) rfl rfl (by kernel_rfl) (by kernel_rfl) (by kernel_rfl) (fun _ _ _ h => h) rfl hH2 ?_
  try simp only [Act.put, List.setIfInBounds_toArray, List.set_cons_zero, List.set_cons_succ]
  refine held_skip 36 (some 39) rfl rfl (by kernel_rfl) (by kernel_rfl) (by kernel_rfl) (fun _ _ _ h => h) rfl hH2 ?_
  try simp only [Act.put, List.setIfInBounds_toArray, List.set_cons_zero, List.set_cons_succ]
  refine held_take 37 (some 40) (.bool false) rfl rfl (by kernel_rfl) (by kernel_rfl) (by kernel_rfl) (fun _ _ _ h => h) rfl (fun w' hS => ?_) hH2 ?_
  · clear hS; go_simp
  try simp only [Act.put, List.setIfInBounds_toArray, List.set_cons_zero, List.set_cons_succ]
  refine held_take 38 (some 2) (.bool false) rfl rfl (by kernel_rfl) (by kernel_rfl) (by kernel_rfl) (fun _ _ _ h => h) rfl (fun w' hS => ?_) hH2 ?_
  · clear hS; go_simp
  try simp only [Act.put, List.setIfInBounds_toArray, List.set_cons_zero, List.set_cons_succ]
  refine wpAnyH_done (by kernel_rfl) ?_ _
  have hfin := hH2.2
  clear hH1 hH2 hHeld
  go_wp2_with fail
  go_ret
  exact ⟨rfl, by rw [HG.out]; exact hfin⟩
set_option maxRecDepth 100000 in
set_option maxHeartbeats 16000000 in
theorem there2 (y mo ln : Nat) (d h mi s : Int) (w : World) (hT : Tab w) (hln : ln = lenN y mo) (t0 : (1 : Int) ≤ (y : Int) ∧ (y : Int) ≤ (9999 : Int)) (t1 : (1 : Int) ≤ (mo : Int) ∧ (mo : Int) ≤ (12 : Int)) (t2 : ¬ ((1 : Int) ≤ (d : Int) ∧ (d : Int) ≤ ((ln : Nat) : Int))) :
    Calls Tryd.prog 23 #[dateV y mo d h mi s] w fun e w' => e = .returned (.bool false) ∧ Below w.heap.size w w' := by
  obtain ⟨M, hM⟩ : ∃ M, M = mo + 1 := ⟨_, rfl⟩
  have hMi : (mo : Int) + 1 = (M : Int) := by omega
  have hMw : IntKind.i64.wrap (M : Int) = (M : Int) := by rw [IntKind.wrap_i64]; omega
  have HA1 : Hid (∀ W, Tab W → Calls Tryd.prog 30 #[dateV y mo d h mi s, .int .i64 (M : Nat)] W fun e w' => e = .returned (.int .i64 (dmk y mo : Nat)) ∧ Below W.heap.size W w') := fun W hW => by
    have := ahead_any y mo d h mi s M W hW (by omega) (by omega) (by omega)
    rw [show M - 1 = mo by omega] at this
    exact this
  have HA0 : Hid (∀ W, Tab W → Calls Tryd.prog 30 #[dateV y mo d h mi s, .int .i64 (mo : Nat)] W fun e w' => e = .returned (.int .i64 (dmk y (mo - 1) : Nat)) ∧ Below W.heap.size W w') := fun W hW => ahead_any y mo d h mi s mo W hW (by omega) (by omega) (by omega)
  have hdl : dmk y mo = dmk y (mo - 1) + ln := by
    obtain ⟨j, hj⟩ : ∃ j, mo = j + 1 := ⟨mo - 1, by omega⟩
    rw [hln, hj, dmk]
    rfl
  have hlb := (len_bound y mo).2
  rw [← hln] at hlb
  have HD : Hid (((dmk y mo : Nat) : Int) - ((dmk y (mo - 1) : Nat) : Int) = (ln : Int)) := by unfold Hid; omega
  generalize dmk y mo = r1 at *
  generalize dmk y (mo - 1) = r0 at *
  have hDi := HD.out
  have hDw : IntKind.i64.wrap (ln : Int) = (ln : Int) := by rw [IntKind.wrap_i64]; omega
  clear hln hM hdl
  have HW0 : Hid (∀ W, Calls Tryd.prog 29 #[.int .i64 y, .int .i64 1, .int .i64 9999] W fun e w' => e = .returned (.bool true) ∧ w' = W) := fun W => within_yes _ _ _ W t0.1 t0.2
  have HW1 : Hid (∀ W, Calls Tryd.prog 29 #[.int .i64 mo, .int .i64 1, .int .i64 12] W fun e w' => e = .returned (.bool true) ∧ w' = W) := fun W => within_yes _ _ _ W t1.1 t1.2
  have HW2 : Hid (∀ W, Calls Tryd.prog 29 #[.int .i64 d, .int .i64 1, .int .i64 (ln : Nat)] W fun e w' => e = .returned (.bool false) ∧ w' = W) := fun W => within_no _ _ _ W t2
  clear t0 t1 t2
  have hD := DateAt.new w (y : Int) (mo : Int) d h mi s
  have hB := below_new w (.cells (dateC (y : Int) (mo : Int) d h mi s) 40)
  have hT1 := hT.own hB
  unfold dateV
  go_enter Tryd.func23, Tryd.ntmps23
  go_wp2_with fail
  unfold dateC at hD hB hT1
  generalize (w.alloc (.cells #[.int .i64 (y : Int), .int .i64 (mo : Int), .int .i64 d, .int .i64 h, .int .i64 mi, .int .i64 s] 40)) = w1 at *
  generalize hg : w.heap.size = g at *
  have HG : Hid (w.heap.size = g) := hg
  clear hg
  clear hT
  refine wp_region_held_drew (S := fun w' => DateAt w' g (y : Int) (mo : Int) d h mi s ∧ Below g w w' ∧ Tab w') (by kernel_rfl) (⟨hD.below ((Below.refl _ _).drew), hB.drew, hT1.own ((Below.refl _ _).drew)⟩) (fun hHeld => ?_)
  clear hD hB hT1
  refine held_take 0 (some 3) (.pointer (some ⟨g, 0, none⟩)) rfl rfl (by kernel_rfl) (by kernel_rfl) (by kernel_rfl) (fun _ _ _ h => h) rfl (fun w' hS => ?_) hHeld ?_
  · clear hS; go_simp
  try simp only [Act.put, List.setIfInBounds_toArray, List.set_cons_zero, List.set_cons_succ]
  refine held_take 1 (some 4) (.int .i64 (y : Nat)) rfl rfl (by kernel_rfl) (by kernel_rfl) (by kernel_rfl) (fun _ _ _ h => h) rfl (fun w' hS => ?_) hHeld ?_
  · have hc := hS.1.cells.1; clear hS; go_simp
  try simp only [Act.put, List.setIfInBounds_toArray, List.set_cons_zero, List.set_cons_succ]
  refine held_one (i := 2) (by kernel_rfl) rfl rfl (fun K hK => ?_)
  go_simp
  refine Calls.mono (HW0.out _) ?_
  rintro _ v1 ⟨rfl, hb1⟩
  dsimp only
  have hH1 : DateAt v1 g (y : Int) (mo : Int) d h mi s ∧ Below g w v1 ∧ Tab v1 := by rw [hb1]; exact hHeld
  refine hK.out _ _ hH1 ?_
  clear hK K hb1 
  try simp only [Act.put, List.setIfInBounds_toArray, List.set_cons_zero, List.set_cons_succ]
  refine held_take 3 (some 6) (.bool true) rfl rfl (by kernel_rfl) (by kernel_rfl) (by kernel_rfl) (fun _ _ _ h => h) rfl (fun w' hS => ?_) hH1 ?_
  · clear hS; go_simp
  try simp only [Act.put, List.setIfInBounds_toArray, List.set_cons_zero, List.set_cons_succ]
  refine held_take 4 (some 7) (.pointer (some ⟨g, 1, none⟩)) rfl rfl (by kernel_rfl) (by kernel_rfl) (by kernel_rfl) (fun _ _ _ h => h) rfl (fun w' hS => ?_) hH1 ?_
  · clear hS; go_simp
  try simp only [Act.put, List.setIfInBounds_toArray, List.set_cons_zero, List.set_cons_succ]
  refine held_take 5 (some 8) (.int .i64 (mo : Nat)) rfl rfl (by kernel_rfl) (by kernel_rfl) (by kernel_rfl) (fun _ _ _ h => h) rfl (fun w' hS => ?_) hH1 ?_
  · have hc := hS.1.cells.2.1; clear hS; go_simp
  try simp only [Act.put, List.setIfInBounds_toArray, List.set_cons_zero, List.set_cons_succ]
  refine held_one (i := 6) (by kernel_rfl) rfl rfl (fun K hK => ?_)
  go_simp
  refine Calls.mono (HW1.out _) ?_
  rintro _ v2 ⟨rfl, hb2⟩
  dsimp only
  have hH2 : DateAt v2 g (y : Int) (mo : Int) d h mi s ∧ Below g w v2 ∧ Tab v2 := by rw [hb2]; exact hH1
  refine hK.out _ _ hH2 ?_
  clear hK K hb2 
  try simp only [Act.put, List.setIfInBounds_toArray, List.set_cons_zero, List.set_cons_succ]
  refine held_take 7 (some 10) (.bool true) rfl rfl (by kernel_rfl) (by kernel_rfl) (by kernel_rfl) (fun _ _ _ h => h) rfl (fun w' hS => ?_) hH2 ?_
  · clear hS; go_simp
  try simp only [Act.put, List.setIfInBounds_toArray, List.set_cons_zero, List.set_cons_succ]
  refine held_take 8 (some 11) (.bool true) rfl rfl (by kernel_rfl) (by kernel_rfl) (by kernel_rfl) (fun _ _ _ h => h) rfl (fun w' hS => ?_) hH2 ?_
  · clear hS; go_simp
  try simp only [Act.put, List.setIfInBounds_toArray, List.set_cons_zero, List.set_cons_succ]
  refine held_take 9 (some 12) (.pointer (some ⟨g, 2, none⟩)) rfl rfl (by kernel_rfl) (by kernel_rfl) (by kernel_rfl) (fun _ _ _ h => h) rfl (fun w' hS => ?_) hH2 ?_
  · clear hS; go_simp
  try simp only [Act.put, List.setIfInBounds_toArray, List.set_cons_zero, List.set_cons_succ]
  refine held_take 10 (some 13) (.int .i64 d) rfl rfl (by kernel_rfl) (by kernel_rfl) (by kernel_rfl) (fun _ _ _ h => h) rfl (fun w' hS => ?_) hH2 ?_
  · have hc := hS.1.cells.2.2.1; clear hS; go_simp
  try simp only [Act.put, List.setIfInBounds_toArray, List.set_cons_zero, List.set_cons_succ]
  refine held_take 11 (some 14) (dateV (y : Int) (mo : Int) d h mi s) rfl rfl (by kernel_rfl) (by kernel_rfl) (by kernel_rfl) (fun _ _ _ h => h) rfl (fun w' hS => ?_) hH2 ?_
  · exact held_yield (S := fun x => DateAt x g (y : Int) (mo : Int) d h mi s ∧ Below g w x ∧ Tab x) 40 (.tmp 1) rfl ⟨g, 0, none⟩ rfl _ (fun x k => k.1.load) w' hS
  try simp only [Act.put, List.setIfInBounds_toArray, List.set_cons_zero, List.set_cons_succ]
  refine held_take 12 (some 15) (.pointer (some ⟨g, 1, none⟩)) rfl rfl (by kernel_rfl) (by kernel_rfl) (by kernel_rfl) (fun _ _ _ h => h) rfl (fun w' hS => ?_) hH2 ?_
  · clear hS; go_simp
  try simp only [Act.put, List.setIfInBounds_toArray, List.set_cons_zero, List.set_cons_succ]
  refine held_take 13 (some 16) (.int .i64 (mo : Nat)) rfl rfl (by kernel_rfl) (by kernel_rfl) (by kernel_rfl) (fun _ _ _ h => h) rfl (fun w' hS => ?_) hH2 ?_
  · have hc := hS.1.cells.2.1; clear hS; go_simp
  try simp only [Act.put, List.setIfInBounds_toArray, List.set_cons_zero, List.set_cons_succ]
  refine held_take 14 (some 17) (.int .i64 (M : Nat)) rfl rfl (by kernel_rfl) (by kernel_rfl) (by kernel_rfl) (fun _ _ _ h => h) rfl (fun w' hS => ?_) hH2 ?_
  · clear hS; go_simp
  try simp only [Act.put, List.setIfInBounds_toArray, List.set_cons_zero, List.set_cons_succ]
  refine held_take 16 (some 19) (dateV (y : Int) (mo : Int) d h mi s) rfl rfl (by kernel_rfl) (by kernel_rfl) (by kernel_rfl) (fun _ _ _ h => h) rfl (fun w' hS => ?_) hH2 ?_
  · exact held_yield (S := fun x => DateAt x g (y : Int) (mo : Int) d h mi s ∧ Below g w x ∧ Tab x) 40 (.tmp 1) rfl ⟨g, 0, none⟩ rfl _ (fun x k => k.1.load) w' hS
  try simp only [Act.put, List.setIfInBounds_toArray, List.set_cons_zero, List.set_cons_succ]
  refine held_take 17 (some 20) (.pointer (some ⟨g, 1, none⟩)) rfl rfl (by kernel_rfl) (by kernel_rfl) (by kernel_rfl) (fun _ _ _ h => h) rfl (fun w' hS => ?_) hH2 ?_
  · clear hS; go_simp
  try simp only [Act.put, List.setIfInBounds_toArray, List.set_cons_zero, List.set_cons_succ]
  refine held_take 18 (some 21) (.int .i64 (mo : Nat)) rfl rfl (by kernel_rfl) (by kernel_rfl) (by kernel_rfl) (fun _ _ _ h => h) rfl (fun w' hS => ?_) hH2 ?_
  · have hc := hS.1.cells.2.1; clear hS; go_simp
  try simp only [Act.put, List.setIfInBounds_toArray, List.set_cons_zero, List.set_cons_succ]
  refine held_one (i := 15) (by kernel_rfl) rfl rfl (fun K hK => ?_)
  go_simp
  refine Calls.mono (HA1.out _ hH2.2.2) ?_
  rintro _ v3 ⟨rfl, hb3⟩
  dsimp only
  have hH3 : DateAt v3 g (y : Int) (mo : Int) d h mi s ∧ Below g w v3 ∧ Tab v3 := ⟨hH2.1.below hb3, hH2.2.1.trans (hb3.mono (Nat.le_of_lt hH2.1.lt)), hH2.2.2.own hb3⟩
  refine hK.out _ _ hH3 ?_
  clear hK K hb3 
  try simp only [Act.put, List.setIfInBounds_toArray, List.set_cons_zero, List.set_cons_succ]
  refine held_one (i := 19) (by kernel_rfl) rfl rfl (fun K hK => ?_)
  go_simp
  refine Calls.mono (HA0.out _ hH3.2.2) ?_
  rintro _ v4 ⟨rfl, hb4⟩
  dsimp only
  have hH4 : DateAt v4 g (y : Int) (mo : Int) d h mi s ∧ Below g w v4 ∧ Tab v4 := ⟨hH3.1.below hb4, hH3.2.1.trans (hb4.mono (Nat.le_of_lt hH3.1.lt)), hH3.2.2.own hb4⟩
  refine hK.out _ _ hH4 ?_
  clear hK K hb4 
  try simp only [Act.put, List.setIfInBounds_toArray, List.set_cons_zero, List.set_cons_succ]
  refine held_take 20 (some 23) (.int .i64 (ln : Nat)) rfl rfl (by kernel_rfl) (by kernel_rfl) (by kernel_rfl) (fun _ _ _ h => h) rfl (fun w' hS => ?_) hH4 ?_
  · clear hS; go_simp
  try simp only [Act.put, List.setIfInBounds_toArray, List.set_cons_zero, List.set_cons_succ]
  refine held_one (i := 21) (by kernel_rfl) rfl rfl (fun K hK => ?_)
  go_simp
  refine Calls.mono (HW2.out _) ?_
  rintro _ v5 ⟨rfl, hb5⟩
  dsimp only
  have hH5 : DateAt v5 g (y : Int) (mo : Int) d h mi s ∧ Below g w v5 ∧ Tab v5 := by rw [hb5]; exact hH4
  refine hK.out _ _ hH5 ?_
  clear hK K hb5 
  try simp only [Act.put, List.setIfInBounds_toArray, List.set_cons_zero, List.set_cons_succ]
  refine held_take 22 (some 25) (.bool false) rfl rfl (by kernel_rfl) (by kernel_rfl) (by kernel_rfl) (fun _ _ _ h => h) rfl (fun w' hS => ?_) hH5 ?_
  · clear hS; go_simp
  try simp only [Act.put, List.setIfInBounds_toArray, List.set_cons_zero, List.set_cons_succ]
  refine held_take 23 (some 26) (.bool false) rfl rfl (by kernel_rfl) (by kernel_rfl) (by kernel_rfl) (fun _ _ _ h => h) rfl (fun w' hS => ?_) hH5 ?_
  · clear hS; go_simp
  try simp only [Act.put, List.setIfInBounds_toArray, List.set_cons_zero, List.set_cons_succ]
  refine held_skip 24 (some 27) rfl rfl (by kernel_rfl) (by kernel_rfl) (by kernel_rfl) (fun _ _ _ h => h) rfl hH5 ?_
  try simp only [Act.put, List.setIfInBounds_toArray, List.set_cons_zero, List.set_cons_succ]
  refine held_skip 25 (some 28) rfl rfl (by kernel_rfl) (by kernel_rfl) (by kernel_rfl) (fun _ _ _ h => h) rfl hH5 ?_
  try simp only [Act.put, List.setIfInBounds_toArray, List.set_cons_zero, List.set_cons_succ]
  refine held_skip 26 (some 29) rfl rfl (by kernel_rfl) (by kernel_rfl) (by kernel_rfl) (fun _ _ _ h => h) rfl hH5 ?_
  try simp only [Act.put, List.setIfInBounds_toArray, List.set_cons_zero, List.set_cons_succ]
  refine held_take 27 (some 30) (.bool false) rfl rfl (by kernel_rfl) (by kernel_rfl) (by kernel_rfl) (fun _ _ _ h => h) rfl (fun w' hS => ?_) hH5 ?_
  · clear hS; go_simp
  try simp only [Act.put, List.setIfInBounds_toArray, List.set_cons_zero, List.set_cons_succ]
  refine held_take 28 (some 31) (.bool false) rfl rfl (by kernel_rfl) (by kernel_rfl) (by kernel_rfl) (fun _ _ _ h => h) rfl (fun w' hS => ?_) hH5 ?_
  · clear hS; go_simp
  try simp only [Act.put, List.setIfInBounds_toArray, List.set_cons_zero, List.set_cons_succ]
  refine held_skip 29 (some 32) rfl rfl (by kernel_rfl) (by kernel_rfl) (by kernel_rfl) (fun _ _ _ h => h) rfl hH5 ?_
  try simp only [Act.put, List.setIfInBounds_toArray, List.set_cons_zero, List.set_cons_succ]
  refine held_skip 30 (some 33) rfl rfl (by kernel_rfl) (by kernel_rfl) (by kernel_rfl) (fun _ _ _ h => h) rfl hH5 ?_
  try simp only [Act.put, List.setIfInBounds_toArray, List.set_cons_zero, List.set_cons_succ]
  refine held_skip 31 (some 34) rfl rfl (by kernel_rfl) (by kernel_rfl) (by kernel_rfl) (fun _ _ _ h => h) rfl hH5 ?_
  try simp only [Act.put, List.setIfInBounds_toArray, List.set_cons_zero, List.set_cons_succ]
  refine held_take 32 (some 35) (.bool false) rfl rfl (by kernel_rfl) (by kernel_rfl) (by kernel_rfl) (fun _ _ _ h => h) rfl (fun w' hS => ?_) hH5 ?_
  · clear hS; go_simp
  try simp only [Act.put, List.setIfInBounds_toArray, List.set_cons_zero, List.set_cons_succ]
  refine held_take 33 (some 36) (.bool false) rfl rfl (by kernel_rfl) (by kernel_rfl) (by kernel_rfl) (fun _ _ _ h => h) rfl (fun w' hS => ?_) hH5 ?_
  · clear hS; go_simp
  try simp only [Act.put, List.setIfInBounds_toArray, List.set_cons_zero, List.set_cons_succ]
  refine held_skip 34 (some 37) rfl rfl (by kernel_rfl) (by kernel_rfl) (by kernel_rfl) (fun _ _ _ h => h) rfl hH5 ?_
  try simp only [Act.put, List.setIfInBounds_toArray, List.set_cons_zero, List.set_cons_succ]
  refine held_skip 35 (some 38) rfl rfl (by kernel_rfl) (by kernel_rfl) (by kernel_rfl) (fun _ _ _ h => h) rfl hH5 ?_
  try simp only [Act.put, List.setIfInBounds_toArray, List.set_cons_zero, List.set_cons_succ]
  refine held_skip 36 (some 39) rfl rfl (by kernel_rfl) (by kernel_rfl) (by kernel_rfl) (fun _ _ _ h => h) rfl hH5 ?_
  try simp only [Act.put, List.setIfInBounds_toArray, List.set_cons_zero, List.set_cons_succ]
  refine held_take 37 (some 40) (.bool false) rfl rfl (by kernel_rfl) (by kernel_rfl) (by kernel_rfl) (fun _ _ _ h => h) rfl (fun w' hS => ?_) hH5 ?_
  · clear hS; go_simp
  try simp only [Act.put, List.setIfInBounds_toArray, List.set_cons_zero, List.set_cons_succ]
  refine held_take 38 (some 2) (.bool false) rfl rfl (by kernel_rfl) (by kernel_rfl) (by kernel_rfl) (fun _ _ _ h => h) rfl (fun w' hS => ?_) hH5 ?_
  · clear hS; go_simp
  try simp only [Act.put, List.setIfInBounds_toArray, List.set_cons_zero, List.set_cons_succ]
  refine wpAnyH_done (by kernel_rfl) ?_ _
  have hfin := hH5.2.1
  clear hH1 hH2 hH3 hH4 hH5 hHeld
  go_wp2_with fail
  go_ret
  exact ⟨rfl, by rw [HG.out]; exact hfin⟩
set_option maxRecDepth 100000 in
set_option maxHeartbeats 16000000 in
theorem there3 (y mo ln : Nat) (d h mi s : Int) (w : World) (hT : Tab w) (hln : ln = lenN y mo) (t0 : (1 : Int) ≤ (y : Int) ∧ (y : Int) ≤ (9999 : Int)) (t1 : (1 : Int) ≤ (mo : Int) ∧ (mo : Int) ≤ (12 : Int)) (t2 : (1 : Int) ≤ (d : Int) ∧ (d : Int) ≤ ((ln : Nat) : Int)) (t3 : ¬ ((0 : Int) ≤ (h : Int) ∧ (h : Int) ≤ (23 : Int))) :
    Calls Tryd.prog 23 #[dateV y mo d h mi s] w fun e w' => e = .returned (.bool false) ∧ Below w.heap.size w w' := by
  obtain ⟨M, hM⟩ : ∃ M, M = mo + 1 := ⟨_, rfl⟩
  have hMi : (mo : Int) + 1 = (M : Int) := by omega
  have hMw : IntKind.i64.wrap (M : Int) = (M : Int) := by rw [IntKind.wrap_i64]; omega
  have HA1 : Hid (∀ W, Tab W → Calls Tryd.prog 30 #[dateV y mo d h mi s, .int .i64 (M : Nat)] W fun e w' => e = .returned (.int .i64 (dmk y mo : Nat)) ∧ Below W.heap.size W w') := fun W hW => by
    have := ahead_any y mo d h mi s M W hW (by omega) (by omega) (by omega)
    rw [show M - 1 = mo by omega] at this
    exact this
  have HA0 : Hid (∀ W, Tab W → Calls Tryd.prog 30 #[dateV y mo d h mi s, .int .i64 (mo : Nat)] W fun e w' => e = .returned (.int .i64 (dmk y (mo - 1) : Nat)) ∧ Below W.heap.size W w') := fun W hW => ahead_any y mo d h mi s mo W hW (by omega) (by omega) (by omega)
  have hdl : dmk y mo = dmk y (mo - 1) + ln := by
    obtain ⟨j, hj⟩ : ∃ j, mo = j + 1 := ⟨mo - 1, by omega⟩
    rw [hln, hj, dmk]
    rfl
  have hlb := (len_bound y mo).2
  rw [← hln] at hlb
  have HD : Hid (((dmk y mo : Nat) : Int) - ((dmk y (mo - 1) : Nat) : Int) = (ln : Int)) := by unfold Hid; omega
  generalize dmk y mo = r1 at *
  generalize dmk y (mo - 1) = r0 at *
  have hDi := HD.out
  have hDw : IntKind.i64.wrap (ln : Int) = (ln : Int) := by rw [IntKind.wrap_i64]; omega
  clear hln hM hdl
  have HW0 : Hid (∀ W, Calls Tryd.prog 29 #[.int .i64 y, .int .i64 1, .int .i64 9999] W fun e w' => e = .returned (.bool true) ∧ w' = W) := fun W => within_yes _ _ _ W t0.1 t0.2
  have HW1 : Hid (∀ W, Calls Tryd.prog 29 #[.int .i64 mo, .int .i64 1, .int .i64 12] W fun e w' => e = .returned (.bool true) ∧ w' = W) := fun W => within_yes _ _ _ W t1.1 t1.2
  have HW2 : Hid (∀ W, Calls Tryd.prog 29 #[.int .i64 d, .int .i64 1, .int .i64 (ln : Nat)] W fun e w' => e = .returned (.bool true) ∧ w' = W) := fun W => within_yes _ _ _ W t2.1 t2.2
  have HW3 : Hid (∀ W, Calls Tryd.prog 29 #[.int .i64 h, .int .i64 0, .int .i64 23] W fun e w' => e = .returned (.bool false) ∧ w' = W) := fun W => within_no _ _ _ W t3
  clear t0 t1 t2 t3
  have hD := DateAt.new w (y : Int) (mo : Int) d h mi s
  have hB := below_new w (.cells (dateC (y : Int) (mo : Int) d h mi s) 40)
  have hT1 := hT.own hB
  unfold dateV
  go_enter Tryd.func23, Tryd.ntmps23
  go_wp2_with fail
  unfold dateC at hD hB hT1
  generalize (w.alloc (.cells #[.int .i64 (y : Int), .int .i64 (mo : Int), .int .i64 d, .int .i64 h, .int .i64 mi, .int .i64 s] 40)) = w1 at *
  generalize hg : w.heap.size = g at *
  have HG : Hid (w.heap.size = g) := hg
  clear hg
  clear hT
  refine wp_region_held_drew (S := fun w' => DateAt w' g (y : Int) (mo : Int) d h mi s ∧ Below g w w' ∧ Tab w') (by kernel_rfl) (⟨hD.below ((Below.refl _ _).drew), hB.drew, hT1.own ((Below.refl _ _).drew)⟩) (fun hHeld => ?_)
  clear hD hB hT1
  refine held_take 0 (some 3) (.pointer (some ⟨g, 0, none⟩)) rfl rfl (by kernel_rfl) (by kernel_rfl) (by kernel_rfl) (fun _ _ _ h => h) rfl (fun w' hS => ?_) hHeld ?_
  · clear hS; go_simp
  try simp only [Act.put, List.setIfInBounds_toArray, List.set_cons_zero, List.set_cons_succ]
  refine held_take 1 (some 4) (.int .i64 (y : Nat)) rfl rfl (by kernel_rfl) (by kernel_rfl) (by kernel_rfl) (fun _ _ _ h => h) rfl (fun w' hS => ?_) hHeld ?_
  · have hc := hS.1.cells.1; clear hS; go_simp
  try simp only [Act.put, List.setIfInBounds_toArray, List.set_cons_zero, List.set_cons_succ]
  refine held_one (i := 2) (by kernel_rfl) rfl rfl (fun K hK => ?_)
  go_simp
  refine Calls.mono (HW0.out _) ?_
  rintro _ v1 ⟨rfl, hb1⟩
  dsimp only
  have hH1 : DateAt v1 g (y : Int) (mo : Int) d h mi s ∧ Below g w v1 ∧ Tab v1 := by rw [hb1]; exact hHeld
  refine hK.out _ _ hH1 ?_
  clear hK K hb1 
  try simp only [Act.put, List.setIfInBounds_toArray, List.set_cons_zero, List.set_cons_succ]
  refine held_take 3 (some 6) (.bool true) rfl rfl (by kernel_rfl) (by kernel_rfl) (by kernel_rfl) (fun _ _ _ h => h) rfl (fun w' hS => ?_) hH1 ?_
  · clear hS; go_simp
  try simp only [Act.put, List.setIfInBounds_toArray, List.set_cons_zero, List.set_cons_succ]
  refine held_take 4 (some 7) (.pointer (some ⟨g, 1, none⟩)) rfl rfl (by kernel_rfl) (by kernel_rfl) (by kernel_rfl) (fun _ _ _ h => h) rfl (fun w' hS => ?_) hH1 ?_
  · clear hS; go_simp
  try simp only [Act.put, List.setIfInBounds_toArray, List.set_cons_zero, List.set_cons_succ]
  refine held_take 5 (some 8) (.int .i64 (mo : Nat)) rfl rfl (by kernel_rfl) (by kernel_rfl) (by kernel_rfl) (fun _ _ _ h => h) rfl (fun w' hS => ?_) hH1 ?_
  · have hc := hS.1.cells.2.1; clear hS; go_simp
  try simp only [Act.put, List.setIfInBounds_toArray, List.set_cons_zero, List.set_cons_succ]
  refine held_one (i := 6) (by kernel_rfl) rfl rfl (fun K hK => ?_)
  go_simp
  refine Calls.mono (HW1.out _) ?_
  rintro _ v2 ⟨rfl, hb2⟩
  dsimp only
  have hH2 : DateAt v2 g (y : Int) (mo : Int) d h mi s ∧ Below g w v2 ∧ Tab v2 := by rw [hb2]; exact hH1
  refine hK.out _ _ hH2 ?_
  clear hK K hb2 
  try simp only [Act.put, List.setIfInBounds_toArray, List.set_cons_zero, List.set_cons_succ]
  refine held_take 7 (some 10) (.bool true) rfl rfl (by kernel_rfl) (by kernel_rfl) (by kernel_rfl) (fun _ _ _ h => h) rfl (fun w' hS => ?_) hH2 ?_
  · clear hS; go_simp
  try simp only [Act.put, List.setIfInBounds_toArray, List.set_cons_zero, List.set_cons_succ]
  refine held_take 8 (some 11) (.bool true) rfl rfl (by kernel_rfl) (by kernel_rfl) (by kernel_rfl) (fun _ _ _ h => h) rfl (fun w' hS => ?_) hH2 ?_
  · clear hS; go_simp
  try simp only [Act.put, List.setIfInBounds_toArray, List.set_cons_zero, List.set_cons_succ]
  refine held_take 9 (some 12) (.pointer (some ⟨g, 2, none⟩)) rfl rfl (by kernel_rfl) (by kernel_rfl) (by kernel_rfl) (fun _ _ _ h => h) rfl (fun w' hS => ?_) hH2 ?_
  · clear hS; go_simp
  try simp only [Act.put, List.setIfInBounds_toArray, List.set_cons_zero, List.set_cons_succ]
  refine held_take 10 (some 13) (.int .i64 d) rfl rfl (by kernel_rfl) (by kernel_rfl) (by kernel_rfl) (fun _ _ _ h => h) rfl (fun w' hS => ?_) hH2 ?_
  · have hc := hS.1.cells.2.2.1; clear hS; go_simp
  try simp only [Act.put, List.setIfInBounds_toArray, List.set_cons_zero, List.set_cons_succ]
  refine held_take 11 (some 14) (dateV (y : Int) (mo : Int) d h mi s) rfl rfl (by kernel_rfl) (by kernel_rfl) (by kernel_rfl) (fun _ _ _ h => h) rfl (fun w' hS => ?_) hH2 ?_
  · exact held_yield (S := fun x => DateAt x g (y : Int) (mo : Int) d h mi s ∧ Below g w x ∧ Tab x) 40 (.tmp 1) rfl ⟨g, 0, none⟩ rfl _ (fun x k => k.1.load) w' hS
  try simp only [Act.put, List.setIfInBounds_toArray, List.set_cons_zero, List.set_cons_succ]
  refine held_take 12 (some 15) (.pointer (some ⟨g, 1, none⟩)) rfl rfl (by kernel_rfl) (by kernel_rfl) (by kernel_rfl) (fun _ _ _ h => h) rfl (fun w' hS => ?_) hH2 ?_
  · clear hS; go_simp
  try simp only [Act.put, List.setIfInBounds_toArray, List.set_cons_zero, List.set_cons_succ]
  refine held_take 13 (some 16) (.int .i64 (mo : Nat)) rfl rfl (by kernel_rfl) (by kernel_rfl) (by kernel_rfl) (fun _ _ _ h => h) rfl (fun w' hS => ?_) hH2 ?_
  · have hc := hS.1.cells.2.1; clear hS; go_simp
  try simp only [Act.put, List.setIfInBounds_toArray, List.set_cons_zero, List.set_cons_succ]
  refine held_take 14 (some 17) (.int .i64 (M : Nat)) rfl rfl (by kernel_rfl) (by kernel_rfl) (by kernel_rfl) (fun _ _ _ h => h) rfl (fun w' hS => ?_) hH2 ?_
  · clear hS; go_simp
  try simp only [Act.put, List.setIfInBounds_toArray, List.set_cons_zero, List.set_cons_succ]
  refine held_take 16 (some 19) (dateV (y : Int) (mo : Int) d h mi s) rfl rfl (by kernel_rfl) (by kernel_rfl) (by kernel_rfl) (fun _ _ _ h => h) rfl (fun w' hS => ?_) hH2 ?_
  · exact held_yield (S := fun x => DateAt x g (y : Int) (mo : Int) d h mi s ∧ Below g w x ∧ Tab x) 40 (.tmp 1) rfl ⟨g, 0, none⟩ rfl _ (fun x k => k.1.load) w' hS
  try simp only [Act.put, List.setIfInBounds_toArray, List.set_cons_zero, List.set_cons_succ]
  refine held_take 17 (some 20) (.pointer (some ⟨g, 1, none⟩)) rfl rfl (by kernel_rfl) (by kernel_rfl) (by kernel_rfl) (fun _ _ _ h => h) rfl (fun w' hS => ?_) hH2 ?_
  · clear hS; go_simp
  try simp only [Act.put, List.setIfInBounds_toArray, List.set_cons_zero, List.set_cons_succ]
  refine held_take 18 (some 21) (.int .i64 (mo : Nat)) rfl rfl (by kernel_rfl) (by kernel_rfl) (by kernel_rfl) (fun _ _ _ h => h) rfl (fun w' hS => ?_) hH2 ?_
  · have hc := hS.1.cells.2.1; clear hS; go_simp
  try simp only [Act.put, List.setIfInBounds_toArray, List.set_cons_zero, List.set_cons_succ]
  refine held_one (i := 15) (by kernel_rfl) rfl rfl (fun K hK => ?_)
  go_simp
  refine Calls.mono (HA1.out _ hH2.2.2) ?_
  rintro _ v3 ⟨rfl, hb3⟩
  dsimp only
  have hH3 : DateAt v3 g (y : Int) (mo : Int) d h mi s ∧ Below g w v3 ∧ Tab v3 := ⟨hH2.1.below hb3, hH2.2.1.trans (hb3.mono (Nat.le_of_lt hH2.1.lt)), hH2.2.2.own hb3⟩
  refine hK.out _ _ hH3 ?_
  clear hK K hb3 
  try simp only [Act.put, List.setIfInBounds_toArray, List.set_cons_zero, List.set_cons_succ]
  refine held_one (i := 19) (by kernel_rfl) rfl rfl (fun K hK => ?_)
  go_simp
  refine Calls.mono (HA0.out _ hH3.2.2) ?_
  rintro _ v4 ⟨rfl, hb4⟩
  dsimp only
  have hH4 : DateAt v4 g (y : Int) (mo : Int) d h mi s ∧ Below g w v4 ∧ Tab v4 := ⟨hH3.1.below hb4, hH3.2.1.trans (hb4.mono (Nat.le_of_lt hH3.1.lt)), hH3.2.2.own hb4⟩
  refine hK.out _ _ hH4 ?_
  clear hK K hb4 
  try simp only [Act.put, List.setIfInBounds_toArray, List.set_cons_zero, List.set_cons_succ]
  refine held_take 20 (some 23) (.int .i64 (ln : Nat)) rfl rfl (by kernel_rfl) (by kernel_rfl) (by kernel_rfl) (fun _ _ _ h => h) rfl (fun w' hS => ?_) hH4 ?_
  · clear hS; go_simp
  try simp only [Act.put, List.setIfInBounds_toArray, List.set_cons_zero, List.set_cons_succ]
  refine held_one (i := 21) (by kernel_rfl) rfl rfl (fun K hK => ?_)
  go_simp
  refine Calls.mono (HW2.out _) ?_
  rintro _ v5 ⟨rfl, hb5⟩
  dsimp only
  have hH5 : DateAt v5 g (y : Int) (mo : Int) d h mi s ∧ Below g w v5 ∧ Tab v5 := by rw [hb5]; exact hH4
  refine hK.out _ _ hH5 ?_
  clear hK K hb5 
  try simp only [Act.put, List.setIfInBounds_toArray, List.set_cons_zero, List.set_cons_succ]
  refine held_take 22 (some 25) (.bool true) rfl rfl (by kernel_rfl) (by kernel_rfl) (by kernel_rfl) (fun _ _ _ h => h) rfl (fun w' hS => ?_) hH5 ?_
  · clear hS; go_simp
  try simp only [Act.put, List.setIfInBounds_toArray, List.set_cons_zero, List.set_cons_succ]
  refine held_take 23 (some 26) (.bool true) rfl rfl (by kernel_rfl) (by kernel_rfl) (by kernel_rfl) (fun _ _ _ h => h) rfl (fun w' hS => ?_) hH5 ?_
  · clear hS; go_simp
  try simp only [Act.put, List.setIfInBounds_toArray, List.set_cons_zero, List.set_cons_succ]
  refine held_take 24 (some 27) (.pointer (some ⟨g, 3, none⟩)) rfl rfl (by kernel_rfl) (by kernel_rfl) (by kernel_rfl) (fun _ _ _ h => h) rfl (fun w' hS => ?_) hH5 ?_
  · clear hS; go_simp
  try simp only [Act.put, List.setIfInBounds_toArray, List.set_cons_zero, List.set_cons_succ]
  refine held_take 25 (some 28) (.int .i64 h) rfl rfl (by kernel_rfl) (by kernel_rfl) (by kernel_rfl) (fun _ _ _ h => h) rfl (fun w' hS => ?_) hH5 ?_
  · have hc := hS.1.cells.2.2.2.1; clear hS; go_simp
  try simp only [Act.put, List.setIfInBounds_toArray, List.set_cons_zero, List.set_cons_succ]
  refine held_one (i := 26) (by kernel_rfl) rfl rfl (fun K hK => ?_)
  go_simp
  refine Calls.mono (HW3.out _) ?_
  rintro _ v6 ⟨rfl, hb6⟩
  dsimp only
  have hH6 : DateAt v6 g (y : Int) (mo : Int) d h mi s ∧ Below g w v6 ∧ Tab v6 := by rw [hb6]; exact hH5
  refine hK.out _ _ hH6 ?_
  clear hK K hb6 
  try simp only [Act.put, List.setIfInBounds_toArray, List.set_cons_zero, List.set_cons_succ]
  refine held_take 27 (some 30) (.bool false) rfl rfl (by kernel_rfl) (by kernel_rfl) (by kernel_rfl) (fun _ _ _ h => h) rfl (fun w' hS => ?_) hH6 ?_
  · clear hS; go_simp
  try simp only [Act.put, List.setIfInBounds_toArray, List.set_cons_zero, List.set_cons_succ]
  refine held_take 28 (some 31) (.bool false) rfl rfl (by kernel_rfl) (by kernel_rfl) (by kernel_rfl) (fun _ _ _ h => h) rfl (fun w' hS => ?_) hH6 ?_
  · clear hS; go_simp
  try simp only [Act.put, List.setIfInBounds_toArray, List.set_cons_zero, List.set_cons_succ]
  refine held_skip 29 (some 32) rfl rfl (by kernel_rfl) (by kernel_rfl) (by kernel_rfl) (fun _ _ _ h => h) rfl hH6 ?_
  try simp only [Act.put, List.setIfInBounds_toArray, List.set_cons_zero, List.set_cons_succ]
  refine held_skip 30 (some 33) rfl rfl (by kernel_rfl) (by kernel_rfl) (by kernel_rfl) (fun _ _ _ h => h) rfl hH6 ?_
  try simp only [Act.put, List.setIfInBounds_toArray, List.set_cons_zero, List.set_cons_succ]
  refine held_skip 31 (some 34) rfl rfl (by kernel_rfl) (by kernel_rfl) (by kernel_rfl) (fun _ _ _ h => h) rfl hH6 ?_
  try simp only [Act.put, List.setIfInBounds_toArray, List.set_cons_zero, List.set_cons_succ]
  refine held_take 32 (some 35) (.bool false) rfl rfl (by kernel_rfl) (by kernel_rfl) (by kernel_rfl) (fun _ _ _ h => h) rfl (fun w' hS => ?_) hH6 ?_
  · clear hS; go_simp
  try simp only [Act.put, List.setIfInBounds_toArray, List.set_cons_zero, List.set_cons_succ]
  refine held_take 33 (some 36) (.bool false) rfl rfl (by kernel_rfl) (by kernel_rfl) (by kernel_rfl) (fun _ _ _ h => h) rfl (fun w' hS => ?_) hH6 ?_
  · clear hS; go_simp
  try simp only [Act.put, List.setIfInBounds_toArray, List.set_cons_zero, List.set_cons_succ]
  refine held_skip 34 (some 37) rfl rfl (by kernel_rfl) (by kernel_rfl) (by kernel_rfl) (fun _ _ _ h => h) rfl hH6 ?_
  try simp only [Act.put, List.setIfInBounds_toArray, List.set_cons_zero, List.set_cons_succ]
  refine held_skip 35 (some 38) rfl rfl (by kernel_rfl) (by kernel_rfl) (by kernel_rfl) (fun _ _ _ h => h) rfl hH6 ?_
  try simp only [Act.put, List.setIfInBounds_toArray, List.set_cons_zero, List.set_cons_succ]
  refine held_skip 36 (some 39) rfl rfl (by kernel_rfl) (by kernel_rfl) (by kernel_rfl) (fun _ _ _ h => h) rfl hH6 ?_
  try simp only [Act.put, List.setIfInBounds_toArray, List.set_cons_zero, List.set_cons_succ]
  refine held_take 37 (some 40) (.bool false) rfl rfl (by kernel_rfl) (by kernel_rfl) (by kernel_rfl) (fun _ _ _ h => h) rfl (fun w' hS => ?_) hH6 ?_
  · clear hS; go_simp
  try simp only [Act.put, List.setIfInBounds_toArray, List.set_cons_zero, List.set_cons_succ]
  refine held_take 38 (some 2) (.bool false) rfl rfl (by kernel_rfl) (by kernel_rfl) (by kernel_rfl) (fun _ _ _ h => h) rfl (fun w' hS => ?_) hH6 ?_
  · clear hS; go_simp
  try simp only [Act.put, List.setIfInBounds_toArray, List.set_cons_zero, List.set_cons_succ]
  refine wpAnyH_done (by kernel_rfl) ?_ _
  have hfin := hH6.2.1
  clear hH1 hH2 hH3 hH4 hH5 hH6 hHeld
  go_wp2_with fail
  go_ret
  exact ⟨rfl, by rw [HG.out]; exact hfin⟩
set_option maxRecDepth 100000 in
set_option maxHeartbeats 16000000 in
theorem there4 (y mo ln : Nat) (d h mi s : Int) (w : World) (hT : Tab w) (hln : ln = lenN y mo) (t0 : (1 : Int) ≤ (y : Int) ∧ (y : Int) ≤ (9999 : Int)) (t1 : (1 : Int) ≤ (mo : Int) ∧ (mo : Int) ≤ (12 : Int)) (t2 : (1 : Int) ≤ (d : Int) ∧ (d : Int) ≤ ((ln : Nat) : Int)) (t3 : (0 : Int) ≤ (h : Int) ∧ (h : Int) ≤ (23 : Int)) (t4 : ¬ ((0 : Int) ≤ (mi : Int) ∧ (mi : Int) ≤ (59 : Int))) :
    Calls Tryd.prog 23 #[dateV y mo d h mi s] w fun e w' => e = .returned (.bool false) ∧ Below w.heap.size w w' := by
  obtain ⟨M, hM⟩ : ∃ M, M = mo + 1 := ⟨_, rfl⟩
  have hMi : (mo : Int) + 1 = (M : Int) := by omega
  have hMw : IntKind.i64.wrap (M : Int) = (M : Int) := by rw [IntKind.wrap_i64]; omega
  have HA1 : Hid (∀ W, Tab W → Calls Tryd.prog 30 #[dateV y mo d h mi s, .int .i64 (M : Nat)] W fun e w' => e = .returned (.int .i64 (dmk y mo : Nat)) ∧ Below W.heap.size W w') := fun W hW => by
    have := ahead_any y mo d h mi s M W hW (by omega) (by omega) (by omega)
    rw [show M - 1 = mo by omega] at this
    exact this
  have HA0 : Hid (∀ W, Tab W → Calls Tryd.prog 30 #[dateV y mo d h mi s, .int .i64 (mo : Nat)] W fun e w' => e = .returned (.int .i64 (dmk y (mo - 1) : Nat)) ∧ Below W.heap.size W w') := fun W hW => ahead_any y mo d h mi s mo W hW (by omega) (by omega) (by omega)
  have hdl : dmk y mo = dmk y (mo - 1) + ln := by
    obtain ⟨j, hj⟩ : ∃ j, mo = j + 1 := ⟨mo - 1, by omega⟩
    rw [hln, hj, dmk]
    rfl
  have hlb := (len_bound y mo).2
  rw [← hln] at hlb
  have HD : Hid (((dmk y mo : Nat) : Int) - ((dmk y (mo - 1) : Nat) : Int) = (ln : Int)) := by unfold Hid; omega
  generalize dmk y mo = r1 at *
  generalize dmk y (mo - 1) = r0 at *
  have hDi := HD.out
  have hDw : IntKind.i64.wrap (ln : Int) = (ln : Int) := by rw [IntKind.wrap_i64]; omega
  clear hln hM hdl
  have HW0 : Hid (∀ W, Calls Tryd.prog 29 #[.int .i64 y, .int .i64 1, .int .i64 9999] W fun e w' => e = .returned (.bool true) ∧ w' = W) := fun W => within_yes _ _ _ W t0.1 t0.2
  have HW1 : Hid (∀ W, Calls Tryd.prog 29 #[.int .i64 mo, .int .i64 1, .int .i64 12] W fun e w' => e = .returned (.bool true) ∧ w' = W) := fun W => within_yes _ _ _ W t1.1 t1.2
  have HW2 : Hid (∀ W, Calls Tryd.prog 29 #[.int .i64 d, .int .i64 1, .int .i64 (ln : Nat)] W fun e w' => e = .returned (.bool true) ∧ w' = W) := fun W => within_yes _ _ _ W t2.1 t2.2
  have HW3 : Hid (∀ W, Calls Tryd.prog 29 #[.int .i64 h, .int .i64 0, .int .i64 23] W fun e w' => e = .returned (.bool true) ∧ w' = W) := fun W => within_yes _ _ _ W t3.1 t3.2
  have HW4 : Hid (∀ W, Calls Tryd.prog 29 #[.int .i64 mi, .int .i64 0, .int .i64 59] W fun e w' => e = .returned (.bool false) ∧ w' = W) := fun W => within_no _ _ _ W t4
  clear t0 t1 t2 t3 t4
  have hD := DateAt.new w (y : Int) (mo : Int) d h mi s
  have hB := below_new w (.cells (dateC (y : Int) (mo : Int) d h mi s) 40)
  have hT1 := hT.own hB
  unfold dateV
  go_enter Tryd.func23, Tryd.ntmps23
  go_wp2_with fail
  unfold dateC at hD hB hT1
  generalize (w.alloc (.cells #[.int .i64 (y : Int), .int .i64 (mo : Int), .int .i64 d, .int .i64 h, .int .i64 mi, .int .i64 s] 40)) = w1 at *
  generalize hg : w.heap.size = g at *
  have HG : Hid (w.heap.size = g) := hg
  clear hg
  clear hT
  refine wp_region_held_drew (S := fun w' => DateAt w' g (y : Int) (mo : Int) d h mi s ∧ Below g w w' ∧ Tab w') (by kernel_rfl) (⟨hD.below ((Below.refl _ _).drew), hB.drew, hT1.own ((Below.refl _ _).drew)⟩) (fun hHeld => ?_)
  clear hD hB hT1
  refine held_take 0 (some 3) (.pointer (some ⟨g, 0, none⟩)) rfl rfl (by kernel_rfl) (by kernel_rfl) (by kernel_rfl) (fun _ _ _ h => h) rfl (fun w' hS => ?_) hHeld ?_
  · clear hS; go_simp
  try simp only [Act.put, List.setIfInBounds_toArray, List.set_cons_zero, List.set_cons_succ]
  refine held_take 1 (some 4) (.int .i64 (y : Nat)) rfl rfl (by kernel_rfl) (by kernel_rfl) (by kernel_rfl) (fun _ _ _ h => h) rfl (fun w' hS => ?_) hHeld ?_
  · have hc := hS.1.cells.1; clear hS; go_simp
  try simp only [Act.put, List.setIfInBounds_toArray, List.set_cons_zero, List.set_cons_succ]
  refine held_one (i := 2) (by kernel_rfl) rfl rfl (fun K hK => ?_)
  go_simp
  refine Calls.mono (HW0.out _) ?_
  rintro _ v1 ⟨rfl, hb1⟩
  dsimp only
  have hH1 : DateAt v1 g (y : Int) (mo : Int) d h mi s ∧ Below g w v1 ∧ Tab v1 := by rw [hb1]; exact hHeld
  refine hK.out _ _ hH1 ?_
  clear hK K hb1 
  try simp only [Act.put, List.setIfInBounds_toArray, List.set_cons_zero, List.set_cons_succ]
  refine held_take 3 (some 6) (.bool true) rfl rfl (by kernel_rfl) (by kernel_rfl) (by kernel_rfl) (fun _ _ _ h => h) rfl (fun w' hS => ?_) hH1 ?_
  · clear hS; go_simp
  try simp only [Act.put, List.setIfInBounds_toArray, List.set_cons_zero, List.set_cons_succ]
  refine held_take 4 (some 7) (.pointer (some ⟨g, 1, none⟩)) rfl rfl (by kernel_rfl) (by kernel_rfl) (by kernel_rfl) (fun _ _ _ h => h) rfl (fun w' hS => ?_) hH1 ?_
  · clear hS; go_simp
  try simp only [Act.put, List.setIfInBounds_toArray, List.set_cons_zero, List.set_cons_succ]
  refine held_take 5 (some 8) (.int .i64 (mo : Nat)) rfl rfl (by kernel_rfl) (by kernel_rfl) (by kernel_rfl) (fun _ _ _ h => h) rfl (fun w' hS => ?_) hH1 ?_
  · have hc := hS.1.cells.2.1; clear hS; go_simp
  try simp only [Act.put, List.setIfInBounds_toArray, List.set_cons_zero, List.set_cons_succ]
  refine held_one (i := 6) (by kernel_rfl) rfl rfl (fun K hK => ?_)
  go_simp
  refine Calls.mono (HW1.out _) ?_
  rintro _ v2 ⟨rfl, hb2⟩
  dsimp only
  have hH2 : DateAt v2 g (y : Int) (mo : Int) d h mi s ∧ Below g w v2 ∧ Tab v2 := by rw [hb2]; exact hH1
  refine hK.out _ _ hH2 ?_
  clear hK K hb2 
  try simp only [Act.put, List.setIfInBounds_toArray, List.set_cons_zero, List.set_cons_succ]
  refine held_take 7 (some 10) (.bool true) rfl rfl (by kernel_rfl) (by kernel_rfl) (by kernel_rfl) (fun _ _ _ h => h) rfl (fun w' hS => ?_) hH2 ?_
  · clear hS; go_simp
  try simp only [Act.put, List.setIfInBounds_toArray, List.set_cons_zero, List.set_cons_succ]
  refine held_take 8 (some 11) (.bool true) rfl rfl (by kernel_rfl) (by kernel_rfl) (by kernel_rfl) (fun _ _ _ h => h) rfl (fun w' hS => ?_) hH2 ?_
  · clear hS; go_simp
  try simp only [Act.put, List.setIfInBounds_toArray, List.set_cons_zero, List.set_cons_succ]
  refine held_take 9 (some 12) (.pointer (some ⟨g, 2, none⟩)) rfl rfl (by kernel_rfl) (by kernel_rfl) (by kernel_rfl) (fun _ _ _ h => h) rfl (fun w' hS => ?_) hH2 ?_
  · clear hS; go_simp
  try simp only [Act.put, List.setIfInBounds_toArray, List.set_cons_zero, List.set_cons_succ]
  refine held_take 10 (some 13) (.int .i64 d) rfl rfl (by kernel_rfl) (by kernel_rfl) (by kernel_rfl) (fun _ _ _ h => h) rfl (fun w' hS => ?_) hH2 ?_
  · have hc := hS.1.cells.2.2.1; clear hS; go_simp
  try simp only [Act.put, List.setIfInBounds_toArray, List.set_cons_zero, List.set_cons_succ]
  refine held_take 11 (some 14) (dateV (y : Int) (mo : Int) d h mi s) rfl rfl (by kernel_rfl) (by kernel_rfl) (by kernel_rfl) (fun _ _ _ h => h) rfl (fun w' hS => ?_) hH2 ?_
  · exact held_yield (S := fun x => DateAt x g (y : Int) (mo : Int) d h mi s ∧ Below g w x ∧ Tab x) 40 (.tmp 1) rfl ⟨g, 0, none⟩ rfl _ (fun x k => k.1.load) w' hS
  try simp only [Act.put, List.setIfInBounds_toArray, List.set_cons_zero, List.set_cons_succ]
  refine held_take 12 (some 15) (.pointer (some ⟨g, 1, none⟩)) rfl rfl (by kernel_rfl) (by kernel_rfl) (by kernel_rfl) (fun _ _ _ h => h) rfl (fun w' hS => ?_) hH2 ?_
  · clear hS; go_simp
  try simp only [Act.put, List.setIfInBounds_toArray, List.set_cons_zero, List.set_cons_succ]
  refine held_take 13 (some 16) (.int .i64 (mo : Nat)) rfl rfl (by kernel_rfl) (by kernel_rfl) (by kernel_rfl) (fun _ _ _ h => h) rfl (fun w' hS => ?_) hH2 ?_
  · have hc := hS.1.cells.2.1; clear hS; go_simp
  try simp only [Act.put, List.setIfInBounds_toArray, List.set_cons_zero, List.set_cons_succ]
  refine held_take 14 (some 17) (.int .i64 (M : Nat)) rfl rfl (by kernel_rfl) (by kernel_rfl) (by kernel_rfl) (fun _ _ _ h => h) rfl (fun w' hS => ?_) hH2 ?_
  · clear hS; go_simp
  try simp only [Act.put, List.setIfInBounds_toArray, List.set_cons_zero, List.set_cons_succ]
  refine held_take 16 (some 19) (dateV (y : Int) (mo : Int) d h mi s) rfl rfl (by kernel_rfl) (by kernel_rfl) (by kernel_rfl) (fun _ _ _ h => h) rfl (fun w' hS => ?_) hH2 ?_
  · exact held_yield (S := fun x => DateAt x g (y : Int) (mo : Int) d h mi s ∧ Below g w x ∧ Tab x) 40 (.tmp 1) rfl ⟨g, 0, none⟩ rfl _ (fun x k => k.1.load) w' hS
  try simp only [Act.put, List.setIfInBounds_toArray, List.set_cons_zero, List.set_cons_succ]
  refine held_take 17 (some 20) (.pointer (some ⟨g, 1, none⟩)) rfl rfl (by kernel_rfl) (by kernel_rfl) (by kernel_rfl) (fun _ _ _ h => h) rfl (fun w' hS => ?_) hH2 ?_
  · clear hS; go_simp
  try simp only [Act.put, List.setIfInBounds_toArray, List.set_cons_zero, List.set_cons_succ]
  refine held_take 18 (some 21) (.int .i64 (mo : Nat)) rfl rfl (by kernel_rfl) (by kernel_rfl) (by kernel_rfl) (fun _ _ _ h => h) rfl (fun w' hS => ?_) hH2 ?_
  · have hc := hS.1.cells.2.1; clear hS; go_simp
  try simp only [Act.put, List.setIfInBounds_toArray, List.set_cons_zero, List.set_cons_succ]
  refine held_one (i := 15) (by kernel_rfl) rfl rfl (fun K hK => ?_)
  go_simp
  refine Calls.mono (HA1.out _ hH2.2.2) ?_
  rintro _ v3 ⟨rfl, hb3⟩
  dsimp only
  have hH3 : DateAt v3 g (y : Int) (mo : Int) d h mi s ∧ Below g w v3 ∧ Tab v3 := ⟨hH2.1.below hb3, hH2.2.1.trans (hb3.mono (Nat.le_of_lt hH2.1.lt)), hH2.2.2.own hb3⟩
  refine hK.out _ _ hH3 ?_
  clear hK K hb3 
  try simp only [Act.put, List.setIfInBounds_toArray, List.set_cons_zero, List.set_cons_succ]
  refine held_one (i := 19) (by kernel_rfl) rfl rfl (fun K hK => ?_)
  go_simp
  refine Calls.mono (HA0.out _ hH3.2.2) ?_
  rintro _ v4 ⟨rfl, hb4⟩
  dsimp only
  have hH4 : DateAt v4 g (y : Int) (mo : Int) d h mi s ∧ Below g w v4 ∧ Tab v4 := ⟨hH3.1.below hb4, hH3.2.1.trans (hb4.mono (Nat.le_of_lt hH3.1.lt)), hH3.2.2.own hb4⟩
  refine hK.out _ _ hH4 ?_
  clear hK K hb4 
  try simp only [Act.put, List.setIfInBounds_toArray, List.set_cons_zero, List.set_cons_succ]
  refine held_take 20 (some 23) (.int .i64 (ln : Nat)) rfl rfl (by kernel_rfl) (by kernel_rfl) (by kernel_rfl) (fun _ _ _ h => h) rfl (fun w' hS => ?_) hH4 ?_
  · clear hS; go_simp
  try simp only [Act.put, List.setIfInBounds_toArray, List.set_cons_zero, List.set_cons_succ]
  refine held_one (i := 21) (by kernel_rfl) rfl rfl (fun K hK => ?_)
  go_simp
  refine Calls.mono (HW2.out _) ?_
  rintro _ v5 ⟨rfl, hb5⟩
  dsimp only
  have hH5 : DateAt v5 g (y : Int) (mo : Int) d h mi s ∧ Below g w v5 ∧ Tab v5 := by rw [hb5]; exact hH4
  refine hK.out _ _ hH5 ?_
  clear hK K hb5 
  try simp only [Act.put, List.setIfInBounds_toArray, List.set_cons_zero, List.set_cons_succ]
  refine held_take 22 (some 25) (.bool true) rfl rfl (by kernel_rfl) (by kernel_rfl) (by kernel_rfl) (fun _ _ _ h => h) rfl (fun w' hS => ?_) hH5 ?_
  · clear hS; go_simp
  try simp only [Act.put, List.setIfInBounds_toArray, List.set_cons_zero, List.set_cons_succ]
  refine held_take 23 (some 26) (.bool true) rfl rfl (by kernel_rfl) (by kernel_rfl) (by kernel_rfl) (fun _ _ _ h => h) rfl (fun w' hS => ?_) hH5 ?_
  · clear hS; go_simp
  try simp only [Act.put, List.setIfInBounds_toArray, List.set_cons_zero, List.set_cons_succ]
  refine held_take 24 (some 27) (.pointer (some ⟨g, 3, none⟩)) rfl rfl (by kernel_rfl) (by kernel_rfl) (by kernel_rfl) (fun _ _ _ h => h) rfl (fun w' hS => ?_) hH5 ?_
  · clear hS; go_simp
  try simp only [Act.put, List.setIfInBounds_toArray, List.set_cons_zero, List.set_cons_succ]
  refine held_take 25 (some 28) (.int .i64 h) rfl rfl (by kernel_rfl) (by kernel_rfl) (by kernel_rfl) (fun _ _ _ h => h) rfl (fun w' hS => ?_) hH5 ?_
  · have hc := hS.1.cells.2.2.2.1; clear hS; go_simp
  try simp only [Act.put, List.setIfInBounds_toArray, List.set_cons_zero, List.set_cons_succ]
  refine held_one (i := 26) (by kernel_rfl) rfl rfl (fun K hK => ?_)
  go_simp
  refine Calls.mono (HW3.out _) ?_
  rintro _ v6 ⟨rfl, hb6⟩
  dsimp only
  have hH6 : DateAt v6 g (y : Int) (mo : Int) d h mi s ∧ Below g w v6 ∧ Tab v6 := by rw [hb6]; exact hH5
  refine hK.out _ _ hH6 ?_
  clear hK K hb6 
  try simp only [Act.put, List.setIfInBounds_toArray, List.set_cons_zero, List.set_cons_succ]
  refine held_take 27 (some 30) (.bool true) rfl rfl (by kernel_rfl) (by kernel_rfl) (by kernel_rfl) (fun _ _ _ h => h) rfl (fun w' hS => ?_) hH6 ?_
  · clear hS; go_simp
  try simp only [Act.put, List.setIfInBounds_toArray, List.set_cons_zero, List.set_cons_succ]
  refine held_take 28 (some 31) (.bool true) rfl rfl (by kernel_rfl) (by kernel_rfl) (by kernel_rfl) (fun _ _ _ h => h) rfl (fun w' hS => ?_) hH6 ?_
  · clear hS; go_simp
  try simp only [Act.put, List.setIfInBounds_toArray, List.set_cons_zero, List.set_cons_succ]
  refine held_take 29 (some 32) (.pointer (some ⟨g, 4, none⟩)) rfl rfl (by kernel_rfl) (by kernel_rfl) (by kernel_rfl) (fun _ _ _ h => h) rfl (fun w' hS => ?_) hH6 ?_
  · clear hS; go_simp
  try simp only [Act.put, List.setIfInBounds_toArray, List.set_cons_zero, List.set_cons_succ]
  refine held_take 30 (some 33) (.int .i64 mi) rfl rfl (by kernel_rfl) (by kernel_rfl) (by kernel_rfl) (fun _ _ _ h => h) rfl (fun w' hS => ?_) hH6 ?_
  · have hc := hS.1.cells.2.2.2.2.1; clear hS; go_simp
  try simp only [Act.put, List.setIfInBounds_toArray, List.set_cons_zero, List.set_cons_succ]
  refine held_one (i := 31) (by kernel_rfl) rfl rfl (fun K hK => ?_)
  go_simp
  refine Calls.mono (HW4.out _) ?_
  rintro _ v7 ⟨rfl, hb7⟩
  dsimp only
  have hH7 : DateAt v7 g (y : Int) (mo : Int) d h mi s ∧ Below g w v7 ∧ Tab v7 := by rw [hb7]; exact hH6
  refine hK.out _ _ hH7 ?_
  clear hK K hb7 
  try simp only [Act.put, List.setIfInBounds_toArray, List.set_cons_zero, List.set_cons_succ]
  refine held_take 32 (some 35) (.bool false) rfl rfl (by kernel_rfl) (by kernel_rfl) (by kernel_rfl) (fun _ _ _ h => h) rfl (fun w' hS => ?_) hH7 ?_
  · clear hS; go_simp
  try simp only [Act.put, List.setIfInBounds_toArray, List.set_cons_zero, List.set_cons_succ]
  refine held_take 33 (some 36) (.bool false) rfl rfl (by kernel_rfl) (by kernel_rfl) (by kernel_rfl) (fun _ _ _ h => h) rfl (fun w' hS => ?_) hH7 ?_
  · clear hS; go_simp
  try simp only [Act.put, List.setIfInBounds_toArray, List.set_cons_zero, List.set_cons_succ]
  refine held_skip 34 (some 37) rfl rfl (by kernel_rfl) (by kernel_rfl) (by kernel_rfl) (fun _ _ _ h => h) rfl hH7 ?_
  try simp only [Act.put, List.setIfInBounds_toArray, List.set_cons_zero, List.set_cons_succ]
  refine held_skip 35 (some 38) rfl rfl (by kernel_rfl) (by kernel_rfl) (by kernel_rfl) (fun _ _ _ h => h) rfl hH7 ?_
  try simp only [Act.put, List.setIfInBounds_toArray, List.set_cons_zero, List.set_cons_succ]
  refine held_skip 36 (some 39) rfl rfl (by kernel_rfl) (by kernel_rfl) (by kernel_rfl) (fun _ _ _ h => h) rfl hH7 ?_
  try simp only [Act.put, List.setIfInBounds_toArray, List.set_cons_zero, List.set_cons_succ]
  refine held_take 37 (some 40) (.bool false) rfl rfl (by kernel_rfl) (by kernel_rfl) (by kernel_rfl) (fun _ _ _ h => h) rfl (fun w' hS => ?_) hH7 ?_
  · clear hS; go_simp
  try simp only [Act.put, List.setIfInBounds_toArray, List.set_cons_zero, List.set_cons_succ]
  refine held_take 38 (some 2) (.bool false) rfl rfl (by kernel_rfl) (by kernel_rfl) (by kernel_rfl) (fun _ _ _ h => h) rfl (fun w' hS => ?_) hH7 ?_
  · clear hS; go_simp
  try simp only [Act.put, List.setIfInBounds_toArray, List.set_cons_zero, List.set_cons_succ]
  refine wpAnyH_done (by kernel_rfl) ?_ _
  have hfin := hH7.2.1
  clear hH1 hH2 hH3 hH4 hH5 hH6 hH7 hHeld
  go_wp2_with fail
  go_ret
  exact ⟨rfl, by rw [HG.out]; exact hfin⟩
set_option maxRecDepth 100000 in
set_option maxHeartbeats 16000000 in
theorem there5 (y mo ln : Nat) (d h mi s : Int) (w : World) (hT : Tab w) (hln : ln = lenN y mo) (t0 : (1 : Int) ≤ (y : Int) ∧ (y : Int) ≤ (9999 : Int)) (t1 : (1 : Int) ≤ (mo : Int) ∧ (mo : Int) ≤ (12 : Int)) (t2 : (1 : Int) ≤ (d : Int) ∧ (d : Int) ≤ ((ln : Nat) : Int)) (t3 : (0 : Int) ≤ (h : Int) ∧ (h : Int) ≤ (23 : Int)) (t4 : (0 : Int) ≤ (mi : Int) ∧ (mi : Int) ≤ (59 : Int)) (t5 : ¬ ((0 : Int) ≤ (s : Int) ∧ (s : Int) ≤ (59 : Int))) :
    Calls Tryd.prog 23 #[dateV y mo d h mi s] w fun e w' => e = .returned (.bool false) ∧ Below w.heap.size w w' := by
  obtain ⟨M, hM⟩ : ∃ M, M = mo + 1 := ⟨_, rfl⟩
  have hMi : (mo : Int) + 1 = (M : Int) := by omega
  have hMw : IntKind.i64.wrap (M : Int) = (M : Int) := by rw [IntKind.wrap_i64]; omega
  have HA1 : Hid (∀ W, Tab W → Calls Tryd.prog 30 #[dateV y mo d h mi s, .int .i64 (M : Nat)] W fun e w' => e = .returned (.int .i64 (dmk y mo : Nat)) ∧ Below W.heap.size W w') := fun W hW => by
    have := ahead_any y mo d h mi s M W hW (by omega) (by omega) (by omega)
    rw [show M - 1 = mo by omega] at this
    exact this
  have HA0 : Hid (∀ W, Tab W → Calls Tryd.prog 30 #[dateV y mo d h mi s, .int .i64 (mo : Nat)] W fun e w' => e = .returned (.int .i64 (dmk y (mo - 1) : Nat)) ∧ Below W.heap.size W w') := fun W hW => ahead_any y mo d h mi s mo W hW (by omega) (by omega) (by omega)
  have hdl : dmk y mo = dmk y (mo - 1) + ln := by
    obtain ⟨j, hj⟩ : ∃ j, mo = j + 1 := ⟨mo - 1, by omega⟩
    rw [hln, hj, dmk]
    rfl
  have hlb := (len_bound y mo).2
  rw [← hln] at hlb
  have HD : Hid (((dmk y mo : Nat) : Int) - ((dmk y (mo - 1) : Nat) : Int) = (ln : Int)) := by unfold Hid; omega
  generalize dmk y mo = r1 at *
  generalize dmk y (mo - 1) = r0 at *
  have hDi := HD.out
  have hDw : IntKind.i64.wrap (ln : Int) = (ln : Int) := by rw [IntKind.wrap_i64]; omega
  clear hln hM hdl
  have HW0 : Hid (∀ W, Calls Tryd.prog 29 #[.int .i64 y, .int .i64 1, .int .i64 9999] W fun e w' => e = .returned (.bool true) ∧ w' = W) := fun W => within_yes _ _ _ W t0.1 t0.2
  have HW1 : Hid (∀ W, Calls Tryd.prog 29 #[.int .i64 mo, .int .i64 1, .int .i64 12] W fun e w' => e = .returned (.bool true) ∧ w' = W) := fun W => within_yes _ _ _ W t1.1 t1.2
  have HW2 : Hid (∀ W, Calls Tryd.prog 29 #[.int .i64 d, .int .i64 1, .int .i64 (ln : Nat)] W fun e w' => e = .returned (.bool true) ∧ w' = W) := fun W => within_yes _ _ _ W t2.1 t2.2
  have HW3 : Hid (∀ W, Calls Tryd.prog 29 #[.int .i64 h, .int .i64 0, .int .i64 23] W fun e w' => e = .returned (.bool true) ∧ w' = W) := fun W => within_yes _ _ _ W t3.1 t3.2
  have HW4 : Hid (∀ W, Calls Tryd.prog 29 #[.int .i64 mi, .int .i64 0, .int .i64 59] W fun e w' => e = .returned (.bool true) ∧ w' = W) := fun W => within_yes _ _ _ W t4.1 t4.2
  have HW5 : Hid (∀ W, Calls Tryd.prog 29 #[.int .i64 s, .int .i64 0, .int .i64 59] W fun e w' => e = .returned (.bool false) ∧ w' = W) := fun W => within_no _ _ _ W t5
  clear t0 t1 t2 t3 t4 t5
  have hD := DateAt.new w (y : Int) (mo : Int) d h mi s
  have hB := below_new w (.cells (dateC (y : Int) (mo : Int) d h mi s) 40)
  have hT1 := hT.own hB
  unfold dateV
  go_enter Tryd.func23, Tryd.ntmps23
  go_wp2_with fail
  unfold dateC at hD hB hT1
  generalize (w.alloc (.cells #[.int .i64 (y : Int), .int .i64 (mo : Int), .int .i64 d, .int .i64 h, .int .i64 mi, .int .i64 s] 40)) = w1 at *
  generalize hg : w.heap.size = g at *
  have HG : Hid (w.heap.size = g) := hg
  clear hg
  clear hT
  refine wp_region_held_drew (S := fun w' => DateAt w' g (y : Int) (mo : Int) d h mi s ∧ Below g w w' ∧ Tab w') (by kernel_rfl) (⟨hD.below ((Below.refl _ _).drew), hB.drew, hT1.own ((Below.refl _ _).drew)⟩) (fun hHeld => ?_)
  clear hD hB hT1
  refine held_take 0 (some 3) (.pointer (some ⟨g, 0, none⟩)) rfl rfl (by kernel_rfl) (by kernel_rfl) (by kernel_rfl) (fun _ _ _ h => h) rfl (fun w' hS => ?_) hHeld ?_
  · clear hS; go_simp
  try simp only [Act.put, List.setIfInBounds_toArray, List.set_cons_zero, List.set_cons_succ]
  refine held_take 1 (some 4) (.int .i64 (y : Nat)) rfl rfl (by kernel_rfl) (by kernel_rfl) (by kernel_rfl) (fun _ _ _ h => h) rfl (fun w' hS => ?_) hHeld ?_
  · have hc := hS.1.cells.1; clear hS; go_simp
  try simp only [Act.put, List.setIfInBounds_toArray, List.set_cons_zero, List.set_cons_succ]
  refine held_one (i := 2) (by kernel_rfl) rfl rfl (fun K hK => ?_)
  go_simp
  refine Calls.mono (HW0.out _) ?_
  rintro _ v1 ⟨rfl, hb1⟩
  dsimp only
  have hH1 : DateAt v1 g (y : Int) (mo : Int) d h mi s ∧ Below g w v1 ∧ Tab v1 := by rw [hb1]; exact hHeld
  refine hK.out _ _ hH1 ?_
  clear hK K hb1 
  try simp only [Act.put, List.setIfInBounds_toArray, List.set_cons_zero, List.set_cons_succ]
  refine held_take 3 (some 6) (.bool true) rfl rfl (by kernel_rfl) (by kernel_rfl) (by kernel_rfl) (fun _ _ _ h => h) rfl (fun w' hS => ?_) hH1 ?_
  · clear hS; go_simp
  try simp only [Act.put, List.setIfInBounds_toArray, List.set_cons_zero, List.set_cons_succ]
  refine held_take 4 (some 7) (.pointer (some ⟨g, 1, none⟩)) rfl rfl (by kernel_rfl) (by kernel_rfl) (by kernel_rfl) (fun _ _ _ h => h) rfl (fun w' hS => ?_) hH1 ?_
  · clear hS; go_simp
  try simp only [Act.put, List.setIfInBounds_toArray, List.set_cons_zero, List.set_cons_succ]
  refine held_take 5 (some 8) (.int .i64 (mo : Nat)) rfl rfl (by kernel_rfl) (by kernel_rfl) (by kernel_rfl) (fun _ _ _ h => h) rfl (fun w' hS => ?_) hH1 ?_
  · have hc := hS.1.cells.2.1; clear hS; go_simp
  try simp only [Act.put, List.setIfInBounds_toArray, List.set_cons_zero, List.set_cons_succ]
  refine held_one (i := 6) (by kernel_rfl) rfl rfl (fun K hK => ?_)
  go_simp
  refine Calls.mono (HW1.out _) ?_
  rintro _ v2 ⟨rfl, hb2⟩
  dsimp only
  have hH2 : DateAt v2 g (y : Int) (mo : Int) d h mi s ∧ Below g w v2 ∧ Tab v2 := by rw [hb2]; exact hH1
  refine hK.out _ _ hH2 ?_
  clear hK K hb2 
  try simp only [Act.put, List.setIfInBounds_toArray, List.set_cons_zero, List.set_cons_succ]
  refine held_take 7 (some 10) (.bool true) rfl rfl (by kernel_rfl) (by kernel_rfl) (by kernel_rfl) (fun _ _ _ h => h) rfl (fun w' hS => ?_) hH2 ?_
  · clear hS; go_simp
  try simp only [Act.put, List.setIfInBounds_toArray, List.set_cons_zero, List.set_cons_succ]
  refine held_take 8 (some 11) (.bool true) rfl rfl (by kernel_rfl) (by kernel_rfl) (by kernel_rfl) (fun _ _ _ h => h) rfl (fun w' hS => ?_) hH2 ?_
  · clear hS; go_simp
  try simp only [Act.put, List.setIfInBounds_toArray, List.set_cons_zero, List.set_cons_succ]
  refine held_take 9 (some 12) (.pointer (some ⟨g, 2, none⟩)) rfl rfl (by kernel_rfl) (by kernel_rfl) (by kernel_rfl) (fun _ _ _ h => h) rfl (fun w' hS => ?_) hH2 ?_
  · clear hS; go_simp
  try simp only [Act.put, List.setIfInBounds_toArray, List.set_cons_zero, List.set_cons_succ]
  refine held_take 10 (some 13) (.int .i64 d) rfl rfl (by kernel_rfl) (by kernel_rfl) (by kernel_rfl) (fun _ _ _ h => h) rfl (fun w' hS => ?_) hH2 ?_
  · have hc := hS.1.cells.2.2.1; clear hS; go_simp
  try simp only [Act.put, List.setIfInBounds_toArray, List.set_cons_zero, List.set_cons_succ]
  refine held_take 11 (some 14) (dateV (y : Int) (mo : Int) d h mi s) rfl rfl (by kernel_rfl) (by kernel_rfl) (by kernel_rfl) (fun _ _ _ h => h) rfl (fun w' hS => ?_) hH2 ?_
  · exact held_yield (S := fun x => DateAt x g (y : Int) (mo : Int) d h mi s ∧ Below g w x ∧ Tab x) 40 (.tmp 1) rfl ⟨g, 0, none⟩ rfl _ (fun x k => k.1.load) w' hS
  try simp only [Act.put, List.setIfInBounds_toArray, List.set_cons_zero, List.set_cons_succ]
  refine held_take 12 (some 15) (.pointer (some ⟨g, 1, none⟩)) rfl rfl (by kernel_rfl) (by kernel_rfl) (by kernel_rfl) (fun _ _ _ h => h) rfl (fun w' hS => ?_) hH2 ?_
  · clear hS; go_simp
  try simp only [Act.put, List.setIfInBounds_toArray, List.set_cons_zero, List.set_cons_succ]
  refine held_take 13 (some 16) (.int .i64 (mo : Nat)) rfl rfl (by kernel_rfl) (by kernel_rfl) (by kernel_rfl) (fun _ _ _ h => h) rfl (fun w' hS => ?_) hH2 ?_
  · have hc := hS.1.cells.2.1; clear hS; go_simp
  try simp only [Act.put, List.setIfInBounds_toArray, List.set_cons_zero, List.set_cons_succ]
  refine held_take 14 (some 17) (.int .i64 (M : Nat)) rfl rfl (by kernel_rfl) (by kernel_rfl) (by kernel_rfl) (fun _ _ _ h => h) rfl (fun w' hS => ?_) hH2 ?_
  · clear hS; go_simp
  try simp only [Act.put, List.setIfInBounds_toArray, List.set_cons_zero, List.set_cons_succ]
  refine held_take 16 (some 19) (dateV (y : Int) (mo : Int) d h mi s) rfl rfl (by kernel_rfl) (by kernel_rfl) (by kernel_rfl) (fun _ _ _ h => h) rfl (fun w' hS => ?_) hH2 ?_
  · exact held_yield (S := fun x => DateAt x g (y : Int) (mo : Int) d h mi s ∧ Below g w x ∧ Tab x) 40 (.tmp 1) rfl ⟨g, 0, none⟩ rfl _ (fun x k => k.1.load) w' hS
  try simp only [Act.put, List.setIfInBounds_toArray, List.set_cons_zero, List.set_cons_succ]
  refine held_take 17 (some 20) (.pointer (some ⟨g, 1, none⟩)) rfl rfl (by kernel_rfl) (by kernel_rfl) (by kernel_rfl) (fun _ _ _ h => h) rfl (fun w' hS => ?_) hH2 ?_
  · clear hS; go_simp
  try simp only [Act.put, List.setIfInBounds_toArray, List.set_cons_zero, List.set_cons_succ]
  refine held_take 18 (some 21) (.int .i64 (mo : Nat)) rfl rfl (by kernel_rfl) (by kernel_rfl) (by kernel_rfl) (fun _ _ _ h => h) rfl (fun w' hS => ?_) hH2 ?_
  · have hc := hS.1.cells.2.1; clear hS; go_simp
  try simp only [Act.put, List.setIfInBounds_toArray, List.set_cons_zero, List.set_cons_succ]
  refine held_one (i := 15) (by kernel_rfl) rfl rfl (fun K hK => ?_)
  go_simp
  refine Calls.mono (HA1.out _ hH2.2.2) ?_
  rintro _ v3 ⟨rfl, hb3⟩
  dsimp only
  have hH3 : DateAt v3 g (y : Int) (mo : Int) d h mi s ∧ Below g w v3 ∧ Tab v3 := ⟨hH2.1.below hb3, hH2.2.1.trans (hb3.mono (Nat.le_of_lt hH2.1.lt)), hH2.2.2.own hb3⟩
  refine hK.out _ _ hH3 ?_
  clear hK K hb3 
  try simp only [Act.put, List.setIfInBounds_toArray, List.set_cons_zero, List.set_cons_succ]
  refine held_one (i := 19) (by kernel_rfl) rfl rfl (fun K hK => ?_)
  go_simp
  refine Calls.mono (HA0.out _ hH3.2.2) ?_
  rintro _ v4 ⟨rfl, hb4⟩
  dsimp only
  have hH4 : DateAt v4 g (y : Int) (mo : Int) d h mi s ∧ Below g w v4 ∧ Tab v4 := ⟨hH3.1.below hb4, hH3.2.1.trans (hb4.mono (Nat.le_of_lt hH3.1.lt)), hH3.2.2.own hb4⟩
  refine hK.out _ _ hH4 ?_
  clear hK K hb4 
  try simp only [Act.put, List.setIfInBounds_toArray, List.set_cons_zero, List.set_cons_succ]
  refine held_take 20 (some 23) (.int .i64 (ln : Nat)) rfl rfl (by kernel_rfl) (by kernel_rfl) (by kernel_rfl) (fun _ _ _ h => h) rfl (fun w' hS => ?_) hH4 ?_
  · clear hS; go_simp
  try simp only [Act.put, List.setIfInBounds_toArray, List.set_cons_zero, List.set_cons_succ]
  refine held_one (i := 21) (by kernel_rfl) rfl rfl (fun K hK => ?_)
  go_simp
  refine Calls.mono (HW2.out _) ?_
  rintro _ v5 ⟨rfl, hb5⟩
  dsimp only
  have hH5 : DateAt v5 g (y : Int) (mo : Int) d h mi s ∧ Below g w v5 ∧ Tab v5 := by rw [hb5]; exact hH4
  refine hK.out _ _ hH5 ?_
  clear hK K hb5 
  try simp only [Act.put, List.setIfInBounds_toArray, List.set_cons_zero, List.set_cons_succ]
  refine held_take 22 (some 25) (.bool true) rfl rfl (by kernel_rfl) (by kernel_rfl) (by kernel_rfl) (fun _ _ _ h => h) rfl (fun w' hS => ?_) hH5 ?_
  · clear hS; go_simp
  try simp only [Act.put, List.setIfInBounds_toArray, List.set_cons_zero, List.set_cons_succ]
  refine held_take 23 (some 26) (.bool true) rfl rfl (by kernel_rfl) (by kernel_rfl) (by kernel_rfl) (fun _ _ _ h => h) rfl (fun w' hS => ?_) hH5 ?_
  · clear hS; go_simp
  try simp only [Act.put, List.setIfInBounds_toArray, List.set_cons_zero, List.set_cons_succ]
  refine held_take 24 (some 27) (.pointer (some ⟨g, 3, none⟩)) rfl rfl (by kernel_rfl) (by kernel_rfl) (by kernel_rfl) (fun _ _ _ h => h) rfl (fun w' hS => ?_) hH5 ?_
  · clear hS; go_simp
  try simp only [Act.put, List.setIfInBounds_toArray, List.set_cons_zero, List.set_cons_succ]
  refine held_take 25 (some 28) (.int .i64 h) rfl rfl (by kernel_rfl) (by kernel_rfl) (by kernel_rfl) (fun _ _ _ h => h) rfl (fun w' hS => ?_) hH5 ?_
  · have hc := hS.1.cells.2.2.2.1; clear hS; go_simp
  try simp only [Act.put, List.setIfInBounds_toArray, List.set_cons_zero, List.set_cons_succ]
  refine held_one (i := 26) (by kernel_rfl) rfl rfl (fun K hK => ?_)
  go_simp
  refine Calls.mono (HW3.out _) ?_
  rintro _ v6 ⟨rfl, hb6⟩
  dsimp only
  have hH6 : DateAt v6 g (y : Int) (mo : Int) d h mi s ∧ Below g w v6 ∧ Tab v6 := by rw [hb6]; exact hH5
  refine hK.out _ _ hH6 ?_
  clear hK K hb6 
  try simp only [Act.put, List.setIfInBounds_toArray, List.set_cons_zero, List.set_cons_succ]
  refine held_take 27 (some 30) (.bool true) rfl rfl (by kernel_rfl) (by kernel_rfl) (by kernel_rfl) (fun _ _ _ h => h) rfl (fun w' hS => ?_) hH6 ?_
  · clear hS; go_simp
  try simp only [Act.put, List.setIfInBounds_toArray, List.set_cons_zero, List.set_cons_succ]
  refine held_take 28 (some 31) (.bool true) rfl rfl (by kernel_rfl) (by kernel_rfl) (by kernel_rfl) (fun _ _ _ h => h) rfl (fun w' hS => ?_) hH6 ?_
  · clear hS; go_simp
  try simp only [Act.put, List.setIfInBounds_toArray, List.set_cons_zero, List.set_cons_succ]
  refine held_take 29 (some 32) (.pointer (some ⟨g, 4, none⟩)) rfl rfl (by kernel_rfl) (by kernel_rfl) (by kernel_rfl) (fun _ _ _ h => h) rfl (fun w' hS => ?_) hH6 ?_
  · clear hS; go_simp
  try simp only [Act.put, List.setIfInBounds_toArray, List.set_cons_zero, List.set_cons_succ]
  refine held_take 30 (some 33) (.int .i64 mi) rfl rfl (by kernel_rfl) (by kernel_rfl) (by kernel_rfl) (fun _ _ _ h => h) rfl (fun w' hS => ?_) hH6 ?_
  · have hc := hS.1.cells.2.2.2.2.1; clear hS; go_simp
  try simp only [Act.put, List.setIfInBounds_toArray, List.set_cons_zero, List.set_cons_succ]
  refine held_one (i := 31) (by kernel_rfl) rfl rfl (fun K hK => ?_)
  go_simp
  refine Calls.mono (HW4.out _) ?_
  rintro _ v7 ⟨rfl, hb7⟩
  dsimp only
  have hH7 : DateAt v7 g (y : Int) (mo : Int) d h mi s ∧ Below g w v7 ∧ Tab v7 := by rw [hb7]; exact hH6
  refine hK.out _ _ hH7 ?_
  clear hK K hb7 
  try simp only [Act.put, List.setIfInBounds_toArray, List.set_cons_zero, List.set_cons_succ]
  refine held_take 32 (some 35) (.bool true) rfl rfl (by kernel_rfl) (by kernel_rfl) (by kernel_rfl) (fun _ _ _ h => h) rfl (fun w' hS => ?_) hH7 ?_
  · clear hS; go_simp
  try simp only [Act.put, List.setIfInBounds_toArray, List.set_cons_zero, List.set_cons_succ]
  refine held_take 33 (some 36) (.bool true) rfl rfl (by kernel_rfl) (by kernel_rfl) (by kernel_rfl) (fun _ _ _ h => h) rfl (fun w' hS => ?_) hH7 ?_
  · clear hS; go_simp
  try simp only [Act.put, List.setIfInBounds_toArray, List.set_cons_zero, List.set_cons_succ]
  refine held_take 34 (some 37) (.pointer (some ⟨g, 5, none⟩)) rfl rfl (by kernel_rfl) (by kernel_rfl) (by kernel_rfl) (fun _ _ _ h => h) rfl (fun w' hS => ?_) hH7 ?_
  · clear hS; go_simp
  try simp only [Act.put, List.setIfInBounds_toArray, List.set_cons_zero, List.set_cons_succ]
  refine held_take 35 (some 38) (.int .i64 s) rfl rfl (by kernel_rfl) (by kernel_rfl) (by kernel_rfl) (fun _ _ _ h => h) rfl (fun w' hS => ?_) hH7 ?_
  · have hc := hS.1.cells.2.2.2.2.2; clear hS; go_simp
  try simp only [Act.put, List.setIfInBounds_toArray, List.set_cons_zero, List.set_cons_succ]
  refine held_one (i := 36) (by kernel_rfl) rfl rfl (fun K hK => ?_)
  go_simp
  refine Calls.mono (HW5.out _) ?_
  rintro _ v8 ⟨rfl, hb8⟩
  dsimp only
  have hH8 : DateAt v8 g (y : Int) (mo : Int) d h mi s ∧ Below g w v8 ∧ Tab v8 := by rw [hb8]; exact hH7
  refine hK.out _ _ hH8 ?_
  clear hK K hb8 
  try simp only [Act.put, List.setIfInBounds_toArray, List.set_cons_zero, List.set_cons_succ]
  refine held_take 37 (some 40) (.bool false) rfl rfl (by kernel_rfl) (by kernel_rfl) (by kernel_rfl) (fun _ _ _ h => h) rfl (fun w' hS => ?_) hH8 ?_
  · clear hS; go_simp
  try simp only [Act.put, List.setIfInBounds_toArray, List.set_cons_zero, List.set_cons_succ]
  refine held_take 38 (some 2) (.bool false) rfl rfl (by kernel_rfl) (by kernel_rfl) (by kernel_rfl) (fun _ _ _ h => h) rfl (fun w' hS => ?_) hH8 ?_
  · clear hS; go_simp
  try simp only [Act.put, List.setIfInBounds_toArray, List.set_cons_zero, List.set_cons_succ]
  refine wpAnyH_done (by kernel_rfl) ?_ _
  have hfin := hH8.2.1
  clear hH1 hH2 hH3 hH4 hH5 hH6 hH7 hH8 hHeld
  go_wp2_with fail
  go_ret
  exact ⟨rfl, by rw [HG.out]; exact hfin⟩
set_option maxRecDepth 100000 in
set_option maxHeartbeats 16000000 in
theorem there6 (y mo ln : Nat) (d h mi s : Int) (w : World) (hT : Tab w) (hln : ln = lenN y mo) (t0 : (1 : Int) ≤ (y : Int) ∧ (y : Int) ≤ (9999 : Int)) (t1 : (1 : Int) ≤ (mo : Int) ∧ (mo : Int) ≤ (12 : Int)) (t2 : (1 : Int) ≤ (d : Int) ∧ (d : Int) ≤ ((ln : Nat) : Int)) (t3 : (0 : Int) ≤ (h : Int) ∧ (h : Int) ≤ (23 : Int)) (t4 : (0 : Int) ≤ (mi : Int) ∧ (mi : Int) ≤ (59 : Int)) (t5 : (0 : Int) ≤ (s : Int) ∧ (s : Int) ≤ (59 : Int)) :
    Calls Tryd.prog 23 #[dateV y mo d h mi s] w fun e w' => e = .returned (.bool true) ∧ Below w.heap.size w w' := by
  obtain ⟨M, hM⟩ : ∃ M, M = mo + 1 := ⟨_, rfl⟩
  have hMi : (mo : Int) + 1 = (M : Int) := by omega
  have hMw : IntKind.i64.wrap (M : Int) = (M : Int) := by rw [IntKind.wrap_i64]; omega
  have HA1 : Hid (∀ W, Tab W → Calls Tryd.prog 30 #[dateV y mo d h mi s, .int .i64 (M : Nat)] W fun e w' => e = .returned (.int .i64 (dmk y mo : Nat)) ∧ Below W.heap.size W w') := fun W hW => by
    have := ahead_any y mo d h mi s M W hW (by omega) (by omega) (by omega)
    rw [show M - 1 = mo by omega] at this
    exact this
  have HA0 : Hid (∀ W, Tab W → Calls Tryd.prog 30 #[dateV y mo d h mi s, .int .i64 (mo : Nat)] W fun e w' => e = .returned (.int .i64 (dmk y (mo - 1) : Nat)) ∧ Below W.heap.size W w') := fun W hW => ahead_any y mo d h mi s mo W hW (by omega) (by omega) (by omega)
  have hdl : dmk y mo = dmk y (mo - 1) + ln := by
    obtain ⟨j, hj⟩ : ∃ j, mo = j + 1 := ⟨mo - 1, by omega⟩
    rw [hln, hj, dmk]
    rfl
  have hlb := (len_bound y mo).2
  rw [← hln] at hlb
  have HD : Hid (((dmk y mo : Nat) : Int) - ((dmk y (mo - 1) : Nat) : Int) = (ln : Int)) := by unfold Hid; omega
  generalize dmk y mo = r1 at *
  generalize dmk y (mo - 1) = r0 at *
  have hDi := HD.out
  have hDw : IntKind.i64.wrap (ln : Int) = (ln : Int) := by rw [IntKind.wrap_i64]; omega
  clear hln hM hdl
  have HW0 : Hid (∀ W, Calls Tryd.prog 29 #[.int .i64 y, .int .i64 1, .int .i64 9999] W fun e w' => e = .returned (.bool true) ∧ w' = W) := fun W => within_yes _ _ _ W t0.1 t0.2
  have HW1 : Hid (∀ W, Calls Tryd.prog 29 #[.int .i64 mo, .int .i64 1, .int .i64 12] W fun e w' => e = .returned (.bool true) ∧ w' = W) := fun W => within_yes _ _ _ W t1.1 t1.2
  have HW2 : Hid (∀ W, Calls Tryd.prog 29 #[.int .i64 d, .int .i64 1, .int .i64 (ln : Nat)] W fun e w' => e = .returned (.bool true) ∧ w' = W) := fun W => within_yes _ _ _ W t2.1 t2.2
  have HW3 : Hid (∀ W, Calls Tryd.prog 29 #[.int .i64 h, .int .i64 0, .int .i64 23] W fun e w' => e = .returned (.bool true) ∧ w' = W) := fun W => within_yes _ _ _ W t3.1 t3.2
  have HW4 : Hid (∀ W, Calls Tryd.prog 29 #[.int .i64 mi, .int .i64 0, .int .i64 59] W fun e w' => e = .returned (.bool true) ∧ w' = W) := fun W => within_yes _ _ _ W t4.1 t4.2
  have HW5 : Hid (∀ W, Calls Tryd.prog 29 #[.int .i64 s, .int .i64 0, .int .i64 59] W fun e w' => e = .returned (.bool true) ∧ w' = W) := fun W => within_yes _ _ _ W t5.1 t5.2
  clear t0 t1 t2 t3 t4 t5
  have hD := DateAt.new w (y : Int) (mo : Int) d h mi s
  have hB := below_new w (.cells (dateC (y : Int) (mo : Int) d h mi s) 40)
  have hT1 := hT.own hB
  unfold dateV
  go_enter Tryd.func23, Tryd.ntmps23
  go_wp2_with fail
  unfold dateC at hD hB hT1
  generalize (w.alloc (.cells #[.int .i64 (y : Int), .int .i64 (mo : Int), .int .i64 d, .int .i64 h, .int .i64 mi, .int .i64 s] 40)) = w1 at *
  generalize hg : w.heap.size = g at *
  have HG : Hid (w.heap.size = g) := hg
  clear hg
  clear hT
  refine wp_region_held_drew (S := fun w' => DateAt w' g (y : Int) (mo : Int) d h mi s ∧ Below g w w' ∧ Tab w') (by kernel_rfl) (⟨hD.below ((Below.refl _ _).drew), hB.drew, hT1.own ((Below.refl _ _).drew)⟩) (fun hHeld => ?_)
  clear hD hB hT1
  refine held_take 0 (some 3) (.pointer (some ⟨g, 0, none⟩)) rfl rfl (by kernel_rfl) (by kernel_rfl) (by kernel_rfl) (fun _ _ _ h => h) rfl (fun w' hS => ?_) hHeld ?_
  · clear hS; go_simp
  try simp only [Act.put, List.setIfInBounds_toArray, List.set_cons_zero, List.set_cons_succ]
  refine held_take 1 (some 4) (.int .i64 (y : Nat)) rfl rfl (by kernel_rfl) (by kernel_rfl) (by kernel_rfl) (fun _ _ _ h => h) rfl (fun w' hS => ?_) hHeld ?_
  · have hc := hS.1.cells.1; clear hS; go_simp
  try simp only [Act.put, List.setIfInBounds_toArray, List.set_cons_zero, List.set_cons_succ]
  refine held_one (i := 2) (by kernel_rfl) rfl rfl (fun K hK => ?_)
  go_simp
  refine Calls.mono (HW0.out _) ?_
  rintro _ v1 ⟨rfl, hb1⟩
  dsimp only
  have hH1 : DateAt v1 g (y : Int) (mo : Int) d h mi s ∧ Below g w v1 ∧ Tab v1 := by rw [hb1]; exact hHeld
  refine hK.out _ _ hH1 ?_
  clear hK K hb1 
  try simp only [Act.put, List.setIfInBounds_toArray, List.set_cons_zero, List.set_cons_succ]
  refine held_take 3 (some 6) (.bool true) rfl rfl (by kernel_rfl) (by kernel_rfl) (by kernel_rfl) (fun _ _ _ h => h) rfl (fun w' hS => ?_) hH1 ?_
  · clear hS; go_simp
  try simp only [Act.put, List.setIfInBounds_toArray, List.set_cons_zero, List.set_cons_succ]
  refine held_take 4 (some 7) (.pointer (some ⟨g, 1, none⟩)) rfl rfl (by kernel_rfl) (by kernel_rfl) (by kernel_rfl) (fun _ _ _ h => h) rfl (fun w' hS => ?_) hH1 ?_
  · clear hS; go_simp
  try simp only [Act.put, List.setIfInBounds_toArray, List.set_cons_zero, List.set_cons_succ]
  refine held_take 5 (some 8) (.int .i64 (mo : Nat)) rfl rfl (by kernel_rfl) (by kernel_rfl) (by kernel_rfl) (fun _ _ _ h => h) rfl (fun w' hS => ?_) hH1 ?_
  · have hc := hS.1.cells.2.1; clear hS; go_simp
  try simp only [Act.put, List.setIfInBounds_toArray, List.set_cons_zero, List.set_cons_succ]
  refine held_one (i := 6) (by kernel_rfl) rfl rfl (fun K hK => ?_)
  go_simp
  refine Calls.mono (HW1.out _) ?_
  rintro _ v2 ⟨rfl, hb2⟩
  dsimp only
  have hH2 : DateAt v2 g (y : Int) (mo : Int) d h mi s ∧ Below g w v2 ∧ Tab v2 := by rw [hb2]; exact hH1
  refine hK.out _ _ hH2 ?_
  clear hK K hb2 
  try simp only [Act.put, List.setIfInBounds_toArray, List.set_cons_zero, List.set_cons_succ]
  refine held_take 7 (some 10) (.bool true) rfl rfl (by kernel_rfl) (by kernel_rfl) (by kernel_rfl) (fun _ _ _ h => h) rfl (fun w' hS => ?_) hH2 ?_
  · clear hS; go_simp
  try simp only [Act.put, List.setIfInBounds_toArray, List.set_cons_zero, List.set_cons_succ]
  refine held_take 8 (some 11) (.bool true) rfl rfl (by kernel_rfl) (by kernel_rfl) (by kernel_rfl) (fun _ _ _ h => h) rfl (fun w' hS => ?_) hH2 ?_
  · clear hS; go_simp
  try simp only [Act.put, List.setIfInBounds_toArray, List.set_cons_zero, List.set_cons_succ]
  refine held_take 9 (some 12) (.pointer (some ⟨g, 2, none⟩)) rfl rfl (by kernel_rfl) (by kernel_rfl) (by kernel_rfl) (fun _ _ _ h => h) rfl (fun w' hS => ?_) hH2 ?_
  · clear hS; go_simp
  try simp only [Act.put, List.setIfInBounds_toArray, List.set_cons_zero, List.set_cons_succ]
  refine held_take 10 (some 13) (.int .i64 d) rfl rfl (by kernel_rfl) (by kernel_rfl) (by kernel_rfl) (fun _ _ _ h => h) rfl (fun w' hS => ?_) hH2 ?_
  · have hc := hS.1.cells.2.2.1; clear hS; go_simp
  try simp only [Act.put, List.setIfInBounds_toArray, List.set_cons_zero, List.set_cons_succ]
  refine held_take 11 (some 14) (dateV (y : Int) (mo : Int) d h mi s) rfl rfl (by kernel_rfl) (by kernel_rfl) (by kernel_rfl) (fun _ _ _ h => h) rfl (fun w' hS => ?_) hH2 ?_
  · exact held_yield (S := fun x => DateAt x g (y : Int) (mo : Int) d h mi s ∧ Below g w x ∧ Tab x) 40 (.tmp 1) rfl ⟨g, 0, none⟩ rfl _ (fun x k => k.1.load) w' hS
  try simp only [Act.put, List.setIfInBounds_toArray, List.set_cons_zero, List.set_cons_succ]
  refine held_take 12 (some 15) (.pointer (some ⟨g, 1, none⟩)) rfl rfl (by kernel_rfl) (by kernel_rfl) (by kernel_rfl) (fun _ _ _ h => h) rfl (fun w' hS => ?_) hH2 ?_
  · clear hS; go_simp
  try simp only [Act.put, List.setIfInBounds_toArray, List.set_cons_zero, List.set_cons_succ]
  refine held_take 13 (some 16) (.int .i64 (mo : Nat)) rfl rfl (by kernel_rfl) (by kernel_rfl) (by kernel_rfl) (fun _ _ _ h => h) rfl (fun w' hS => ?_) hH2 ?_
  · have hc := hS.1.cells.2.1; clear hS; go_simp
  try simp only [Act.put, List.setIfInBounds_toArray, List.set_cons_zero, List.set_cons_succ]
  refine held_take 14 (some 17) (.int .i64 (M : Nat)) rfl rfl (by kernel_rfl) (by kernel_rfl) (by kernel_rfl) (fun _ _ _ h => h) rfl (fun w' hS => ?_) hH2 ?_
  · clear hS; go_simp
  try simp only [Act.put, List.setIfInBounds_toArray, List.set_cons_zero, List.set_cons_succ]
  refine held_take 16 (some 19) (dateV (y : Int) (mo : Int) d h mi s) rfl rfl (by kernel_rfl) (by kernel_rfl) (by kernel_rfl) (fun _ _ _ h => h) rfl (fun w' hS => ?_) hH2 ?_
  · exact held_yield (S := fun x => DateAt x g (y : Int) (mo : Int) d h mi s ∧ Below g w x ∧ Tab x) 40 (.tmp 1) rfl ⟨g, 0, none⟩ rfl _ (fun x k => k.1.load) w' hS
  try simp only [Act.put, List.setIfInBounds_toArray, List.set_cons_zero, List.set_cons_succ]
  refine held_take 17 (some 20) (.pointer (some ⟨g, 1, none⟩)) rfl rfl (by kernel_rfl) (by kernel_rfl) (by kernel_rfl) (fun _ _ _ h => h) rfl (fun w' hS => ?_) hH2 ?_
  · clear hS; go_simp
  try simp only [Act.put, List.setIfInBounds_toArray, List.set_cons_zero, List.set_cons_succ]
  refine held_take 18 (some 21) (.int .i64 (mo : Nat)) rfl rfl (by kernel_rfl) (by kernel_rfl) (by kernel_rfl) (fun _ _ _ h => h) rfl (fun w' hS => ?_) hH2 ?_
  · have hc := hS.1.cells.2.1; clear hS; go_simp
  try simp only [Act.put, List.setIfInBounds_toArray, List.set_cons_zero, List.set_cons_succ]
  refine held_one (i := 15) (by kernel_rfl) rfl rfl (fun K hK => ?_)
  go_simp
  refine Calls.mono (HA1.out _ hH2.2.2) ?_
  rintro _ v3 ⟨rfl, hb3⟩
  dsimp only
  have hH3 : DateAt v3 g (y : Int) (mo : Int) d h mi s ∧ Below g w v3 ∧ Tab v3 := ⟨hH2.1.below hb3, hH2.2.1.trans (hb3.mono (Nat.le_of_lt hH2.1.lt)), hH2.2.2.own hb3⟩
  refine hK.out _ _ hH3 ?_
  clear hK K hb3 
  try simp only [Act.put, List.setIfInBounds_toArray, List.set_cons_zero, List.set_cons_succ]
  refine held_one (i := 19) (by kernel_rfl) rfl rfl (fun K hK => ?_)
  go_simp
  refine Calls.mono (HA0.out _ hH3.2.2) ?_
  rintro _ v4 ⟨rfl, hb4⟩
  dsimp only
  have hH4 : DateAt v4 g (y : Int) (mo : Int) d h mi s ∧ Below g w v4 ∧ Tab v4 := ⟨hH3.1.below hb4, hH3.2.1.trans (hb4.mono (Nat.le_of_lt hH3.1.lt)), hH3.2.2.own hb4⟩
  refine hK.out _ _ hH4 ?_
  clear hK K hb4 
  try simp only [Act.put, List.setIfInBounds_toArray, List.set_cons_zero, List.set_cons_succ]
  refine held_take 20 (some 23) (.int .i64 (ln : Nat)) rfl rfl (by kernel_rfl) (by kernel_rfl) (by kernel_rfl) (fun _ _ _ h => h) rfl (fun w' hS => ?_) hH4 ?_
  · clear hS; go_simp
  try simp only [Act.put, List.setIfInBounds_toArray, List.set_cons_zero, List.set_cons_succ]
  refine held_one (i := 21) (by kernel_rfl) rfl rfl (fun K hK => ?_)
  go_simp
  refine Calls.mono (HW2.out _) ?_
  rintro _ v5 ⟨rfl, hb5⟩
  dsimp only
  have hH5 : DateAt v5 g (y : Int) (mo : Int) d h mi s ∧ Below g w v5 ∧ Tab v5 := by rw [hb5]; exact hH4
  refine hK.out _ _ hH5 ?_
  clear hK K hb5 
  try simp only [Act.put, List.setIfInBounds_toArray, List.set_cons_zero, List.set_cons_succ]
  refine held_take 22 (some 25) (.bool true) rfl rfl (by kernel_rfl) (by kernel_rfl) (by kernel_rfl) (fun _ _ _ h => h) rfl (fun w' hS => ?_) hH5 ?_
  · clear hS; go_simp
  try simp only [Act.put, List.setIfInBounds_toArray, List.set_cons_zero, List.set_cons_succ]
  refine held_take 23 (some 26) (.bool true) rfl rfl (by kernel_rfl) (by kernel_rfl) (by kernel_rfl) (fun _ _ _ h => h) rfl (fun w' hS => ?_) hH5 ?_
  · clear hS; go_simp
  try simp only [Act.put, List.setIfInBounds_toArray, List.set_cons_zero, List.set_cons_succ]
  refine held_take 24 (some 27) (.pointer (some ⟨g, 3, none⟩)) rfl rfl (by kernel_rfl) (by kernel_rfl) (by kernel_rfl) (fun _ _ _ h => h) rfl (fun w' hS => ?_) hH5 ?_
  · clear hS; go_simp
  try simp only [Act.put, List.setIfInBounds_toArray, List.set_cons_zero, List.set_cons_succ]
  refine held_take 25 (some 28) (.int .i64 h) rfl rfl (by kernel_rfl) (by kernel_rfl) (by kernel_rfl) (fun _ _ _ h => h) rfl (fun w' hS => ?_) hH5 ?_
  · have hc := hS.1.cells.2.2.2.1; clear hS; go_simp
  try simp only [Act.put, List.setIfInBounds_toArray, List.set_cons_zero, List.set_cons_succ]
  refine held_one (i := 26) (by kernel_rfl) rfl rfl (fun K hK => ?_)
  go_simp
  refine Calls.mono (HW3.out _) ?_
  rintro _ v6 ⟨rfl, hb6⟩
  dsimp only
  have hH6 : DateAt v6 g (y : Int) (mo : Int) d h mi s ∧ Below g w v6 ∧ Tab v6 := by rw [hb6]; exact hH5
  refine hK.out _ _ hH6 ?_
  clear hK K hb6 
  try simp only [Act.put, List.setIfInBounds_toArray, List.set_cons_zero, List.set_cons_succ]
  refine held_take 27 (some 30) (.bool true) rfl rfl (by kernel_rfl) (by kernel_rfl) (by kernel_rfl) (fun _ _ _ h => h) rfl (fun w' hS => ?_) hH6 ?_
  · clear hS; go_simp
  try simp only [Act.put, List.setIfInBounds_toArray, List.set_cons_zero, List.set_cons_succ]
  refine held_take 28 (some 31) (.bool true) rfl rfl (by kernel_rfl) (by kernel_rfl) (by kernel_rfl) (fun _ _ _ h => h) rfl (fun w' hS => ?_) hH6 ?_
  · clear hS; go_simp
  try simp only [Act.put, List.setIfInBounds_toArray, List.set_cons_zero, List.set_cons_succ]
  refine held_take 29 (some 32) (.pointer (some ⟨g, 4, none⟩)) rfl rfl (by kernel_rfl) (by kernel_rfl) (by kernel_rfl) (fun _ _ _ h => h) rfl (fun w' hS => ?_) hH6 ?_
  · clear hS; go_simp
  try simp only [Act.put, List.setIfInBounds_toArray, List.set_cons_zero, List.set_cons_succ]
  refine held_take 30 (some 33) (.int .i64 mi) rfl rfl (by kernel_rfl) (by kernel_rfl) (by kernel_rfl) (fun _ _ _ h => h) rfl (fun w' hS => ?_) hH6 ?_
  · have hc := hS.1.cells.2.2.2.2.1; clear hS; go_simp
  try simp only [Act.put, List.setIfInBounds_toArray, List.set_cons_zero, List.set_cons_succ]
  refine held_one (i := 31) (by kernel_rfl) rfl rfl (fun K hK => ?_)
  go_simp
  refine Calls.mono (HW4.out _) ?_
  rintro _ v7 ⟨rfl, hb7⟩
  dsimp only
  have hH7 : DateAt v7 g (y : Int) (mo : Int) d h mi s ∧ Below g w v7 ∧ Tab v7 := by rw [hb7]; exact hH6
  refine hK.out _ _ hH7 ?_
  clear hK K hb7 
  try simp only [Act.put, List.setIfInBounds_toArray, List.set_cons_zero, List.set_cons_succ]
  refine held_take 32 (some 35) (.bool true) rfl rfl (by kernel_rfl) (by kernel_rfl) (by kernel_rfl) (fun _ _ _ h => h) rfl (fun w' hS => ?_) hH7 ?_
  · clear hS; go_simp
  try simp only [Act.put, List.setIfInBounds_toArray, List.set_cons_zero, List.set_cons_succ]
  refine held_take 33 (some 36) (.bool true) rfl rfl (by kernel_rfl) (by kernel_rfl) (by kernel_rfl) (fun _ _ _ h => h) rfl (fun w' hS => ?_) hH7 ?_
  · clear hS; go_simp
  try simp only [Act.put, List.setIfInBounds_toArray, List.set_cons_zero, List.set_cons_succ]
  refine held_take 34 (some 37) (.pointer (some ⟨g, 5, none⟩)) rfl rfl (by kernel_rfl) (by kernel_rfl) (by kernel_rfl) (fun _ _ _ h => h) rfl (fun w' hS => ?_) hH7 ?_
  · clear hS; go_simp
  try simp only [Act.put, List.setIfInBounds_toArray, List.set_cons_zero, List.set_cons_succ]
  refine held_take 35 (some 38) (.int .i64 s) rfl rfl (by kernel_rfl) (by kernel_rfl) (by kernel_rfl) (fun _ _ _ h => h) rfl (fun w' hS => ?_) hH7 ?_
  · have hc := hS.1.cells.2.2.2.2.2; clear hS; go_simp
  try simp only [Act.put, List.setIfInBounds_toArray, List.set_cons_zero, List.set_cons_succ]
  refine held_one (i := 36) (by kernel_rfl) rfl rfl (fun K hK => ?_)
  go_simp
  refine Calls.mono (HW5.out _) ?_
  rintro _ v8 ⟨rfl, hb8⟩
  dsimp only
  have hH8 : DateAt v8 g (y : Int) (mo : Int) d h mi s ∧ Below g w v8 ∧ Tab v8 := by rw [hb8]; exact hH7
  refine hK.out _ _ hH8 ?_
  clear hK K hb8 
  try simp only [Act.put, List.setIfInBounds_toArray, List.set_cons_zero, List.set_cons_succ]
  refine held_take 37 (some 40) (.bool true) rfl rfl (by kernel_rfl) (by kernel_rfl) (by kernel_rfl) (fun _ _ _ h => h) rfl (fun w' hS => ?_) hH8 ?_
  · clear hS; go_simp
  try simp only [Act.put, List.setIfInBounds_toArray, List.set_cons_zero, List.set_cons_succ]
  refine held_take 38 (some 2) (.bool true) rfl rfl (by kernel_rfl) (by kernel_rfl) (by kernel_rfl) (fun _ _ _ h => h) rfl (fun w' hS => ?_) hH8 ?_
  · clear hS; go_simp
  try simp only [Act.put, List.setIfInBounds_toArray, List.set_cons_zero, List.set_cons_succ]
  refine wpAnyH_done (by kernel_rfl) ?_ _
  have hfin := hH8.2.1
  clear hH1 hH2 hH3 hH4 hH5 hH6 hH7 hH8 hHeld
  go_wp2_with fail
  go_ret
  exact ⟨rfl, by rw [HG.out]; exact hfin⟩
end Go.Proofs.YtfgdfdjoidpejabDoor
