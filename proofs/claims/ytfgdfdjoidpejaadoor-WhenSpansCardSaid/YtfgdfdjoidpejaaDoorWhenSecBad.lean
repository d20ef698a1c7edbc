/-
  The document's Seconds of a date that there is not: ErrRange.
-/
import Derived.Test.YtfgdfdjoidpejaaDoorWhenSec
namespace Go.Proofs.YtfgdfdjoidpejaaDoor
open Go.ChangeShapes Go.WideShapes Go.ChangeAt Go.RowKit
set_option linter.unusedVariables false
set_option linter.unusedSimpArgs false
set_option maxRecDepth 100000 in
set_option maxHeartbeats 4000000 in
theorem rsec_bad0 (y mo d h mi s : Int) (w : World) (t0 : y < 1) :
    Calls Tryd.prog 10 #[dateV y mo d h mi s] w fun e w' => e = .returned (.tuple #[.int .i64 0, .int .i64 4]) ∧ Below w.heap.size w w' := by
  have b0 : decide (y < 1) = true := decide_eq_true t0
  clear t0
  unfold dateV
  go_enter Tryd.func10, Tryd.ntmps10
  go_wp2
  obtain ⟨c0, c1, c2, c3, c4, c5⟩ := date_cells w y mo d h mi s
  have HB : Hid _ := below_new w (.cells #[.int .i64 y, .int .i64 mo, .int .i64 d, .int .i64 h, .int .i64 mi, .int .i64 s] 28)
  generalize (w.alloc (.cells #[.int .i64 y, .int .i64 mo, .int .i64 d, .int .i64 h, .int .i64 mi, .int .i64 s] 28)) = w1 at *
  generalize hg : w.heap.size = g at *
  have HG : Hid (w.heap.size = g) := hg
  clear hg
  go_quiet (fail)
  replace HB : Hid (Below g w (w1.drewN nq)) := HB.out.trans ⟨rfl, rfl, rfl, Nat.le_refl _, fun _ _ => rfl⟩
  generalize w1.drewN nq = w2 at *
  go_wp2
  go_ret2
  refine ⟨rfl, ?_⟩
  rw [HG.out]
  exact HB.out
set_option maxRecDepth 100000 in
set_option maxHeartbeats 4000000 in
theorem rsec_bad1 (y mo d h mi s : Int) (w : World) (t0 : ¬ y < 1) (t1 : 9999 < y) :
    Calls Tryd.prog 10 #[dateV y mo d h mi s] w fun e w' => e = .returned (.tuple #[.int .i64 0, .int .i64 4]) ∧ Below w.heap.size w w' := by
  have b0 : decide (y < 1) = false := decide_eq_false t0
  have b1 : decide (9999 < y) = true := decide_eq_true t1
  clear t0 t1
  unfold dateV
  go_enter Tryd.func10, Tryd.ntmps10
  go_wp2
  obtain ⟨c0, c1, c2, c3, c4, c5⟩ := date_cells w y mo d h mi s
  have HB : Hid _ := below_new w (.cells #[.int .i64 y, .int .i64 mo, .int .i64 d, .int .i64 h, .int .i64 mi, .int .i64 s] 28)
  generalize (w.alloc (.cells #[.int .i64 y, .int .i64 mo, .int .i64 d, .int .i64 h, .int .i64 mi, .int .i64 s] 28)) = w1 at *
  generalize hg : w.heap.size = g at *
  have HG : Hid (w.heap.size = g) := hg
  clear hg
  go_quiet (fail)
  replace HB : Hid (Below g w (w1.drewN nq)) := HB.out.trans ⟨rfl, rfl, rfl, Nat.le_refl _, fun _ _ => rfl⟩
  generalize w1.drewN nq = w2 at *
  go_wp2
  go_ret2
  refine ⟨rfl, ?_⟩
  rw [HG.out]
  exact HB.out
set_option maxRecDepth 100000 in
set_option maxHeartbeats 4000000 in
theorem rsec_bad2 (y mo d h mi s : Int) (w : World) (t0 : ¬ y < 1) (t1 : ¬ 9999 < y) (t2 : mo < 1) :
    Calls Tryd.prog 10 #[dateV y mo d h mi s] w fun e w' => e = .returned (.tuple #[.int .i64 0, .int .i64 4]) ∧ Below w.heap.size w w' := by
  have b0 : decide (y < 1) = false := decide_eq_false t0
  have b1 : decide (9999 < y) = false := decide_eq_false t1
  have b2 : decide (mo < 1) = true := decide_eq_true t2
  clear t0 t1 t2
  unfold dateV
  go_enter Tryd.func10, Tryd.ntmps10
  go_wp2
  obtain ⟨c0, c1, c2, c3, c4, c5⟩ := date_cells w y mo d h mi s
  have HB : Hid _ := below_new w (.cells #[.int .i64 y, .int .i64 mo, .int .i64 d, .int .i64 h, .int .i64 mi, .int .i64 s] 28)
  generalize (w.alloc (.cells #[.int .i64 y, .int .i64 mo, .int .i64 d, .int .i64 h, .int .i64 mi, .int .i64 s] 28)) = w1 at *
  generalize hg : w.heap.size = g at *
  have HG : Hid (w.heap.size = g) := hg
  clear hg
  go_quiet (fail)
  replace HB : Hid (Below g w (w1.drewN nq)) := HB.out.trans ⟨rfl, rfl, rfl, Nat.le_refl _, fun _ _ => rfl⟩
  generalize w1.drewN nq = w2 at *
  go_wp2
  go_ret2
  refine ⟨rfl, ?_⟩
  rw [HG.out]
  exact HB.out
set_option maxRecDepth 100000 in
set_option maxHeartbeats 4000000 in
theorem rsec_bad3 (y mo d h mi s : Int) (w : World) (t0 : ¬ y < 1) (t1 : ¬ 9999 < y) (t2 : ¬ mo < 1) (t3 : 12 < mo) :
    Calls Tryd.prog 10 #[dateV y mo d h mi s] w fun e w' => e = .returned (.tuple #[.int .i64 0, .int .i64 4]) ∧ Below w.heap.size w w' := by
  have b0 : decide (y < 1) = false := decide_eq_false t0
  have b1 : decide (9999 < y) = false := decide_eq_false t1
  have b2 : decide (mo < 1) = false := decide_eq_false t2
  have b3 : decide (12 < mo) = true := decide_eq_true t3
  clear t0 t1 t2 t3
  unfold dateV
  go_enter Tryd.func10, Tryd.ntmps10
  go_wp2
  obtain ⟨c0, c1, c2, c3, c4, c5⟩ := date_cells w y mo d h mi s
  have HB : Hid _ := below_new w (.cells #[.int .i64 y, .int .i64 mo, .int .i64 d, .int .i64 h, .int .i64 mi, .int .i64 s] 28)
  generalize (w.alloc (.cells #[.int .i64 y, .int .i64 mo, .int .i64 d, .int .i64 h, .int .i64 mi, .int .i64 s] 28)) = w1 at *
  generalize hg : w.heap.size = g at *
  have HG : Hid (w.heap.size = g) := hg
  clear hg
  go_quiet (fail)
  replace HB : Hid (Below g w (w1.drewN nq)) := HB.out.trans ⟨rfl, rfl, rfl, Nat.le_refl _, fun _ _ => rfl⟩
  generalize w1.drewN nq = w2 at *
  go_wp2
  go_ret2
  refine ⟨rfl, ?_⟩
  rw [HG.out]
  exact HB.out
set_option maxRecDepth 100000 in
set_option maxHeartbeats 4000000 in
theorem rsec_bad4 (y mo d h mi s : Int) (w : World) (t0 : ¬ y < 1) (t1 : ¬ 9999 < y) (t2 : ¬ mo < 1) (t3 : ¬ 12 < mo) (t4 : d < 1) :
    Calls Tryd.prog 10 #[dateV y mo d h mi s] w fun e w' => e = .returned (.tuple #[.int .i64 0, .int .i64 4]) ∧ Below w.heap.size w w' := by
  have b0 : decide (y < 1) = false := decide_eq_false t0
  have b1 : decide (9999 < y) = false := decide_eq_false t1
  have b2 : decide (mo < 1) = false := decide_eq_false t2
  have b3 : decide (12 < mo) = false := decide_eq_false t3
  have b4 : decide (d < 1) = true := decide_eq_true t4
  clear t0 t1 t2 t3 t4
  unfold dateV
  go_enter Tryd.func10, Tryd.ntmps10
  go_wp2
  obtain ⟨c0, c1, c2, c3, c4, c5⟩ := date_cells w y mo d h mi s
  have HB : Hid _ := below_new w (.cells #[.int .i64 y, .int .i64 mo, .int .i64 d, .int .i64 h, .int .i64 mi, .int .i64 s] 28)
  generalize (w.alloc (.cells #[.int .i64 y, .int .i64 mo, .int .i64 d, .int .i64 h, .int .i64 mi, .int .i64 s] 28)) = w1 at *
  generalize hg : w.heap.size = g at *
  have HG : Hid (w.heap.size = g) := hg
  clear hg
  go_quiet (fail)
  replace HB : Hid (Below g w (w1.drewN nq)) := HB.out.trans ⟨rfl, rfl, rfl, Nat.le_refl _, fun _ _ => rfl⟩
  generalize w1.drewN nq = w2 at *
  go_wp2
  go_ret2
  refine ⟨rfl, ?_⟩
  rw [HG.out]
  exact HB.out
set_option maxRecDepth 100000 in
set_option maxHeartbeats 4000000 in
theorem rsec_bad5 (Y MO : Nat) (y mo d h mi s : Int) (eY : y = (Y : Int)) (eM : mo = (MO : Int)) (w : World) (t0 : ¬ y < 1) (t1 : ¬ 9999 < y) (t2 : ¬ mo < 1) (t3 : ¬ 12 < mo) (t4 : ¬ d < 1) (t5 : ((lenN Y MO : Nat) : Int) < d) :
    Calls Tryd.prog 10 #[dateV y mo d h mi s] w fun e w' => e = .returned (.tuple #[.int .i64 0, .int .i64 4]) ∧ Below w.heap.size w w' := by
  have b0 : decide (y < 1) = false := decide_eq_false t0
  have b1 : decide (9999 < y) = false := decide_eq_false t1
  have b2 : decide (mo < 1) = false := decide_eq_false t2
  have b3 : decide (12 < mo) = false := decide_eq_false t3
  have b4 : decide (d < 1) = false := decide_eq_false t4
  have b5 : decide (((lenN Y MO : Nat) : Int) < d) = true := decide_eq_true t5
  have HL : Hid (∀ W, Calls Tryd.prog 30 #[.int .i64 y, .int .i64 mo] W fun e w' => e = .returned (.int .i64 (lenN Y MO : Nat)) ∧ w' = W) := fun W => by
    rw [eY, eM]
    exact length_any Y MO W (by omega) (by omega)
  generalize lenN Y MO = ln at *
  clear eY eM
  clear t0 t1 t2 t3 t4 t5
  unfold dateV
  go_enter Tryd.func10, Tryd.ntmps10
  go_wp2
  obtain ⟨c0, c1, c2, c3, c4, c5⟩ := date_cells w y mo d h mi s
  have HB : Hid _ := below_new w (.cells #[.int .i64 y, .int .i64 mo, .int .i64 d, .int .i64 h, .int .i64 mi, .int .i64 s] 28)
  generalize (w.alloc (.cells #[.int .i64 y, .int .i64 mo, .int .i64 d, .int .i64 h, .int .i64 mi, .int .i64 s] 28)) = w1 at *
  generalize hg : w.heap.size = g at *
  have HG : Hid (w.heap.size = g) := hg
  clear hg
  go_quiet ((go_at_call 30; exact Calls.quiet_of_same (HL.out _)))
  replace HB : Hid (Below g w (w1.drewN nq)) := HB.out.trans ⟨rfl, rfl, rfl, Nat.le_refl _, fun _ _ => rfl⟩
  generalize w1.drewN nq = w2 at *
  go_wp2
  go_ret2
  refine ⟨rfl, ?_⟩
  rw [HG.out]
  exact HB.out
set_option maxRecDepth 100000 in
set_option maxHeartbeats 4000000 in
theorem rsec_bad6 (Y MO : Nat) (y mo d h mi s : Int) (eY : y = (Y : Int)) (eM : mo = (MO : Int)) (w : World) (t0 : ¬ y < 1) (t1 : ¬ 9999 < y) (t2 : ¬ mo < 1) (t3 : ¬ 12 < mo) (t4 : ¬ d < 1) (t5 : ¬ ((lenN Y MO : Nat) : Int) < d) (t6 : h < 0) :
    Calls Tryd.prog 10 #[dateV y mo d h mi s] w fun e w' => e = .returned (.tuple #[.int .i64 0, .int .i64 4]) ∧ Below w.heap.size w w' := by
  have b0 : decide (y < 1) = false := decide_eq_false t0
  have b1 : decide (9999 < y) = false := decide_eq_false t1
  have b2 : decide (mo < 1) = false := decide_eq_false t2
  have b3 : decide (12 < mo) = false := decide_eq_false t3
  have b4 : decide (d < 1) = false := decide_eq_false t4
  have b5 : decide (((lenN Y MO : Nat) : Int) < d) = false := decide_eq_false t5
  have b6 : decide (h < 0) = true := decide_eq_true t6
  have HL : Hid (∀ W, Calls Tryd.prog 30 #[.int .i64 y, .int .i64 mo] W fun e w' => e = .returned (.int .i64 (lenN Y MO : Nat)) ∧ w' = W) := fun W => by
    rw [eY, eM]
    exact length_any Y MO W (by omega) (by omega)
  generalize lenN Y MO = ln at *
  clear eY eM
  clear t0 t1 t2 t3 t4 t5 t6
  unfold dateV
  go_enter Tryd.func10, Tryd.ntmps10
  go_wp2
  obtain ⟨c0, c1, c2, c3, c4, c5⟩ := date_cells w y mo d h mi s
  have HB : Hid _ := below_new w (.cells #[.int .i64 y, .int .i64 mo, .int .i64 d, .int .i64 h, .int .i64 mi, .int .i64 s] 28)
  generalize (w.alloc (.cells #[.int .i64 y, .int .i64 mo, .int .i64 d, .int .i64 h, .int .i64 mi, .int .i64 s] 28)) = w1 at *
  generalize hg : w.heap.size = g at *
  have HG : Hid (w.heap.size = g) := hg
  clear hg
  go_quiet ((go_at_call 30; exact Calls.quiet_of_same (HL.out _)))
  replace HB : Hid (Below g w (w1.drewN nq)) := HB.out.trans ⟨rfl, rfl, rfl, Nat.le_refl _, fun _ _ => rfl⟩
  generalize w1.drewN nq = w2 at *
  go_wp2
  go_ret2
  refine ⟨rfl, ?_⟩
  rw [HG.out]
  exact HB.out
set_option maxRecDepth 100000 in
set_option maxHeartbeats 4000000 in
theorem rsec_bad7 (Y MO : Nat) (y mo d h mi s : Int) (eY : y = (Y : Int)) (eM : mo = (MO : Int)) (w : World) (t0 : ¬ y < 1) (t1 : ¬ 9999 < y) (t2 : ¬ mo < 1) (t3 : ¬ 12 < mo) (t4 : ¬ d < 1) (t5 : ¬ ((lenN Y MO : Nat) : Int) < d) (t6 : ¬ h < 0) (t7 : 23 < h) :
    Calls Tryd.prog 10 #[dateV y mo d h mi s] w fun e w' => e = .returned (.tuple #[.int .i64 0, .int .i64 4]) ∧ Below w.heap.size w w' := by
  have b0 : decide (y < 1) = false := decide_eq_false t0
  have b1 : decide (9999 < y) = false := decide_eq_false t1
  have b2 : decide (mo < 1) = false := decide_eq_false t2
  have b3 : decide (12 < mo) = false := decide_eq_false t3
  have b4 : decide (d < 1) = false := decide_eq_false t4
  have b5 : decide (((lenN Y MO : Nat) : Int) < d) = false := decide_eq_false t5
  have b6 : decide (h < 0) = false := decide_eq_false t6
  have b7 : decide (23 < h) = true := decide_eq_true t7
  have HL : Hid (∀ W, Calls Tryd.prog 30 #[.int .i64 y, .int .i64 mo] W fun e w' => e = .returned (.int .i64 (lenN Y MO : Nat)) ∧ w' = W) := fun W => by
    rw [eY, eM]
    exact length_any Y MO W (by omega) (by omega)
  generalize lenN Y MO = ln at *
  clear eY eM
  clear t0 t1 t2 t3 t4 t5 t6 t7
  unfold dateV
  go_enter Tryd.func10, Tryd.ntmps10
  go_wp2
  obtain ⟨c0, c1, c2, c3, c4, c5⟩ := date_cells w y mo d h mi s
  have HB : Hid _ := below_new w (.cells #[.int .i64 y, .int .i64 mo, .int .i64 d, .int .i64 h, .int .i64 mi, .int .i64 s] 28)
  generalize (w.alloc (.cells #[.int .i64 y, .int .i64 mo, .int .i64 d, .int .i64 h, .int .i64 mi, .int .i64 s] 28)) = w1 at *
  generalize hg : w.heap.size = g at *
  have HG : Hid (w.heap.size = g) := hg
  clear hg
  go_quiet ((go_at_call 30; exact Calls.quiet_of_same (HL.out _)))
  replace HB : Hid (Below g w (w1.drewN nq)) := HB.out.trans ⟨rfl, rfl, rfl, Nat.le_refl _, fun _ _ => rfl⟩
  generalize w1.drewN nq = w2 at *
  go_wp2
  go_ret2
  refine ⟨rfl, ?_⟩
  rw [HG.out]
  exact HB.out
set_option maxRecDepth 100000 in
set_option maxHeartbeats 4000000 in
theorem rsec_bad8 (Y MO : Nat) (y mo d h mi s : Int) (eY : y = (Y : Int)) (eM : mo = (MO : Int)) (w : World) (t0 : ¬ y < 1) (t1 : ¬ 9999 < y) (t2 : ¬ mo < 1) (t3 : ¬ 12 < mo) (t4 : ¬ d < 1) (t5 : ¬ ((lenN Y MO : Nat) : Int) < d) (t6 : ¬ h < 0) (t7 : ¬ 23 < h) (t8 : mi < 0) :
    Calls Tryd.prog 10 #[dateV y mo d h mi s] w fun e w' => e = .returned (.tuple #[.int .i64 0, .int .i64 4]) ∧ Below w.heap.size w w' := by
  have b0 : decide (y < 1) = false := decide_eq_false t0
  have b1 : decide (9999 < y) = false := decide_eq_false t1
  have b2 : decide (mo < 1) = false := decide_eq_false t2
  have b3 : decide (12 < mo) = false := decide_eq_false t3
  have b4 : decide (d < 1) = false := decide_eq_false t4
  have b5 : decide (((lenN Y MO : Nat) : Int) < d) = false := decide_eq_false t5
  have b6 : decide (h < 0) = false := decide_eq_false t6
  have b7 : decide (23 < h) = false := decide_eq_false t7
  have b8 : decide (mi < 0) = true := decide_eq_true t8
  have HL : Hid (∀ W, Calls Tryd.prog 30 #[.int .i64 y, .int .i64 mo] W fun e w' => e = .returned (.int .i64 (lenN Y MO : Nat)) ∧ w' = W) := fun W => by
    rw [eY, eM]
    exact length_any Y MO W (by omega) (by omega)
  generalize lenN Y MO = ln at *
  clear eY eM
  clear t0 t1 t2 t3 t4 t5 t6 t7 t8
  unfold dateV
  go_enter Tryd.func10, Tryd.ntmps10
  go_wp2
  obtain ⟨c0, c1, c2, c3, c4, c5⟩ := date_cells w y mo d h mi s
  have HB : Hid _ := below_new w (.cells #[.int .i64 y, .int .i64 mo, .int .i64 d, .int .i64 h, .int .i64 mi, .int .i64 s] 28)
  generalize (w.alloc (.cells #[.int .i64 y, .int .i64 mo, .int .i64 d, .int .i64 h, .int .i64 mi, .int .i64 s] 28)) = w1 at *
  generalize hg : w.heap.size = g at *
  have HG : Hid (w.heap.size = g) := hg
  clear hg
  go_quiet ((go_at_call 30; exact Calls.quiet_of_same (HL.out _)))
  replace HB : Hid (Below g w (w1.drewN nq)) := HB.out.trans ⟨rfl, rfl, rfl, Nat.le_refl _, fun _ _ => rfl⟩
  generalize w1.drewN nq = w2 at *
  go_wp2
  go_ret2
  refine ⟨rfl, ?_⟩
  rw [HG.out]
  exact HB.out
set_option maxRecDepth 100000 in
set_option maxHeartbeats 4000000 in
theorem rsec_bad9 (Y MO : Nat) (y mo d h mi s : Int) (eY : y = (Y : Int)) (eM : mo = (MO : Int)) (w : World) (t0 : ¬ y < 1) (t1 : ¬ 9999 < y) (t2 : ¬ mo < 1) (t3 : ¬ 12 < mo) (t4 : ¬ d < 1) (t5 : ¬ ((lenN Y MO : Nat) : Int) < d) (t6 : ¬ h < 0) (t7 : ¬ 23 < h) (t8 : ¬ mi < 0) (t9 : 59 < mi) :
    Calls Tryd.prog 10 #[dateV y mo d h mi s] w fun e w' => e = .returned (.tuple #[.int .i64 0, .int .i64 4]) ∧ Below w.heap.size w w' := by
  have b0 : decide (y < 1) = false := decide_eq_false t0
  have b1 : decide (9999 < y) = false := decide_eq_false t1
  have b2 : decide (mo < 1) = false := decide_eq_false t2
  have b3 : decide (12 < mo) = false := decide_eq_false t3
  have b4 : decide (d < 1) = false := decide_eq_false t4
  have b5 : decide (((lenN Y MO : Nat) : Int) < d) = false := decide_eq_false t5
  have b6 : decide (h < 0) = false := decide_eq_false t6
  have b7 : decide (23 < h) = false := decide_eq_false t7
  have b8 : decide (mi < 0) = false := decide_eq_false t8
  have b9 : decide (59 < mi) = true := decide_eq_true t9
  have HL : Hid (∀ W, Calls Tryd.prog 30 #[.int .i64 y, .int .i64 mo] W fun e w' => e = .returned (.int .i64 (lenN Y MO : Nat)) ∧ w' = W) := fun W => by
    rw [eY, eM]
    exact length_any Y MO W (by omega) (by omega)
  generalize lenN Y MO = ln at *
  clear eY eM
  clear t0 t1 t2 t3 t4 t5 t6 t7 t8 t9
  unfold dateV
  go_enter Tryd.func10, Tryd.ntmps10
  go_wp2
  obtain ⟨c0, c1, c2, c3, c4, c5⟩ := date_cells w y mo d h mi s
  have HB : Hid _ := below_new w (.cells #[.int .i64 y, .int .i64 mo, .int .i64 d, .int .i64 h, .int .i64 mi, .int .i64 s] 28)
  generalize (w.alloc (.cells #[.int .i64 y, .int .i64 mo, .int .i64 d, .int .i64 h, .int .i64 mi, .int .i64 s] 28)) = w1 at *
  generalize hg : w.heap.size = g at *
  have HG : Hid (w.heap.size = g) := hg
  clear hg
  go_quiet ((go_at_call 30; exact Calls.quiet_of_same (HL.out _)))
  replace HB : Hid (Below g w (w1.drewN nq)) := HB.out.trans ⟨rfl, rfl, rfl, Nat.le_refl _, fun _ _ => rfl⟩
  generalize w1.drewN nq = w2 at *
  go_wp2
  go_ret2
  refine ⟨rfl, ?_⟩
  rw [HG.out]
  exact HB.out
set_option maxRecDepth 100000 in
set_option maxHeartbeats 4000000 in
theorem rsec_bad10 (Y MO : Nat) (y mo d h mi s : Int) (eY : y = (Y : Int)) (eM : mo = (MO : Int)) (w : World) (t0 : ¬ y < 1) (t1 : ¬ 9999 < y) (t2 : ¬ mo < 1) (t3 : ¬ 12 < mo) (t4 : ¬ d < 1) (t5 : ¬ ((lenN Y MO : Nat) : Int) < d) (t6 : ¬ h < 0) (t7 : ¬ 23 < h) (t8 : ¬ mi < 0) (t9 : ¬ 59 < mi) (t10 : s < 0) :
    Calls Tryd.prog 10 #[dateV y mo d h mi s] w fun e w' => e = .returned (.tuple #[.int .i64 0, .int .i64 4]) ∧ Below w.heap.size w w' := by
  have b0 : decide (y < 1) = false := decide_eq_false t0
  have b1 : decide (9999 < y) = false := decide_eq_false t1
  have b2 : decide (mo < 1) = false := decide_eq_false t2
  have b3 : decide (12 < mo) = false := decide_eq_false t3
  have b4 : decide (d < 1) = false := decide_eq_false t4
  have b5 : decide (((lenN Y MO : Nat) : Int) < d) = false := decide_eq_false t5
  have b6 : decide (h < 0) = false := decide_eq_false t6
  have b7 : decide (23 < h) = false := decide_eq_false t7
  have b8 : decide (mi < 0) = false := decide_eq_false t8
  have b9 : decide (59 < mi) = false := decide_eq_false t9
  have b10 : decide (s < 0) = true := decide_eq_true t10
  have HL : Hid (∀ W, Calls Tryd.prog 30 #[.int .i64 y, .int .i64 mo] W fun e w' => e = .returned (.int .i64 (lenN Y MO : Nat)) ∧ w' = W) := fun W => by
    rw [eY, eM]
    exact length_any Y MO W (by omega) (by omega)
  generalize lenN Y MO = ln at *
  clear eY eM
  clear t0 t1 t2 t3 t4 t5 t6 t7 t8 t9 t10
  unfold dateV
  go_enter Tryd.func10, Tryd.ntmps10
  go_wp2
  obtain ⟨c0, c1, c2, c3, c4, c5⟩ := date_cells w y mo d h mi s
  have HB : Hid _ := below_new w (.cells #[.int .i64 y, .int .i64 mo, .int .i64 d, .int .i64 h, .int .i64 mi, .int .i64 s] 28)
  generalize (w.alloc (.cells #[.int .i64 y, .int .i64 mo, .int .i64 d, .int .i64 h, .int .i64 mi, .int .i64 s] 28)) = w1 at *
  generalize hg : w.heap.size = g at *
  have HG : Hid (w.heap.size = g) := hg
  clear hg
  go_quiet ((go_at_call 30; exact Calls.quiet_of_same (HL.out _)))
  replace HB : Hid (Below g w (w1.drewN nq)) := HB.out.trans ⟨rfl, rfl, rfl, Nat.le_refl _, fun _ _ => rfl⟩
  generalize w1.drewN nq = w2 at *
  go_wp2
  go_ret2
  refine ⟨rfl, ?_⟩
  rw [HG.out]
  exact HB.out
set_option maxRecDepth 100000 in
set_option maxHeartbeats 4000000 in
theorem rsec_bad11 (Y MO : Nat) (y mo d h mi s : Int) (eY : y = (Y : Int)) (eM : mo = (MO : Int)) (w : World) (t0 : ¬ y < 1) (t1 : ¬ 9999 < y) (t2 : ¬ mo < 1) (t3 : ¬ 12 < mo) (t4 : ¬ d < 1) (t5 : ¬ ((lenN Y MO : Nat) : Int) < d) (t6 : ¬ h < 0) (t7 : ¬ 23 < h) (t8 : ¬ mi < 0) (t9 : ¬ 59 < mi) (t10 : ¬ s < 0) (t11 : 59 < s) :
    Calls Tryd.prog 10 #[dateV y mo d h mi s] w fun e w' => e = .returned (.tuple #[.int .i64 0, .int .i64 4]) ∧ Below w.heap.size w w' := by
  have b0 : decide (y < 1) = false := decide_eq_false t0
  have b1 : decide (9999 < y) = false := decide_eq_false t1
  have b2 : decide (mo < 1) = false := decide_eq_false t2
  have b3 : decide (12 < mo) = false := decide_eq_false t3
  have b4 : decide (d < 1) = false := decide_eq_false t4
  have b5 : decide (((lenN Y MO : Nat) : Int) < d) = false := decide_eq_false t5
  have b6 : decide (h < 0) = false := decide_eq_false t6
  have b7 : decide (23 < h) = false := decide_eq_false t7
  have b8 : decide (mi < 0) = false := decide_eq_false t8
  have b9 : decide (59 < mi) = false := decide_eq_false t9
  have b10 : decide (s < 0) = false := decide_eq_false t10
  have b11 : decide (59 < s) = true := decide_eq_true t11
  have HL : Hid (∀ W, Calls Tryd.prog 30 #[.int .i64 y, .int .i64 mo] W fun e w' => e = .returned (.int .i64 (lenN Y MO : Nat)) ∧ w' = W) := fun W => by
    rw [eY, eM]
    exact length_any Y MO W (by omega) (by omega)
  generalize lenN Y MO = ln at *
  clear eY eM
  clear t0 t1 t2 t3 t4 t5 t6 t7 t8 t9 t10 t11
  unfold dateV
  go_enter Tryd.func10, Tryd.ntmps10
  go_wp2
  obtain ⟨c0, c1, c2, c3, c4, c5⟩ := date_cells w y mo d h mi s
  have HB : Hid _ := below_new w (.cells #[.int .i64 y, .int .i64 mo, .int .i64 d, .int .i64 h, .int .i64 mi, .int .i64 s] 28)
  generalize (w.alloc (.cells #[.int .i64 y, .int .i64 mo, .int .i64 d, .int .i64 h, .int .i64 mi, .int .i64 s] 28)) = w1 at *
  generalize hg : w.heap.size = g at *
  have HG : Hid (w.heap.size = g) := hg
  clear hg
  go_quiet ((go_at_call 30; exact Calls.quiet_of_same (HL.out _)))
  replace HB : Hid (Below g w (w1.drewN nq)) := HB.out.trans ⟨rfl, rfl, rfl, Nat.le_refl _, fun _ _ => rfl⟩
  generalize w1.drewN nq = w2 at *
  go_wp2
  go_ret2
  refine ⟨rfl, ?_⟩
  rw [HG.out]
  exact HB.out
/-- Six numbers that are a date. -/
def OkI (y mo d h mi s : Int) : Prop := ∃ Y MO D H MI S : Nat, y = (Y : Int) ∧ mo = (MO : Int) ∧ d = (D : Int) ∧ h = (H : Int) ∧ mi = (MI : Int) ∧ s = (S : Int) ∧ OkD Y MO D H MI S
theorem rsec_bad (y mo d h mi s : Int) (w : World) (hb : ¬ OkI y mo d h mi s) :
    Calls Tryd.prog 10 #[dateV y mo d h mi s] w fun e w' => e = .returned (.tuple #[.int .i64 0, .int .i64 4]) ∧ Below w.heap.size w w' := by
  by_cases t0 : y < 1
  · exact rsec_bad0 y mo d h mi s w t0
  by_cases t1 : 9999 < y
  · exact rsec_bad1 y mo d h mi s w t0 t1
  by_cases t2 : mo < 1
  · exact rsec_bad2 y mo d h mi s w t0 t1 t2
  by_cases t3 : 12 < mo
  · exact rsec_bad3 y mo d h mi s w t0 t1 t2 t3
  by_cases t4 : d < 1
  · exact rsec_bad4 y mo d h mi s w t0 t1 t2 t3 t4
  obtain ⟨Y, eY⟩ : ∃ Y : Nat, y = (Y : Int) := ⟨y.toNat, by omega⟩
  obtain ⟨MO, eM⟩ : ∃ MO : Nat, mo = (MO : Int) := ⟨mo.toNat, by omega⟩
  by_cases t5 : ((lenN Y MO : Nat) : Int) < d
  · exact rsec_bad5 Y MO y mo d h mi s eY eM w t0 t1 t2 t3 t4 t5
  by_cases t6 : h < 0
  · exact rsec_bad6 Y MO y mo d h mi s eY eM w t0 t1 t2 t3 t4 t5 t6
  by_cases t7 : 23 < h
  · exact rsec_bad7 Y MO y mo d h mi s eY eM w t0 t1 t2 t3 t4 t5 t6 t7
  by_cases t8 : mi < 0
  · exact rsec_bad8 Y MO y mo d h mi s eY eM w t0 t1 t2 t3 t4 t5 t6 t7 t8
  by_cases t9 : 59 < mi
  · exact rsec_bad9 Y MO y mo d h mi s eY eM w t0 t1 t2 t3 t4 t5 t6 t7 t8 t9
  by_cases t10 : s < 0
  · exact rsec_bad10 Y MO y mo d h mi s eY eM w t0 t1 t2 t3 t4 t5 t6 t7 t8 t9 t10
  by_cases t11 : 59 < s
  · exact rsec_bad11 Y MO y mo d h mi s eY eM w t0 t1 t2 t3 t4 t5 t6 t7 t8 t9 t10 t11
  exact absurd ⟨Y, MO, d.toNat, h.toNat, mi.toNat, s.toNat, eY, eM, by omega, by omega, by omega, by omega, by omega, by omega, by omega, by omega, by omega, by omega, by omega, by omega, by omega⟩ hb
end Go.Proofs.YtfgdfdjoidpejaaDoor
