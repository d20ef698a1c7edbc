/-
  The program's days ahead of a month, of a date, and the seconds of its day.
-/
import Derived.Test.YtfgdfdjoidpejabDoorWhenDate
import Derived.Test.YtfgdfdjoidpejabDoorStructs
import Derived.Test.YtfgdfdjoidpejabDoorHeld
namespace Go.Proofs.YtfgdfdjoidpejabDoor
open Go.ChangeShapes Go.WideShapes Go.ChangeAt Go.RowKit
set_option linter.unusedVariables false
set_option linter.unusedSimpArgs false
def dateC (y mo d h mi s : Int) : Array Value := #[.int .i64 y, .int .i64 mo, .int .i64 d, .int .i64 h, .int .i64 mi, .int .i64 s]
/-- A date in a block of the call's own. -/
def DateAt (w : World) (g : Nat) (y mo d h mi s : Int) : Prop := w.heap[g]? = some (.cells (dateC y mo d h mi s) 40 (0, 0))
theorem DateAt.lt {w : World} {g : Nat} {y mo d h mi s : Int} (k : DateAt w g y mo d h mi s) : g < w.heap.size := (Array.getElem?_eq_some_iff.1 k).1
theorem DateAt.new (w : World) (y mo d h mi s : Int) : DateAt (w.alloc (.cells (dateC y mo d h mi s) 40)) w.heap.size y mo d h mi s := heap_alloc_last w _
theorem DateAt.below {w w' : World} {g : Nat} {y mo d h mi s : Int} (k : DateAt w g y mo d h mi s) (hb : Below w.heap.size w w') : DateAt w' g y mo d h mi s := (hb.block g k.lt).trans k
theorem DateAt.cells {w : World} {g : Nat} {y mo d h mi s : Int} (k : DateAt w g y mo d h mi s) :
    w.cell? ⟨g, 0, none⟩ = some (.int .i64 y) ∧ w.cell? ⟨g, 1, none⟩ = some (.int .i64 mo) ∧ w.cell? ⟨g, 2, none⟩ = some (.int .i64 d) ∧ w.cell? ⟨g, 3, none⟩ = some (.int .i64 h) ∧ w.cell? ⟨g, 4, none⟩ = some (.int .i64 mi) ∧ w.cell? ⟨g, 5, none⟩ = some (.int .i64 s) := by
  refine ⟨?_, ?_, ?_, ?_, ?_, ?_⟩ <;> rw [cell_of_row w g _ _ _ _ k] <;> rfl
theorem whenT : AggT 40 6 := ⟨by kernel_rfl, _, Tryd.underlying40, rfl⟩
theorem DateAt.load {w : World} {g : Nat} {y mo d h mi s : Int} (k : DateAt w g y mo d h mi s) : (loadVar 40 ⟨g, 0, none⟩).run Tryd.prog w = .ok (dateV y mo d h mi s) w := by
  obtain ⟨h1, e, h2, h3⟩ := whenT
  exact run_loadVar_row w g 40 40 (dateC y mo d h mi s) (0, 0) e k h2 (by cases e <;> exact h3) h1
set_option maxHeartbeats 1000000 in
theorem ahead_any (y : Nat) (mo d h mi s : Int) (m : Nat) (w : World) (hT : Tab w) (hy : y ≤ 9999) (h1 : 1 ≤ m) (h2 : m ≤ 13) :
    Calls Tryd.prog 30 #[dateV y mo d h mi s, .int .i64 (m : Nat)] w fun e w' => e = .returned (.int .i64 (dmk y (m - 1) : Nat)) ∧ Below w.heap.size w w' := by
  have HK : Hid _ := dmk_tab y m h1 h2
  have hD := DateAt.new w (y : Int) mo d h mi s
  have hB := below_new w (.cells (dateC (y : Int) mo d h mi s) 40)
  have hT1 := hT.own hB
  obtain ⟨M, hM⟩ : ∃ M, M = m - 1 := ⟨_, rfl⟩
  have hMi : (m : Int) - 1 = (M : Int) := by omega
  have hMb : M < 13 := by omega
  have hc := hT1.2 M hMb
  have HLB : moN.getD M 0 ≤ 365 := by
    have : ∀ i : Fin 13, moN.getD i.val 0 ≤ 365 := by decide
    exact this ⟨M, hMb⟩
  rw [← hM] at HK ⊢
  have hld := hD.load
  have HI : Hid _ := isleap_any y mo d h mi s (w.alloc (.cells (dateC (y : Int) mo d h mi s) 40)) (by omega)
  generalize moN.getD M 0 = tv at *
  unfold dateV dateC at *
  clear hM hT hT1 hD
  by_cases h3 : 2 < m
  · have h3i : (2 : Int) < (m : Int) := by omega
    cases hl : leapN y with
    | true =>
      rw [hl] at HI HK
      have HK' : Hid (dmk y M = tv + 1) := by unfold Hid; rw [HK.out, if_pos ⟨h3, rfl⟩]
      clear HK
      generalize dmk y M = r at *
      go_enter Tryd.func30, Tryd.ntmps30
      go_wp2_with fail
      refine Calls.mono HI.out ?_
      rintro _ w2 ⟨rfl, hb2⟩
      go_wp2_with fail
      go_ret
      exact ⟨by rw [HK'.out]; rfl, hB.trans (hb2.mono (by simp))⟩
    | false =>
      rw [hl] at HI HK
      have HK' : Hid (dmk y M = tv) := by unfold Hid; rw [HK.out, if_neg (by simp)]
      clear HK
      generalize dmk y M = r at *
      go_enter Tryd.func30, Tryd.ntmps30
      go_wp2_with fail
      refine Calls.mono HI.out ?_
      rintro _ w2 ⟨rfl, hb2⟩
      go_wp2_with fail
      go_ret
      exact ⟨by rw [HK'.out]; rfl, hB.trans (hb2.mono (by simp))⟩
  · have h3i : ¬ (2 : Int) < (m : Int) := by omega
    have HK' : Hid (dmk y M = tv) := by unfold Hid; rw [HK.out, if_neg (by omega)]
    clear HK
    generalize dmk y M = r at *
    go_enter Tryd.func30, Tryd.ntmps30
    go_wp2_with fail
    go_ret
    exact ⟨by rw [HK'.out]; rfl, hB⟩
end Go.Proofs.YtfgdfdjoidpejabDoor
