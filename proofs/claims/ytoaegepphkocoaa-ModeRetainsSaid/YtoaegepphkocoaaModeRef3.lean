/-
  The document's Begin and Covers.
-/
import Derived.Test.YtoaegepphkocoaaModeRef
import Derived.Test.YtoaegepphkocoaaHeld
namespace Go.Proofs.Ytoaegepphkocoaa
open Go.ChangeShapes Go.WideShapes Go.ChangeAt Go.RowKit
set_option linter.unusedVariables false
set_option linter.unusedSimpArgs false
/-- A block that holds just a default. -/
def DefB (w : World) (g : Nat) (m d : Int) : Prop := w.heap[g]? = some (.cells #[.int .i64 m, .int .i64 d] 25 (0, 0))
theorem DefB.lt {w : World} {g : Nat} {m d : Int} (k : DefB w g m d) : g < w.heap.size := (Array.getElem?_eq_some_iff.1 k).1
theorem DefB.cells {w : World} {g : Nat} {m d : Int} (k : DefB w g m d) : w.cell? ⟨g, 0, none⟩ = some (.int .i64 m) ∧ w.cell? ⟨g, 1, none⟩ = some (.int .i64 d) := by
  refine ⟨?_, ?_⟩ <;>
  · rw [cell_of_row _ g _ _ _ _ k]; rfl
theorem DefB.new (w : World) (m d : Int) : DefB (w.alloc (.cells #[.int .i64 m, .int .i64 d] 25)) w.heap.size m d := heap_alloc_last w _
theorem DefB.below {w w' : World} {g : Nat} {m d : Int} (k : DefB w g m d) (hb : Below w.heap.size w w') : DefB w' g m d := (hb.block g k.lt).trans k
theorem defInfo : (Try.prog.info? 25).map (·.size) = some 2 := by kernel_rfl
/-- Two blocks ahead: a default and a lock of nothing. -/
theorem begin_blocks (m d : Int) (w w0 : World) (h : w0 = (w.alloc (.cells #[.int .i64 m, .int .i64 d] 25)).alloc (.cells #[.int .i64 0, .int .i64 0, .bool false] 23)) :
    w0.heap[w.heap.size]? = some (.cells #[.int .i64 m, .int .i64 d] 25 (0, 0)) ∧ LockB w0 (w.heap.size + 1) 0 0 false ∧ Below w.heap.size w w0 := by
  subst h
  have k1 := heap_alloc_last w (.cells #[.int .i64 m, .int .i64 d] 25)
  have k2 := LockB.new (w.alloc (.cells #[.int .i64 m, .int .i64 d] 25)) 0 0 false
  rw [show (w.alloc (.cells #[.int .i64 m, .int .i64 d] 25)).heap.size = w.heap.size + 1 by simp] at k2
  exact ⟨((below_new _ _).block w.heap.size (by simp)).trans k1, k2, (below_new w _).alloc (by simp) _⟩
theorem begin_as {m d t : Int} {e : Nat} {v : Value} (he : beginE m d = e) (hv : beginV m d t = v) : beginE m d = e ∧ beginV m d t = v := ⟨he, hv⟩
set_option maxHeartbeats 1000000 in
theorem mbegin_ref (m d t : Int) (w : World) (d0 : i64 d) :
    Calls Try.prog 21 #[defV m d, .int .i64 t] w fun e w' => e = .returned (.tuple #[beginV m d t, .int .i64 (beginE m d : Nat)]) ∧ Below w.heap.size w w' := by
  obtain ⟨w0, hw0⟩ : ∃ w0, w0 = (w.alloc (.cells #[.int .i64 m, .int .i64 d] 25)).alloc (.cells #[.int .i64 0, .int .i64 0, .bool false] 23) := ⟨_, rfl⟩
  have HW : Hid _ := begin_blocks m d w w0 hw0
  go_enter Try.func21, Try.ntmps21
  go_wp2_with fail
  rw [← hw0]
  refine (mgood_ref m d w0).mono ?_
  rintro e w1 ⟨rfl, hb1⟩
  have HW1 : Hid (w1.heap[w.heap.size]? = some (.cells #[.int .i64 m, .int .i64 d] 25 (0, 0)) ∧ LockB w1 (w.heap.size + 1) 0 0 false ∧ Below w.heap.size w w1) := ⟨(hb1.block _ (Array.getElem?_eq_some_iff.1 HW.out.1).1).trans HW.out.1, HW.out.2.1.below hb1, HW.out.2.2.trans (hb1.mono HW.out.2.2.size)⟩
  have k0 : w1.cell? ⟨w.heap.size, 0, none⟩ = some (.int .i64 m) := by rw [cell_of_row _ w.heap.size _ _ _ _ HW1.out.1]; rfl
  have k1 : w1.cell? ⟨w.heap.size, 1, none⟩ = some (.int .i64 d) := by rw [cell_of_row _ w.heap.size _ _ _ _ HW1.out.1]; rfl
  clear hb1 HW hw0
  show _
  have HS0 : Hid _ := lock_end (w := w) (R := w.heap.size + 1) HW1.out.2.2 (by omega) HW1.out.2.1 0 0 false
  cases hg : goodD m d with
  | false =>
    have HE : Hid _ := begin_as (t := t) (show beginE m d = 2 by unfold beginE; rw [hg]; rfl) (show beginV m d t = lockV 0 0 false by unfold beginV; rw [if_neg (by rw [hg]; simp)])
    clear hg
    go_wp2_with (refine store_op rfl 23 _ _ rfl ⟨w.heap.size + 1, 0, none⟩ rfl _ rfl HS0.out.1 ?_)
    refine bodyPost_ret (v := .tuple #[lockV 0 0 false, .int .i64 2]) ?_ rfl ⟨by rw [HE.out.1, HE.out.2]; rfl, HS0.out.2.1⟩
    refine (results_ct (fn := Try.f21) rfl _ _ _ (w.heap.size + 1) ?_ _ HS0.out.2.2).trans ?_ <;> rfl
  | true =>
    by_cases m0 : m = 0
    · have HE : Hid _ := begin_as (t := t) (show beginE m d = 0 by unfold beginE; rw [hg]; rfl) (show beginV m d t = lockV 0 0 false by unfold beginV; rw [if_neg (by rw [m0]; simp)])
      have f1 : (m == 0) = true := beq_iff_eq.2 m0
      clear hg m0
      go_wp2_with (refine store_op rfl 23 _ _ rfl ⟨w.heap.size + 1, 0, none⟩ rfl _ rfl HS0.out.1 ?_)
      refine bodyPost_ret (v := .tuple #[lockV 0 0 false, .int .i64 0]) ?_ rfl ⟨by rw [HE.out.1, HE.out.2]; rfl, HS0.out.2.1⟩
      refine (results_ct (fn := Try.f21) rfl _ _ _ (w.heap.size + 1) ?_ _ HS0.out.2.2).trans ?_ <;> rfl
    · have HE : Hid _ := begin_as (t := t) (show beginE m d = 0 by unfold beginE; rw [hg]; rfl) (show beginV m d t = lockV m (daysN t d) false by unfold beginV; rw [if_pos ⟨hg, m0⟩])
      have f1 : (m == 0) = false := beq_eq_false_iff_ne.2 m0
      have HD : Hid _ := rdays_any t d
      clear hg m0
      go_wp2_with fail
      have hS0 : (fun WW : World => WW.cell? ⟨w.heap.size, 0, none⟩ = some (.int .i64 m) ∧ WW.cell? ⟨w.heap.size, 1, none⟩ = some (.int .i64 d) ∧ (∃ a b c, LockB WW (w.heap.size + 1) a b c) ∧ Below w.heap.size w WW) w1.drew := ⟨k0, k1, ⟨0, 0, false, HW1.out.2.1⟩, HW1.out.2.2.drew⟩
      clear k0 k1 HW1 HS0
      refine wp_region_held_drew (S := fun w' => w'.cell? ⟨w.heap.size, 0, none⟩ = some (.int .i64 m) ∧ w'.cell? ⟨w.heap.size, 1, none⟩ = some (.int .i64 d) ∧ (∃ a b c, LockB w' (w.heap.size + 1) a b c) ∧ Below w.heap.size w w') (by kernel_rfl) (hS0) (fun hHeld => ?_)
      refine held_take 0 (some 14) (.pointer (some ⟨w.heap.size, 0, none⟩)) rfl rfl (by kernel_rfl) (by kernel_rfl) (by kernel_rfl) (fun _ _ _ h => h) rfl (fun w' hS => ?_) hHeld ?_
      · clear hS; go_simp
      try simp only [Act.put, List.setIfInBounds_toArray, List.set_cons_zero, List.set_cons_succ]
      refine held_take 1 (some 15) (.int .i64 m) rfl rfl (by kernel_rfl) (by kernel_rfl) (by kernel_rfl) (fun _ _ _ h => h) rfl (fun w' hS => ?_) hHeld ?_
      · have hk := hS.1; clear hS; go_simp
      try simp only [Act.put, List.setIfInBounds_toArray, List.set_cons_zero, List.set_cons_succ]
      refine held_take 2 (some 16) (.int .i64 t) rfl rfl (by kernel_rfl) (by kernel_rfl) (by kernel_rfl) (fun _ _ _ h => h) rfl (fun w' hS => ?_) hHeld ?_
      · clear hS; go_simp
      try simp only [Act.put, List.setIfInBounds_toArray, List.set_cons_zero, List.set_cons_succ]
      refine held_take 3 (some 17) (.pointer (some ⟨w.heap.size, 1, none⟩)) rfl rfl (by kernel_rfl) (by kernel_rfl) (by kernel_rfl) (fun _ _ _ h => h) rfl (fun w' hS => ?_) hHeld ?_
      · clear hS; go_simp
      try simp only [Act.put, List.setIfInBounds_toArray, List.set_cons_zero, List.set_cons_succ]
      refine held_take 4 (some 18) (.int .i64 d) rfl rfl (by kernel_rfl) (by kernel_rfl) (by kernel_rfl) (fun _ _ _ h => h) rfl (fun w' hS => ?_) hHeld ?_
      · have hk := hS.2.1; clear hS; go_simp
      try simp only [Act.put, List.setIfInBounds_toArray, List.set_cons_zero, List.set_cons_succ]
      refine held_one (i := 5) (by kernel_rfl) rfl rfl (fun K hK => ?_)
      go_simp
      refine Calls.mono (HD.out _ d0.1 d0.2) ?_
      rintro _ v1 ⟨rfl, rfl⟩
      dsimp only
      refine hK.out _ _ hHeld ?_
      clear hK K
      try simp only [Act.put, List.setIfInBounds_toArray, List.set_cons_zero, List.set_cons_succ]
      refine held_take 6 (some 20) (lockV m (daysN t d) false) rfl rfl (by kernel_rfl) (by kernel_rfl) (by kernel_rfl) (fun _ _ _ h => h) rfl (fun w' hS => ?_) hHeld ?_
      · clear hS; go_simp
      try simp only [Act.put, List.setIfInBounds_toArray, List.set_cons_zero, List.set_cons_succ]
      obtain ⟨hk0, hk1, ⟨xa, xb, xc, hlk⟩, hbw⟩ := hHeld
      have HS : Hid _ := lock_end (w := w) (R := w.heap.size + 1) hbw (by omega) hlk m (daysN t d) false
      have HK2 : Hid (LockB _ (w.heap.size + 1) m (daysN t d) false) := (hlk.store m (daysN t d) false).2
      have hne : w.heap.size ≠ w.heap.size + 1 := by omega
      refine held_one (i := 7) (by kernel_rfl) rfl rfl (fun K hK => ?_)
      refine held_store 23 _ _ rfl ⟨w.heap.size + 1, 0, none⟩ rfl _ rfl HS.out.1 none rfl ?_
      have hH2 : (fun WW : World => WW.cell? ⟨w.heap.size, 0, none⟩ = some (.int .i64 m) ∧ WW.cell? ⟨w.heap.size, 1, none⟩ = some (.int .i64 d) ∧ (∃ a b c, LockB WW (w.heap.size + 1) a b c) ∧ Below w.heap.size w WW) (w1.drew.setRow (w.heap.size + 1) #[.int .i64 m, .int .i64 (daysN t d), .bool false]) :=
        ⟨(World.cell?_of_block (a := ⟨w.heap.size, 0, none⟩) (setRow_other _ _ _ _ hne)).trans hk0, (World.cell?_of_block (a := ⟨w.heap.size, 1, none⟩) (setRow_other _ _ _ _ hne)).trans hk1, ⟨_, _, _, HK2.out⟩, HS.out.2.1⟩
      refine hK.out _ _ hH2 ?_
      clear hK K hk0 hk1 hlk hbw hne
      try simp only [Act.put, List.setIfInBounds_toArray, List.set_cons_zero, List.set_cons_succ]
      refine held_take 8 (some 5) (.int .i64 0) rfl rfl (by kernel_rfl) (by kernel_rfl) (by kernel_rfl) (fun _ _ _ h => h) rfl (fun w' hS => ?_) hH2 ?_
      · clear hS; go_simp
      try simp only [Act.put, List.setIfInBounds_toArray, List.set_cons_zero, List.set_cons_succ]
      refine wpAnyH_done (by kernel_rfl) ?_ _
      clear hH2 HK2
      go_wp2
      refine bodyPost_ret (v := .tuple #[lockV m (daysN t d) false, .int .i64 0]) ?_ rfl ⟨by rw [HE.out.1, HE.out.2]; rfl, HS.out.2.1⟩
      refine (results_ct (fn := Try.f21) rfl _ _ _ (w.heap.size + 1) ?_ _ HS.out.2.2).trans ?_ <;> rfl
set_option maxHeartbeats 1000000 in
theorem mcovers_ref (m u : Int) (h : Bool) (m2 u2 : Int) (h2 : Bool) (t : Int) (w : World) :
    Calls Try.prog 23 #[lockV m u h, lockV m2 u2 h2, .int .i64 t] w fun e w' => e = .returned (.bool (coversL m u h m2 u2 h2 t)) ∧ Below w.heap.size w w' := by
  obtain ⟨w0, hw0⟩ : ∃ w0, w0 = (w.alloc (.cells #[.int .i64 m, .int .i64 u, .bool h] 23)).alloc (.cells #[.int .i64 m2, .int .i64 u2, .bool h2] 23) := ⟨_, rfl⟩
  have HW : Hid (LockB w0 w.heap.size m u h ∧ LockB w0 (w.heap.size + 1) m2 u2 h2 ∧ Below w.heap.size w w0) := by
    rw [hw0]
    have k1 := LockB.new w m u h
    have k2 := LockB.new (w.alloc (.cells #[.int .i64 m, .int .i64 u, .bool h] 23)) m2 u2 h2
    rw [show (w.alloc (.cells #[.int .i64 m, .int .i64 u, .bool h] 23)).heap.size = w.heap.size + 1 by simp] at k2
    exact ⟨k1.below (below_new _ _), k2, (below_new w _).alloc (by simp) _⟩
  cases h2 <;>
  · go_enter Try.func23, Try.ntmps23
    go_wp2_with fail
    rw [← hw0]
    refine (mbinds_ref m2 u2 _ t w0).mono ?_
    rintro e w1 ⟨rfl, hb1⟩
    have HW1 : Hid _ := And.intro (HW.out.1.below hb1) (And.intro (HW.out.2.1.below hb1) (HW.out.2.2.trans (hb1.mono HW.out.2.2.size)))
    clear hb1 HW hw0
    obtain ⟨⟨k0, k1, k2⟩, -⟩ := HW1.out.1.cells
    obtain ⟨⟨n0, n1, n2⟩, -⟩ := HW1.out.2.1.cells
    show _
    cases hbd : bindsL m2 u2 t <;> cases h <;>
    · go_wp2
      all_goals (go_ret; exact ⟨by show Ending.returned (.bool _) = Ending.returned (.bool _); first | rfl | (congr 2; first | (simp [coversL, *]; done) | (simp [coversL, *]; omega)), HW1.out.2.2⟩)
end Go.Proofs.Ytoaegepphkocoaa
