/-
  ModeRetains returns true: any lock with any other mode and time, at any moment, and that of a new version, are the document's.
-/
import Derived.Test.YtoaegepphkocoaaPArgs
import Derived.Test.YtoaegepphkocoaaModeArgs
import Derived.Test.YtoaegepphkocoaaModeAwake
import Derived.Test.YtoaegepphkocoaaModeRef2
namespace Go.Proofs.Ytoaegepphkocoaa.modeRetains
open Go.ChangeShapes Go.WideShapes Go.ChangeAt Go.RowKit
open Go.ChangeMaps (open_string shut_string)
set_option linter.unusedVariables false
set_option linter.unusedSimpArgs false
set_option maxHeartbeats 16000000 in
theorem walk (W : World) (m0 u0 : Int) (b0 : Bool) (w0 : i64 m0) (x0 : i64 u0) (a1 : Int) (w1 : (Lit.int .i64 a1).wf = true) (a2 : Int) (w2 : (Lit.int .i64 a2).wf = true) (a3 : Int) (w3 : (Lit.int .i64 a3).wf = true) (a4 : Bool) (m5 u5 : Int) (w5 : i64 m5) (x5 : i64 u5) :
    Calls Try.prog 4 #[lockV m0 u0 b0, .int .i64 a1, .int .i64 a2, .int .i64 a3, .bool a4, defV m5 u5] W fun e W' => e = .returned (.bool true) ∧ Below W.heap.size W W' := by
  obtain ⟨rx, ry, rz, hrv⟩ := retain_form m0 u0 b0 a1 a2 a3 a4
  obtain ⟨bx, by', bz, hbv⟩ := begin_form m5 u5 a3
  obtain ⟨wA, hwA⟩ : ∃ wA, wA = ((W.alloc (.cells #[.int .i64 m0, .int .i64 u0, .bool b0] 23)).alloc (.cells #[.int .i64 m5, .int .i64 u5] 25)) := ⟨_, rfl⟩
  have HI0 : Hid (LockB wA (W.heap.size) (m0) (u0) (b0) ∧ DefB wA (W.heap.size + 1) (m5) (u5) ∧ Below W.heap.size W wA) := by
    rw [hwA]
    have k0 := LockB.new W (m0) (u0) (b0)
    have k1 := DefB.new (W.alloc (.cells #[.int .i64 m0, .int .i64 u0, .bool b0] 23)) (m5) (u5)
    rw [show (W.alloc (.cells #[.int .i64 m0, .int .i64 u0, .bool b0] 23)).heap.size = W.heap.size + 1 by simp] at k1
    exact ⟨(k0.below (below_new _ _)), k1, ((below_new W _).alloc (by simp) _)⟩
  go_enter Try.func4, Try.ntmps4
  go_wp2_with fail
  rw [← hwA]
  clear hwA
  have HRV : Hid (retainV m0 u0 b0 a1 a2 a3 a4 = lockV rx ry rz ∧ beginV m5 u5 a3 = lockV bx by' bz) := ⟨hrv, hbv⟩
  clear hrv hbv
  refine Calls.mono (mretain_any m0 u0 b0 a1 a2 a3 a4 _) ?_
  rw [HRV.out.1]
  rintro e v1 ⟨rfl, hb⟩
  have HI1 : Hid (LockB v1 (W.heap.size) (m0) (u0) (b0) ∧ DefB v1 (W.heap.size + 1) (m5) (u5) ∧ Below W.heap.size W v1) := ⟨HI0.out.1.below hb, HI0.out.2.1.below hb, HI0.out.2.2.trans (hb.mono HI0.out.2.2.size)⟩
  clear hb HI0 
  obtain ⟨g2, hg2⟩ : ∃ g, g = v1.heap.size := ⟨_, rfl⟩
  obtain ⟨x2, hx2⟩ : ∃ w, w = v1.alloc (.cells #[.int .i64 rx, .int .i64 ry, .bool rz] 23) := ⟨_, rfl⟩
  have HI2 : Hid (LockB x2 (W.heap.size) (m0) (u0) (b0) ∧ DefB x2 (W.heap.size + 1) (m5) (u5) ∧ LockB x2 (g2) (rx) (ry) (rz) ∧ Below W.heap.size W x2) := by
    rw [hg2, hx2]
    exact ⟨HI1.out.1.below (below_new _ _), HI1.out.2.1.below (below_new _ _), LockB.new _ _ _ _, HI1.out.2.2.alloc HI1.out.2.2.size _⟩
  have HX2 : Hid (v1.alloc (.cells #[.int .i64 rx, .int .i64 ry, .bool rz] 23) = x2 ∧ v1.heap.size = g2) := ⟨hx2.symm, hg2.symm⟩
  clear hg2 hx2 HI1 
  obtain ⟨⟨c00, c01, c02⟩, -⟩ := HI2.out.1.cells
  obtain ⟨c10, c11⟩ := HI2.out.2.1.cells
  obtain ⟨⟨c20, c21, c22⟩, -⟩ := HI2.out.2.2.1.cells
  rw [← HX2.out.1] at c00 c01 c02 c10 c11 c20 c21 c22
  show _
  go_wp2_with fail
  rw [HX2.out.1, HX2.out.2]
  refine Calls.mono (mretain_ref m0 u0 b0 a1 a2 a3 a4 _) ?_
  rw [HRV.out.1]
  rintro e v3 ⟨rfl, hb⟩
  have HI3 : Hid (LockB v3 (W.heap.size) (m0) (u0) (b0) ∧ DefB v3 (W.heap.size + 1) (m5) (u5) ∧ LockB v3 (g2) (rx) (ry) (rz) ∧ Below W.heap.size W v3) := ⟨HI2.out.1.below hb, HI2.out.2.1.below hb, HI2.out.2.2.1.below hb, HI2.out.2.2.2.trans (hb.mono HI2.out.2.2.2.size)⟩
  clear hb HI2 c00 c01 c02 c10 c11 c20 c21 c22
  obtain ⟨g4, hg4⟩ : ∃ g, g = v3.heap.size := ⟨_, rfl⟩
  obtain ⟨x4, hx4⟩ : ∃ w, w = v3.alloc (.cells #[.int .i64 rx, .int .i64 ry, .bool rz] 23) := ⟨_, rfl⟩
  have HI4 : Hid (LockB x4 (W.heap.size) (m0) (u0) (b0) ∧ DefB x4 (W.heap.size + 1) (m5) (u5) ∧ LockB x4 (g2) (rx) (ry) (rz) ∧ LockB x4 (g4) (rx) (ry) (rz) ∧ Below W.heap.size W x4) := by
    rw [hg4, hx4]
    exact ⟨HI3.out.1.below (below_new _ _), HI3.out.2.1.below (below_new _ _), HI3.out.2.2.1.below (below_new _ _), LockB.new _ _ _ _, HI3.out.2.2.2.alloc HI3.out.2.2.2.size _⟩
  have HX4 : Hid (v3.alloc (.cells #[.int .i64 rx, .int .i64 ry, .bool rz] 23) = x4 ∧ v3.heap.size = g4) := ⟨hx4.symm, hg4.symm⟩
  clear hg4 hx4 HI3 
  obtain ⟨⟨c00, c01, c02⟩, -⟩ := HI4.out.1.cells
  obtain ⟨c10, c11⟩ := HI4.out.2.1.cells
  obtain ⟨⟨c20, c21, c22⟩, -⟩ := HI4.out.2.2.1.cells
  obtain ⟨⟨c30, c31, c32⟩, -⟩ := HI4.out.2.2.2.1.cells
  rw [← HX4.out.1] at c00 c01 c02 c10 c11 c20 c21 c22 c30 c31 c32
  show _
  go_wp2_with fail
  rw [HX4.out.1, HX4.out.2]
  refine Calls.mono (mbegin_any m5 u5 a3 _ x5) ?_
  rw [HRV.out.2]
  rintro e v5 ⟨rfl, hb⟩
  have HI5 : Hid (LockB v5 (W.heap.size) (m0) (u0) (b0) ∧ DefB v5 (W.heap.size + 1) (m5) (u5) ∧ LockB v5 (g2) (rx) (ry) (rz) ∧ LockB v5 (g4) (rx) (ry) (rz) ∧ Below W.heap.size W v5) := ⟨HI4.out.1.below hb, HI4.out.2.1.below hb, HI4.out.2.2.1.below hb, HI4.out.2.2.2.1.below hb, HI4.out.2.2.2.2.trans (hb.mono HI4.out.2.2.2.2.size)⟩
  clear hb HI4 c00 c01 c02 c10 c11 c20 c21 c22 c30 c31 c32
  obtain ⟨g6, hg6⟩ : ∃ g, g = v5.heap.size := ⟨_, rfl⟩
  obtain ⟨x6, hx6⟩ : ∃ w, w = v5.alloc (.cells #[.int .i64 bx, .int .i64 by', .bool bz] 23) := ⟨_, rfl⟩
  have HI6 : Hid (LockB x6 (W.heap.size) (m0) (u0) (b0) ∧ DefB x6 (W.heap.size + 1) (m5) (u5) ∧ LockB x6 (g2) (rx) (ry) (rz) ∧ LockB x6 (g4) (rx) (ry) (rz) ∧ LockB x6 (g6) (bx) (by') (bz) ∧ Below W.heap.size W x6) := by
    rw [hg6, hx6]
    exact ⟨HI5.out.1.below (below_new _ _), HI5.out.2.1.below (below_new _ _), HI5.out.2.2.1.below (below_new _ _), HI5.out.2.2.2.1.below (below_new _ _), LockB.new _ _ _ _, HI5.out.2.2.2.2.alloc HI5.out.2.2.2.2.size _⟩
  have HX6 : Hid (v5.alloc (.cells #[.int .i64 bx, .int .i64 by', .bool bz] 23) = x6 ∧ v5.heap.size = g6) := ⟨hx6.symm, hg6.symm⟩
  clear hg6 hx6 HI5 
  obtain ⟨⟨c00, c01, c02⟩, -⟩ := HI6.out.1.cells
  obtain ⟨c10, c11⟩ := HI6.out.2.1.cells
  obtain ⟨⟨c20, c21, c22⟩, -⟩ := HI6.out.2.2.1.cells
  obtain ⟨⟨c30, c31, c32⟩, -⟩ := HI6.out.2.2.2.1.cells
  obtain ⟨⟨c40, c41, c42⟩, -⟩ := HI6.out.2.2.2.2.1.cells
  rw [← HX6.out.1] at c00 c01 c02 c10 c11 c20 c21 c22 c30 c31 c32 c40 c41 c42
  show _
  go_wp2_with fail
  rw [HX6.out.1, HX6.out.2]
  refine Calls.mono (mbegin_ref m5 u5 a3 _ x5) ?_
  rw [HRV.out.2]
  rintro e v7 ⟨rfl, hb⟩
  have HI7 : Hid (LockB v7 (W.heap.size) (m0) (u0) (b0) ∧ DefB v7 (W.heap.size + 1) (m5) (u5) ∧ LockB v7 (g2) (rx) (ry) (rz) ∧ LockB v7 (g4) (rx) (ry) (rz) ∧ LockB v7 (g6) (bx) (by') (bz) ∧ Below W.heap.size W v7) := ⟨HI6.out.1.below hb, HI6.out.2.1.below hb, HI6.out.2.2.1.below hb, HI6.out.2.2.2.1.below hb, HI6.out.2.2.2.2.1.below hb, HI6.out.2.2.2.2.2.trans (hb.mono HI6.out.2.2.2.2.2.size)⟩
  clear hb HI6 c00 c01 c02 c10 c11 c20 c21 c22 c30 c31 c32 c40 c41 c42
  obtain ⟨g8, hg8⟩ : ∃ g, g = v7.heap.size := ⟨_, rfl⟩
  obtain ⟨x8, hx8⟩ : ∃ w, w = v7.alloc (.cells #[.int .i64 bx, .int .i64 by', .bool bz] 23) := ⟨_, rfl⟩
  have HI8 : Hid (LockB x8 (W.heap.size) (m0) (u0) (b0) ∧ DefB x8 (W.heap.size + 1) (m5) (u5) ∧ LockB x8 (g2) (rx) (ry) (rz) ∧ LockB x8 (g4) (rx) (ry) (rz) ∧ LockB x8 (g6) (bx) (by') (bz) ∧ LockB x8 (g8) (bx) (by') (bz) ∧ Below W.heap.size W x8) := by
    rw [hg8, hx8]
    exact ⟨HI7.out.1.below (below_new _ _), HI7.out.2.1.below (below_new _ _), HI7.out.2.2.1.below (below_new _ _), HI7.out.2.2.2.1.below (below_new _ _), HI7.out.2.2.2.2.1.below (below_new _ _), LockB.new _ _ _ _, HI7.out.2.2.2.2.2.alloc HI7.out.2.2.2.2.2.size _⟩
  have HX8 : Hid (v7.alloc (.cells #[.int .i64 bx, .int .i64 by', .bool bz] 23) = x8 ∧ v7.heap.size = g8) := ⟨hx8.symm, hg8.symm⟩
  clear hg8 hx8 HI7 
  obtain ⟨⟨c00, c01, c02⟩, -⟩ := HI8.out.1.cells
  obtain ⟨c10, c11⟩ := HI8.out.2.1.cells
  obtain ⟨⟨c20, c21, c22⟩, -⟩ := HI8.out.2.2.1.cells
  obtain ⟨⟨c30, c31, c32⟩, -⟩ := HI8.out.2.2.2.1.cells
  obtain ⟨⟨c40, c41, c42⟩, -⟩ := HI8.out.2.2.2.2.1.cells
  obtain ⟨⟨c50, c51, c52⟩, -⟩ := HI8.out.2.2.2.2.2.1.cells
  rw [← HX8.out.1] at c00 c01 c02 c10 c11 c20 c21 c22 c30 c31 c32 c40 c41 c42 c50 c51 c52
  show _
  go_wp2_with fail
  rw [HX8.out.1, HX8.out.2]
  refine Calls.mono (awake_true _) ?_
  rintro e v9 ⟨rfl, hb⟩
  have HI9 : Hid (LockB v9 (W.heap.size) (m0) (u0) (b0) ∧ DefB v9 (W.heap.size + 1) (m5) (u5) ∧ LockB v9 (g2) (rx) (ry) (rz) ∧ LockB v9 (g4) (rx) (ry) (rz) ∧ LockB v9 (g6) (bx) (by') (bz) ∧ LockB v9 (g8) (bx) (by') (bz) ∧ Below W.heap.size W v9) := ⟨HI8.out.1.below hb, HI8.out.2.1.below hb, HI8.out.2.2.1.below hb, HI8.out.2.2.2.1.below hb, HI8.out.2.2.2.2.1.below hb, HI8.out.2.2.2.2.2.1.below hb, HI8.out.2.2.2.2.2.2.trans (hb.mono HI8.out.2.2.2.2.2.2.size)⟩
  clear hb HI8 c00 c01 c02 c10 c11 c20 c21 c22 c30 c31 c32 c40 c41 c42 c50 c51 c52
  obtain ⟨⟨c00, c01, c02⟩, -⟩ := HI9.out.1.cells
  obtain ⟨c10, c11⟩ := HI9.out.2.1.cells
  obtain ⟨⟨c20, c21, c22⟩, -⟩ := HI9.out.2.2.1.cells
  obtain ⟨⟨c30, c31, c32⟩, -⟩ := HI9.out.2.2.2.1.cells
  obtain ⟨⟨c40, c41, c42⟩, -⟩ := HI9.out.2.2.2.2.1.cells
  obtain ⟨⟨c50, c51, c52⟩, -⟩ := HI9.out.2.2.2.2.2.1.cells
  show _
  go_wp2_with fail
  go_ret
  exact ⟨rfl, HI9.out.2.2.2.2.2.2⟩
set_option maxRecDepth 100000 in
theorem contract (H : Type) (enc : TypeId × Value → H) (W : World) (base : Nat) (args : Array Value) (ds gs : List (DataW H)) (before : List MemPlace)
    (hval : ∀ (j : Nat) t v, Try.f4.params[j]? = some t → args[j]? = some v → Value.okWide Try.prog W .any base t v)
    (hW : DataW.Whole enc Try.prog Try.f4.params.toList Rows.modeRetainsSpec.vars false W args.toList ds gs before)
    (hsz : (DataW.weightsEach Try.prog (Try.f4.params.toList ++ Rows.modeRetainsSpec.plain.varTypes Try.prog) (ds ++ gs)).all (· ≤ reachBytes) = true) :
    Calls Try.prog 4 args W fun e W' => ∃ v, e = .returned v ∧ Rows.modeRetainsSpec.post enc Try.prog Try.f4 false true false false W args v W' := by
  have hW' := hW
  obtain ⟨p, q, hA0, hV, rfl, hfz, hnd⟩ := hW
  have hA : DataW.TrodAll enc Try.prog W 0 (fun _ => true) true Try.f4.params.toList args.toList ds p := hA0
  rw [Try.params4] at hA hval hsz
  obtain ⟨v0, vs0, d0, ds0, p0, q0, hargs, rfl, rfl, h0, r0⟩ := trodAll_cons hA
  obtain ⟨v1, vs1, d1, ds1, p1, q1, rfl, rfl, rfl, h1, r1⟩ := trodAll_cons r0
  obtain ⟨v2, vs2, d2, ds2, p2, q2, rfl, rfl, rfl, h2, r2⟩ := trodAll_cons r1
  obtain ⟨v3, vs3, d3, ds3, p3, q3, rfl, rfl, rfl, h3, r3⟩ := trodAll_cons r2
  obtain ⟨v4, vs4, d4, ds4, p4, q4, rfl, rfl, rfl, h4, r4⟩ := trodAll_cons r3
  obtain ⟨v5, vs5, d5, ds5, p5, q5, rfl, rfl, rfl, h5, r5⟩ := trodAll_cons r4
  obtain ⟨rfl, rfl, rfl⟩ := trodAll_nil r5
  obtain rfl : args = #[v0, v1, v2, v3, v4, v5] := by cases args; simp_all
  obtain ⟨rfl, rfl⟩ := trodVars_none hV
  have k0 := h0
  have lt0 : ∀ x ∈ p0, x.block < W.heap.size := by obtain ⟨m, hm⟩ := k0; exact DataW.trod_lt m _ _ _ hm
  obtain ⟨m0, u0, b0, rfl, w0, x0⟩ := lock_open (hval 0 23 v0 rfl rfl) h0
  obtain ⟨a1, rfl, rfl, rfl, w1⟩ := open_int Try.underlying3 (hval 1 3 v1 rfl rfl) h1
  obtain ⟨a2, rfl, rfl, rfl, w2⟩ := open_int Try.underlying2 (hval 2 2 v2 rfl rfl) h2
  obtain ⟨a3, rfl, rfl, rfl, w3⟩ := open_int Try.underlying2 (hval 3 2 v3 rfl rfl) h3
  obtain ⟨a4, rfl, rfl, rfl⟩ := open_bool Try.underlying4 (hval 4 4 v4 rfl rfl) h4
  have k5 := h5
  have lt5 : ∀ x ∈ p5, x.block < W.heap.size := by obtain ⟨m, hm⟩ := k5; exact DataW.trod_lt m _ _ _ hm
  obtain ⟨m5, u5, rfl, w5, x5⟩ := default_open (hval 5 25 v5 rfl rfl) h5
  clear hA0 hsz
  refine (walk W m0 u0 b0 w0 x0 a1 w1 a2 w2 a3 w3 a4 m5 u5 w5 x5).mono fun e W' ⟨he, bel⟩ => ?_
  subst he
  exact ⟨_, rfl, _, _, _, [], _, [], hW', trodAll_mk1 (shut_bool Try.underlying4 _), (trodAll_cons_mk (Below.trod laidOut (by kernel_rfl) (of_decide_eq_true (by kernel_rfl)) k0 bel lt0) (trodAll_cons_mk (shut_int Try.underlying3 w1) (trodAll_cons_mk (shut_int Try.underlying2 w2) (trodAll_cons_mk (shut_int Try.underlying2 w3) (trodAll_cons_mk (shut_bool Try.underlying4 _) (trodAll_cons_mk (Below.trod laidOut (by kernel_rfl) (of_decide_eq_true (by kernel_rfl)) k5 bel lt5) trodAll_mk0)))))), rfl, bel.frame _, fun h => by cases h⟩
set_option maxRecDepth 100000 in
theorem lifted (os : Os) (started : os.Started) (H : Type) (enc : TypeId × Value → H) :
    ReturnsInHanded {} Try.checked os 4 .any (Rows.modeRetainsSpec.pre6 enc Try.prog Try.f4 Rows.modeRetainsRow.domain false) (Rows.modeRetainsSpec.post enc Try.prog Try.f4 false true false false) := by
  refine returnsInHanded_of_change_sized (C := Try.checked) own started (by kernel_rfl) Try.func4
    (ChangeSpec.witness6 (enc := enc) (C := Try.checked) false ⟨#[], #[.agg #[.int .i64 0, .int .i64 0, .bool false], .int .i64 0, .int .i64 0, .int .i64 0, .bool false, .agg #[.int .i64 0, .int .i64 0]], []⟩ 8 (by kernel_rfl) (by kernel_rfl) (by kernel_rfl) (by kernel_rfl)) ?_
  intro W base args ds gs before hval hW _ hsz _
  exact contract H enc W base args ds gs before hval hW hsz
theorem over : Rows.modeRetainsRow.holds Try.pinned (OpenSpec.ofChange Rows.modeRetainsSpec) :=
  OpenClaim.holds_of_wide 4 Try.f4 rfl rfl rfl rfl rfl rfl rfl ⟨rfl, rfl, rfl, rfl, rfl⟩ rfl rfl rfl rfl rfl (by kernel_rfl) Try.func4 (by kernel_rfl)
    (of_decide_eq_true (by kernel_rfl)) (by unfold Func.isWrapper; first | (rw [if_pos (by decide +kernel)]; kernel_rfl) | (rw [if_neg (by decide +kernel)]; exact ⟨rfl, rfl⟩))
    (fun os started H enc _ => lifted os started H enc)
theorem proved : Rows.ModeRetainsSaid := over
end Go.Proofs.Ytoaegepphkocoaa.modeRetains
