/-
  ModeCovers returns true: whether any lock keeps a version at least as any other one, is the document's.
-/
import Derived.Test.YtoaegepphkocoaaPArgs
import Derived.Test.YtoaegepphkocoaaModeArgs
import Derived.Test.YtoaegepphkocoaaModeAwake
namespace Go.Proofs.Ytoaegepphkocoaa.modeCovers
open Go.ChangeShapes Go.WideShapes Go.ChangeAt Go.RowKit
open Go.ChangeMaps (open_string shut_string)
set_option linter.unusedVariables false
set_option linter.unusedSimpArgs false
set_option maxHeartbeats 16000000 in
theorem walk (W : World) (m0 u0 : Int) (b0 : Bool) (w0 : i64 m0) (x0 : i64 u0) (m1 u1 : Int) (b1 : Bool) (w1 : i64 m1) (x1 : i64 u1) (a2 : Int) (w2 : (Lit.int .i64 a2).wf = true) :
    Calls Try.prog 5 #[lockV m0 u0 b0, lockV m1 u1 b1, .int .i64 a2] W fun e W' => e = .returned (.bool true) ∧ Below W.heap.size W W' := by
  obtain ⟨wA, hwA⟩ : ∃ wA, wA = ((W.alloc (.cells #[.int .i64 m0, .int .i64 u0, .bool b0] 23)).alloc (.cells #[.int .i64 m1, .int .i64 u1, .bool b1] 23)) := ⟨_, rfl⟩
  have HI0 : Hid (LockB wA (W.heap.size) (m0) (u0) (b0) ∧ LockB wA (W.heap.size + 1) (m1) (u1) (b1) ∧ Below W.heap.size W wA) := by
    rw [hwA]
    have k0 := LockB.new W (m0) (u0) (b0)
    have k1 := LockB.new (W.alloc (.cells #[.int .i64 m0, .int .i64 u0, .bool b0] 23)) (m1) (u1) (b1)
    rw [show (W.alloc (.cells #[.int .i64 m0, .int .i64 u0, .bool b0] 23)).heap.size = W.heap.size + 1 by simp] at k1
    exact ⟨(k0.below (below_new _ _)), k1, ((below_new W _).alloc (by simp) _)⟩
  go_enter Try.func5, Try.ntmps5
  go_wp2_with fail
  rw [← hwA]
  clear hwA
  obtain ⟨S, hS⟩ : ∃ S : World → Prop, S = fun w' => LockB w' (W.heap.size) (m0) (u0) (b0) ∧ LockB w' (W.heap.size + 1) (m1) (u1) (b1) ∧ Below W.heap.size W w' := ⟨_, rfl⟩
  have HALL : Hid (∀ w', S w' → LockB w' (W.heap.size) (m0) (u0) (b0) ∧ LockB w' (W.heap.size + 1) (m1) (u1) (b1) ∧ Below W.heap.size W w') := fun w' h => by rw [hS] at h; exact h
  have HKEEP : Hid (∀ w1 w2, S w1 → Below w1.heap.size w1 w2 → S w2) := by
    unfold Hid
    rw [hS]
    intro w1 w2 h hb
    exact ⟨h.1.below hb, h.2.1.below hb, h.2.2.trans (hb.mono h.2.2.size)⟩
  have hS0 : S wA.drew := by rw [hS]; exact ⟨HI0.out.1, HI0.out.2.1, HI0.out.2.2.drew⟩
  have HSS : Hid (S wA.drew) := hS0
  have hne := InS.some hS0
  have q00 : ∀ p : InS S, p.w.cell? ⟨W.heap.size, 0, none⟩ = some (.int .i64 (m0)) := fun p => (LockB.cells (HALL.out _ p.h).1).1.1
  have q01 : ∀ p : InS S, p.w.cell? ⟨W.heap.size, 1, none⟩ = some (.int .i64 (u0)) := fun p => (LockB.cells (HALL.out _ p.h).1).1.2.1
  have q02 : ∀ p : InS S, p.w.cell? ⟨W.heap.size, 2, none⟩ = some (.bool b0) := fun p => (LockB.cells (HALL.out _ p.h).1).1.2.2
  have q10 : ∀ p : InS S, p.w.cell? ⟨W.heap.size + 1, 0, none⟩ = some (.int .i64 (m1)) := fun p => (LockB.cells (HALL.out _ p.h).2.1).1.1
  have q11 : ∀ p : InS S, p.w.cell? ⟨W.heap.size + 1, 1, none⟩ = some (.int .i64 (u1)) := fun p => (LockB.cells (HALL.out _ p.h).2.1).1.2.1
  have q12 : ∀ p : InS S, p.w.cell? ⟨W.heap.size + 1, 2, none⟩ = some (.bool b1) := fun p => (LockB.cells (HALL.out _ p.h).2.1).1.2.2
  have HC0 : Hid (∀ p : InS S, Calls Try.prog 9 #[] p.w fun e w' => e = .returned (.bool true) ∧ S w') := fun p => (awake_true p.w).mono fun e w' ⟨he, hb⟩ => ⟨he, HKEEP.out _ _ p.h hb⟩
  have HC1 : Hid (∀ p : InS S, Calls Try.prog 22 #[lockV m0 u0 b0, lockV m1 u1 b1, .int .i64 a2] p.w fun e w' => e = .returned (.bool (coversL m0 u0 b0 m1 u1 b1 a2)) ∧ S w') := fun p => (mcovers_any m0 u0 b0 m1 u1 b1 a2 p.w).mono fun e w' ⟨he, hb⟩ => ⟨he, HKEEP.out _ _ p.h hb⟩
  have HC2 : Hid (∀ p : InS S, Calls Try.prog 23 #[lockV m0 u0 b0, lockV m1 u1 b1, .int .i64 a2] p.w fun e w' => e = .returned (.bool (coversL m0 u0 b0 m1 u1 b1 a2)) ∧ S w') := fun p => (mcovers_ref m0 u0 b0 m1 u1 b1 a2 p.w).mono fun e w' ⟨he, hb⟩ => ⟨he, HKEEP.out _ _ p.h hb⟩
  have HBL : Hid (∀ p : InS S, Below W.heap.size W p.w) := fun p => (HALL.out _ p.h).2.2
  clear HKEEP hS hS0 HI0 
  refine wp_region_in (S := S) (by kernel_rfl) (by kernel_rfl) HSS.out ?_
  repeat (go_big_quiet_step (first | with_reducible refine Calls.in_of (HC0.out _) | with_reducible refine Calls.in_of (HC1.out _) | with_reducible refine Calls.in_of (HC2.out _) | refine Calls.in_of (HC0.out _) | refine Calls.in_of (HC1.out _) | refine Calls.in_of (HC2.out _)))
  refine wpQuiet_nil ?_
  rintro _ ⟨p, rfl⟩
  have HB : Hid (Below W.heap.size W p.w) := HBL.out p
  have HI1 : Hid (LockB p.w (W.heap.size) (m0) (u0) (b0) ∧ LockB p.w (W.heap.size + 1) (m1) (u1) (b1) ∧ Below W.heap.size W p.w) := HALL.out _ p.h
  clear HALL HBL hne q00 q01 q02 q10 q11 q12 HC0 HC1 HC2
  generalize p.w = v1 at *
  go_wp2
  go_ret
  exact ⟨rfl, HB.out⟩
set_option maxRecDepth 100000 in
theorem contract (H : Type) (enc : TypeId × Value → H) (W : World) (base : Nat) (args : Array Value) (ds gs : List (DataW H)) (before : List MemPlace)
    (hval : ∀ (j : Nat) t v, Try.f5.params[j]? = some t → args[j]? = some v → Value.okWide Try.prog W .any base t v)
    (hW : DataW.Whole enc Try.prog Try.f5.params.toList Rows.modeCoversSpec.vars false W args.toList ds gs before)
    (hsz : (DataW.weightsEach Try.prog (Try.f5.params.toList ++ Rows.modeCoversSpec.plain.varTypes Try.prog) (ds ++ gs)).all (· ≤ reachBytes) = true) :
    Calls Try.prog 5 args W fun e W' => ∃ v, e = .returned v ∧ Rows.modeCoversSpec.post enc Try.prog Try.f5 false true false false W args v W' := by
  have hW' := hW
  obtain ⟨p, q, hA0, hV, rfl, hfz, hnd⟩ := hW
  have hA : DataW.TrodAll enc Try.prog W 0 (fun _ => true) true Try.f5.params.toList args.toList ds p := hA0
  rw [Try.params5] at hA hval hsz
  obtain ⟨v0, vs0, d0, ds0, p0, q0, hargs, rfl, rfl, h0, r0⟩ := trodAll_cons hA
  obtain ⟨v1, vs1, d1, ds1, p1, q1, rfl, rfl, rfl, h1, r1⟩ := trodAll_cons r0
  obtain ⟨v2, vs2, d2, ds2, p2, q2, rfl, rfl, rfl, h2, r2⟩ := trodAll_cons r1
  obtain ⟨rfl, rfl, rfl⟩ := trodAll_nil r2
  obtain rfl : args = #[v0, v1, v2] := by cases args; simp_all
  obtain ⟨rfl, rfl⟩ := trodVars_none hV
  have k0 := h0
  have lt0 : ∀ x ∈ p0, x.block < W.heap.size := by obtain ⟨m, hm⟩ := k0; exact DataW.trod_lt m _ _ _ hm
  obtain ⟨m0, u0, b0, rfl, w0, x0⟩ := lock_open (hval 0 23 v0 rfl rfl) h0
  have k1 := h1
  have lt1 : ∀ x ∈ p1, x.block < W.heap.size := by obtain ⟨m, hm⟩ := k1; exact DataW.trod_lt m _ _ _ hm
  obtain ⟨m1, u1, b1, rfl, w1, x1⟩ := lock_open (hval 1 23 v1 rfl rfl) h1
  obtain ⟨a2, rfl, rfl, rfl, w2⟩ := open_int Try.underlying2 (hval 2 2 v2 rfl rfl) h2
  clear hA0 hsz
  refine (walk W m0 u0 b0 w0 x0 m1 u1 b1 w1 x1 a2 w2).mono fun e W' ⟨he, bel⟩ => ?_
  subst he
  exact ⟨_, rfl, _, _, _, [], _, [], hW', trodAll_mk1 (shut_bool Try.underlying4 _), (trodAll_cons_mk (Below.trod laidOut (by kernel_rfl) (of_decide_eq_true (by kernel_rfl)) k0 bel lt0) (trodAll_cons_mk (Below.trod laidOut (by kernel_rfl) (of_decide_eq_true (by kernel_rfl)) k1 bel lt1) (trodAll_cons_mk (shut_int Try.underlying2 w2) trodAll_mk0))), rfl, bel.frame _, fun h => by cases h⟩
set_option maxRecDepth 100000 in
theorem lifted (os : Os) (started : os.Started) (H : Type) (enc : TypeId × Value → H) :
    ReturnsInHanded {} Try.checked os 5 .any (Rows.modeCoversSpec.pre6 enc Try.prog Try.f5 Rows.modeCoversRow.domain false) (Rows.modeCoversSpec.post enc Try.prog Try.f5 false true false false) := by
  refine returnsInHanded_of_change_sized (C := Try.checked) own started (by kernel_rfl) Try.func5
    (ChangeSpec.witness6 (enc := enc) (C := Try.checked) false ⟨#[], #[.agg #[.int .i64 0, .int .i64 0, .bool false], .agg #[.int .i64 0, .int .i64 0, .bool false], .int .i64 0], []⟩ 8 (by kernel_rfl) (by kernel_rfl) (by kernel_rfl) (by kernel_rfl)) ?_
  intro W base args ds gs before hval hW _ hsz _
  exact contract H enc W base args ds gs before hval hW hsz
theorem over : Rows.modeCoversRow.holds Try.pinned (OpenSpec.ofChange Rows.modeCoversSpec) :=
  OpenClaim.holds_of_wide 5 Try.f5 rfl rfl rfl rfl rfl rfl rfl ⟨rfl, rfl, rfl, rfl, rfl⟩ rfl rfl rfl rfl rfl (by kernel_rfl) Try.func5 (by kernel_rfl)
    (of_decide_eq_true (by kernel_rfl)) (by unfold Func.isWrapper; first | (rw [if_pos (by decide +kernel)]; kernel_rfl) | (rw [if_neg (by decide +kernel)]; exact ⟨rfl, rfl⟩))
    (fun os started H enc _ => lifted os started H enc)
theorem proved : Rows.ModeCoversSaid := over
end Go.Proofs.Ytoaegepphkocoaa.modeCovers
