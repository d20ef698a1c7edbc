/-
  ModeErases returns true: whether any lock keeps a version at any moment, and lets it be erased, is the document's.
-/
import Derived.Test.YtoaegepphkocoaaPArgs
import Derived.Test.YtoaegepphkocoaaModeArgs
import Derived.Test.YtoaegepphkocoaaModeAwake
namespace Go.Proofs.Ytoaegepphkocoaa.modeErases
open Go.ChangeShapes Go.WideShapes Go.ChangeAt Go.RowKit
open Go.ChangeMaps (open_string shut_string)
set_option linter.unusedVariables false
set_option linter.unusedSimpArgs false
set_option maxHeartbeats 16000000 in
theorem walk (W : World) (m0 u0 : Int) (b0 : Bool) (w0 : i64 m0) (x0 : i64 u0) (m1 u1 : Int) (w1 : i64 m1) (x1 : i64 u1) (a2 : Int) (w2 : (Lit.int .i64 a2).wf = true) (a3 : Bool) :
    Calls Try.prog 3 #[lockV m0 u0 b0, defV m1 u1, .int .i64 a2, .bool a3] W fun e W' => e = .returned (.bool true) ∧ Below W.heap.size W W' := by
  obtain ⟨wA, hwA⟩ : ∃ wA, wA = ((W.alloc (.cells #[.int .i64 m0, .int .i64 u0, .bool b0] 23)).alloc (.cells #[.int .i64 m1, .int .i64 u1] 25)) := ⟨_, rfl⟩
  have HI0 : Hid (LockB wA (W.heap.size) (m0) (u0) (b0) ∧ DefB wA (W.heap.size + 1) (m1) (u1) ∧ Below W.heap.size W wA) := by
    rw [hwA]
    have k0 := LockB.new W (m0) (u0) (b0)
    have k1 := DefB.new (W.alloc (.cells #[.int .i64 m0, .int .i64 u0, .bool b0] 23)) (m1) (u1)
    rw [show (W.alloc (.cells #[.int .i64 m0, .int .i64 u0, .bool b0] 23)).heap.size = W.heap.size + 1 by simp] at k1
    exact ⟨(k0.below (below_new _ _)), k1, ((below_new W _).alloc (by simp) _)⟩
  go_enter Try.func3, Try.ntmps3
  go_wp2_with fail
  rw [← hwA]
  clear hwA
  obtain ⟨S, hS⟩ : ∃ S : World → Prop, S = fun w' => LockB w' (W.heap.size) (m0) (u0) (b0) ∧ DefB w' (W.heap.size + 1) (m1) (u1) ∧ Below W.heap.size W w' := ⟨_, rfl⟩
  have HALL : Hid (∀ w', S w' → LockB w' (W.heap.size) (m0) (u0) (b0) ∧ DefB w' (W.heap.size + 1) (m1) (u1) ∧ Below W.heap.size W w') := fun w' h => by rw [hS] at h; exact h
  have HKEEP : Hid (∀ w1 w2, S w1 → Below w1.heap.size w1 w2 → S w2) := by
    unfold Hid
    rw [hS]
    intro w1 w2 h hb
    exact ⟨h.1.below hb, h.2.1.below hb, h.2.2.trans (hb.mono h.2.2.size)⟩
  have hS0 : S wA.drew := by rw [hS]; exact ⟨HI0.out.1, HI0.out.2.1, HI0.out.2.2.drew⟩
  have HSS : Hid (S wA.drew) := hS0
  have hne := InS.some hS0
  have q00 : ∀ p : InS S, p.w.cell? ⟨W.heap.size, 0, none⟩ = some (.int .i64 (m0)) := fun p => (LockB.cells (HALL.out _ p.h).1).1.1
  have q01 : ∀ p : InS S, p.w.cell? ⟨W.heap.size, 1, none⟩ = some (.int .i64 (u0)) := fun p => (LockB.cells (HALL.out _ p.h).1).1.2.1
  have q02 : ∀ p : InS S, p.w.cell? ⟨W.heap.size, 2, none⟩ = some (.bool b0) := fun p => (LockB.cells (HALL.out _ p.h).1).1.2.2
  have q10 : ∀ p : InS S, p.w.cell? ⟨W.heap.size + 1, 0, none⟩ = some (.int .i64 (m1)) := fun p => (DefB.cells (HALL.out _ p.h).2.1).1
  have q11 : ∀ p : InS S, p.w.cell? ⟨W.heap.size + 1, 1, none⟩ = some (.int .i64 (u1)) := fun p => (DefB.cells (HALL.out _ p.h).2.1).2
  have HC0 : Hid (∀ p : InS S, Calls Try.prog 9 #[] p.w fun e w' => e = .returned (.bool true) ∧ S w') := fun p => (awake_true p.w).mono fun e w' ⟨he, hb⟩ => ⟨he, HKEEP.out _ _ p.h hb⟩
  have HC1 : Hid (∀ p : InS S, Calls Try.prog 10 #[lockV m0 u0 b0] p.w fun e w' => e = .returned (.bool (soundL m0 u0)) ∧ S w') := fun p => (msound_any m0 u0 b0 p.w).mono fun e w' ⟨he, hb⟩ => ⟨he, HKEEP.out _ _ p.h hb⟩
  have HC2 : Hid (∀ p : InS S, Calls Try.prog 12 #[defV m1 u1] p.w fun e w' => e = .returned (.bool (goodD m1 u1)) ∧ S w') := fun p => (mgood_any m1 u1 p.w).mono fun e w' ⟨he, hb⟩ => ⟨he, HKEEP.out _ _ p.h hb⟩
  have HC3 : Hid (∀ p : InS S, Calls Try.prog 14 #[lockV m0 u0 b0, .int .i64 a2] p.w fun e w' => e = .returned (.bool (heldL m0 u0 b0 a2)) ∧ S w') := fun p => (mheld_any m0 u0 b0 a2 p.w).mono fun e w' ⟨he, hb⟩ => ⟨he, HKEEP.out _ _ p.h hb⟩
  have HC4 : Hid (∀ p : InS S, Calls Try.prog 16 #[lockV m0 u0 b0, .int .i64 a2, .bool a3] p.w fun e w' => e = .returned (.int .i64 (eraseL m0 u0 b0 a2 a3 : Nat)) ∧ S w') := fun p => (merase_any m0 u0 b0 a2 a3 p.w).mono fun e w' ⟨he, hb⟩ => ⟨he, HKEEP.out _ _ p.h hb⟩
  have HC5 : Hid (∀ p : InS S, Calls Try.prog 11 #[lockV m0 u0 b0] p.w fun e w' => e = .returned (.bool (soundL m0 u0)) ∧ S w') := fun p => (msound_ref m0 u0 b0 p.w).mono fun e w' ⟨he, hb⟩ => ⟨he, HKEEP.out _ _ p.h hb⟩
  have HC6 : Hid (∀ p : InS S, Calls Try.prog 13 #[defV m1 u1] p.w fun e w' => e = .returned (.bool (goodD m1 u1)) ∧ S w') := fun p => (mgood_ref m1 u1 p.w).mono fun e w' ⟨he, hb⟩ => ⟨he, HKEEP.out _ _ p.h hb⟩
  have HC7 : Hid (∀ p : InS S, Calls Try.prog 15 #[lockV m0 u0 b0, .int .i64 a2] p.w fun e w' => e = .returned (.bool (heldL m0 u0 b0 a2)) ∧ S w') := fun p => (mheld_ref m0 u0 b0 a2 p.w).mono fun e w' ⟨he, hb⟩ => ⟨he, HKEEP.out _ _ p.h hb⟩
  have HC8 : Hid (∀ p : InS S, Calls Try.prog 17 #[lockV m0 u0 b0, .int .i64 a2, .bool a3] p.w fun e w' => e = .returned (.int .i64 (eraseL m0 u0 b0 a2 a3 : Nat)) ∧ S w') := fun p => (merase_ref m0 u0 b0 a2 a3 p.w).mono fun e w' ⟨he, hb⟩ => ⟨he, HKEEP.out _ _ p.h hb⟩
  have HBL : Hid (∀ p : InS S, Below W.heap.size W p.w) := fun p => (HALL.out _ p.h).2.2
  clear HKEEP hS hS0 HI0 
  refine wp_region_in (S := S) (by kernel_rfl) (by kernel_rfl) HSS.out ?_
  repeat (go_big_quiet_step (first | with_reducible refine Calls.in_of (HC0.out _) | with_reducible refine Calls.in_of (HC1.out _) | with_reducible refine Calls.in_of (HC2.out _) | with_reducible refine Calls.in_of (HC3.out _) | with_reducible refine Calls.in_of (HC4.out _) | with_reducible refine Calls.in_of (HC5.out _) | with_reducible refine Calls.in_of (HC6.out _) | with_reducible refine Calls.in_of (HC7.out _) | with_reducible refine Calls.in_of (HC8.out _) | refine Calls.in_of (HC0.out _) | refine Calls.in_of (HC1.out _) | refine Calls.in_of (HC2.out _) | refine Calls.in_of (HC3.out _) | refine Calls.in_of (HC4.out _) | refine Calls.in_of (HC5.out _) | refine Calls.in_of (HC6.out _) | refine Calls.in_of (HC7.out _) | refine Calls.in_of (HC8.out _)))
  refine wpQuiet_nil ?_
  rintro _ ⟨p, rfl⟩
  have HB : Hid (Below W.heap.size W p.w) := HBL.out p
  have HI1 : Hid (LockB p.w (W.heap.size) (m0) (u0) (b0) ∧ DefB p.w (W.heap.size + 1) (m1) (u1) ∧ Below W.heap.size W p.w) := HALL.out _ p.h
  clear HALL HBL hne q00 q01 q02 q10 q11 HC0 HC1 HC2 HC3 HC4 HC5 HC6 HC7 HC8
  generalize p.w = v1 at *
  go_wp2
  go_ret
  exact ⟨rfl, HB.out⟩
set_option maxRecDepth 100000 in
theorem contract (H : Type) (enc : TypeId × Value → H) (W : World) (base : Nat) (args : Array Value) (ds gs : List (DataW H)) (before : List MemPlace)
    (hval : ∀ (j : Nat) t v, Try.f3.params[j]? = some t → args[j]? = some v → Value.okWide Try.prog W .any base t v)
    (hW : DataW.Whole enc Try.prog Try.f3.params.toList Rows.modeErasesSpec.vars false W args.toList ds gs before)
    (hsz : (DataW.weightsEach Try.prog (Try.f3.params.toList ++ Rows.modeErasesSpec.plain.varTypes Try.prog) (ds ++ gs)).all (· ≤ reachBytes) = true) :
    Calls Try.prog 3 args W fun e W' => ∃ v, e = .returned v ∧ Rows.modeErasesSpec.post enc Try.prog Try.f3 false true false false W args v W' := by
  have hW' := hW
  obtain ⟨p, q, hA0, hV, rfl, hfz, hnd⟩ := hW
  have hA : DataW.TrodAll enc Try.prog W 0 (fun _ => true) true Try.f3.params.toList args.toList ds p := hA0
  rw [Try.params3] at hA hval hsz
  obtain ⟨v0, vs0, d0, ds0, p0, q0, hargs, rfl, rfl, h0, r0⟩ := trodAll_cons hA
  obtain ⟨v1, vs1, d1, ds1, p1, q1, rfl, rfl, rfl, h1, r1⟩ := trodAll_cons r0
  obtain ⟨v2, vs2, d2, ds2, p2, q2, rfl, rfl, rfl, h2, r2⟩ := trodAll_cons r1
  obtain ⟨v3, vs3, d3, ds3, p3, q3, rfl, rfl, rfl, h3, r3⟩ := trodAll_cons r2
  obtain ⟨rfl, rfl, rfl⟩ := trodAll_nil r3
  obtain rfl : args = #[v0, v1, v2, v3] := by cases args; simp_all
  obtain ⟨rfl, rfl⟩ := trodVars_none hV
  have k0 := h0
  have lt0 : ∀ x ∈ p0, x.block < W.heap.size := by obtain ⟨m, hm⟩ := k0; exact DataW.trod_lt m _ _ _ hm
  obtain ⟨m0, u0, b0, rfl, w0, x0⟩ := lock_open (hval 0 23 v0 rfl rfl) h0
  have k1 := h1
  have lt1 : ∀ x ∈ p1, x.block < W.heap.size := by obtain ⟨m, hm⟩ := k1; exact DataW.trod_lt m _ _ _ hm
  obtain ⟨m1, u1, rfl, w1, x1⟩ := default_open (hval 1 25 v1 rfl rfl) h1
  obtain ⟨a2, rfl, rfl, rfl, w2⟩ := open_int Try.underlying2 (hval 2 2 v2 rfl rfl) h2
  obtain ⟨a3, rfl, rfl, rfl⟩ := open_bool Try.underlying4 (hval 3 4 v3 rfl rfl) h3
  clear hA0 hsz
  refine (walk W m0 u0 b0 w0 x0 m1 u1 w1 x1 a2 w2 a3).mono fun e W' ⟨he, bel⟩ => ?_
  subst he
  exact ⟨_, rfl, _, _, _, [], _, [], hW', trodAll_mk1 (shut_bool Try.underlying4 _), (trodAll_cons_mk (Below.trod laidOut (by kernel_rfl) (of_decide_eq_true (by kernel_rfl)) k0 bel lt0) (trodAll_cons_mk (Below.trod laidOut (by kernel_rfl) (of_decide_eq_true (by kernel_rfl)) k1 bel lt1) (trodAll_cons_mk (shut_int Try.underlying2 w2) (trodAll_cons_mk (shut_bool Try.underlying4 _) trodAll_mk0)))), rfl, bel.frame _, fun h => by cases h⟩
set_option maxRecDepth 100000 in
theorem lifted (os : Os) (started : os.Started) (H : Type) (enc : TypeId × Value → H) :
    ReturnsInHanded {} Try.checked os 3 .any (Rows.modeErasesSpec.pre6 enc Try.prog Try.f3 Rows.modeErasesRow.domain false) (Rows.modeErasesSpec.post enc Try.prog Try.f3 false true false false) := by
  refine returnsInHanded_of_change_sized (C := Try.checked) own started (by kernel_rfl) Try.func3
    (ChangeSpec.witness6 (enc := enc) (C := Try.checked) false ⟨#[], #[.agg #[.int .i64 0, .int .i64 0, .bool false], .agg #[.int .i64 0, .int .i64 0], .int .i64 0, .bool false], []⟩ 8 (by kernel_rfl) (by kernel_rfl) (by kernel_rfl) (by kernel_rfl)) ?_
  intro W base args ds gs before hval hW _ hsz _
  exact contract H enc W base args ds gs before hval hW hsz
theorem over : Rows.modeErasesRow.holds Try.pinned (OpenSpec.ofChange Rows.modeErasesSpec) :=
  OpenClaim.holds_of_wide 3 Try.f3 rfl rfl rfl rfl rfl rfl rfl ⟨rfl, rfl, rfl, rfl, rfl⟩ rfl rfl rfl rfl rfl (by kernel_rfl) Try.func3 (by kernel_rfl)
    (of_decide_eq_true (by kernel_rfl)) (by unfold Func.isWrapper; first | (rw [if_pos (by decide +kernel)]; kernel_rfl) | (rw [if_neg (by decide +kernel)]; exact ⟨rfl, rfl⟩))
    (fun os started H enc _ => lifted os started H enc)
theorem proved : Rows.ModeErasesSaid := over
end Go.Proofs.Ytoaegepphkocoaa.modeErases
