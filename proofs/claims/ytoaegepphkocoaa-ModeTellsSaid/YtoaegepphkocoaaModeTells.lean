/-
  ModeTells returns true: who may erase without a bypass may with one; what is not held may be erased; what may be erased is not held, but for a bypass.
-/
import Derived.Test.YtoaegepphkocoaaPArgs
import Derived.Test.YtoaegepphkocoaaModeArgs
import Derived.Test.YtoaegepphkocoaaModeAwake
namespace Go.Proofs.Ytoaegepphkocoaa.modeTells
open Go.ChangeShapes Go.WideShapes Go.ChangeAt Go.RowKit
open Go.ChangeMaps (open_string shut_string)
set_option linter.unusedVariables false
set_option linter.unusedSimpArgs false
theorem tells_bad {m u t : Int} {h b : Bool} (hs : soundL m u = false) : eraseL m u h t b = 2 := by unfold eraseL; rw [if_pos hs]
theorem tells_good {m u t : Int} {h : Bool} (hs : soundL m u = true) : (heldL m u h t = false ∧ eraseL m u h t false = 0 ∧ eraseL m u h t true = 0) ∨ (heldL m u h t = true ∧ eraseL m u h t false = 13 ∧ eraseL m u h t true = 0) ∨ (heldL m u h t = true ∧ eraseL m u h t false = 13 ∧ eraseL m u h t true = 13) := by
  unfold heldL eraseL
  by_cases m2 : m = 2
  · subst m2
    cases h <;> cases hb : bindsL 2 u t <;> simp [hs]
  · cases h <;> cases hb : bindsL m u t <;> simp [hs, m2]
set_option maxHeartbeats 16000000 in
theorem walk (W : World) (m0 u0 : Int) (b0 : Bool) (w0 : i64 m0) (x0 : i64 u0) (a1 : Int) (w1 : (Lit.int .i64 a1).wf = true) :
    Calls Try.prog 7 #[lockV m0 u0 b0, .int .i64 a1] W fun e W' => e = .returned (.bool true) ∧ Below W.heap.size W W' := by
  obtain ⟨wA, hwA⟩ : ∃ wA, wA = (W.alloc (.cells #[.int .i64 m0, .int .i64 u0, .bool b0] 23)) := ⟨_, rfl⟩
  have HI0 : Hid (LockB wA (W.heap.size) (m0) (u0) (b0) ∧ Below W.heap.size W wA) := by
    rw [hwA]
    have k0 := LockB.new W (m0) (u0) (b0)
    exact ⟨k0, (below_new W _)⟩
  go_enter Try.func7, Try.ntmps7
  go_wp2_with fail
  rw [← hwA]
  clear hwA
  obtain ⟨S, hS⟩ : ∃ S : World → Prop, S = fun w' => LockB w' (W.heap.size) (m0) (u0) (b0) ∧ Below W.heap.size W w' := ⟨_, rfl⟩
  have HALL : Hid (∀ w', S w' → LockB w' (W.heap.size) (m0) (u0) (b0) ∧ Below W.heap.size W w') := fun w' h => by rw [hS] at h; exact h
  have HKEEP : Hid (∀ w1 w2, S w1 → Below w1.heap.size w1 w2 → S w2) := by
    unfold Hid
    rw [hS]
    intro w1 w2 h hb
    exact ⟨h.1.below hb, h.2.trans (hb.mono h.2.size)⟩
  have hS0 : S wA.drew := by rw [hS]; exact ⟨HI0.out.1, HI0.out.2.drew⟩
  have HSS : Hid (S wA.drew) := hS0
  have hne := InS.some hS0
  have q00 : ∀ p : InS S, p.w.cell? ⟨W.heap.size, 0, none⟩ = some (.int .i64 (m0)) := fun p => (LockB.cells (HALL.out _ p.h).1).1.1
  have q01 : ∀ p : InS S, p.w.cell? ⟨W.heap.size, 1, none⟩ = some (.int .i64 (u0)) := fun p => (LockB.cells (HALL.out _ p.h).1).1.2.1
  have q02 : ∀ p : InS S, p.w.cell? ⟨W.heap.size, 2, none⟩ = some (.bool b0) := fun p => (LockB.cells (HALL.out _ p.h).1).1.2.2
  have HC0 : Hid (∀ p : InS S, Calls Try.prog 16 #[lockV m0 u0 b0, .int .i64 a1, .bool false] p.w fun e w' => e = .returned (.int .i64 (eraseL m0 u0 b0 a1 false : Nat)) ∧ S w') := fun p => (merase_any m0 u0 b0 a1 false p.w).mono fun e w' ⟨he, hb⟩ => ⟨he, HKEEP.out _ _ p.h hb⟩
  have HC1 : Hid (∀ p : InS S, Calls Try.prog 16 #[lockV m0 u0 b0, .int .i64 a1, .bool true] p.w fun e w' => e = .returned (.int .i64 (eraseL m0 u0 b0 a1 true : Nat)) ∧ S w') := fun p => (merase_any m0 u0 b0 a1 true p.w).mono fun e w' ⟨he, hb⟩ => ⟨he, HKEEP.out _ _ p.h hb⟩
  have HBL : Hid (∀ p : InS S, Below W.heap.size W p.w) := fun p => (HALL.out _ p.h).2
  clear HKEEP hS hS0 HI0 
  refine wp_region_in (S := S) (by kernel_rfl) (by kernel_rfl) HSS.out ?_
  repeat (go_big_quiet_step (first | with_reducible refine Calls.in_of (HC0.out _) | with_reducible refine Calls.in_of (HC1.out _) | refine Calls.in_of (HC0.out _) | refine Calls.in_of (HC1.out _)))
  refine wpQuiet_nil ?_
  rintro _ ⟨p, rfl⟩
  have HB : Hid (Below W.heap.size W p.w) := HBL.out p
  have HI1 : Hid (LockB p.w (W.heap.size) (m0) (u0) (b0) ∧ Below W.heap.size W p.w) := HALL.out _ p.h
  clear HALL HBL hne q00 q01 q02 HC0 HC1
  generalize p.w = v1 at *
  cases hs : soundL m0 u0 with
  | false =>
    rw [tells_bad hs, tells_bad hs]
    have HSB : Hid (soundL m0 u0 = false) := hs
    clear hs
    obtain ⟨⟨c00, c01, c02⟩, -⟩ := HI1.out.1.cells
    go_wp2_with fail
    refine Calls.mono (awake_true _) ?_
    rintro e v2 ⟨rfl, hb⟩
    have HI2 : Hid (LockB v2 (W.heap.size) (m0) (u0) (b0) ∧ Below W.heap.size W v2) := ⟨HI1.out.1.below hb, HI1.out.2.trans (hb.mono HI1.out.2.size)⟩
    clear hb HI1 c00 c01 c02
    obtain ⟨⟨c00, c01, c02⟩, -⟩ := HI2.out.1.cells
    show _
    go_wp2_with fail
    refine Calls.mono (msound_any m0 u0 b0 _) ?_
    rw [HSB.out]
    rintro e v3 ⟨rfl, hb⟩
    have HI3 : Hid (LockB v3 (W.heap.size) (m0) (u0) (b0) ∧ Below W.heap.size W v3) := ⟨HI2.out.1.below hb, HI2.out.2.trans (hb.mono HI2.out.2.size)⟩
    clear hb HI2 c00 c01 c02
    obtain ⟨⟨c00, c01, c02⟩, -⟩ := HI3.out.1.cells
    show _
    go_wp2_with fail
    refine Calls.mono (awake_true _) ?_
    rintro e v4 ⟨rfl, hb⟩
    have HI4 : Hid (LockB v4 (W.heap.size) (m0) (u0) (b0) ∧ Below W.heap.size W v4) := ⟨HI3.out.1.below hb, HI3.out.2.trans (hb.mono HI3.out.2.size)⟩
    clear hb HI3 c00 c01 c02
    obtain ⟨⟨c00, c01, c02⟩, -⟩ := HI4.out.1.cells
    show _
    go_wp2_with fail
    go_ret
    exact ⟨rfl, HI4.out.2⟩
  | true =>
    have HSB : Hid (soundL m0 u0 = true) := hs
    rcases tells_good (h := b0) (t := a1) hs with ⟨d1, d2, d3⟩ | ⟨d1, d2, d3⟩ | ⟨d1, d2, d3⟩
    · rw [d2, d3]
      have HD : Hid (heldL m0 u0 b0 a1 = false) := d1
      clear hs d1 d2 d3
      obtain ⟨⟨c00, c01, c02⟩, -⟩ := HI1.out.1.cells
      go_wp2_with fail
      refine Calls.mono (awake_true _) ?_
      rintro e v2 ⟨rfl, hb⟩
      have HI2 : Hid (LockB v2 (W.heap.size) (m0) (u0) (b0) ∧ Below W.heap.size W v2) := ⟨HI1.out.1.below hb, HI1.out.2.trans (hb.mono HI1.out.2.size)⟩
      clear hb HI1 c00 c01 c02
      obtain ⟨⟨c00, c01, c02⟩, -⟩ := HI2.out.1.cells
      show _
      go_wp2_with fail
      refine Calls.mono (msound_any m0 u0 b0 _) ?_
      rw [HSB.out]
      rintro e v3 ⟨rfl, hb⟩
      have HI3 : Hid (LockB v3 (W.heap.size) (m0) (u0) (b0) ∧ Below W.heap.size W v3) := ⟨HI2.out.1.below hb, HI2.out.2.trans (hb.mono HI2.out.2.size)⟩
      clear hb HI2 c00 c01 c02
      obtain ⟨⟨c00, c01, c02⟩, -⟩ := HI3.out.1.cells
      show _
      go_wp2_with fail
      refine Calls.mono (mheld_any m0 u0 b0 a1 _) ?_
      rw [HD.out]
      rintro e v4 ⟨rfl, hb⟩
      have HI4 : Hid (LockB v4 (W.heap.size) (m0) (u0) (b0) ∧ Below W.heap.size W v4) := ⟨HI3.out.1.below hb, HI3.out.2.trans (hb.mono HI3.out.2.size)⟩
      clear hb HI3 c00 c01 c02
      obtain ⟨⟨c00, c01, c02⟩, -⟩ := HI4.out.1.cells
      show _
      go_wp2_with fail
      go_ret
      exact ⟨rfl, HI4.out.2⟩
    · rw [d2, d3]
      have HD : Hid (heldL m0 u0 b0 a1 = true) := d1
      clear hs d1 d2 d3
      obtain ⟨⟨c00, c01, c02⟩, -⟩ := HI1.out.1.cells
      go_wp2_with fail
      refine Calls.mono (awake_true _) ?_
      rintro e v2 ⟨rfl, hb⟩
      have HI2 : Hid (LockB v2 (W.heap.size) (m0) (u0) (b0) ∧ Below W.heap.size W v2) := ⟨HI1.out.1.below hb, HI1.out.2.trans (hb.mono HI1.out.2.size)⟩
      clear hb HI1 c00 c01 c02
      obtain ⟨⟨c00, c01, c02⟩, -⟩ := HI2.out.1.cells
      show _
      go_wp2_with fail
      refine Calls.mono (msound_any m0 u0 b0 _) ?_
      rw [HSB.out]
      rintro e v3 ⟨rfl, hb⟩
      have HI3 : Hid (LockB v3 (W.heap.size) (m0) (u0) (b0) ∧ Below W.heap.size W v3) := ⟨HI2.out.1.below hb, HI2.out.2.trans (hb.mono HI2.out.2.size)⟩
      clear hb HI2 c00 c01 c02
      obtain ⟨⟨c00, c01, c02⟩, -⟩ := HI3.out.1.cells
      show _
      go_wp2_with fail
      refine Calls.mono (mheld_any m0 u0 b0 a1 _) ?_
      rw [HD.out]
      rintro e v4 ⟨rfl, hb⟩
      have HI4 : Hid (LockB v4 (W.heap.size) (m0) (u0) (b0) ∧ Below W.heap.size W v4) := ⟨HI3.out.1.below hb, HI3.out.2.trans (hb.mono HI3.out.2.size)⟩
      clear hb HI3 c00 c01 c02
      obtain ⟨⟨c00, c01, c02⟩, -⟩ := HI4.out.1.cells
      show _
      go_wp2_with fail
      go_ret
      exact ⟨rfl, HI4.out.2⟩
    · rw [d2, d3]
      have HD : Hid (heldL m0 u0 b0 a1 = true) := d1
      clear hs d1 d2 d3
      obtain ⟨⟨c00, c01, c02⟩, -⟩ := HI1.out.1.cells
      go_wp2_with fail
      refine Calls.mono (awake_true _) ?_
      rintro e v2 ⟨rfl, hb⟩
      have HI2 : Hid (LockB v2 (W.heap.size) (m0) (u0) (b0) ∧ Below W.heap.size W v2) := ⟨HI1.out.1.below hb, HI1.out.2.trans (hb.mono HI1.out.2.size)⟩
      clear hb HI1 c00 c01 c02
      obtain ⟨⟨c00, c01, c02⟩, -⟩ := HI2.out.1.cells
      show _
      go_wp2_with fail
      refine Calls.mono (msound_any m0 u0 b0 _) ?_
      rw [HSB.out]
      rintro e v3 ⟨rfl, hb⟩
      have HI3 : Hid (LockB v3 (W.heap.size) (m0) (u0) (b0) ∧ Below W.heap.size W v3) := ⟨HI2.out.1.below hb, HI2.out.2.trans (hb.mono HI2.out.2.size)⟩
      clear hb HI2 c00 c01 c02
      obtain ⟨⟨c00, c01, c02⟩, -⟩ := HI3.out.1.cells
      show _
      go_wp2_with fail
      refine Calls.mono (mheld_any m0 u0 b0 a1 _) ?_
      rw [HD.out]
      rintro e v4 ⟨rfl, hb⟩
      have HI4 : Hid (LockB v4 (W.heap.size) (m0) (u0) (b0) ∧ Below W.heap.size W v4) := ⟨HI3.out.1.below hb, HI3.out.2.trans (hb.mono HI3.out.2.size)⟩
      clear hb HI3 c00 c01 c02
      obtain ⟨⟨c00, c01, c02⟩, -⟩ := HI4.out.1.cells
      show _
      go_wp2_with fail
      refine Calls.mono (mheld_any m0 u0 b0 a1 _) ?_
      rw [HD.out]
      rintro e v5 ⟨rfl, hb⟩
      have HI5 : Hid (LockB v5 (W.heap.size) (m0) (u0) (b0) ∧ Below W.heap.size W v5) := ⟨HI4.out.1.below hb, HI4.out.2.trans (hb.mono HI4.out.2.size)⟩
      clear hb HI4 c00 c01 c02
      obtain ⟨⟨c00, c01, c02⟩, -⟩ := HI5.out.1.cells
      show _
      go_wp2_with fail
      go_ret
      exact ⟨rfl, HI5.out.2⟩
set_option maxRecDepth 100000 in
theorem contract (H : Type) (enc : TypeId × Value → H) (W : World) (base : Nat) (args : Array Value) (ds gs : List (DataW H)) (before : List MemPlace)
    (hval : ∀ (j : Nat) t v, Try.f7.params[j]? = some t → args[j]? = some v → Value.okWide Try.prog W .any base t v)
    (hW : DataW.Whole enc Try.prog Try.f7.params.toList Rows.modeTellsSpec.vars false W args.toList ds gs before)
    (hsz : (DataW.weightsEach Try.prog (Try.f7.params.toList ++ Rows.modeTellsSpec.plain.varTypes Try.prog) (ds ++ gs)).all (· ≤ reachBytes) = true) :
    Calls Try.prog 7 args W fun e W' => ∃ v, e = .returned v ∧ Rows.modeTellsSpec.post enc Try.prog Try.f7 false true false false W args v W' := by
  have hW' := hW
  obtain ⟨p, q, hA0, hV, rfl, hfz, hnd⟩ := hW
  have hA : DataW.TrodAll enc Try.prog W 0 (fun _ => true) true Try.f7.params.toList args.toList ds p := hA0
  rw [Try.params7] at hA hval hsz
  obtain ⟨v0, vs0, d0, ds0, p0, q0, hargs, rfl, rfl, h0, r0⟩ := trodAll_cons hA
  obtain ⟨v1, vs1, d1, ds1, p1, q1, rfl, rfl, rfl, h1, r1⟩ := trodAll_cons r0
  obtain ⟨rfl, rfl, rfl⟩ := trodAll_nil r1
  obtain rfl : args = #[v0, v1] := by cases args; simp_all
  obtain ⟨rfl, rfl⟩ := trodVars_none hV
  have k0 := h0
  have lt0 : ∀ x ∈ p0, x.block < W.heap.size := by obtain ⟨m, hm⟩ := k0; exact DataW.trod_lt m _ _ _ hm
  obtain ⟨m0, u0, b0, rfl, w0, x0⟩ := lock_open (hval 0 23 v0 rfl rfl) h0
  obtain ⟨a1, rfl, rfl, rfl, w1⟩ := open_int Try.underlying2 (hval 1 2 v1 rfl rfl) h1
  clear hA0 hsz
  refine (walk W m0 u0 b0 w0 x0 a1 w1).mono fun e W' ⟨he, bel⟩ => ?_
  subst he
  exact ⟨_, rfl, _, _, _, [], _, [], hW', trodAll_mk1 (shut_bool Try.underlying4 _), (trodAll_cons_mk (Below.trod laidOut (by kernel_rfl) (of_decide_eq_true (by kernel_rfl)) k0 bel lt0) (trodAll_cons_mk (shut_int Try.underlying2 w1) trodAll_mk0)), rfl, bel.frame _, fun h => by cases h⟩
set_option maxRecDepth 100000 in
theorem lifted (os : Os) (started : os.Started) (H : Type) (enc : TypeId × Value → H) :
    ReturnsInHanded {} Try.checked os 7 .any (Rows.modeTellsSpec.pre6 enc Try.prog Try.f7 Rows.modeTellsRow.domain false) (Rows.modeTellsSpec.post enc Try.prog Try.f7 false true false false) := by
  refine returnsInHanded_of_change_sized (C := Try.checked) own started (by kernel_rfl) Try.func7
    (ChangeSpec.witness6 (enc := enc) (C := Try.checked) false ⟨#[], #[.agg #[.int .i64 0, .int .i64 0, .bool false], .int .i64 0], []⟩ 8 (by kernel_rfl) (by kernel_rfl) (by kernel_rfl) (by kernel_rfl)) ?_
  intro W base args ds gs before hval hW _ hsz _
  exact contract H enc W base args ds gs before hval hW hsz
theorem over : Rows.modeTellsRow.holds Try.pinned (OpenSpec.ofChange Rows.modeTellsSpec) :=
  OpenClaim.holds_of_wide 7 Try.f7 rfl rfl rfl rfl rfl rfl rfl ⟨rfl, rfl, rfl, rfl, rfl⟩ rfl rfl rfl rfl rfl (by kernel_rfl) Try.func7 (by kernel_rfl)
    (of_decide_eq_true (by kernel_rfl)) (by unfold Func.isWrapper; first | (rw [if_pos (by decide +kernel)]; kernel_rfl) | (rw [if_neg (by decide +kernel)]; exact ⟨rfl, rfl⟩))
    (fun os started H enc _ => lifted os started H enc)
theorem proved : Rows.ModeTellsSaid := over
end Go.Proofs.Ytoaegepphkocoaa.modeTells
