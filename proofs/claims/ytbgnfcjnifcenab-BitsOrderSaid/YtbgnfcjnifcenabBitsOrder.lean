/-
  For any two 64-bit numbers sums and products do not hang on the order, a sum of two that are not below 0 is at least each, and products by 1, 0 and 2 are as they should be; no condition.
  The frame behind the walk is the kit's shell, written by program.
-/
import Derived.Test.YtbgnfcjnifcenabRows
import Derived.Test.YtbgnfcjnifcenabEnds
import Derived.WalkKit
import Derived.ProofKit
import Derived.OpenShut
import Derived.ShutString
namespace Go.Proofs.Ytbgnfcjnifcenab.bitsOrder
open Go.ChangeShapes Go.WideShapes Go.ChangeAt Go.RowKit
open Go.ChangeMaps (open_string shut_string)
set_option linter.unusedVariables false      -- a walk need not use every 'w<i>' (that an integer argument fits its kind)

theorem own : ownKnob Try.prog.godebug = none := by kernel_rfl

theorem sat_ge (a b : Int) (a0 : 0 ≤ a) (b0 : 0 ≤ b) (a1 : a ≤ 9223372036854775807) : a ≤ sat (a + b) := by
  by_cases h : 9223372036854775807 < a + b
  · rw [sat_hi h]; exact a1
  · rw [sat_in (by omega) (by omega)]; omega
/-- The law's body at any two numbers. -/
theorem walk (a0 : Int) (a1 : Int) (w0 : (Lit.int .i64 a0).wf = true) (w1 : (Lit.int .i64 a1).wf = true) (w : World) :
    Calls Try.prog 3 #[.int .i64 a0, .int .i64 a1] w fun e w' => e = .returned (.bool true) ∧ Grown w w' := by
  obtain ⟨l0, h0⟩ := i64_bounds w0
  obtain ⟨l1, h1⟩ := i64_bounds w1
  clear w0 w1
  have t1 : (sat (a0 + a1) == sat (a1 + a0)) = true := by rw [Int.add_comm]; simp
  have t2 : (sat (a0 * a1) == sat (a1 * a0)) = true := by rw [Int.mul_comm]; simp
  have t4 : sat a0 = a0 := sat_in l0 h0
  have t5 : sat 0 = 0 := rfl
  have t6 : (sat (a0 * 2) == sat (a0 + a0)) = true := by rw [show a0 * 2 = a0 + a0 by omega]; simp
  have hor : a0 < 0 ∨ (0 ≤ a0 ∧ a1 < 0) ∨ (0 ≤ a0 ∧ 0 ≤ a1 ∧ a0 ≤ sat (a0 + a1) ∧ a1 ≤ sat (a0 + a1)) := by
    by_cases c0 : a0 < 0
    · exact .inl c0
    by_cases c1 : a1 < 0
    · exact .inr (.inl ⟨by omega, c1⟩)
    · exact .inr (.inr ⟨by omega, by omega, sat_ge a0 a1 (by omega) (by omega) h0, by rw [Int.add_comm]; exact sat_ge a1 a0 (by omega) (by omega) h1⟩)
  rcases hor with c0 | ⟨c0, c1⟩ | ⟨c0, c1, c2, c3⟩
  all_goals
    go_enter Try.func3, Try.ntmps3
    go_wp2_with fail
    refine (add_any a0 a1 _ l0 h0 l1 h1).mono ?_
    rintro e w' ⟨rfl, rfl⟩
    go_wp2_with fail
    refine (awake_true _).mono ?_
    rintro e w1 ⟨rfl, hg, -⟩
    go_wp2_with fail
    refine (add_any a1 a0 _ l1 h1 l0 h0).mono ?_
    rintro e w2 ⟨rfl, rfl⟩
    go_wp2_with fail
    refine (mul_any a0 a1 _ l0 h0 l1 h1).mono ?_
    rintro e w2 ⟨rfl, rfl⟩
    go_wp2_with fail
    refine (mul_any a1 a0 _ l1 h1 l0 h0).mono ?_
    rintro e w2 ⟨rfl, rfl⟩
    go_wp2_with fail
    refine (mul_any a0 1 _ l0 h0 (by omega) (by omega)).mono ?_
    rintro e w2 ⟨rfl, rfl⟩
    go_wp2_with fail
    refine (mul_any a0 0 _ l0 h0 (by omega) (by omega)).mono ?_
    rintro e w2 ⟨rfl, rfl⟩
    go_wp2_with fail
    refine (mul_any a0 2 _ l0 h0 (by omega) (by omega)).mono ?_
    rintro e w2 ⟨rfl, rfl⟩
    go_wp2_with fail
    refine (add_any a0 a0 _ l0 h0 l0 h0).mono ?_
    rintro e w2 ⟨rfl, rfl⟩
    go_wp2_with fail
    go_ret
    exact ⟨rfl, hg⟩

/-! ### THE ROW's STEP: WRITTEN OUT: LEAVE IT -/
set_option maxRecDepth 100000 in
theorem lifted (os : Os) (started : os.Started) (H : Type) (enc : TypeId × Value → H) :
    ReturnsInHanded {} Try.checked os 3 .any (Rows.bitsOrderSpec.pre6 enc Try.prog Try.f3 Rows.bitsOrderRow.domain false) (Rows.bitsOrderSpec.post enc Try.prog Try.f3 false true false false) := by
  refine returnsInHanded_of_change (C := Try.checked) own started (by kernel_rfl) Try.func3
    (ChangeSpec.witness6 (enc := enc) (C := Try.checked) false ⟨#[], #[.int .i64 0, .int .i64 0], []⟩ 8 (by kernel_rfl) (by kernel_rfl) (by kernel_rfl) (by kernel_rfl)) ?_
  intro W base args ds gs before hval0 hW hcnd _
  have hval : ∀ (j : Nat) t v, Try.f3.params[j]? = some t → args[j]? = some v → Value.okWide Try.prog W .any base t v := hval0
  have hW' := hW
  obtain ⟨p, q, hA0, hV, rfl, hfz, hnd⟩ := hW
  have hA : DataW.TrodAll enc Try.prog W 0 (fun _ => true) true Try.f3.params.toList args.toList ds p := hA0
  rw [Try.params3] at hA hval
  obtain ⟨v0, vs0, d0, ds0, p0, q0, hargs, rfl, rfl, h0, r0⟩ := trodAll_cons hA
  obtain ⟨v1, vs1, d1, ds1, p1, q1, rfl, rfl, rfl, h1, r1⟩ := trodAll_cons r0
  obtain ⟨rfl, rfl, rfl⟩ := trodAll_nil r1
  obtain rfl : args = #[v0, v1] := by cases args; simp_all
  obtain ⟨rfl, rfl⟩ := trodVars_none hV
  obtain ⟨a0, rfl, rfl, rfl, w0⟩ := open_int Try.underlying2 (hval 0 2 v0 rfl rfl) h0
  obtain ⟨a1, rfl, rfl, rfl, w1⟩ := open_int Try.underlying2 (hval 1 2 v1 rfl rfl) h1
  clear hA0 hval0
  simp only [List.append_nil] at hW'
  refine (walk a0 a1 w0 w1 W).mono fun e W' ⟨he, hg⟩ => ?_
  subst he
  exact ⟨_, rfl, post_of_same (pa := []) (pv := []) hW' (fun _ _ _ => (trodAll_cons_mk (shut_bool Try.underlying4 _) trodAll_mk0)) (fun sp _ => (trodAll_cons_mk (shut_int Try.underlying2 w0) (trodAll_cons_mk (shut_int Try.underlying2 w1) trodAll_mk0))) (fun _ _ => rfl) rfl
    (hg.frame _) hg.2.1 (ok_one (by kernel_rfl) rfl (okWide_bool_mk Try.underlying4 _))⟩

theorem over : Rows.bitsOrderRow.holds Try.pinned (OpenSpec.ofChange Rows.bitsOrderSpec) :=
  OpenClaim.holds_of_wide 3 Try.f3 rfl rfl rfl rfl rfl rfl rfl ⟨rfl, rfl, rfl, rfl, rfl⟩ rfl rfl rfl rfl rfl (by kernel_rfl) Try.func3 (by kernel_rfl)
    (of_decide_eq_true (by kernel_rfl)) (by unfold Func.isWrapper; first | (rw [if_pos (by decide +kernel)]; kernel_rfl) | (rw [if_neg (by decide +kernel)]; exact ⟨rfl, rfl⟩))
    (fun os started H enc _ => lifted os started H enc)

/-- ████ THE STATEMENT ████ -/
theorem proved : Rows.BitsOrderSaid :=
  over
#print axioms proved
end Go.Proofs.Ytbgnfcjnifcenab.bitsOrder
