/-
  For any word, any places and any value the program's Field and Set answer as the document's do; no condition.
  The frame behind the walk is the kit's shell, written by program.
-/
import Derived.Test.YtbgnfcjnifcenaaRows
import Derived.Test.YtbgnfcjnifcenaaRefField
import Derived.WalkKit
import Derived.ProofKit
import Derived.OpenShut
import Derived.ShutString
namespace Go.Proofs.Ytbgnfcjnifcenaa.bitsFields
open Go.ChangeShapes Go.WideShapes Go.ChangeAt Go.RowKit
open Go.ChangeMaps (open_string shut_string)
set_option linter.unusedVariables false      -- a walk need not use every 'w<i>' (that an integer argument fits its kind)

theorem own : ownKnob Try.prog.godebug = none := by kernel_rfl

/-- The law's body at any input. -/
theorem walk (a0 : Int) (a1 : Int) (a2 : Int) (a3 : Int) (w0 : (Lit.int .u64 a0).wf = true) (w1 : (Lit.int .i64 a1).wf = true) (w2 : (Lit.int .i64 a2).wf = true) (w3 : (Lit.int .u64 a3).wf = true) (w : World) :
    Calls Try.prog 5 #[.int .u64 a0, .int .i64 a1, .int .i64 a2, .int .u64 a3] w fun e w' => e = .returned (.bool true) ∧ Grown w w' := by
  obtain ⟨l0, h0⟩ := bounds_u64 w0
  obtain ⟨l1, h1⟩ := bounds_i64 w1
  obtain ⟨l2, h2⟩ := bounds_i64 w2
  obtain ⟨l3, h3⟩ := bounds_u64 w3
  clear w0 w1 w2 w3
  obtain ⟨W, rfl⟩ := Int.eq_ofNat_of_zero_le l0
  obtain ⟨V, rfl⟩ := Int.eq_ofNat_of_zero_le l3
  have hW : W < 18446744073709551616 := by omega
  have hV : V < 18446744073709551616 := by omega
  by_cases hg : good a1 a2
  · obtain ⟨g1, g2, g3, g4, g5⟩ := hg
    obtain ⟨i, rfl⟩ := Int.eq_ofNat_of_zero_le g1
    obtain ⟨k, rfl⟩ := Int.eq_ofNat_of_zero_le g2
    have hik : i + k ≤ 64 := by omega
    clear g1 g2 g3 g4 g5 l0 h0 l1 h1 l2 h2 l3 h3
    by_cases hr : V < 2 ^ k
    · have HR : Hid (V < 2 ^ k) := hr
      clear hr
      go_enter Try.func5, Try.ntmps5
      go_wp2_with fail
      refine (field_N W i k _ hW hik).mono ?_
      rintro e w1 ⟨rfl, n1, rfl⟩
      go_wp2_with fail
      refine (rfield_N W i k _ hW hik).mono ?_
      rintro e w2 ⟨rfl, rfl⟩
      generalize fieldN W i k = F at *
      go_wp2_with fail
      refine (set_ok W V i k _ hW hV hik HR.out).mono ?_
      rintro e w3 ⟨rfl, n3, rfl⟩
      go_wp2_with fail
      refine (rset_ok W V i k _ hW hV hik HR.out).mono ?_
      rintro e w4 ⟨rfl, rfl⟩
      generalize setN W i k V = S at *
      go_wp2_with fail
      refine (awake_true _).mono ?_
      rintro e w5 ⟨rfl, hgr, -⟩
      go_wp2_with fail
      go_ret
      exact ⟨rfl, hgr⟩
    · have HR : Hid (2 ^ k ≤ V) := by show 2 ^ k ≤ V; omega
      clear hr
      go_enter Try.func5, Try.ntmps5
      go_wp2_with fail
      refine (field_N W i k _ hW hik).mono ?_
      rintro e w1 ⟨rfl, n1, rfl⟩
      go_wp2_with fail
      refine (rfield_N W i k _ hW hik).mono ?_
      rintro e w2 ⟨rfl, rfl⟩
      generalize fieldN W i k = F at *
      go_wp2_with fail
      refine (set_range W V i k _ hV hik HR.out).mono ?_
      rintro e w3 ⟨rfl, rfl⟩
      go_wp2_with fail
      refine (rset_range W V i k _ hW hV hik HR.out).mono ?_
      rintro e w4 ⟨rfl, rfl⟩
      go_wp2_with fail
      refine (awake_true _).mono ?_
      rintro e w5 ⟨rfl, hgr, -⟩
      go_wp2_with fail
      go_ret
      exact ⟨rfl, hgr⟩
  · have HG : Hid (¬ good a1 a2) := hg
    clear hg
    go_enter Try.func5, Try.ntmps5
    go_wp2_with fail
    refine (field_bad W a1 a2 _ HG.out l1 h1 l2 h2).mono ?_
    rintro e w1 ⟨rfl, rfl⟩
    go_wp2_with fail
    refine (rfield_bad W a1 a2 _ HG.out).mono ?_
    rintro e w2 ⟨rfl, rfl⟩
    go_wp2_with fail
    refine (set_bad W V a1 a2 _ HG.out l1 h1 l2 h2).mono ?_
    rintro e w3 ⟨rfl, rfl⟩
    go_wp2_with fail
    refine (rset_bad W V a1 a2 _ HG.out).mono ?_
    rintro e w4 ⟨rfl, rfl⟩
    go_wp2_with fail
    refine (awake_true _).mono ?_
    rintro e w5 ⟨rfl, hgr, -⟩
    go_wp2_with fail
    go_ret
    exact ⟨rfl, hgr⟩

/-! ### THE ROW's STEP: WRITTEN OUT: LEAVE IT -/
set_option maxRecDepth 100000 in
theorem lifted (os : Os) (started : os.Started) (H : Type) (enc : TypeId × Value → H) :
    ReturnsInHanded {} Try.checked os 5 .any (Rows.bitsFieldsSpec.pre6 enc Try.prog Try.f5 Rows.bitsFieldsRow.domain false) (Rows.bitsFieldsSpec.post enc Try.prog Try.f5 false true false false) := by
  refine returnsInHanded_of_change (C := Try.checked) own started (by kernel_rfl) Try.func5
    (ChangeSpec.witness6 (enc := enc) (C := Try.checked) false ⟨#[], #[.int .u64 0, .int .i64 0, .int .i64 0, .int .u64 0], []⟩ 8 (by kernel_rfl) (by kernel_rfl) (by kernel_rfl) (by kernel_rfl)) ?_
  intro W base args ds gs before hval0 hW hcnd _
  have hval : ∀ (j : Nat) t v, Try.f5.params[j]? = some t → args[j]? = some v → Value.okWide Try.prog W .any base t v := hval0
  have hW' := hW
  obtain ⟨p, q, hA0, hV, rfl, hfz, hnd⟩ := hW
  have hA : DataW.TrodAll enc Try.prog W 0 (fun _ => true) true Try.f5.params.toList args.toList ds p := hA0
  rw [Try.params5] at hA hval
  obtain ⟨v0, vs0, d0, ds0, p0, q0, hargs, rfl, rfl, h0, r0⟩ := trodAll_cons hA
  obtain ⟨v1, vs1, d1, ds1, p1, q1, rfl, rfl, rfl, h1, r1⟩ := trodAll_cons r0
  obtain ⟨v2, vs2, d2, ds2, p2, q2, rfl, rfl, rfl, h2, r2⟩ := trodAll_cons r1
  obtain ⟨v3, vs3, d3, ds3, p3, q3, rfl, rfl, rfl, h3, r3⟩ := trodAll_cons r2
  obtain ⟨rfl, rfl, rfl⟩ := trodAll_nil r3
  obtain rfl : args = #[v0, v1, v2, v3] := by cases args; simp_all
  obtain ⟨rfl, rfl⟩ := trodVars_none hV
  obtain ⟨a0, rfl, rfl, rfl, w0⟩ := open_int Try.underlying22 (hval 0 22 v0 rfl rfl) h0
  obtain ⟨a1, rfl, rfl, rfl, w1⟩ := open_int Try.underlying3 (hval 1 3 v1 rfl rfl) h1
  obtain ⟨a2, rfl, rfl, rfl, w2⟩ := open_int Try.underlying3 (hval 2 3 v2 rfl rfl) h2
  obtain ⟨a3, rfl, rfl, rfl, w3⟩ := open_int Try.underlying22 (hval 3 22 v3 rfl rfl) h3
  clear hA0 hval0
  simp only [List.append_nil] at hW'
  refine (walk a0 a1 a2 a3 w0 w1 w2 w3 W).mono fun e W' ⟨he, hg⟩ => ?_
  subst he
  exact ⟨_, rfl, post_of_same (pa := []) (pv := []) hW' (fun _ _ _ => (trodAll_cons_mk (shut_bool Try.underlying4 _) trodAll_mk0)) (fun sp _ => (trodAll_cons_mk (shut_int Try.underlying22 w0) (trodAll_cons_mk (shut_int Try.underlying3 w1) (trodAll_cons_mk (shut_int Try.underlying3 w2) (trodAll_cons_mk (shut_int Try.underlying22 w3) trodAll_mk0))))) (fun _ _ => rfl) rfl
    (hg.frame _) hg.2.1 (ok_one (by kernel_rfl) rfl (okWide_bool_mk Try.underlying4 _))⟩

theorem over : Rows.bitsFieldsRow.holds Try.pinned (OpenSpec.ofChange Rows.bitsFieldsSpec) :=
  OpenClaim.holds_of_wide 5 Try.f5 rfl rfl rfl rfl rfl rfl rfl ⟨rfl, rfl, rfl, rfl, rfl⟩ rfl rfl rfl rfl rfl (by kernel_rfl) Try.func5 (by kernel_rfl)
    (of_decide_eq_true (by kernel_rfl)) (by unfold Func.isWrapper; first | (rw [if_pos (by decide +kernel)]; kernel_rfl) | (rw [if_neg (by decide +kernel)]; exact ⟨rfl, rfl⟩))
    (fun os started H enc _ => lifted os started H enc)

/-- ████ THE STATEMENT ████ -/
theorem proved : Rows.BitsFieldsSaid :=
  over
#print axioms proved
end Go.Proofs.Ytbgnfcjnifcenaa.bitsFields
