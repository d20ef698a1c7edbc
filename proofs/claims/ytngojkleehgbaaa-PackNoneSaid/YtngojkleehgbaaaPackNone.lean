/-
  PackNone: for every number and every text: no Writer writes nothing, at whatever call; no Reader reads noughts, and tells ErrArg.
-/
import Derived.Test.YtngojkleehgbaaaPArgs
import Derived.Test.YtngojkleehgbaaaPackNil
import Derived.Test.YtngojkleehgbaaaPackAwake
namespace Go.Proofs.Ytngojkleehgbaaa.packNone
open Go.ChangeShapes Go.WideShapes Go.ChangeAt Go.RowKit
open Go.ChangeMaps (open_string shut_string)
set_option linter.unusedVariables false
set_option linter.unusedSimpArgs false
def oneD : List Nat := 1 :: List.replicate 31 0
theorem oneBuild (w : World) : (Instr.build 27 #[(0, .int .u8 1)]).run Try.prog w = .ok (.agg (encL .u8 oneD)) w := by kernel_rfl
set_option maxHeartbeats 4000000 in
theorem walk (w : World) (a0 : Int) (w0 : (Lit.int .u64 a0).wf = true) (a1 : ByteArray) (w1 : a1.size ≤ 140737488351232) :
    Calls Try.prog 7 #[.int .u64 a0, .string a1] w fun e w' => e = .returned (.bool true) ∧ Below w.heap.size w w' := by
  obtain ⟨h0, h1⟩ := bounds_u64 w0
  obtain ⟨n, rfl⟩ := Int.eq_ofNat_of_zero_le h0
  clear w0
  go_enter Try.func7, Try.ntmps7
  go_wp2_with fail
  refine (wnum_nil w n (by omega)).mono ?_
  rintro _ v1 ⟨rfl, b1⟩
  go_wp2_with fail
  refine (wint_nil v1 5 (by decide) (by decide)).mono ?_
  rintro _ v2 ⟨rfl, b2⟩
  go_wp2_with fail
  refine (wtext_nil v2 a1 (by omega)).mono ?_
  rintro _ v3 ⟨rfl, b3⟩
  go_wp2_with fail
  refine (wflag_nil v3 true).mono ?_
  rintro _ v4 ⟨rfl, b4⟩
  have B4 : Hid (Below w.heap.size w v4) := ((b1.trans (b2.mono b1.size)).trans (b3.mono (Nat.le_trans b1.size b2.size))).trans (b4.mono (Nat.le_trans b1.size (Nat.le_trans b2.size b3.size)))
  clear b1 b2 b3 b4
  go_wp2_with (refine build_op rfl 27 _ rfl #[(0, .int .u8 1)] (by simp [Act.eval]) _ (oneBuild _) ?_)
  refine (wdigest_nil v4 oneD rfl).mono ?_
  rintro _ v5 ⟨rfl, b5⟩
  have B5 : Hid (Below w.heap.size w v5) := B4.out.trans (b5.mono B4.out.size)
  clear b5 B4
  go_wp2_with fail
  refine (awake_any v5).mono ?_
  rintro _ v6 ⟨rfl, b6⟩
  have B6 : Hid (Below w.heap.size w v6) := B5.out.trans (b6.mono B5.out.size)
  clear b6 B5
  go_wp2_with fail
  refine (wout_nil v6).mono ?_
  rintro _ v7 ⟨rfl, b7⟩
  have B7 : Hid (Below w.heap.size w v7) := B6.out.trans (b7.mono B6.out.size)
  clear b7 B6
  go_wp2_with fail
  refine (pnum_nil v7).mono ?_
  rintro _ v8 ⟨rfl, rfl⟩
  go_wp2_with fail
  refine (pint_nil v8).mono ?_
  rintro _ v9 ⟨rfl, rfl⟩
  go_wp2_with fail
  refine (pflag_nil v9).mono ?_
  rintro _ v10 ⟨rfl, rfl⟩
  go_wp2_with fail
  refine (ptext_nil v10).mono ?_
  rintro _ v11 ⟨rfl, rfl⟩
  have hemp : strN [] = ByteArray.mk #[] := rfl
  rw [hemp]
  go_wp2_with fail
  refine (pdigest_nil v11).mono ?_
  rintro _ v12 ⟨rfl, b12⟩
  have B12 : Hid (Below w.heap.size w v12) := B7.out.trans (b12.mono B7.out.size)
  clear b12 B7
  have hsame : Sem.run Try.prog (Op.equalIn 10000 27 (.agg (encL .u8 zeroD)) (.agg #[.int .u8 0, .int .u8 0, .int .u8 0, .int .u8 0, .int .u8 0, .int .u8 0, .int .u8 0, .int .u8 0, .int .u8 0, .int .u8 0, .int .u8 0, .int .u8 0, .int .u8 0, .int .u8 0, .int .u8 0, .int .u8 0, .int .u8 0, .int .u8 0, .int .u8 0, .int .u8 0, .int .u8 0, .int .u8 0, .int .u8 0, .int .u8 0, .int .u8 0, .int .u8 0, .int .u8 0, .int .u8 0, .int .u8 0, .int .u8 0, .int .u8 0, .int .u8 0])) v12 = .ok true v12 := same_digest zeroD rfl v12
  go_wp2_with fail
  refine (pcount_nil v12).mono ?_
  rintro _ v13 ⟨rfl, rfl⟩
  go_wp2_with fail
  refine (err_nil v13).mono ?_
  rintro _ v14 ⟨rfl, rfl⟩
  go_wp2_with fail
  refine (pend_nil v14).mono ?_
  rintro _ v15 ⟨rfl, rfl⟩
  go_wp2_with fail
  go_ret
  exact ⟨rfl, B12.out⟩
set_option maxRecDepth 100000 in
theorem contract (H : Type) (enc : TypeId × Value → H) (W : World) (base : Nat) (args : Array Value) (ds gs : List (DataW H)) (before : List MemPlace)
    (hval : ∀ (j : Nat) t v, Try.f7.params[j]? = some t → args[j]? = some v → Value.okWide Try.prog W .any base t v)
    (hW : DataW.Whole enc Try.prog Try.f7.params.toList Rows.packNoneSpec.vars false W args.toList ds gs before)
    (hsz : (DataW.weightsEach Try.prog (Try.f7.params.toList ++ Rows.packNoneSpec.plain.varTypes Try.prog) (ds ++ gs)).all (· ≤ reachBytes) = true) :
    Calls Try.prog 7 args W fun e W' => ∃ v, e = .returned v ∧ Rows.packNoneSpec.post enc Try.prog Try.f7 false true false false W args v W' := by
  have hW' := hW
  obtain ⟨p, q, hA0, hV, rfl, hfz, hnd⟩ := hW
  have hA : DataW.TrodAll enc Try.prog W 0 (fun _ => true) true Try.f7.params.toList args.toList ds p := hA0
  rw [Try.params7] at hA hval hsz
  obtain ⟨v0, vs0, d0, ds0, p0, q0, hargs, rfl, rfl, h0, r0⟩ := trodAll_cons hA
  obtain ⟨v1, vs1, d1, ds1, p1, q1, rfl, rfl, rfl, h1, r1⟩ := trodAll_cons r0
  obtain ⟨rfl, rfl, rfl⟩ := trodAll_nil r1
  obtain rfl : args = #[v0, v1] := by cases args; simp_all
  obtain ⟨rfl, rfl⟩ := trodVars_none hV
  obtain ⟨a0, rfl, rfl, rfl, w0⟩ := open_int Try.underlying25 (hval 0 25 v0 rfl rfl) h0
  obtain ⟨a1, rfl, rfl, rfl, m1⟩ := open_string Try.underlying9 (hval 1 9 v1 rfl rfl) h1
  have w1 : a1.size ≤ 140737488351232 := by
    have := sized_string hsz (j := 1) (t := 9) rfl rfl
    rw [bytes_len] at this
    exact this
  clear hA0 hsz
  refine (walk W a0 w0 a1 w1).mono fun e W' ⟨he, bel⟩ => ?_
  subst he
  exact ⟨_, rfl, _, _, _, [], _, [], hW', trodAll_mk1 (shut_bool Try.underlying4 _), (trodAll_cons_mk (shut_int Try.underlying25 w0) (trodAll_cons_mk (shut_string Try.underlying9 m1) trodAll_mk0)), rfl, bel.frame _, fun h => by cases h⟩
set_option maxRecDepth 100000 in
theorem lifted (os : Os) (started : os.Started) (H : Type) (enc : TypeId × Value → H) :
    ReturnsInHanded {} Try.checked os 7 .any (Rows.packNoneSpec.pre6 enc Try.prog Try.f7 Rows.packNoneRow.domain false) (Rows.packNoneSpec.post enc Try.prog Try.f7 false true false false) := by
  refine returnsInHanded_of_change_sized (C := Try.checked) own started (by kernel_rfl) Try.func7
    (ChangeSpec.witness6 (enc := enc) (C := Try.checked) false ⟨#[], #[.int .u64 0, .string ByteArray.empty], []⟩ 8 (by kernel_rfl) (by kernel_rfl) (by kernel_rfl) (by kernel_rfl)) ?_
  intro W base args ds gs before hval hW _ hsz _
  exact contract H enc W base args ds gs before hval hW hsz
theorem over : Rows.packNoneRow.holds Try.pinned (OpenSpec.ofChange Rows.packNoneSpec) :=
  OpenClaim.holds_of_wide 7 Try.f7 rfl rfl rfl rfl rfl rfl rfl ⟨rfl, rfl, rfl, rfl, rfl⟩ rfl rfl rfl rfl rfl (by kernel_rfl) Try.func7 (by kernel_rfl)
    (of_decide_eq_true (by kernel_rfl)) (by unfold Func.isWrapper; first | (rw [if_pos (by decide +kernel)]; kernel_rfl) | (rw [if_neg (by decide +kernel)]; exact ⟨rfl, rfl⟩))
    (fun os started H enc _ => lifted os started H enc)
theorem proved : Rows.PackNoneSaid := over
end Go.Proofs.Ytngojkleehgbaaa.packNone
