/-
  For any two numbers: the greater one has the greater text, both texts have 13 letters, and a text of 14 letters is refused; no condition.
-/
import Derived.Test.YtgeoijbjndjpoaaPArgs
import Derived.Test.YtgeoijbjndjpoaaAlphaAwake
namespace Go.Proofs.Ytgeoijbjndjpoaa.alphaOrder
open Go.ChangeShapes Go.WideShapes Go.ChangeAt Go.RowKit
open Go.ChangeMaps (open_string shut_string)
set_option linter.unusedVariables false
set_option linter.unusedSimpArgs false
/-- The law's body at any input. -/
theorem walk (w : World) (a0 : Int) (w0 : (Lit.int .u64 a0).wf = true) (a1 : Int) (w1 : (Lit.int .u64 a1).wf = true) :
    Calls Try.prog 7 #[.int .u64 a0, .int .u64 a1] w fun e w' => e = .returned (.bool true) ∧ Below w.heap.size w w' := by
  obtain ⟨l0, h0⟩ := bounds_u64 w0
  obtain ⟨l1, h1⟩ := bounds_u64 w1
  clear w0 w1
  obtain ⟨A, rfl⟩ := Int.eq_ofNat_of_zero_le l0
  obtain ⟨B, rfl⟩ := Int.eq_ofNat_of_zero_le l1
  have hA : A < 18446744073709551616 := by omega
  have hB : B < 18446744073709551616 := by omega
  have HNA : Hid _ := anumber_any A w hA
  have HNB : Hid (∀ W, Calls Try.prog 20 #[.int .u64 (B : Nat)] W fun e w' => e = .returned (.string (strN (numN B))) ∧ Below W.heap.size W w') := fun W => anumber_any B W hB
  have hlx : (strN (numN A)).size = 13 := by rw [strN_size]; exact letN_length 13 A
  have hly : (strN (numN B)).size = 13 := by rw [strN_size]; exact letN_length 13 B
  have hlt : decide ((A : Int) < (B : Int)) = decide (txt (strN (numN A)) < txt (strN (numN B))) := by
    have hx : txt (strN (numN A)) = letN A 13 := txt_strN _ (num_lt A)
    have hy : txt (strN (numN B)) = letN B 13 := txt_strN _ (num_lt B)
    rw [hx, hy]
    have := letN_lex 13 A B (Nat.lt_of_lt_of_le hA (by decide)) (Nat.lt_of_lt_of_le hB (by decide))
    by_cases h : A < B
    · rw [decide_eq_true (this.1 h), decide_eq_true (by omega)]
    · rw [decide_eq_false (fun h' => h (this.2 h')), decide_eq_false (by omega)]
  clear l0 l1 h0 h1 hA hB
  generalize strN (numN A) = x at *
  generalize strN (numN B) = y at *
  have HLT : Hid (decide ((A : Int) < (B : Int)) = decide (txt x < txt y)) := hlt
  have hless := str_less x y
  clear hlt
  go_enter Try.func7, Try.ntmps7
  go_wp2_with fail
  refine Calls.mono HNA.out ?_
  rintro e w1 ⟨rfl, hb1⟩
  have HB1 : Hid (Below w.heap.size w w1) := hb1
  clear hb1 HNA
  go_wp2_with fail
  refine Calls.mono (HNB.out w1) ?_
  rintro e w2 ⟨rfl, hb2⟩
  have HB2 : Hid (Below w.heap.size w w2) := HB1.out.trans (hb2.mono HB1.out.size)
  clear hb2 HB1 HNB
  have hsum : x.size + (ByteArray.mk #[48]).size ≤ 9223372036854775807 := by rw [hlx]; decide
  go_wp2_with fail
  have hz : (x ++ ByteArray.mk #[48]).size = 14 := by rw [ByteArray.size_append, hlx]; rfl
  have hu : unnumN (txt (x ++ ByteArray.mk #[48])) = none := by
    unfold unnumN
    rw [txt_length, hz]
    rfl
  have HUN : Hid _ := aunnumber_any (x ++ ByteArray.mk #[48]) w2 (by rw [hz]; decide)
  rw [hu] at HUN
  clear hu hz
  refine Calls.mono HUN.out ?_
  rintro e w3 ⟨rfl, hw3⟩
  replace hw3 := hw3.symm
  subst hw3
  clear HUN
  rw [show unnumR none = .tuple #[.int .u64 0, .int .i64 5] from rfl]
  go_wp2_with fail
  refine Calls.mono (awake_true w2) ?_
  rintro e w4 ⟨rfl, hb4⟩
  have HB4 : Hid (Below w.heap.size w w4) := HB2.out.trans (hb4.mono HB2.out.size)
  clear hb4 HB2
  have hli : (x.size : Int) = 13 := by omega
  have hmi : (y.size : Int) = 13 := by omega
  have hiff : A < B ↔ txt x < txt y := by
    have h := HLT.out
    by_cases h1 : A < B
    · rw [decide_eq_true (by omega)] at h
      exact ⟨fun _ => of_decide_eq_true h.symm, fun _ => h1⟩
    · rw [decide_eq_false (by omega)] at h
      exact ⟨fun h2 => absurd h2 h1, fun h2 => absurd h2 (of_decide_eq_false h.symm)⟩
  have hbeq : (decide (A < B) == decide (txt x < txt y)) = true := by
    rw [beq_iff_eq]
    exact decide_eq_decide.2 hiff
  clear HLT
  go_wp2_with fail
  go_ret
  exact ⟨rfl, HB4.out⟩
theorem contract (H : Type) (enc : TypeId × Value → H) (W : World) (base : Nat) (args : Array Value) (ds gs : List (DataW H)) (before : List MemPlace)
    (hval : ∀ (j : Nat) t v, Try.f7.params[j]? = some t → args[j]? = some v → Value.okWide Try.prog W .any base t v)
    (hW : DataW.Whole enc Try.prog Try.f7.params.toList Rows.alphaOrderSpec.vars false W args.toList ds gs before)
    (hsz : (DataW.weightsEach Try.prog (Try.f7.params.toList ++ Rows.alphaOrderSpec.plain.varTypes Try.prog) (ds ++ gs)).all (· ≤ reachBytes) = true) :
    Calls Try.prog 7 args W fun e W' => ∃ v, e = .returned v ∧ Rows.alphaOrderSpec.post enc Try.prog Try.f7 false true false false W args v W' := by
  have hW' := hW
  obtain ⟨p, q, hA0, hV, rfl, hfz, hnd⟩ := hW
  have hA : DataW.TrodAll enc Try.prog W 0 (fun _ => true) true Try.f7.params.toList args.toList ds p := hA0
  rw [Try.params7] at hA hval hsz
  obtain ⟨v0, vs0, d0, ds0, p0, q0, hargs, rfl, rfl, h0, r0⟩ := trodAll_cons hA
  obtain ⟨v1, vs1, d1, ds1, p1, q1, rfl, rfl, rfl, h1, r1⟩ := trodAll_cons r0
  obtain ⟨rfl, rfl, rfl⟩ := trodAll_nil r1
  obtain rfl : args = #[v0, v1] := by cases args; simp_all
  obtain ⟨rfl, rfl⟩ := trodVars_none hV
  obtain ⟨a0, rfl, rfl, rfl, w0⟩ := open_int Try.underlying30 (hval 0 30 v0 rfl rfl) h0
  obtain ⟨a1, rfl, rfl, rfl, w1⟩ := open_int Try.underlying30 (hval 1 30 v1 rfl rfl) h1
  clear hA0 hsz
  refine (walk W a0 w0 a1 w1).mono fun e W' ⟨he, bel⟩ => ?_
  subst he
  exact ⟨_, rfl, _, _, _, [], _, [], hW', trodAll_mk1 (shut_bool Try.underlying4 _), (trodAll_cons_mk (shut_int Try.underlying30 w0) (trodAll_cons_mk (shut_int Try.underlying30 w1) trodAll_mk0)), rfl, bel.frame _, fun h => by cases h⟩
set_option maxRecDepth 100000 in
theorem lifted (os : Os) (started : os.Started) (H : Type) (enc : TypeId × Value → H) :
    ReturnsInHanded {} Try.checked os 7 .any (Rows.alphaOrderSpec.pre6 enc Try.prog Try.f7 Rows.alphaOrderRow.domain false) (Rows.alphaOrderSpec.post enc Try.prog Try.f7 false true false false) := by
  refine returnsInHanded_of_change_sized (C := Try.checked) own started (by kernel_rfl) Try.func7
    (ChangeSpec.witness6 (enc := enc) (C := Try.checked) false ⟨#[], #[.int .u64 0, .int .u64 0], []⟩ 8 (by kernel_rfl) (by kernel_rfl) (by kernel_rfl) (by kernel_rfl)) ?_
  intro W base args ds gs before hval hW _ hsz _
  exact contract H enc W base args ds gs before hval hW hsz
theorem over : Rows.alphaOrderRow.holds Try.pinned (OpenSpec.ofChange Rows.alphaOrderSpec) :=
  OpenClaim.holds_of_wide 7 Try.f7 rfl rfl rfl rfl rfl rfl rfl ⟨rfl, rfl, rfl, rfl, rfl⟩ rfl rfl rfl rfl rfl (by kernel_rfl) Try.func7 (by kernel_rfl)
    (of_decide_eq_true (by kernel_rfl)) (by unfold Func.isWrapper; first | (rw [if_pos (by decide +kernel)]; kernel_rfl) | (rw [if_neg (by decide +kernel)]; exact ⟨rfl, rfl⟩))
    (fun os started H enc _ => lifted os started H enc)
theorem proved : Rows.AlphaOrderSaid := over
end Go.Proofs.Ytgeoijbjndjpoaa.alphaOrder
