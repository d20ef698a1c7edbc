/-
  GlobMatches: for any two texts of up to 2^47 - 4096 bytes each: Match and Sound answer as the document's (the text at most 3000 bytes long, as the law itself says).
-/
import Derived.Test.YtehieeahiicnhaaPArgs
import Derived.Test.YtehieeahiicnhaaGlobAwake
namespace Go.Proofs.Ytehieeahiicnhaa.globMatches
open Go.ChangeShapes Go.WideShapes Go.ChangeAt Go.RowKit
open Go.ChangeMaps (open_string shut_string)
set_option linter.unusedVariables false
set_option linter.unusedSimpArgs false
set_option maxHeartbeats 4000000 in
theorem walk (W : World) (P : ByteArray) (wP : P.size ≤ 140737488351232) (S : ByteArray) (wS : S.size ≤ 140737488351232) :
    Calls Try.prog 3 #[.string P, .string S] W fun e W' => e = .returned (.bool true) ∧ Below W.heap.size W W' := by
  have HA : Hid (∀ V, _) := awake_true
  by_cases hl : 3000 < S.size
  · have hli : (3000 : Int) < (S.size : Int) := by omega
    go_enter Try.func3, Try.ntmps3
    go_wp2_with fail
    refine Calls.mono (HA.out _) ?_
    rintro _ w1 ⟨rfl, hb⟩
    go_wp2_with fail
    go_ret
    exact ⟨rfl, hb⟩
  · have hli : ¬ (3000 : Int) < (S.size : Int) := by omega
    have HM : Hid _ := gmatch_any P S W (by omega) (by omega)
    have HN : Hid (∀ V, Calls Try.prog 10 #[.string P, .string S] V fun e w' => e = .returned (matchR (txt P) (txt S)) ∧ Below V.heap.size V w') := fun V => rmatch_any P S V (by omega) (by omega)
    have HS : Hid (∀ V, Calls Try.prog 11 #[.string P] V fun e w' => e = .returned (.bool (soundN (txt P))) ∧ Below V.heap.size V w') := fun V => gsound_any P V (by omega)
    have HR : Hid (∀ V, Calls Try.prog 12 #[.string P] V fun e w' => e = .returned (.bool (soundN (txt P))) ∧ Below V.heap.size V w') := fun V => rsound_any P V (by omega)
    obtain ⟨b, E, hx⟩ := matchR_form (txt P) (txt S)
    rw [hx] at HM HN
    generalize soundN (txt P) = s at *
    have hbb : (b == b) = true := by cases b <;> rfl
    have hss : (s == s) = true := by cases s <;> rfl
    have hee : (E == E) = true := by simp
    clear hl hx wP wS
    go_enter Try.func3, Try.ntmps3
    go_wp2_with fail
    refine Calls.mono HM.out ?_
    rintro _ w1 ⟨rfl, hb⟩
    have HB1 : Hid (Below W.heap.size W w1) := hb
    clear hb HM
    go_wp2_with fail
    refine Calls.mono (HN.out _) ?_
    rintro _ w2 ⟨rfl, hb⟩
    have HB2 : Hid (Below W.heap.size W w2) := HB1.out.trans (hb.mono HB1.out.size)
    clear hb HN HB1
    go_wp2_with fail
    refine Calls.mono (HA.out _) ?_
    rintro _ w3 ⟨rfl, hb⟩
    have HB3 : Hid (Below W.heap.size W w3) := HB2.out.trans (hb.mono HB2.out.size)
    clear hb HA HB2
    go_wp2_with fail
    refine Calls.mono (HS.out _) ?_
    rintro _ w4 ⟨rfl, hb⟩
    have HB4 : Hid (Below W.heap.size W w4) := HB3.out.trans (hb.mono HB3.out.size)
    clear hb HS HB3
    go_wp2_with fail
    refine Calls.mono (HR.out _) ?_
    rintro _ w5 ⟨rfl, hb⟩
    have HB5 : Hid (Below W.heap.size W w5) := HB4.out.trans (hb.mono HB4.out.size)
    clear hb HR HB4
    go_wp2_with fail
    go_ret
    exact ⟨rfl, HB5.out⟩
theorem contract (H : Type) (enc : TypeId × Value → H) (W : World) (base : Nat) (args : Array Value) (ds gs : List (DataW H)) (before : List MemPlace)
    (hval : ∀ (j : Nat) t v, Try.f3.params[j]? = some t → args[j]? = some v → Value.okWide Try.prog W .any base t v)
    (hW : DataW.Whole enc Try.prog Try.f3.params.toList Rows.globMatchesSpec.vars false W args.toList ds gs before)
    (hsz : (DataW.weightsEach Try.prog (Try.f3.params.toList ++ Rows.globMatchesSpec.plain.varTypes Try.prog) (ds ++ gs)).all (· ≤ reachBytes) = true) :
    Calls Try.prog 3 args W fun e W' => ∃ v, e = .returned v ∧ Rows.globMatchesSpec.post enc Try.prog Try.f3 false true false false W args v W' := by
  have hW' := hW
  obtain ⟨p, q, hA0, hV, rfl, hfz, hnd⟩ := hW
  have hA : DataW.TrodAll enc Try.prog W 0 (fun _ => true) true Try.f3.params.toList args.toList ds p := hA0
  rw [Try.params3] at hA hval hsz
  obtain ⟨v0, vs0, d0, ds0, p0, q0, hargs, rfl, rfl, h0, r0⟩ := trodAll_cons hA
  obtain ⟨v1, vs1, d1, ds1, p1, q1, rfl, rfl, rfl, h1, r1⟩ := trodAll_cons r0
  obtain ⟨rfl, rfl, rfl⟩ := trodAll_nil r1
  obtain rfl : args = #[v0, v1] := by cases args; simp_all
  obtain ⟨rfl, rfl⟩ := trodVars_none hV
  obtain ⟨a0, rfl, rfl, rfl, m0⟩ := open_string Try.underlying9 (hval 0 9 v0 rfl rfl) h0
  have w0 : a0.size ≤ 140737488351232 := by
    have := sized_string hsz (j := 0) (t := 9) rfl rfl
    rw [bytes_len] at this
    exact this
  obtain ⟨a1, rfl, rfl, rfl, m1⟩ := open_string Try.underlying9 (hval 1 9 v1 rfl rfl) h1
  have w1 : a1.size ≤ 140737488351232 := by
    have := sized_string hsz (j := 1) (t := 9) rfl rfl
    rw [bytes_len] at this
    exact this
  clear hA0 hsz
  refine (walk W a0 w0 a1 w1).mono fun e W' ⟨he, bel⟩ => ?_
  subst he
  exact ⟨_, rfl, _, _, _, [], _, [], hW', trodAll_mk1 (shut_bool Try.underlying4 _), (trodAll_cons_mk (shut_string Try.underlying9 m0) (trodAll_cons_mk (shut_string Try.underlying9 m1) trodAll_mk0)), rfl, bel.frame _, fun h => by cases h⟩
set_option maxRecDepth 100000 in
theorem lifted (os : Os) (started : os.Started) (H : Type) (enc : TypeId × Value → H) :
    ReturnsInHanded {} Try.checked os 3 .any (Rows.globMatchesSpec.pre6 enc Try.prog Try.f3 Rows.globMatchesRow.domain false) (Rows.globMatchesSpec.post enc Try.prog Try.f3 false true false false) := by
  refine returnsInHanded_of_change_sized (C := Try.checked) own started (by kernel_rfl) Try.func3
    (ChangeSpec.witness6 (enc := enc) (C := Try.checked) false ⟨#[], #[.string ByteArray.empty, .string ByteArray.empty], []⟩ 8 (by kernel_rfl) (by kernel_rfl) (by kernel_rfl) (by kernel_rfl)) ?_
  intro W base args ds gs before hval hW _ hsz _
  exact contract H enc W base args ds gs before hval hW hsz
theorem over : Rows.globMatchesRow.holds Try.pinned (OpenSpec.ofChange Rows.globMatchesSpec) :=
  OpenClaim.holds_of_wide 3 Try.f3 rfl rfl rfl rfl rfl rfl rfl ⟨rfl, rfl, rfl, rfl, rfl⟩ rfl rfl rfl rfl rfl (by kernel_rfl) Try.func3 (by kernel_rfl)
    (of_decide_eq_true (by kernel_rfl)) (by unfold Func.isWrapper; first | (rw [if_pos (by decide +kernel)]; kernel_rfl) | (rw [if_neg (by decide +kernel)]; exact ⟨rfl, rfl⟩))
    (fun os started H enc _ => lifted os started H enc)
theorem proved : Rows.GlobMatchesSaid := over
end Go.Proofs.Ytehieeahiicnhaa.globMatches
