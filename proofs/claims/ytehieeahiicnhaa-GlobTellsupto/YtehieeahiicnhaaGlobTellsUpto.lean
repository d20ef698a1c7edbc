/-
  GlobTells: for every text (at most 1048576 letters in the second form): Least, Plain and Quote answer as the document's.
-/
import Derived.Test.YtehieeahiicnhaaPArgs
import Derived.Test.YtehieeahiicnhaaGlobAwake
namespace Go.Proofs.Ytehieeahiicnhaa.globTellsUpto
open Go.ChangeShapes Go.WideShapes Go.ChangeAt Go.RowKit
open Go.ChangeMaps (open_string shut_string)
set_option linter.unusedVariables false
set_option linter.unusedSimpArgs false
set_option maxHeartbeats 4000000 in
theorem walk (W : World) (P : ByteArray) (wP : P.size ≤ 140737488351232) (bP : P.size ≤ 1048576) :
    Calls Try.prog 4 #[.string P] W fun e W' => e = .returned (.bool true) ∧ Below W.heap.size W W' := by
  have HA : Hid (∀ V, _) := awake_true
  have HM : Hid _ := gleast_any P W (by omega)
  have HN : Hid (∀ V, Calls Try.prog 14 #[.string P] V fun e w' => e = .returned (leastR (txt P)) ∧ Below V.heap.size V w') := fun V => rleast_any P V (by omega)
  have HP : Hid (∀ V, Calls Try.prog 15 #[.string P] V fun e w' => e = .returned (optR (plainO (txt P))) ∧ Below V.heap.size V w') := fun V => gplain_any P V (by omega)
  have HO : Hid (∀ V, Calls Try.prog 16 #[.string P] V fun e w' => e = .returned (optR (plainO (txt P))) ∧ Below V.heap.size V w') := fun V => rplain_any P V (by omega)
  have HQ : Hid (∀ V, Calls Try.prog 17 #[.string P] V fun e w' => e = .returned (.string (strN (quoteN (txt P)))) ∧ Below V.heap.size V w') := fun V => gquote_any P V (by omega)
  have HR : Hid (∀ V, Calls Try.prog 18 #[.string P] V fun e w' => e = .returned (.string (strN (quoteN (txt P)))) ∧ w' = V) := fun V => rquote_any P V (by omega)
  obtain ⟨n, E, hx⟩ := leastR_form (txt P)
  obtain ⟨X, b, hy⟩ := optR_form (plainO (txt P))
  rw [hx] at HM HN
  rw [hy] at HP HO
  generalize strN (quoteN (txt P)) = Y at *
  have hnn : (n == n) = true := by simp
  have hee : (E == E) = true := by simp
  have hxx : (X.toList == X.toList) = true := by simp
  have hbb : (b == b) = true := by cases b <;> rfl
  have hyy : (Y.toList == Y.toList) = true := by simp
  clear hx hy wP bP
  go_enter Try.func4, Try.ntmps4
  go_wp2_with fail
  refine Calls.mono HM.out ?_
  rintro _ w1 ⟨rfl, hb⟩
  have HB1 : Hid (Below W.heap.size W w1) := hb
  clear hb HM
  go_wp2_with fail
  refine Calls.mono (HN.out _) ?_
  rintro _ w2 ⟨rfl, hb⟩
  have HB2 : Hid (Below W.heap.size W w2) := HB1.out.trans (hb.mono HB1.out.size)
  clear hb HN HB1
  go_wp2_with fail
  refine Calls.mono (HP.out _) ?_
  rintro _ w3 ⟨rfl, hb⟩
  have HB3 : Hid (Below W.heap.size W w3) := HB2.out.trans (hb.mono HB2.out.size)
  clear hb HP HB2
  go_wp2_with fail
  refine Calls.mono (HO.out _) ?_
  rintro _ w4 ⟨rfl, hb⟩
  have HB4 : Hid (Below W.heap.size W w4) := HB3.out.trans (hb.mono HB3.out.size)
  clear hb HO HB3
  go_wp2_with fail
  refine Calls.mono (HA.out _) ?_
  rintro _ w5 ⟨rfl, hb⟩
  have HB5 : Hid (Below W.heap.size W w5) := HB4.out.trans (hb.mono HB4.out.size)
  clear hb HA HB4
  go_wp2_with fail
  refine Calls.mono (HQ.out _) ?_
  rintro _ w6 ⟨rfl, hb⟩
  have HB6 : Hid (Below W.heap.size W w6) := HB5.out.trans (hb.mono HB5.out.size)
  clear hb HQ HB5
  go_wp2_with fail
  refine Calls.mono (HR.out _) ?_
  rintro _ w7 ⟨rfl, hw⟩
  replace hw := hw.symm
  subst hw
  clear HR
  go_wp2_with fail
  go_ret
  exact ⟨rfl, HB6.out⟩
theorem contract (H : Type) (enc : TypeId × Value → H) (W : World) (base : Nat) (args : Array Value) (ds gs : List (DataW H)) (before : List MemPlace)
    (hval : ∀ (j : Nat) t v, Try.f4.params[j]? = some t → args[j]? = some v → Value.okWide Try.prog W .any base t v)
    (hW : DataW.Whole enc Try.prog Try.f4.params.toList Rows.globTellsSpec.vars false W args.toList ds gs before)
    (hk : Rows.uptoSmall H (ds ++ gs) = true)
    (hsz : (DataW.weightsEach Try.prog (Try.f4.params.toList ++ (Rows.OpenSpec.upto Rows.globTellsSpec).bare.plain.varTypes Try.prog) (ds ++ gs)).all (· ≤ reachBytes) = true) :
    Calls Try.prog 4 args W fun e W' => ∃ v, e = .returned v ∧ Rows.globTellsSpec.post enc Try.prog Try.f4 false true false false W args v W' := by
  have hW' := hW
  obtain ⟨p, q, hA0, hV, rfl, hfz, hnd⟩ := hW
  have hA : DataW.TrodAll enc Try.prog W 0 (fun _ => true) true Try.f4.params.toList args.toList ds p := hA0
  rw [Try.params4] at hA hval hsz
  obtain ⟨v0, vs0, d0, ds0, p0, q0, hargs, rfl, rfl, h0, r0⟩ := trodAll_cons hA
  obtain ⟨rfl, rfl, rfl⟩ := trodAll_nil r0
  obtain rfl : args = #[v0] := by cases args; simp_all
  obtain ⟨rfl, rfl⟩ := trodVars_none hV
  have hbulk := of_decide_eq_true hk
  simp only [List.append_nil, Rows.uptoBulkAll] at hbulk
  obtain ⟨a0, rfl, rfl, rfl, m0⟩ := open_string Try.underlying9 (hval 0 9 v0 rfl rfl) h0
  have w0 : a0.size ≤ 140737488351232 := by
    have := sized_string hsz (j := 0) (t := 9) rfl rfl
    rw [bytes_len] at this
    exact this
  have bu0 : a0.size ≤ 1048576 := by
    simp only [Rows.uptoBulk] at hbulk
    rw [← bytes_len]
    omega
  clear hA0 hsz hbulk
  refine (walk W a0 w0 bu0).mono fun e W' ⟨he, bel⟩ => ?_
  subst he
  exact ⟨_, rfl, _, _, _, [], _, [], hW', trodAll_mk1 (shut_bool Try.underlying4 _), (trodAll_cons_mk (shut_string Try.underlying9 m0) trodAll_mk0), rfl, bel.frame _, fun h => by cases h⟩
set_option maxRecDepth 100000 in
theorem lifted (os : Os) (started : os.Started) (H : Type) (enc : TypeId × Value → H) (I : Stop.Interp) :
    ReturnsInHanded {} Try.checked os 4 .any ((Rows.OpenSpec.upto Rows.globTellsSpec).pre6 enc Try.prog Try.f4 Rows.globTellsUptoRow.domain false) (((Rows.OpenSpec.upto Rows.globTellsSpec).at I).post enc Try.prog Try.f4 false true false false) := by
  refine returnsInHanded_of_cond_sized (C := Try.checked) (s := (Rows.OpenSpec.upto Rows.globTellsSpec)) (k := Rows.uptoSmall) rfl own started (by kernel_rfl) Try.func4
    (OpenSpec.witness (enc := enc) (C := Try.checked) (s := (Rows.OpenSpec.upto Rows.globTellsSpec)) (k := Rows.uptoSmall) rfl false ⟨#[], #[.string ByteArray.empty], []⟩ 8 (by kernel_rfl) (by kernel_rfl) (by kernel_rfl)
      (x := ([.lit (.string [])], [], [])) (by kernel_rfl) rfl (by kernel_rfl)) ?_
  intro W base args ds gs before hval hW _ hk hsz _
  exact contract H enc W base args ds gs before hval hW hk hsz
theorem over : Rows.globTellsUptoRow.holds Try.pinned (Rows.OpenSpec.upto Rows.globTellsSpec) :=
  OpenClaim.holds_of_cond 4 Try.f4 rfl rfl rfl rfl rfl rfl rfl ⟨rfl, rfl, rfl, rfl, rfl⟩ rfl rfl rfl rfl rfl (by kernel_rfl) Try.func4 (by kernel_rfl)
    (of_decide_eq_true (by kernel_rfl)) (by unfold Func.isWrapper; first | (rw [if_pos (by decide +kernel)]; kernel_rfl) | (rw [if_neg (by decide +kernel)]; exact ⟨rfl, rfl⟩))
    (fun os started H enc _ I => lifted os started H enc I)
theorem proved : Rows.GlobTellsUptoSaid := over
end Go.Proofs.Ytehieeahiicnhaa.globTellsUpto
