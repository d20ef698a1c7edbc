/-
  LabelBack: for every text of at most 1048576 letters: what is escaped is read as it was and has no blank, = or &; what is read is escaped so. Condition: the two listed tables of Go's own library are laid as its text lays them.
-/
import Derived.Test.YtcmfjfbfoilmfaaDoorCards
import Derived.Test.YtcmfjfbfoilmfaaDoorTie
import Derived.Test.YtcmfjfbfoilmfaaDoorCArgs
import Derived.Test.YtcmfjfbfoilmfaaDoorLabelLaid
namespace Go.Proofs.YtcmfjfbfoilmfaaDoor.labelBackUpto
open Go.ChangeShapes Go.WideShapes Go.ChangeAt Go.RowKit
open Go.ChangeMaps (open_string shut_string)
set_option linter.unusedVariables false
set_option linter.unusedSimpArgs false
set_option maxHeartbeats 8000000 in
theorem walk (W : World) (hT : Tab6 W) (S : ByteArray) (wS : S.size ≤ 140737488351232) (bS : S.size ≤ 1048576) :
    Calls Tryd.prog 6 #[.string S] W fun e W' => e = .returned (.bool true) ∧ Below W.heap.size W W' := by
  have HT : Hid (Tab6 W) := hT
  have HE : Hid _ := esc_any S W (by omega)
  have hesl := esc_letters (txt S) (txt_lt S)
  have hel : ∀ c ∈ escN (txt S), c < 256 := fun c hc => by have := hesl c hc; omega
  obtain ⟨A, hA⟩ : ∃ A, A = strN (escN (txt S)) := ⟨_, rfl⟩
  rw [← hA] at HE
  have hAt : txt A = escN (txt S) := by rw [hA, txt_strN _ hel]
  have hAs : A.size ≤ 3145728 := by
    have := esc_len (txt S)
    rw [← hAt, txt_length, txt_length] at this
    omega
  have HLET : Hid (∀ (i : Nat) (h : i < A.size), 32 < (A[i]'h).toNat ∧ (A[i]'h).toNat ≠ 61 ∧ (A[i]'h).toNat ≠ 38 ∧ (A[i]'h).toNat ≤ 126) := by
    intro i h
    rw [get_txt A i h, hAt]
    refine hesl _ ?_
    have hl : i < (escN (txt S)).length := by rw [← hAt, txt_length]; exact h
    rw [List.getD_eq_getElem?_getD, List.getElem?_eq_getElem hl]
    exact List.getElem_mem hl
  have HU : Hid (∀ V, Calls Tryd.prog 14 #[.string A] V fun e w' => e = .returned (.tuple #[.string S, .int .i64 0]) ∧ Below V.heap.size V w') := fun V => by
    have := unesc_any A V (by omega)
    rw [hAt, unesc_esc _ (txt_lt S), show unsR (some (txt S)) = .tuple #[.string (strN (txt S)), .int .i64 0] from rfl, strN_txt] at this
    exact this
  have HV : Hid (∀ V, Calls Tryd.prog 14 #[.string S] V fun e w' => e = .returned (unsR (unescN (txt S))) ∧ Below V.heap.size V w') := fun V => unesc_any S V (by omega)
  have HA : Hid (∀ V, Tab6 V → _) := awake_true
  have hss : (S.toList == S.toList) = true := by simp
  obtain ⟨C, F, hCF, HCF⟩ : ∃ (C : ByteArray) (F : Nat), unsR (unescN (txt S)) = .tuple #[.string C, .int .i64 F] ∧ Hid (F = 5 ∨ (F = 0 ∧ ∀ V, Calls Tryd.prog 16 #[.string C] V fun e w' => e = .returned (.string S) ∧ Below V.heap.size V w')) := by
    cases hu : unescN (txt S) with
    | none => exact ⟨_, 5, rfl, .inl rfl⟩
    | some l =>
      refine ⟨strN l, 0, rfl, .inr ⟨rfl, fun V => ?_⟩⟩
      obtain ⟨h1, h2⟩ := esc_unesc (txt S).length (txt S) l (Nat.le_refl _) hu
      have hll : l.length ≤ S.size := by
        have : ∀ l : List Nat, l.length ≤ (escN l).length := by
          intro l
          induction l with
          | nil => simp
          | cons c l ih => rw [escN]; split <;> simp <;> omega
        have := this l
        rw [h1, txt_length] at this
        exact this
      have := esc_any (strN l) V (by rw [strN_size]; omega)
      rw [txt_strN l h2, h1, strN_txt] at this
      exact this
  rw [hCF] at HV
  clear hT wS bS hesl hel hA hAt hCF
  go_enter Tryd.func6, Tryd.ntmps6
  go_wp2_with fail
  refine Calls.mono HE.out ?_
  rintro _ w1 ⟨rfl, hb⟩
  have HB1 : Hid (Below W.heap.size W w1) := hb
  clear hb HE
  go_wp2_with fail
  refine Calls.mono (HU.out _) ?_
  rintro _ w2 ⟨rfl, hb⟩
  have HB2 : Hid (Below W.heap.size W w2) := HB1.out.trans (hb.mono HB1.out.size)
  clear hb HU HB1
  go_wp2_with fail
  go_loop [6] (fun ix => ∃ i : Nat, i ≤ A.size ∧ ix = .int .i64 i) (fun ix => A.size - (intOf ix).toNat)
  case atStart => exact ⟨0, Nat.zero_le _, rfl⟩
  case round =>
    obtain ⟨i, hi, rfl⟩ := hrel
    by_cases hlt : i < A.size
    · have hii : (i : Int) < (A.size : Int) := by omega
      obtain ⟨l1, l2, l3, l4⟩ := HLET.out i hlt
      obtain ⟨x, hx⟩ : ∃ x, x = (A[i]'hlt).toNat := ⟨_, rfl⟩
      rw [← hx] at l1 l2 l3 l4
      have hxs : ((A[i]'hlt).toNat : Int) = (x : Int) := by rw [hx]
      have c1 : ¬ (x : Int) ≤ 32 := by omega
      have c2 : ((x : Int) == 61) = false := by rw [beq_eq_false_iff_ne]; omega
      have c3 : ((x : Int) == 38) = false := by rw [beq_eq_false_iff_ne]; omega
      have c4 : ¬ (126 : Int) < (x : Int) := by omega
      clear hx l1 l2 l3 l4
      go_wp2_with fail
      go_round
      case rel => exact ⟨i + 1, by omega, by go_num⟩
      case measure => simp [intOf]; omega
    · have hii : ¬ (i : Int) < (A.size : Int) := by omega
      clear HLET
      go_wp2_with fail
      refine Calls.mono (HV.out _) ?_
      rintro _ w3 ⟨rfl, hb⟩
      have HB3 : Hid (Below W.heap.size W w3) := HB2.out.trans (hb.mono HB2.out.size)
      clear hb HV HB2
      go_wp2_with fail
      refine Calls.mono (HA.out _ (HT.out.below HB3.out)) ?_
      rintro _ w4 ⟨rfl, hb⟩
      have HB4 : Hid (Below W.heap.size W w4) := HB3.out.trans (hb.mono HB3.out.size)
      clear hb HA HB3
      rcases HCF.out with rfl | ⟨rfl, hE⟩
      · clear HCF
        go_wp2_with fail
        go_ret
        exact ⟨rfl, HB4.out⟩
      · have HEE : Hid _ := hE
        clear hE HCF
        go_wp2_with fail
        refine Calls.mono (HEE.out _) ?_
        rintro _ w5 ⟨rfl, hb⟩
        have HB5 : Hid (Below W.heap.size W w5) := HB4.out.trans (hb.mono HB4.out.size)
        clear hb HEE HB4
        go_wp2_with fail
        go_ret
        exact ⟨rfl, HB5.out⟩
theorem contract (H : Type) (enc : TypeId × Value → H) (W : World) (base : Nat) (args : Array Value) (ds gs : List (DataW H)) (before : List MemPlace)
    (hval : ∀ (j : Nat) t v, Tryd.f6.params[j]? = some t → args[j]? = some v → Value.okWide Tryd.prog W .any base t v)
    (hW : DataW.Whole enc Tryd.prog Tryd.f6.params.toList Rows.labelBackSpec.vars false W args.toList ds gs before)
    (hk : Rows.uptoSmall H (ds ++ gs) = true)
    (hsz : (DataW.weightsEach Tryd.prog (Tryd.f6.params.toList ++ (Rows.OpenSpec.upto Rows.labelBackSpec).bare.plain.varTypes Tryd.prog) (ds ++ gs)).all (· ≤ reachBytes) = true) (hL : laidMetH Tryd.prog Rows.labelBackUptoRow.laid W) (hsh : W.ShapedOpen Tryd.prog) :
    Calls Tryd.prog 6 args W fun e W' => ∃ v, e = .returned v ∧ Rows.labelBackSpec.post enc Tryd.prog Tryd.f6 false true false false W args v W' := by
  have hW' := hW
  obtain ⟨p, q, hA0, hV, rfl, hfz, hnd⟩ := hW
  have hA : DataW.TrodAll enc Tryd.prog W 0 (fun _ => true) true Tryd.f6.params.toList args.toList ds p := hA0
  rw [Tryd.params6] at hA hval hsz
  obtain ⟨v0, vs0, d0, ds0, p0, q0, hargs, rfl, rfl, h0, r0⟩ := trodAll_cons hA
  obtain ⟨rfl, rfl, rfl⟩ := trodAll_nil r0
  obtain rfl : args = #[v0] := by cases args; simp_all
  obtain ⟨rfl, rfl⟩ := trodVars_none hV
  have hbulk := of_decide_eq_true hk
  simp only [List.append_nil, Rows.uptoBulkAll] at hbulk
  obtain ⟨a0, rfl, rfl, rfl, m0⟩ := open_string Tryd.underlying9 (hval 0 9 v0 rfl rfl) h0
  have w0 : a0.size ≤ 140737488351232 := by
    have := sized_string hsz (j := 0) (t := 9) rfl rfl
    rw [bytes_len] at this
    exact this
  have bu0 : a0.size ≤ 1048576 := by
    simp only [Rows.uptoBulk] at hbulk
    rw [← bytes_len]
    omega
  clear hA0 hsz hbulk
  refine (walk W (table6 hL hsh) a0 w0 bu0).mono fun e W' ⟨he, bel⟩ => ?_
  subst he
  exact ⟨_, rfl, _, _, _, [], _, [], hW', trodAll_mk1 (shut_bool Tryd.underlying4 _), (trodAll_cons_mk (shut_string Tryd.underlying9 m0) trodAll_mk0), rfl, bel.frame _, fun h => by cases h⟩
set_option maxRecDepth 100000 in
theorem lifted (os : Os) (started : os.Started) (H : Type) (enc : TypeId × Value → H) (I : Stop.Interp) :
    ReturnsInHanded {} Tryd.checked os 6 .any ((Rows.OpenSpec.upto Rows.labelBackSpec).preRow enc Tryd.prog Tryd.f6 Rows.labelBackUptoRow.domain false Rows.labelBackUptoRow.laid) (((Rows.OpenSpec.upto Rows.labelBackSpec).at I).post enc Tryd.prog Tryd.f6 false true false false) := by
  refine returnsInHanded_of_row (C := Tryd.checked) (s := (Rows.OpenSpec.upto Rows.labelBackSpec)) own started (by kernel_rfl) Tryd.func6
    (witness_row_at (enc := enc) (C := Tryd.checked) false { World.holding Tryd.prog os ⟨#[], #[], []⟩ with heap := (((World.holding Tryd.prog os ⟨#[], #[], []⟩).heap.modify 0 (fun
        | .cells _ t frozen => .cells #[.int .u8 240, .int .u8 240, .int .u8 240, .int .u8 240, .int .u8 240, .int .u8 240, .int .u8 240, .int .u8 240, .int .u8 240, .int .u8 240, .int .u8 240, .int .u8 240, .int .u8 240, .int .u8 240, .int .u8 240, .int .u8 240, .int .u8 240, .int .u8 240, .int .u8 240, .int .u8 240, .int .u8 240, .int .u8 240, .int .u8 240, .int .u8 240, .int .u8 240, .int .u8 240, .int .u8 240, .int .u8 240, .int .u8 240, .int .u8 240, .int .u8 240, .int .u8 240, .int .u8 240, .int .u8 240, .int .u8 240, .int .u8 240, .int .u8 240, .int .u8 240, .int .u8 240, .int .u8 240, .int .u8 240, .int .u8 240, .int .u8 240, .int .u8 240, .int .u8 240, .int .u8 240, .int .u8 240, .int .u8 240, .int .u8 240, .int .u8 240, .int .u8 240, .int .u8 240, .int .u8 240, .int .u8 240, .int .u8 240, .int .u8 240, .int .u8 240, .int .u8 240, .int .u8 240, .int .u8 240, .int .u8 240, .int .u8 240, .int .u8 240, .int .u8 240, .int .u8 240, .int .u8 240, .int .u8 240, .int .u8 240, .int .u8 240, .int .u8 240, .int .u8 240, .int .u8 240, .int .u8 240, .int .u8 240, .int .u8 240, .int .u8 240, .int .u8 240, .int .u8 240, .int .u8 240, .int .u8 240, .int .u8 240, .int .u8 240, .int .u8 240, .int .u8 240, .int .u8 240, .int .u8 240, .int .u8 240, .int .u8 240, .int .u8 240, .int .u8 240, .int .u8 240, .int .u8 240, .int .u8 240, .int .u8 240, .int .u8 240, .int .u8 240, .int .u8 240, .int .u8 240, .int .u8 240, .int .u8 240, .int .u8 240, .int .u8 240, .int .u8 240, .int .u8 240, .int .u8 240, .int .u8 240, .int .u8 240, .int .u8 240, .int .u8 240, .int .u8 240, .int .u8 240, .int .u8 240, .int .u8 240, .int .u8 240, .int .u8 240, .int .u8 240, .int .u8 240, .int .u8 240, .int .u8 240, .int .u8 240, .int .u8 240, .int .u8 240, .int .u8 240, .int .u8 240, .int .u8 240, .int .u8 240, .int .u8 240, .int .u8 240, .int .u8 241, .int .u8 241, .int .u8 241, .int .u8 241, .int .u8 241, .int .u8 241, .int .u8 241, .int .u8 241, .int .u8 241, .int .u8 241, .int .u8 241, .int .u8 241, .int .u8 241, .int .u8 241, .int .u8 241, .int .u8 241, .int .u8 241, .int .u8 241, .int .u8 241, .int .u8 241, .int .u8 241, .int .u8 241, .int .u8 241, .int .u8 241, .int .u8 241, .int .u8 241, .int .u8 241, .int .u8 241, .int .u8 241, .int .u8 241, .int .u8 241, .int .u8 241, .int .u8 241, .int .u8 241, .int .u8 241, .int .u8 241, .int .u8 241, .int .u8 241, .int .u8 241, .int .u8 241, .int .u8 241, .int .u8 241, .int .u8 241, .int .u8 241, .int .u8 241, .int .u8 241, .int .u8 241, .int .u8 241, .int .u8 241, .int .u8 241, .int .u8 241, .int .u8 241, .int .u8 241, .int .u8 241, .int .u8 241, .int .u8 241, .int .u8 241, .int .u8 241, .int .u8 241, .int .u8 241, .int .u8 241, .int .u8 241, .int .u8 241, .int .u8 241, .int .u8 241, .int .u8 241, .int .u8 2, .int .u8 2, .int .u8 2, .int .u8 2, .int .u8 2, .int .u8 2, .int .u8 2, .int .u8 2, .int .u8 2, .int .u8 2, .int .u8 2, .int .u8 2, .int .u8 2, .int .u8 2, .int .u8 2, .int .u8 2, .int .u8 2, .int .u8 2, .int .u8 2, .int .u8 2, .int .u8 2, .int .u8 2, .int .u8 2, .int .u8 2, .int .u8 2, .int .u8 2, .int .u8 2, .int .u8 2, .int .u8 2, .int .u8 2, .int .u8 19, .int .u8 3, .int .u8 3, .int .u8 3, .int .u8 3, .int .u8 3, .int .u8 3, .int .u8 3, .int .u8 3, .int .u8 3, .int .u8 3, .int .u8 3, .int .u8 3, .int .u8 35, .int .u8 3, .int .u8 3, .int .u8 52, .int .u8 4, .int .u8 4, .int .u8 4, .int .u8 68, .int .u8 241, .int .u8 241, .int .u8 241, .int .u8 241, .int .u8 241, .int .u8 241, .int .u8 241, .int .u8 241, .int .u8 241, .int .u8 241, .int .u8 241] t frozen
        | o => o)).modify 1 (fun
        | .cells _ t frozen => .cells #[.int .u8 128, .int .u8 191, .int .u8 160, .int .u8 191, .int .u8 128, .int .u8 159, .int .u8 144, .int .u8 191, .int .u8 128, .int .u8 143, .int .u8 0, .int .u8 0, .int .u8 0, .int .u8 0, .int .u8 0, .int .u8 0, .int .u8 0, .int .u8 0, .int .u8 0, .int .u8 0, .int .u8 0, .int .u8 0, .int .u8 0, .int .u8 0, .int .u8 0, .int .u8 0, .int .u8 0, .int .u8 0, .int .u8 0, .int .u8 0, .int .u8 0, .int .u8 0] t frozen
        | o => o)) } #[.string ByteArray.empty] rfl (by kernel_rfl) (by kernel_rfl) (by kernel_rfl)
      (OpenSpec.preRow_of_cond 8 (x := ([.lit (.string [])], [], [])) (by kernel_rfl) (by kernel_rfl) (fun k hk => by cases hk; kernel_rfl) (by kernel_rfl) (laidMet_of_run' 8 (by kernel_rfl) (by kernel_rfl)))) ?_
  intro W base args ds gs before hval hW _ hcond hsz hL hsh _
  exact contract H enc W base args ds gs before hval hW (hcond _ rfl) hsz hL hsh
theorem said : Rows.LabelBackUptoSaid :=
  OpenClaim.holds_of_cond 6 Tryd.f6 rfl rfl rfl rfl rfl rfl rfl ⟨rfl, rfl, rfl, rfl, rfl⟩ rfl rfl rfl rfl rfl (by kernel_rfl) Tryd.func6 (by kernel_rfl)
    (of_decide_eq_true (by kernel_rfl)) (by unfold Func.isWrapper; first | (rw [if_pos (by decide +kernel)]; kernel_rfl) | (rw [if_neg (by decide +kernel)]; exact ⟨rfl, rfl⟩))
    (fun os started H enc _ I => by rw [OpenClaim.pre_eq_preRow]; exact lifted os started H enc I)
theorem plain (f : FuncId) (fn : Func) (hf : Tryd.pinned.checked.prog.funcNamed Rows.labelBackUptoRow.func = some f) (hfn : Tryd.pinned.checked.prog.funcs[f]? = some fn) :
    false = Tryd.pinned.checked.prog.looks [] ∧ ∀ (j : Nat) t, fn.params[j]? = some t → Tryd.pinned.checked.prog.wantsStandIn t = false := by
  obtain rfl : f = 6 := Option.some.inj ((show Tryd.prog.funcNamed Rows.labelBackUptoRow.func = some 6 by kernel_rfl).symm.trans hf) |>.symm
  obtain rfl : fn = Tryd.f6 := (Option.some.inj (Tryd.func6.symm.trans hfn)).symm
  refine ⟨by kernel_rfl, fun j t ht => ?_⟩
  rw [Tryd.params6] at ht
  have hm := Array.mem_of_getElem? ht
  simp only [List.mem_toArray, List.mem_cons, List.not_mem_nil, or_false] at hm
  subst hm
  · exact (show Tryd.prog.wantsStandIn 9 = false by kernel_rfl)
theorem card : Rows.LabelBackUptoCardSaid :=
  Claim7.holds_tied_plain_at .later [] _ _ _ _ said (fun _ h => by cases h) (by kernel_rfl) (fun _ h => by cases h) labelBackUpto_row_tie rfl ⟨rfl, rfl⟩ (by kernel_rfl) rfl plain (by kernel_rfl)
#print axioms card
end Go.Proofs.YtcmfjfbfoilmfaaDoor.labelBackUpto
