/-
  LabelNext: for any two texts of up to 2^47 - 4096 bytes each: what begins with the first is below its Next and not below it, and only that; where there is no Next, what does not begin with it is below it. Condition: the two listed tables of Go's own library are laid as its text lays them.
-/
import Derived.Test.YtcmfjfbfoilmfaaDoorCards
import Derived.Test.YtcmfjfbfoilmfaaDoorTie
import Derived.Test.YtcmfjfbfoilmfaaDoorCArgs
import Derived.Test.YtcmfjfbfoilmfaaDoorLabelLaid
namespace Go.Proofs.YtcmfjfbfoilmfaaDoor.labelNext
open Go.ChangeShapes Go.WideShapes Go.ChangeAt Go.RowKit
open Go.ChangeMaps (open_string shut_string)
set_option linter.unusedVariables false
set_option linter.unusedSimpArgs false
theorem str_gtr (t : TypeId) (a b : ByteArray) : binOp .gtr t (.string a) (.string b) = pure (.bool !(Op.bytesLess a.toList b.toList || a.toList == b.toList)) := by
  simp [binOp, Op.stringOp]
theorem str_geq (t : TypeId) (a b : ByteArray) : binOp .geq t (.string a) (.string b) = pure (.bool !(Op.bytesLess a.toList b.toList)) := by
  simp [binOp, Op.stringOp]
set_option maxHeartbeats 4000000 in
theorem walk (W : World) (hT : Tab6 W) (S : ByteArray) (wS : S.size ≤ 140737488351232) (R : ByteArray) (wR : R.size ≤ 140737488351232) :
    Calls Tryd.prog 7 #[.string S, .string R] W fun e W' => e = .returned (.bool true) ∧ Below W.heap.size W W' := by
  have HT : Hid (Tab6 W) := hT
  have HN : Hid _ := next_any S W (by omega)
  have HA : Hid (∀ V, Tab6 V → _) := awake_true
  have HB : Hid (∀ V, Calls Tryd.prog 22 #[.string R, .string S] V fun e w' => e = .returned (.bool (begN (txt R) (txt S))) ∧ w' = V) := fun V => rbegins_any R S V (by omega) (by omega)
  clear hT wS wR
  cases hn : nextN (txt S) with
  | none =>
    rw [hn, show optR none = .tuple #[.string (ByteArray.mk #[]), .bool false] from rfl] at HN
    have hor := next_none hn (txt_lt R)
    obtain ⟨b, hb⟩ : ∃ b, begN (txt R) (txt S) = b := ⟨_, rfl⟩
    obtain ⟨l, hl⟩ : ∃ l, decide (txt R < txt S) = l := ⟨_, rfl⟩
    have hls := str_less R S
    rw [hl] at hls
    rw [hb] at HB
    have HOR : Hid (b = true ∨ l = true) := by
      unfold Hid
      rw [← hb, ← hl]
      rcases hor with h | h
      · exact .inl h
      · exact .inr (decide_eq_true h)
    clear hn hor hb hl
    go_enter Tryd.func7, Tryd.ntmps7
    go_wp2_with fail
    refine Calls.mono HN.out ?_
    rintro _ w1 ⟨rfl, hb⟩
    have HB1 : Hid (Below W.heap.size W w1) := hb
    clear hb HN
    go_wp2_with fail
    refine Calls.mono (HA.out _ (HT.out.below HB1.out)) ?_
    rintro _ w2 ⟨rfl, hb⟩
    have HB2 : Hid (Below W.heap.size W w2) := HB1.out.trans (hb.mono HB1.out.size)
    clear hb HA HB1
    go_wp2_with fail
    refine Calls.mono (HB.out _) ?_
    rintro _ w3 ⟨rfl, hw⟩
    replace hw := hw.symm
    subst hw
    clear HB
    cases b with
    | true =>
      go_wp2_with fail
      go_ret
      exact ⟨rfl, HB2.out⟩
    | false =>
      have hlt : l = true := by
        rcases HOR.out with h | h
        · cases h
        · exact h
      subst hlt
      go_wp2_with fail
      go_ret
      exact ⟨rfl, HB2.out⟩
  | some n =>
    obtain ⟨N, hN⟩ : ∃ N, N = strN n := ⟨_, rfl⟩
    rw [hn, show optR (some n) = .tuple #[.string (strN n), .bool true] from rfl, ← hN] at HN
    have hnl : ∀ c ∈ n, c < 256 := by
      rcases next_parts (txt S) (txt S).length (Nat.le_refl _) with ⟨h1, -⟩ | ⟨k, h1, h2, h3, h4⟩
      · unfold nextN at hn; rw [h1] at hn; cases hn
      · unfold nextN at hn
        rw [h3] at hn
        cases hn
        intro c hc
        rcases List.mem_append.1 hc with hc | hc
        · exact txt_lt S c (List.mem_of_mem_take hc)
        · rw [List.mem_singleton] at hc
          have hx : (txt S).getD k 0 < 256 := by
            rw [List.getD_eq_getElem?_getD, List.getElem?_eq_getElem h1]
            exact txt_lt S _ (List.getElem_mem h1)
          omega
    have hNt : txt N = n := by rw [hN, txt_strN n hnl]
    obtain ⟨h1, h2⟩ := next_some hn (txt_lt R)
    obtain ⟨b, hb⟩ : ∃ b, begN (txt R) (txt S) = b := ⟨_, rfl⟩
    obtain ⟨l, hl⟩ : ∃ l, decide (txt R < txt S) = l := ⟨_, rfl⟩
    obtain ⟨m, hm⟩ : ∃ m, decide (txt R < txt N) = m := ⟨_, rfl⟩
    have hls := str_less R N
    rw [hm] at hls
    have HG : Hid (∀ V, (binOp .gtr 9 (.string N) (.string S)).run Tryd.prog V = .ok (.bool true) V) := fun V => by
      rw [str_gtr, str_less, str_eq, decide_eq_false, decide_eq_false]
      · rfl
      · rw [hNt]
        intro e
        rw [e] at h1
        exact List.lt_irrefl _ h1
      · rw [hNt]
        intro e
        exact List.lt_irrefl _ (List.lt_trans h1 e)
    have HGE : Hid (∀ V, (binOp .geq 9 (.string R) (.string S)).run Tryd.prog V = .ok (.bool (!l)) V) := fun V => by
      rw [str_geq, str_less, hl]
      rfl
    have HE : Hid ((b == (!l && m)) = true) := by
      unfold Hid
      rw [← hb, ← hl, ← hm, hNt]
      by_cases hbb : begN (txt R) (txt S) = true
      · obtain ⟨q1, q2⟩ := h2.1 hbb
        rw [hbb, decide_eq_false q1, decide_eq_true q2]
        rfl
      · have hbf : begN (txt R) (txt S) = false := by simpa using hbb
        rw [hbf]
        by_cases q1 : txt R < txt S
        · rw [decide_eq_true q1]; rfl
        · have q2 : ¬ txt R < n := fun q2 => hbb (h2.2 ⟨q1, q2⟩)
          rw [decide_eq_false q1, decide_eq_false q2]; rfl
    rw [hb] at HB
    clear hn hN hnl hNt h1 h2 hb hl hm
    go_enter Tryd.func7, Tryd.ntmps7
    go_wp2_with fail
    refine Calls.mono HN.out ?_
    rintro _ w1 ⟨rfl, hb⟩
    have HB1 : Hid (Below W.heap.size W w1) := hb
    clear hb HN
    go_wp2_with fail
    refine Calls.mono (HA.out _ (HT.out.below HB1.out)) ?_
    rintro _ w2 ⟨rfl, hb⟩
    have HB2 : Hid (Below W.heap.size W w2) := HB1.out.trans (hb.mono HB1.out.size)
    clear hb HA HB1
    go_wp2_with fail
    refine Calls.mono (HB.out _) ?_
    rintro _ w3 ⟨rfl, hw⟩
    replace hw := hw.symm
    subst hw
    clear HB
    go_wp2_with fail
    rw [HG.out]
    cases l with
    | true =>
      go_wp2_with fail
      rw [HGE.out]
      go_wp2_with fail
      go_ret
      exact ⟨by have := HE.out; cases b <;> first | rfl | (cases m <;> cases this), HB2.out⟩
    | false =>
      go_wp2_with fail
      rw [HGE.out]
      go_wp2_with fail
      go_ret
      exact ⟨by have := HE.out; cases b <;> cases m <;> first | rfl | (cases this), HB2.out⟩
theorem contract (H : Type) (enc : TypeId × Value → H) (W : World) (base : Nat) (args : Array Value) (ds gs : List (DataW H)) (before : List MemPlace)
    (hval : ∀ (j : Nat) t v, Tryd.f7.params[j]? = some t → args[j]? = some v → Value.okWide Tryd.prog W .any base t v)
    (hW : DataW.Whole enc Tryd.prog Tryd.f7.params.toList Rows.labelNextSpec.vars false W args.toList ds gs before)
    (hsz : (DataW.weightsEach Tryd.prog (Tryd.f7.params.toList ++ (OpenSpec.ofChange Rows.labelNextSpec).bare.plain.varTypes Tryd.prog) (ds ++ gs)).all (· ≤ reachBytes) = true) (hL : laidMetH Tryd.prog Rows.labelNextRow.laid W) (hsh : W.ShapedOpen Tryd.prog) :
    Calls Tryd.prog 7 args W fun e W' => ∃ v, e = .returned v ∧ Rows.labelNextSpec.post enc Tryd.prog Tryd.f7 false true false false W args v W' := by
  have hW' := hW
  obtain ⟨p, q, hA0, hV, rfl, hfz, hnd⟩ := hW
  have hA : DataW.TrodAll enc Tryd.prog W 0 (fun _ => true) true Tryd.f7.params.toList args.toList ds p := hA0
  rw [Tryd.params7] at hA hval hsz
  obtain ⟨v0, vs0, d0, ds0, p0, q0, hargs, rfl, rfl, h0, r0⟩ := trodAll_cons hA
  obtain ⟨v1, vs1, d1, ds1, p1, q1, rfl, rfl, rfl, h1, r1⟩ := trodAll_cons r0
  obtain ⟨rfl, rfl, rfl⟩ := trodAll_nil r1
  obtain rfl : args = #[v0, v1] := by cases args; simp_all
  obtain ⟨rfl, rfl⟩ := trodVars_none hV
  obtain ⟨a0, rfl, rfl, rfl, m0⟩ := open_string Tryd.underlying9 (hval 0 9 v0 rfl rfl) h0
  have w0 : a0.size ≤ 140737488351232 := by
    have := sized_string hsz (j := 0) (t := 9) rfl rfl
    rw [bytes_len] at this
    exact this
  obtain ⟨a1, rfl, rfl, rfl, m1⟩ := open_string Tryd.underlying9 (hval 1 9 v1 rfl rfl) h1
  have w1 : a1.size ≤ 140737488351232 := by
    have := sized_string hsz (j := 1) (t := 9) rfl rfl
    rw [bytes_len] at this
    exact this
  clear hA0 hsz
  refine (walk W (table6 hL hsh) a0 w0 a1 w1).mono fun e W' ⟨he, bel⟩ => ?_
  subst he
  exact ⟨_, rfl, _, _, _, [], _, [], hW', trodAll_mk1 (shut_bool Tryd.underlying4 _), (trodAll_cons_mk (shut_string Tryd.underlying9 m0) (trodAll_cons_mk (shut_string Tryd.underlying9 m1) trodAll_mk0)), rfl, bel.frame _, fun h => by cases h⟩
set_option maxRecDepth 100000 in
theorem lifted (os : Os) (started : os.Started) (H : Type) (enc : TypeId × Value → H) (I : Stop.Interp) :
    ReturnsInHanded {} Tryd.checked os 7 .any ((OpenSpec.ofChange Rows.labelNextSpec).preRow enc Tryd.prog Tryd.f7 Rows.labelNextRow.domain false Rows.labelNextRow.laid) (((OpenSpec.ofChange Rows.labelNextSpec).at I).post enc Tryd.prog Tryd.f7 false true false false) := by
  refine returnsInHanded_of_row (C := Tryd.checked) (s := (OpenSpec.ofChange Rows.labelNextSpec)) own started (by kernel_rfl) Tryd.func7
    (witness_row_at (enc := enc) (C := Tryd.checked) false { World.holding Tryd.prog os ⟨#[], #[], []⟩ with heap := (((World.holding Tryd.prog os ⟨#[], #[], []⟩).heap.modify 0 (fun
        | .cells _ t frozen => .cells #[.int .u8 240, .int .u8 240, .int .u8 240, .int .u8 240, .int .u8 240, .int .u8 240, .int .u8 240, .int .u8 240, .int .u8 240, .int .u8 240, .int .u8 240, .int .u8 240, .int .u8 240, .int .u8 240, .int .u8 240, .int .u8 240, .int .u8 240, .int .u8 240, .int .u8 240, .int .u8 240, .int .u8 240, .int .u8 240, .int .u8 240, .int .u8 240, .int .u8 240, .int .u8 240, .int .u8 240, .int .u8 240, .int .u8 240, .int .u8 240, .int .u8 240, .int .u8 240, .int .u8 240, .int .u8 240, .int .u8 240, .int .u8 240, .int .u8 240, .int .u8 240, .int .u8 240, .int .u8 240, .int .u8 240, .int .u8 240, .int .u8 240, .int .u8 240, .int .u8 240, .int .u8 240, .int .u8 240, .int .u8 240, .int .u8 240, .int .u8 240, .int .u8 240, .int .u8 240, .int .u8 240, .int .u8 240, .int .u8 240, .int .u8 240, .int .u8 240, .int .u8 240, .int .u8 240, .int .u8 240, .int .u8 240, .int .u8 240, .int .u8 240, .int .u8 240, .int .u8 240, .int .u8 240, .int .u8 240, .int .u8 240, .int .u8 240, .int .u8 240, .int .u8 240, .int .u8 240, .int .u8 240, .int .u8 240, .int .u8 240, .int .u8 240, .int .u8 240, .int .u8 240, .int .u8 240, .int .u8 240, .int .u8 240, .int .u8 240, .int .u8 240, .int .u8 240, .int .u8 240, .int .u8 240, .int .u8 240, .int .u8 240, .int .u8 240, .int .u8 240, .int .u8 240, .int .u8 240, .int .u8 240, .int .u8 240, .int .u8 240, .int .u8 240, .int .u8 240, .int .u8 240, .int .u8 240, .int .u8 240, .int .u8 240, .int .u8 240, .int .u8 240, .int .u8 240, .int .u8 240, .int .u8 240, .int .u8 240, .int .u8 240, .int .u8 240, .int .u8 240, .int .u8 240, .int .u8 240, .int .u8 240, .int .u8 240, .int .u8 240, .int .u8 240, .int .u8 240, .int .u8 240, .int .u8 240, .int .u8 240, .int .u8 240, .int .u8 240, .int .u8 240, .int .u8 240, .int .u8 240, .int .u8 240, .int .u8 240, .int .u8 240, .int .u8 241, .int .u8 241, .int .u8 241, .int .u8 241, .int .u8 241, .int .u8 241, .int .u8 241, .int .u8 241, .int .u8 241, .int .u8 241, .int .u8 241, .int .u8 241, .int .u8 241, .int .u8 241, .int .u8 241, .int .u8 241, .int .u8 241, .int .u8 241, .int .u8 241, .int .u8 241, .int .u8 241, .int .u8 241, .int .u8 241, .int .u8 241, .int .u8 241, .int .u8 241, .int .u8 241, .int .u8 241, .int .u8 241, .int .u8 241, .int .u8 241, .int .u8 241, .int .u8 241, .int .u8 241, .int .u8 241, .int .u8 241, .int .u8 241, .int .u8 241, .int .u8 241, .int .u8 241, .int .u8 241, .int .u8 241, .int .u8 241, .int .u8 241, .int .u8 241, .int .u8 241, .int .u8 241, .int .u8 241, .int .u8 241, .int .u8 241, .int .u8 241, .int .u8 241, .int .u8 241, .int .u8 241, .int .u8 241, .int .u8 241, .int .u8 241, .int .u8 241, .int .u8 241, .int .u8 241, .int .u8 241, .int .u8 241, .int .u8 241, .int .u8 241, .int .u8 241, .int .u8 241, .int .u8 2, .int .u8 2, .int .u8 2, .int .u8 2, .int .u8 2, .int .u8 2, .int .u8 2, .int .u8 2, .int .u8 2, .int .u8 2, .int .u8 2, .int .u8 2, .int .u8 2, .int .u8 2, .int .u8 2, .int .u8 2, .int .u8 2, .int .u8 2, .int .u8 2, .int .u8 2, .int .u8 2, .int .u8 2, .int .u8 2, .int .u8 2, .int .u8 2, .int .u8 2, .int .u8 2, .int .u8 2, .int .u8 2, .int .u8 2, .int .u8 19, .int .u8 3, .int .u8 3, .int .u8 3, .int .u8 3, .int .u8 3, .int .u8 3, .int .u8 3, .int .u8 3, .int .u8 3, .int .u8 3, .int .u8 3, .int .u8 3, .int .u8 35, .int .u8 3, .int .u8 3, .int .u8 52, .int .u8 4, .int .u8 4, .int .u8 4, .int .u8 68, .int .u8 241, .int .u8 241, .int .u8 241, .int .u8 241, .int .u8 241, .int .u8 241, .int .u8 241, .int .u8 241, .int .u8 241, .int .u8 241, .int .u8 241] t frozen
        | o => o)).modify 1 (fun
        | .cells _ t frozen => .cells #[.int .u8 128, .int .u8 191, .int .u8 160, .int .u8 191, .int .u8 128, .int .u8 159, .int .u8 144, .int .u8 191, .int .u8 128, .int .u8 143, .int .u8 0, .int .u8 0, .int .u8 0, .int .u8 0, .int .u8 0, .int .u8 0, .int .u8 0, .int .u8 0, .int .u8 0, .int .u8 0, .int .u8 0, .int .u8 0, .int .u8 0, .int .u8 0, .int .u8 0, .int .u8 0, .int .u8 0, .int .u8 0, .int .u8 0, .int .u8 0, .int .u8 0, .int .u8 0] t frozen
        | o => o)) } #[.string ByteArray.empty, .string ByteArray.empty] rfl (by kernel_rfl) (by kernel_rfl) (by kernel_rfl)
      (OpenSpec.preRow_of_cond 8 (x := ([.lit (.string []), .lit (.string [])], [], [])) (by kernel_rfl) (by kernel_rfl) (fun k hk => by cases hk) (by kernel_rfl) (laidMet_of_run' 8 (by kernel_rfl) (by kernel_rfl)))) ?_
  intro W base args ds gs before hval hW _ hcond hsz hL hsh _
  exact contract H enc W base args ds gs before hval hW hsz hL hsh
theorem said : Rows.LabelNextSaid :=
  OpenClaim.holds_of_cond 7 Tryd.f7 rfl rfl rfl rfl rfl rfl rfl ⟨rfl, rfl, rfl, rfl, rfl⟩ rfl rfl rfl rfl rfl (by kernel_rfl) Tryd.func7 (by kernel_rfl)
    (of_decide_eq_true (by kernel_rfl)) (by unfold Func.isWrapper; first | (rw [if_pos (by decide +kernel)]; kernel_rfl) | (rw [if_neg (by decide +kernel)]; exact ⟨rfl, rfl⟩))
    (fun os started H enc _ I => by rw [OpenClaim.pre_eq_preRow]; exact lifted os started H enc I)
theorem plain (f : FuncId) (fn : Func) (hf : Tryd.pinned.checked.prog.funcNamed Rows.labelNextRow.func = some f) (hfn : Tryd.pinned.checked.prog.funcs[f]? = some fn) :
    false = Tryd.pinned.checked.prog.looks [] ∧ ∀ (j : Nat) t, fn.params[j]? = some t → Tryd.pinned.checked.prog.wantsStandIn t = false := by
  obtain rfl : f = 7 := Option.some.inj ((show Tryd.prog.funcNamed Rows.labelNextRow.func = some 7 by kernel_rfl).symm.trans hf) |>.symm
  obtain rfl : fn = Tryd.f7 := (Option.some.inj (Tryd.func7.symm.trans hfn)).symm
  refine ⟨by kernel_rfl, fun j t ht => ?_⟩
  rw [Tryd.params7] at ht
  have hm := Array.mem_of_getElem? ht
  simp only [List.mem_toArray, List.mem_cons, List.not_mem_nil, or_false] at hm
  rcases hm with rfl | rfl
  · exact (show Tryd.prog.wantsStandIn 9 = false by kernel_rfl)
  · exact (show Tryd.prog.wantsStandIn 9 = false by kernel_rfl)
theorem card : Rows.LabelNextCardSaid :=
  Claim7.holds_tied_plain_at .later [] _ _ _ _ said (fun _ h => by cases h) (by kernel_rfl) (fun _ h => by cases h) labelNext_row_tie rfl ⟨rfl, rfl⟩ (by kernel_rfl) rfl plain (by kernel_rfl)
#print axioms card
end Go.Proofs.YtcmfjfbfoilmfaaDoor.labelNext
