/-
  GlobQuotes: for any two texts (at most 1048576 letters together in the second form): a text's own pattern matches it and no other text, Plain tells it, and where the pattern is too long Match answers ErrForm.
-/
import Derived.Test.YtehieeahiicnhaaPArgs
import Derived.Test.YtehieeahiicnhaaGlobAwake
namespace Go.Proofs.Ytehieeahiicnhaa.globQuotesUpto
open Go.ChangeShapes Go.WideShapes Go.ChangeAt Go.RowKit
open Go.ChangeMaps (open_string shut_string)
set_option linter.unusedVariables false
set_option linter.unusedSimpArgs false
theorem quote_small (s : List Nat) (h : ∀ c ∈ s, c < 256) : ∀ c ∈ quoteN s, c < 256 := by
  induction s with
  | nil => intro c hc; cases hc
  | cons x s ih =>
    intro c hc
    rw [quoteN] at hc
    have hx := h x (by simp)
    have ih' := ih (fun y hy => h y (by simp [hy])) c
    split at hc
    · simp only [List.mem_cons] at hc
      rcases hc with rfl | rfl | hc
      · decide
      · exact hx
      · exact ih' hc
    · simp only [List.mem_cons] at hc
      rcases hc with rfl | hc
      · exact hx
      · exact ih' hc
theorem quote_sound {s : List Nat} (h : (quoteN s).length ≤ 200) : soundN (quoteN s) = true := by
  unfold soundN
  rw [decide_eq_true h, quote_pieces]
  rfl
set_option maxHeartbeats 4000000 in
theorem walk (W : World) (S : ByteArray) (wS : S.size ≤ 140737488351232) (bS : S.size ≤ 1048576) (T : ByteArray) (wT : T.size ≤ 140737488351232) (bT : T.size ≤ 1048576) :
    Calls Try.prog 5 #[.string S, .string T] W fun e W' => e = .returned (.bool true) ∧ Below W.heap.size W W' := by
  have HA : Hid (∀ V, _) := awake_true
  have HQ : Hid _ := gquote_any S W (by omega)
  obtain ⟨Q, hQ⟩ : ∃ Q, Q = strN (quoteN (txt S)) := ⟨_, rfl⟩
  have hQt : txt Q = quoteN (txt S) := by rw [hQ, txt_strN _ (quote_small _ (txt_lt S))]
  have hQs : Q.size ≤ 2097152 := by
    have := quote_len (txt S)
    rw [← hQt, txt_length, txt_length] at this
    omega
  rw [← hQ] at HQ
  have HM : Hid (∀ V, Calls Try.prog 9 #[.string Q, .string S] V fun e w' => e = .returned (matchR (txt Q) (txt S)) ∧ Below V.heap.size V w') := fun V => gmatch_any Q S V (by omega) (by omega)
  have HN : Hid (∀ V, Calls Try.prog 9 #[.string Q, .string T] V fun e w' => e = .returned (matchR (txt Q) (txt T)) ∧ Below V.heap.size V w') := fun V => gmatch_any Q T V (by omega) (by omega)
  have HP : Hid (∀ V, Calls Try.prog 15 #[.string Q] V fun e w' => e = .returned (optR (plainO (txt Q))) ∧ Below V.heap.size V w') := fun V => gplain_any Q V (by omega)
  by_cases hl : 200 < Q.size
  · have hli : (200 : Int) < (Q.size : Int) := by omega
    have hs : soundN (txt Q) = false := sound_long (by rw [txt_length]; exact hl)
    have e1 : ∀ t, matchR (txt Q) t = .tuple #[.bool false, .int .i64 2] := fun t => by unfold matchR; rw [hs]; rfl
    rw [e1] at HM HN
    clear hQ hQt hQs hs e1 HP hl
    go_enter Try.func5, Try.ntmps5
    go_wp2_with fail
    refine Calls.mono HQ.out ?_
    rintro _ w1 ⟨rfl, hb⟩
    have HB1 : Hid (Below W.heap.size W w1) := hb
    clear hb HQ
    go_wp2_with fail
    refine Calls.mono (HM.out _) ?_
    rintro _ w2 ⟨rfl, hb⟩
    have HB2 : Hid (Below W.heap.size W w2) := HB1.out.trans (hb.mono HB1.out.size)
    clear hb HM HB1
    go_wp2_with fail
    refine Calls.mono (HN.out _) ?_
    rintro _ w3 ⟨rfl, hb⟩
    have HB3 : Hid (Below W.heap.size W w3) := HB2.out.trans (hb.mono HB2.out.size)
    clear hb HN HB2
    go_wp2_with fail
    refine Calls.mono (HA.out _) ?_
    rintro _ w4 ⟨rfl, hb⟩
    have HB4 : Hid (Below W.heap.size W w4) := HB3.out.trans (hb.mono HB3.out.size)
    clear hb HA HB3
    go_wp2_with fail
    go_ret
    exact ⟨rfl, HB4.out⟩
  · have hli : ¬ (200 : Int) < (Q.size : Int) := by omega
    have hs : soundN (txt Q) = true := by rw [hQt]; exact quote_sound (by rw [← hQt, txt_length]; omega)
    have e1 : ∀ t, matchR (txt Q) t = .tuple #[.bool (matchP ((txt S).map fun c => (0, c)) t), .int .i64 0] := fun t => by unfold matchR; rw [hs, hQt, quote_pieces]; rfl
    have e2 : matchP ((txt S).map fun c => (0, c)) (txt S) = true := (quote_match _ _).2 rfl
    have e3 : matchP ((txt S).map fun c => (0, c)) (txt T) = decide (txt S = txt T) := by
      by_cases h : txt S = txt T
      · rw [decide_eq_true h]; exact (quote_match _ _).2 h
      · rw [decide_eq_false h, Bool.eq_false_iff]; intro e; exact h ((quote_match _ _).1 e)
    have e4 : optR (plainO (txt Q)) = .tuple #[.string S, .bool true] := by
      unfold plainO
      rw [hs, hQt, quote_pieces]
      show optR (plainP ((txt S).map fun c => (0, c))) = _
      rw [quote_plain]
      show Value.tuple #[.string (strN (txt S)), .bool true] = _
      rw [strN_txt]
    rw [e1, e2] at HM
    rw [e1, e3] at HN
    rw [e4] at HP
    have hst := str_eq S T
    have hss : (S.toList == S.toList) = true := by simp
    generalize decide (txt S = txt T) = d at *
    have hdd : (d == d) = true := by cases d <;> rfl
    clear hQ hQt hQs hs e1 e2 e3 e4 hl wS bS wT bT
    go_enter Try.func5, Try.ntmps5
    go_wp2_with fail
    refine Calls.mono HQ.out ?_
    rintro _ w1 ⟨rfl, hb⟩
    have HB1 : Hid (Below W.heap.size W w1) := hb
    clear hb HQ
    go_wp2_with fail
    refine Calls.mono (HM.out _) ?_
    rintro _ w2 ⟨rfl, hb⟩
    have HB2 : Hid (Below W.heap.size W w2) := HB1.out.trans (hb.mono HB1.out.size)
    clear hb HM HB1
    go_wp2_with fail
    refine Calls.mono (HN.out _) ?_
    rintro _ w3 ⟨rfl, hb⟩
    have HB3 : Hid (Below W.heap.size W w3) := HB2.out.trans (hb.mono HB2.out.size)
    clear hb HN HB2
    go_wp2_with fail
    refine Calls.mono (HP.out _) ?_
    rintro _ w4 ⟨rfl, hb⟩
    have HB4 : Hid (Below W.heap.size W w4) := HB3.out.trans (hb.mono HB3.out.size)
    clear hb HP HB3
    go_wp2_with fail
    refine Calls.mono (HA.out _) ?_
    rintro _ w5 ⟨rfl, hb⟩
    have HB5 : Hid (Below W.heap.size W w5) := HB4.out.trans (hb.mono HB4.out.size)
    clear hb HA HB4
    go_wp2_with fail
    go_ret
    exact ⟨rfl, HB5.out⟩
theorem contract (H : Type) (enc : TypeId × Value → H) (W : World) (base : Nat) (args : Array Value) (ds gs : List (DataW H)) (before : List MemPlace)
    (hval : ∀ (j : Nat) t v, Try.f5.params[j]? = some t → args[j]? = some v → Value.okWide Try.prog W .any base t v)
    (hW : DataW.Whole enc Try.prog Try.f5.params.toList Rows.globQuotesSpec.vars false W args.toList ds gs before)
    (hk : Rows.uptoSmall H (ds ++ gs) = true)
    (hsz : (DataW.weightsEach Try.prog (Try.f5.params.toList ++ (Rows.OpenSpec.upto Rows.globQuotesSpec).bare.plain.varTypes Try.prog) (ds ++ gs)).all (· ≤ reachBytes) = true) :
    Calls Try.prog 5 args W fun e W' => ∃ v, e = .returned v ∧ Rows.globQuotesSpec.post enc Try.prog Try.f5 false true false false W args v W' := by
  have hW' := hW
  obtain ⟨p, q, hA0, hV, rfl, hfz, hnd⟩ := hW
  have hA : DataW.TrodAll enc Try.prog W 0 (fun _ => true) true Try.f5.params.toList args.toList ds p := hA0
  rw [Try.params5] at hA hval hsz
  obtain ⟨v0, vs0, d0, ds0, p0, q0, hargs, rfl, rfl, h0, r0⟩ := trodAll_cons hA
  obtain ⟨v1, vs1, d1, ds1, p1, q1, rfl, rfl, rfl, h1, r1⟩ := trodAll_cons r0
  obtain ⟨rfl, rfl, rfl⟩ := trodAll_nil r1
  obtain rfl : args = #[v0, v1] := by cases args; simp_all
  obtain ⟨rfl, rfl⟩ := trodVars_none hV
  have hbulk := of_decide_eq_true hk
  simp only [List.append_nil, Rows.uptoBulkAll] at hbulk
  obtain ⟨a0, rfl, rfl, rfl, m0⟩ := open_string Try.underlying9 (hval 0 9 v0 rfl rfl) h0
  have w0 : a0.size ≤ 140737488351232 := by
    have := sized_string hsz (j := 0) (t := 9) rfl rfl
    rw [bytes_len] at this
    exact this
  have bu0 : a0.size ≤ 1048576 := by
    simp only [Rows.uptoBulk] at hbulk
    rw [← bytes_len]
    omega
  obtain ⟨a1, rfl, rfl, rfl, m1⟩ := open_string Try.underlying9 (hval 1 9 v1 rfl rfl) h1
  have w1 : a1.size ≤ 140737488351232 := by
    have := sized_string hsz (j := 1) (t := 9) rfl rfl
    rw [bytes_len] at this
    exact this
  have bu1 : a1.size ≤ 1048576 := by
    simp only [Rows.uptoBulk] at hbulk
    rw [← bytes_len]
    omega
  clear hA0 hsz hbulk
  refine (walk W a0 w0 bu0 a1 w1 bu1).mono fun e W' ⟨he, bel⟩ => ?_
  subst he
  exact ⟨_, rfl, _, _, _, [], _, [], hW', trodAll_mk1 (shut_bool Try.underlying4 _), (trodAll_cons_mk (shut_string Try.underlying9 m0) (trodAll_cons_mk (shut_string Try.underlying9 m1) trodAll_mk0)), rfl, bel.frame _, fun h => by cases h⟩
set_option maxRecDepth 100000 in
theorem lifted (os : Os) (started : os.Started) (H : Type) (enc : TypeId × Value → H) (I : Stop.Interp) :
    ReturnsInHanded {} Try.checked os 5 .any ((Rows.OpenSpec.upto Rows.globQuotesSpec).pre6 enc Try.prog Try.f5 Rows.globQuotesUptoRow.domain false) (((Rows.OpenSpec.upto Rows.globQuotesSpec).at I).post enc Try.prog Try.f5 false true false false) := by
  refine returnsInHanded_of_cond_sized (C := Try.checked) (s := (Rows.OpenSpec.upto Rows.globQuotesSpec)) (k := Rows.uptoSmall) rfl own started (by kernel_rfl) Try.func5
    (OpenSpec.witness (enc := enc) (C := Try.checked) (s := (Rows.OpenSpec.upto Rows.globQuotesSpec)) (k := Rows.uptoSmall) rfl false ⟨#[], #[.string ByteArray.empty, .string ByteArray.empty], []⟩ 8 (by kernel_rfl) (by kernel_rfl) (by kernel_rfl)
      (x := ([.lit (.string []), .lit (.string [])], [], [])) (by kernel_rfl) rfl (by kernel_rfl)) ?_
  intro W base args ds gs before hval hW _ hk hsz _
  exact contract H enc W base args ds gs before hval hW hk hsz
theorem over : Rows.globQuotesUptoRow.holds Try.pinned (Rows.OpenSpec.upto Rows.globQuotesSpec) :=
  OpenClaim.holds_of_cond 5 Try.f5 rfl rfl rfl rfl rfl rfl rfl ⟨rfl, rfl, rfl, rfl, rfl⟩ rfl rfl rfl rfl rfl (by kernel_rfl) Try.func5 (by kernel_rfl)
    (of_decide_eq_true (by kernel_rfl)) (by unfold Func.isWrapper; first | (rw [if_pos (by decide +kernel)]; kernel_rfl) | (rw [if_neg (by decide +kernel)]; exact ⟨rfl, rfl⟩))
    (fun os started H enc _ I => lifted os started H enc I)
theorem proved : Rows.GlobQuotesUptoSaid := over
end Go.Proofs.Ytehieeahiicnhaa.globQuotesUpto
