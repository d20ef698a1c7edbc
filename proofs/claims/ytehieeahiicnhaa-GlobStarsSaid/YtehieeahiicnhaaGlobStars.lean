/-
  GlobStars: for any three texts of up to 2^47 - 4096 bytes each: where a pattern matches a text, with a * behind it matches what begins with that text, with a * ahead what ends with it, and Least tells no more than the text has (patterns below 200 bytes, texts of at most 1000, as the law itself says).
-/
import Derived.Test.YtehieeahiicnhaaPArgs
import Derived.Test.YtehieeahiicnhaaGlobAwake
namespace Go.Proofs.Ytehieeahiicnhaa.globStars
open Go.ChangeShapes Go.WideShapes Go.ChangeAt Go.RowKit
open Go.ChangeMaps (open_string shut_string)
set_option linter.unusedVariables false
set_option linter.unusedSimpArgs false
theorem sound_parts {p : List Nat} (h : soundN p = true) : p.length ≤ 200 ∧ ∃ l, piecesN p = some l := by
  unfold soundN at h
  rw [Bool.and_eq_true, decide_eq_true_eq] at h
  exact ⟨h.1, Option.isSome_iff_exists.1 h.2⟩
theorem sound_mk {p : List Nat} {l : List (Nat × Nat)} (h1 : p.length ≤ 200) (h2 : piecesN p = some l) : soundN p = true := by
  unfold soundN
  rw [decide_eq_true h1, h2]
  rfl
theorem match_mk {p s : List Nat} {l : List (Nat × Nat)} (h1 : p.length ≤ 200) (h2 : piecesN p = some l) : matchR p s = .tuple #[.bool (matchP l s), .int .i64 0] := by
  unfold matchR
  rw [sound_mk h1 h2, h2]
  rfl
theorem txt_append (A B : ByteArray) : txt (A ++ B) = txt A ++ txt B := by
  unfold txt
  rw [ByteArray.data_append, Array.toList_append, List.map_append]
set_option maxRecDepth 100000 in
set_option maxHeartbeats 8000000 in
theorem walk (W : World) (P : ByteArray) (wP : P.size ≤ 140737488351232) (S : ByteArray) (wS : S.size ≤ 140737488351232) (T : ByteArray) (wT : T.size ≤ 140737488351232) :
    Calls Try.prog 6 #[.string P, .string S, .string T] W fun e W' => e = .returned (.bool true) ∧ Below W.heap.size W W' := by
  have HA : Hid (∀ V, _) := awake_true
  have HM : Hid _ := gmatch_any P S W (by omega) (by omega)
  cases hs : soundN (txt P) with
  | false =>
    have e1 : matchR (txt P) (txt S) = .tuple #[.bool false, .int .i64 2] := by unfold matchR; rw [hs]; rfl
    rw [e1] at HM
    clear hs e1
    go_enter Try.func6, Try.ntmps6
    go_wp2_with fail
    refine Calls.mono HM.out ?_
    rintro _ w1 ⟨rfl, hb⟩
    have HB1 : Hid (Below W.heap.size W w1) := hb
    clear hb HM
    go_wp2_with fail
    refine Calls.mono (HA.out _) ?_
    rintro _ w2 ⟨rfl, hb⟩
    have HB2 : Hid (Below W.heap.size W w2) := HB1.out.trans (hb.mono HB1.out.size)
    clear hb 
    go_wp2_with fail
    refine Calls.mono (HA.out _) ?_
    rintro _ w3 ⟨rfl, hb⟩
    have HB3 : Hid (Below W.heap.size W w3) := HB2.out.trans (hb.mono HB2.out.size)
    clear hb 
    go_wp2_with fail
    go_ret
    exact ⟨rfl, HB3.out⟩
  | true =>
    obtain ⟨hpl, l, hl⟩ := sound_parts hs
    have e1 := match_mk (s := txt S) hpl hl
    rw [e1] at HM
    cases hm : matchP l (txt S) with
    | false =>
      rw [hm] at HM
      clear hs e1 hm hpl hl
      go_enter Try.func6, Try.ntmps6
      go_wp2_with fail
      refine Calls.mono HM.out ?_
      rintro _ w1 ⟨rfl, hb⟩
      have HB1 : Hid (Below W.heap.size W w1) := hb
      clear hb HM
      go_wp2_with fail
      refine Calls.mono (HA.out _) ?_
      rintro _ w2 ⟨rfl, hb⟩
      have HB2 : Hid (Below W.heap.size W w2) := HB1.out.trans (hb.mono HB1.out.size)
      clear hb 
      go_wp2_with fail
      refine Calls.mono (HA.out _) ?_
      rintro _ w3 ⟨rfl, hb⟩
      have HB3 : Hid (Below W.heap.size W w3) := HB2.out.trans (hb.mono HB2.out.size)
      clear hb 
      go_wp2_with fail
      go_ret
      exact ⟨rfl, HB3.out⟩
    | true =>
      rw [hm] at HM
      by_cases h1 : 200 ≤ P.size
      · have i1 : (200 : Int) ≤ (P.size : Int) := by omega
        clear hs e1 hm hpl hl h1
        go_enter Try.func6, Try.ntmps6
        go_wp2_with fail
        refine Calls.mono HM.out ?_
        rintro _ w1 ⟨rfl, hb⟩
        have HB1 : Hid (Below W.heap.size W w1) := hb
        clear hb HM
        go_wp2_with fail
        refine Calls.mono (HA.out _) ?_
        rintro _ w2 ⟨rfl, hb⟩
        have HB2 : Hid (Below W.heap.size W w2) := HB1.out.trans (hb.mono HB1.out.size)
        clear hb 
        go_wp2_with fail
        refine Calls.mono (HA.out _) ?_
        rintro _ w3 ⟨rfl, hb⟩
        have HB3 : Hid (Below W.heap.size W w3) := HB2.out.trans (hb.mono HB2.out.size)
        clear hb 
        go_wp2_with fail
        go_ret
        exact ⟨rfl, HB3.out⟩
      · have i1 : ¬ (200 : Int) ≤ (P.size : Int) := by omega
        by_cases h2 : 1000 < S.size
        · have i2 : (1000 : Int) < (S.size : Int) := by omega
          clear hs e1 hm hpl hl h1 h2
          go_enter Try.func6, Try.ntmps6
          go_wp2_with fail
          refine Calls.mono HM.out ?_
          rintro _ w1 ⟨rfl, hb⟩
          have HB1 : Hid (Below W.heap.size W w1) := hb
          clear hb HM
          go_wp2_with fail
          refine Calls.mono (HA.out _) ?_
          rintro _ w2 ⟨rfl, hb⟩
          have HB2 : Hid (Below W.heap.size W w2) := HB1.out.trans (hb.mono HB1.out.size)
          clear hb 
          go_wp2_with fail
          refine Calls.mono (HA.out _) ?_
          rintro _ w3 ⟨rfl, hb⟩
          have HB3 : Hid (Below W.heap.size W w3) := HB2.out.trans (hb.mono HB2.out.size)
          clear hb 
          go_wp2_with fail
          go_ret
          exact ⟨rfl, HB3.out⟩
        · have i2 : ¬ (1000 : Int) < (S.size : Int) := by omega
          by_cases h3 : 1000 < T.size
          · have i3 : (1000 : Int) < (T.size : Int) := by omega
            clear hs e1 hm hpl hl h1 h2 h3
            go_enter Try.func6, Try.ntmps6
            go_wp2_with fail
            refine Calls.mono HM.out ?_
            rintro _ w1 ⟨rfl, hb⟩
            have HB1 : Hid (Below W.heap.size W w1) := hb
            clear hb HM
            go_wp2_with fail
            refine Calls.mono (HA.out _) ?_
            rintro _ w2 ⟨rfl, hb⟩
            have HB2 : Hid (Below W.heap.size W w2) := HB1.out.trans (hb.mono HB1.out.size)
            clear hb 
            go_wp2_with fail
            refine Calls.mono (HA.out _) ?_
            rintro _ w3 ⟨rfl, hb⟩
            have HB3 : Hid (Below W.heap.size W w3) := HB2.out.trans (hb.mono HB2.out.size)
            clear hb 
            go_wp2_with fail
            go_ret
            exact ⟨rfl, HB3.out⟩
          · have i3 : ¬ (1000 : Int) < (T.size : Int) := by omega
            have hstar : (ByteArray.mk #[42]).size = 1 := rfl
            obtain ⟨PA, hPA⟩ : ∃ A, P ++ ByteArray.mk #[42] = A := ⟨_, rfl⟩
            obtain ⟨AP, hAP⟩ : ∃ A, ByteArray.mk #[42] ++ P = A := ⟨_, rfl⟩
            obtain ⟨ST, hST⟩ : ∃ A, S ++ T = A := ⟨_, rfl⟩
            obtain ⟨TS, hTS⟩ : ∃ A, T ++ S = A := ⟨_, rfl⟩
            have a1 := add_run (A := P) (B := ByteArray.mk #[42]) (C := PA) (by rw [hstar]; omega) hPA
            have a2 := add_run (A := ByteArray.mk #[42]) (B := P) (C := AP) (by rw [hstar]; omega) hAP
            have a3 := add_run (A := S) (B := T) (C := ST) (by omega) hST
            have a4 := add_run (A := T) (B := S) (C := TS) (by omega) hTS
            have t1 : txt PA = txt P ++ [42] := by rw [← hPA, txt_append]; rfl
            have t2 : txt AP = 42 :: txt P := by rw [← hAP, txt_append]; rfl
            have t3 : txt ST = txt S ++ txt T := by rw [← hST, txt_append]
            have t4 : txt TS = txt T ++ txt S := by rw [← hTS, txt_append]
            have z1 : PA.size = P.size + 1 := by rw [← hPA, ByteArray.size_append, hstar]
            have z2 : AP.size = 1 + P.size := by rw [← hAP, ByteArray.size_append, hstar]
            have z3 : ST.size = S.size + T.size := by rw [← hST, ByteArray.size_append]
            have z4 : TS.size = T.size + S.size := by rw [← hTS, ByteArray.size_append]
            have m1 : matchR (txt PA) (txt ST) = .tuple #[.bool true, .int .i64 0] := by
              rw [match_mk (l := l ++ [(2, 0)]) (by rw [txt_length]; omega) (by rw [t1]; exact pieces_app _ _ [42] l [(2, 0)] (Nat.le_refl _) hl rfl), t3]
              have : matchP (l ++ [(2, 0)]) (txt S ++ txt T) = true := (match_app _ _ _).2 ⟨(txt S).length, by simp, by rw [List.take_left]; exact hm, match_end _⟩
              rw [this]
            have m2 : matchR (txt AP) (txt TS) = .tuple #[.bool true, .int .i64 0] := by
              rw [match_mk (l := (2, 0) :: l) (by rw [txt_length]; omega) (by rw [t2, pieces_star, hl]; rfl), t4]
              have : matchP ((2, 0) :: l) (txt T ++ txt S) = true := (match_star _ _ _ rfl).2 ⟨(txt T).length, by simp, by rw [List.drop_left]; exact hm⟩
              rw [this]
            have m3 : leastR (txt P) = .tuple #[.int .i64 (leastN l : Nat), .int .i64 0] := by unfold leastR; rw [hs, hl]; rfl
            have hle : leastN l ≤ S.size := by rw [← txt_length]; exact match_least l _ hm
            have hlei : ((leastN l : Nat) : Int) ≤ (S.size : Int) := by omega
            have H1 : Hid (∀ V, Calls Try.prog 9 #[.string PA, .string ST] V fun e w' => e = .returned (.tuple #[.bool true, .int .i64 0]) ∧ Below V.heap.size V w') := fun V => by rw [← m1]; exact gmatch_any PA ST V (by omega) (by omega)
            have H2 : Hid (∀ V, Calls Try.prog 9 #[.string AP, .string TS] V fun e w' => e = .returned (.tuple #[.bool true, .int .i64 0]) ∧ Below V.heap.size V w') := fun V => by rw [← m2]; exact gmatch_any AP TS V (by omega) (by omega)
            have H3 : Hid (∀ V, Calls Try.prog 13 #[.string P] V fun e w' => e = .returned (.tuple #[.int .i64 (leastN l : Nat), .int .i64 0]) ∧ Below V.heap.size V w') := fun V => by rw [← m3]; exact gleast_any P V (by omega)
            generalize leastN l = ln at *
            clear hs e1 hm hpl hl h1 h2 h3 hPA hAP hST hTS t1 t2 t3 t4 z1 z2 z3 z4 m1 m2 m3 hle hstar
            go_enter Try.func6, Try.ntmps6
            go_wp2_with fail
            refine Calls.mono HM.out ?_
            rintro _ w1 ⟨rfl, hb⟩
            have HB1 : Hid (Below W.heap.size W w1) := hb
            clear hb HM
            go_wp2_with fail
            refine Calls.mono (HA.out _) ?_
            rintro _ w2 ⟨rfl, hb⟩
            have HB2 : Hid (Below W.heap.size W w2) := HB1.out.trans (hb.mono HB1.out.size)
            clear hb HB1 HA
            go_wp2_with fail
            refine Calls.mono (H1.out _) ?_
            rintro _ w3 ⟨rfl, hb⟩
            have HB3 : Hid (Below W.heap.size W w3) := HB2.out.trans (hb.mono HB2.out.size)
            clear hb HB2 H1
            go_wp2_with fail
            refine Calls.mono (H2.out _) ?_
            rintro _ w4 ⟨rfl, hb⟩
            have HB4 : Hid (Below W.heap.size W w4) := HB3.out.trans (hb.mono HB3.out.size)
            clear hb HB3 H2
            go_wp2_with fail
            refine Calls.mono (H3.out _) ?_
            rintro _ w5 ⟨rfl, hb⟩
            have HB5 : Hid (Below W.heap.size W w5) := HB4.out.trans (hb.mono HB4.out.size)
            clear hb HB4 H3
            go_wp2_with fail
            go_ret
            exact ⟨rfl, HB5.out⟩
theorem contract (H : Type) (enc : TypeId × Value → H) (W : World) (base : Nat) (args : Array Value) (ds gs : List (DataW H)) (before : List MemPlace)
    (hval : ∀ (j : Nat) t v, Try.f6.params[j]? = some t → args[j]? = some v → Value.okWide Try.prog W .any base t v)
    (hW : DataW.Whole enc Try.prog Try.f6.params.toList Rows.globStarsSpec.vars false W args.toList ds gs before)
    (hsz : (DataW.weightsEach Try.prog (Try.f6.params.toList ++ Rows.globStarsSpec.plain.varTypes Try.prog) (ds ++ gs)).all (· ≤ reachBytes) = true) :
    Calls Try.prog 6 args W fun e W' => ∃ v, e = .returned v ∧ Rows.globStarsSpec.post enc Try.prog Try.f6 false true false false W args v W' := by
  have hW' := hW
  obtain ⟨p, q, hA0, hV, rfl, hfz, hnd⟩ := hW
  have hA : DataW.TrodAll enc Try.prog W 0 (fun _ => true) true Try.f6.params.toList args.toList ds p := hA0
  rw [Try.params6] at hA hval hsz
  obtain ⟨v0, vs0, d0, ds0, p0, q0, hargs, rfl, rfl, h0, r0⟩ := trodAll_cons hA
  obtain ⟨v1, vs1, d1, ds1, p1, q1, rfl, rfl, rfl, h1, r1⟩ := trodAll_cons r0
  obtain ⟨v2, vs2, d2, ds2, p2, q2, rfl, rfl, rfl, h2, r2⟩ := trodAll_cons r1
  obtain ⟨rfl, rfl, rfl⟩ := trodAll_nil r2
  obtain rfl : args = #[v0, v1, v2] := by cases args; simp_all
  obtain ⟨rfl, rfl⟩ := trodVars_none hV
  obtain ⟨a0, rfl, rfl, rfl, m0⟩ := open_string Try.underlying9 (hval 0 9 v0 rfl rfl) h0
  have w0 : a0.size ≤ 140737488351232 := by
    have := sized_string hsz (j := 0) (t := 9) rfl rfl
    rw [bytes_len] at this
    exact this
  obtain ⟨a1, rfl, rfl, rfl, m1⟩ := open_string Try.underlying9 (hval 1 9 v1 rfl rfl) h1
  have w1 : a1.size ≤ 140737488351232 := by
    have := sized_string hsz (j := 1) (t := 9) rfl rfl
    rw [bytes_len] at this
    exact this
  obtain ⟨a2, rfl, rfl, rfl, m2⟩ := open_string Try.underlying9 (hval 2 9 v2 rfl rfl) h2
  have w2 : a2.size ≤ 140737488351232 := by
    have := sized_string hsz (j := 2) (t := 9) rfl rfl
    rw [bytes_len] at this
    exact this
  clear hA0 hsz
  refine (walk W a0 w0 a1 w1 a2 w2).mono fun e W' ⟨he, bel⟩ => ?_
  subst he
  exact ⟨_, rfl, _, _, _, [], _, [], hW', trodAll_mk1 (shut_bool Try.underlying4 _), (trodAll_cons_mk (shut_string Try.underlying9 m0) (trodAll_cons_mk (shut_string Try.underlying9 m1) (trodAll_cons_mk (shut_string Try.underlying9 m2) trodAll_mk0))), rfl, bel.frame _, fun h => by cases h⟩
set_option maxRecDepth 100000 in
theorem lifted (os : Os) (started : os.Started) (H : Type) (enc : TypeId × Value → H) :
    ReturnsInHanded {} Try.checked os 6 .any (Rows.globStarsSpec.pre6 enc Try.prog Try.f6 Rows.globStarsRow.domain false) (Rows.globStarsSpec.post enc Try.prog Try.f6 false true false false) := by
  refine returnsInHanded_of_change_sized (C := Try.checked) own started (by kernel_rfl) Try.func6
    (ChangeSpec.witness6 (enc := enc) (C := Try.checked) false ⟨#[], #[.string ByteArray.empty, .string ByteArray.empty, .string ByteArray.empty], []⟩ 8 (by kernel_rfl) (by kernel_rfl) (by kernel_rfl) (by kernel_rfl)) ?_
  intro W base args ds gs before hval hW _ hsz _
  exact contract H enc W base args ds gs before hval hW hsz
theorem over : Rows.globStarsRow.holds Try.pinned (OpenSpec.ofChange Rows.globStarsSpec) :=
  OpenClaim.holds_of_wide 6 Try.f6 rfl rfl rfl rfl rfl rfl rfl ⟨rfl, rfl, rfl, rfl, rfl⟩ rfl rfl rfl rfl rfl (by kernel_rfl) Try.func6 (by kernel_rfl)
    (of_decide_eq_true (by kernel_rfl)) (by unfold Func.isWrapper; first | (rw [if_pos (by decide +kernel)]; kernel_rfl) | (rw [if_neg (by decide +kernel)]; exact ⟨rfl, rfl⟩))
    (fun os started H enc _ => lifted os started H enc)
theorem proved : Rows.GlobStarsSaid := over
end Go.Proofs.Ytehieeahiicnhaa.globStars
