/-
  GlobParts: for any three texts of up to 2^47 - 4096 bytes each: a pattern of two parts matches just what can be parted so that each part matches its own (both parts sound and of 200 bytes at most together, the text of at most 60 bytes, as the law itself says).
-/
import Derived.Test.YtehieeahiicnhaaPArgs
import Derived.Test.YtehieeahiicnhaaGlobAwake
namespace Go.Proofs.Ytehieeahiicnhaa.globParts
open Go.ChangeShapes Go.WideShapes Go.ChangeAt Go.RowKit
open Go.ChangeMaps (open_string shut_string)
set_option linter.unusedVariables false
set_option linter.unusedSimpArgs false
theorem sound_parts {p : List Nat} (h : soundN p = true) : p.length ≤ 200 ∧ ∃ l, piecesN p = some l := by
  unfold soundN at h
  rw [Bool.and_eq_true, decide_eq_true_eq] at h
  exact ⟨h.1, Option.isSome_iff_exists.1 h.2⟩
theorem match_mk {p s : List Nat} {l : List (Nat × Nat)} (h1 : p.length ≤ 200) (h2 : piecesN p = some l) : matchR p s = .tuple #[.bool (matchP l s), .int .i64 0] := by
  unfold matchR soundN
  rw [decide_eq_true h1, h2]
  rfl
theorem txt_append (A B : ByteArray) : txt (A ++ B) = txt A ++ txt B := by
  unfold txt
  rw [ByteArray.data_append, Array.toList_append, List.map_append]
theorem str_to (s : ByteArray) (k : Nat) (kd : IntKind) (h : k ≤ s.size) (W : World) : (Instr.slice 9 (.string s) none (some (.int kd (k : Nat))) none).run Try.prog W = .ok (.string (s.extract 0 k)) W := by
  rw [run_slice_string_h W _ s Try.underlying9 kd (k : Nat) (by omega) (by omega), Int.toNat_natCast]
theorem str_from (s : ByteArray) (k : Nat) (kd : IntKind) (h : k ≤ s.size) (W : World) : (Instr.slice 9 (.string s) (some (.int kd (k : Nat))) none none).run Try.prog W = .ok (.string (s.extract k s.size)) W := by
  rw [run_slice_string_l W _ s Try.underlying9 kd (k : Nat) (by omega) (by omega), Int.toNat_natCast]
/-- Whether some of the first places parts so. -/
def anyN (l m : List (Nat × Nat)) (s : List Nat) : Nat → Bool
  | 0 => false
  | i + 1 => anyN l m s i || (matchP l (s.take i) && matchP m (s.drop i))
theorem any_iff (l m : List (Nat × Nat)) (s : List Nat) : ∀ n, anyN l m s n = true ↔ ∃ i, i < n ∧ matchP l (s.take i) = true ∧ matchP m (s.drop i) = true
  | 0 => by simp [anyN]
  | n + 1 => by
    rw [anyN, Bool.or_eq_true, Bool.and_eq_true, any_iff l m s n]
    constructor
    · rintro (⟨i, h1, h2⟩ | h)
      · exact ⟨i, by omega, h2⟩
      · exact ⟨n, by omega, h⟩
    · rintro ⟨i, h1, h2⟩
      by_cases e : i = n
      · subst e; exact .inr h2
      · exact .inl ⟨i, by omega, h2⟩
theorem any_all (l m : List (Nat × Nat)) (s : List Nat) : anyN l m s (s.length + 1) = matchP (l ++ m) s := by
  cases h : matchP (l ++ m) s with
  | true =>
    obtain ⟨i, h1, h2⟩ := (match_app l m s).1 h
    exact (any_iff l m s _).2 ⟨i, by omega, h2⟩
  | false =>
    rw [Bool.eq_false_iff]
    intro e
    obtain ⟨i, h1, h2⟩ := (any_iff l m s _).1 e
    rw [(match_app l m s).2 ⟨i, by omega, h2⟩] at h
    cases h
set_option maxRecDepth 100000 in
set_option maxHeartbeats 8000000 in
theorem walk (W : World) (P : ByteArray) (wP : P.size ≤ 140737488351232) (Q : ByteArray) (wQ : Q.size ≤ 140737488351232) (S : ByteArray) (wS : S.size ≤ 140737488351232) :
    Calls Try.prog 7 #[.string P, .string Q, .string S] W fun e W' => e = .returned (.bool true) ∧ Below W.heap.size W W' := by
  have HA : Hid (∀ V, _) := awake_true
  have HP : Hid _ := gsound_any P W (by omega)
  have HQ : Hid (∀ V, Calls Try.prog 11 #[.string Q] V fun e w' => e = .returned (.bool (soundN (txt Q))) ∧ Below V.heap.size V w') := fun V => gsound_any Q V (by omega)
  by_cases h1 : 60 < S.size
  · have i1 : (60 : Int) < (S.size : Int) := by omega
    clear h1 HP HQ
    go_enter Try.func7, Try.ntmps7
    go_wp2_with fail
    refine Calls.mono (HA.out _) ?_
    rintro _ w1 ⟨rfl, hb⟩
    have HB1 : Hid (Below W.heap.size W w1) := hb
    clear hb 
    go_wp2_with fail
    go_ret
    exact ⟨rfl, HB1.out⟩
  · have i1 : ¬ (60 : Int) < (S.size : Int) := by omega
    cases hs : soundN (txt P) with
    | false =>
      rw [hs] at HP
      clear hs h1 HQ
      go_enter Try.func7, Try.ntmps7
      go_wp2_with fail
      refine Calls.mono HP.out ?_
      rintro _ w1 ⟨rfl, hb⟩
      have HB1 : Hid (Below W.heap.size W w1) := hb
      clear hb HP
      go_wp2_with fail
      refine Calls.mono (HA.out _) ?_
      rintro _ w2 ⟨rfl, hb⟩
      have HB2 : Hid (Below W.heap.size W w2) := HB1.out.trans (hb.mono HB1.out.size)
      clear hb 
      go_wp2_with fail
      go_ret
      exact ⟨rfl, HB2.out⟩
    | true =>
      rw [hs] at HP
      obtain ⟨hpl, l, hl⟩ := sound_parts hs
      cases ht : soundN (txt Q) with
      | false =>
        rw [ht] at HQ
        clear hs ht h1 hpl hl
        go_enter Try.func7, Try.ntmps7
        go_wp2_with fail
        refine Calls.mono HP.out ?_
        rintro _ w1 ⟨rfl, hb⟩
        have HB1 : Hid (Below W.heap.size W w1) := hb
        clear hb HP
        go_wp2_with fail
        refine Calls.mono (HQ.out _) ?_
        rintro _ w2 ⟨rfl, hb⟩
        have HB2 : Hid (Below W.heap.size W w2) := HB1.out.trans (hb.mono HB1.out.size)
        clear hb HQ
        go_wp2_with fail
        refine Calls.mono (HA.out _) ?_
        rintro _ w3 ⟨rfl, hb⟩
        have HB3 : Hid (Below W.heap.size W w3) := HB2.out.trans (hb.mono HB2.out.size)
        clear hb 
        go_wp2_with fail
        go_ret
        exact ⟨rfl, HB3.out⟩
      | true =>
        rw [ht] at HQ
        obtain ⟨hql, m, hm⟩ := sound_parts ht
        rw [txt_length] at hpl hql
        by_cases h2 : 200 < P.size + Q.size
        · have i2 : (200 : Int) < (P.size : Int) + (Q.size : Int) := by omega
          clear hs ht h1 h2 hl hm
          go_enter Try.func7, Try.ntmps7
          go_wp2_with fail
          refine Calls.mono HP.out ?_
          rintro _ w1 ⟨rfl, hb⟩
          have HB1 : Hid (Below W.heap.size W w1) := hb
          clear hb HP
          go_wp2_with fail
          refine Calls.mono (HQ.out _) ?_
          rintro _ w2 ⟨rfl, hb⟩
          have HB2 : Hid (Below W.heap.size W w2) := HB1.out.trans (hb.mono HB1.out.size)
          clear hb HQ
          go_wp2_with fail
          refine Calls.mono (HA.out _) ?_
          rintro _ w3 ⟨rfl, hb⟩
          have HB3 : Hid (Below W.heap.size W w3) := HB2.out.trans (hb.mono HB2.out.size)
          clear hb 
          go_wp2_with fail
          go_ret
          exact ⟨rfl, HB3.out⟩
        · have i2 : ¬ (200 : Int) < (P.size : Int) + (Q.size : Int) := by omega
          obtain ⟨PQ, hPQ⟩ : ∃ A, P ++ Q = A := ⟨_, rfl⟩
          have a1 := add_run (A := P) (B := Q) (C := PQ) (by omega) hPQ
          have t1 : txt PQ = txt P ++ txt Q := by rw [← hPQ, txt_append]
          have z1 : PQ.size = P.size + Q.size := by rw [← hPQ, ByteArray.size_append]
          have m1 : matchR (txt PQ) (txt S) = .tuple #[.bool (matchP (l ++ m) (txt S)), .int .i64 0] := match_mk (by rw [txt_length]; omega) (by rw [t1]; exact pieces_app _ _ _ l m (Nat.le_refl _) hl hm)
          have H1 : Hid (∀ V, Calls Try.prog 9 #[.string PQ, .string S] V fun e w' => e = .returned (.tuple #[.bool (matchP (l ++ m) (txt S)), .int .i64 0]) ∧ Below V.heap.size V w') := fun V => by rw [← m1]; exact gmatch_any PQ S V (by omega) (by omega)
          have H2 : Hid (∀ (A : ByteArray) V, A.size ≤ 60 → Calls Try.prog 9 #[.string P, .string A] V fun e w' => e = .returned (.tuple #[.bool (matchP l (txt A)), .int .i64 0]) ∧ Below V.heap.size V w') := fun A V hA => by
            rw [← match_mk (p := txt P) (by rw [txt_length]; exact hpl) hl]
            exact gmatch_any P A V (by omega) (by omega)
          have H3 : Hid (∀ (A : ByteArray) V, A.size ≤ 60 → Calls Try.prog 9 #[.string Q, .string A] V fun e w' => e = .returned (.tuple #[.bool (matchP m (txt A)), .int .i64 0]) ∧ Below V.heap.size V w') := fun A V hA => by
            rw [← match_mk (p := txt Q) (by rw [txt_length]; exact hql) hm]
            exact gmatch_any Q A V (by omega) (by omega)
          have HALL : Hid (anyN l m (txt S) (S.size + 1) = matchP (l ++ m) (txt S)) := by unfold Hid; rw [← txt_length, any_all]
          generalize matchP (l ++ m) (txt S) = r at *
          have hS60 : S.size ≤ 60 := by omega
          clear hs ht h1 h2 hl hm hPQ t1 z1 m1
          go_enter Try.func7, Try.ntmps7
          go_wp2_with fail
          refine Calls.mono HP.out ?_
          rintro _ w1 ⟨rfl, hb⟩
          have HB1 : Hid (Below W.heap.size W w1) := hb
          clear hb HP
          go_wp2_with fail
          refine Calls.mono (HQ.out _) ?_
          rintro _ w2 ⟨rfl, hb⟩
          have HB2 : Hid (Below W.heap.size W w2) := HB1.out.trans (hb.mono HB1.out.size)
          clear hb HQ HB1
          go_wp2_with fail
          refine Calls.mono (H1.out _) ?_
          rintro _ w3 ⟨rfl, hb⟩
          have HB3 : Hid (Below W.heap.size W w3) := HB2.out.trans (hb.mono HB2.out.size)
          clear hb H1 HB2
          go_wp2_with fail
          go_loopw [9, 10] (fun sv ix wr => ∃ (wz : World) (i : Nat) (b : Bool), wz = wr ∧ sv = .bool b ∧ ix = .int .i64 i ∧ i ≤ S.size + 1 ∧ b = anyN l m (txt S) i ∧ Below W.heap.size W wz) (fun _ ix _ => S.size + 1 - (intOf ix).toNat)
          case atStart => exact ⟨_, 0, false, rfl, rfl, rfl, Nat.zero_le _, rfl, HB3.out⟩
          case round =>
            clear HB3
            obtain ⟨wr, i, b, hwr, rfl, rfl, hi, hb, hbe⟩ := hrel
            subst hwr
            have HB0 : Hid (Below W.heap.size W wr) := hbe
            have HBV : Hid (b = anyN l m (txt S) i) := hb
            clear hbe hb
            by_cases hle : i ≤ S.size
            · have hii : (i : Int) ≤ (S.size : Int) := by omega
              obtain ⟨X, hX⟩ : ∃ X, X = S.extract 0 i := ⟨_, rfl⟩
              obtain ⟨Y, hY⟩ : ∃ Y, Y = S.extract i S.size := ⟨_, rfl⟩
              have s1 : ∀ V, (Instr.slice 9 (.string S) none (some (.int .i64 (i : Nat))) none).run Try.prog V = .ok (.string X) V := fun V => by rw [hX]; exact str_to S i .i64 hle V
              have s2 : ∀ V, (Instr.slice 9 (.string S) (some (.int .i64 (i : Nat))) none none).run Try.prog V = .ok (.string Y) V := fun V => by rw [hY]; exact str_from S i .i64 hle V
              have tX : txt X = (txt S).take i := by rw [hX, txt_extract, List.drop_zero]
              have tY : txt Y = (txt S).drop i := by rw [hY, txt_extract, ← txt_length, List.take_length]
              have HX : Hid (∀ V, Calls Try.prog 9 #[.string P, .string X] V fun e w' => e = .returned (.tuple #[.bool (matchP l ((txt S).take i)), .int .i64 0]) ∧ Below V.heap.size V w') := fun V => by
                rw [← tX]
                refine H2.out X V ?_
                rw [← txt_length, tX, List.length_take, txt_length]
                omega
              have HY : Hid (∀ V, Calls Try.prog 9 #[.string Q, .string Y] V fun e w' => e = .returned (.tuple #[.bool (matchP m ((txt S).drop i)), .int .i64 0]) ∧ Below V.heap.size V w') := fun V => by
                rw [← tY]
                refine H3.out Y V ?_
                rw [← txt_length, tY, List.length_drop, txt_length]
                omega
              have HNX : Hid (anyN l m (txt S) (i + 1) = (b || (matchP l ((txt S).take i) && matchP m ((txt S).drop i)))) := by unfold Hid; rw [anyN, HBV.out]
              generalize matchP l ((txt S).take i) = x at *
              generalize matchP m ((txt S).drop i) = y at *
              clear hX hY tX tY HBV
              go_wp2_with fail
              refine Calls.mono (HX.out _) ?_
              rintro _ w4 ⟨rfl, hb⟩
              have HB4 : Hid (Below W.heap.size W w4) := HB0.out.trans (hb.mono HB0.out.size)
              clear hb HX HB0
              go_wp2_with fail
              refine Calls.mono (HY.out _) ?_
              rintro _ w5 ⟨rfl, hb⟩
              have HB5 : Hid (Below W.heap.size W w5) := HB4.out.trans (hb.mono HB4.out.size)
              clear hb HY HB4
              cases b with
              | true =>
                go_wp2_with fail
                go_roundw
                case rel => exact ⟨w5, i + 1, true, rfl, rfl, by go_num, by omega, by rw [HNX.out]; rfl, HB5.out⟩
                case measure => simp [intOf]; omega
              | false =>
                cases x with
                | true =>
                  go_wp2_with fail
                  go_roundw
                  case rel => exact ⟨w5, i + 1, y, rfl, rfl, by go_num, by omega, by rw [HNX.out]; rfl, HB5.out⟩
                  case measure => simp [intOf]; omega
                | false =>
                  go_wp2_with fail
                  go_roundw
                  case rel => exact ⟨w5, i + 1, false, rfl, rfl, by go_num, by omega, by rw [HNX.out]; rfl, HB5.out⟩
                  case measure => simp [intOf]; omega
            · have hii : ¬ (i : Int) ≤ (S.size : Int) := by omega
              have hbr : b = r := by rw [HBV.out, show i = S.size + 1 by omega, HALL.out]
              subst hbr
              have hbb : (b == b) = true := by cases b <;> rfl
              clear HBV HALL
              go_wp2_with fail
              refine Calls.mono (HA.out _) ?_
              rintro _ w4 ⟨rfl, hb⟩
              have HB4 : Hid (Below W.heap.size W w4) := HB0.out.trans (hb.mono HB0.out.size)
              clear hb HA HB0
              go_wp2_with fail
              go_ret
              exact ⟨rfl, HB4.out⟩
theorem contract (H : Type) (enc : TypeId × Value → H) (W : World) (base : Nat) (args : Array Value) (ds gs : List (DataW H)) (before : List MemPlace)
    (hval : ∀ (j : Nat) t v, Try.f7.params[j]? = some t → args[j]? = some v → Value.okWide Try.prog W .any base t v)
    (hW : DataW.Whole enc Try.prog Try.f7.params.toList Rows.globPartsSpec.vars false W args.toList ds gs before)
    (hsz : (DataW.weightsEach Try.prog (Try.f7.params.toList ++ Rows.globPartsSpec.plain.varTypes Try.prog) (ds ++ gs)).all (· ≤ reachBytes) = true) :
    Calls Try.prog 7 args W fun e W' => ∃ v, e = .returned v ∧ Rows.globPartsSpec.post enc Try.prog Try.f7 false true false false W args v W' := by
  have hW' := hW
  obtain ⟨p, q, hA0, hV, rfl, hfz, hnd⟩ := hW
  have hA : DataW.TrodAll enc Try.prog W 0 (fun _ => true) true Try.f7.params.toList args.toList ds p := hA0
  rw [Try.params7] at hA hval hsz
  obtain ⟨v0, vs0, d0, ds0, p0, q0, hargs, rfl, rfl, h0, r0⟩ := trodAll_cons hA
  obtain ⟨v1, vs1, d1, ds1, p1, q1, rfl, rfl, rfl, h1, r1⟩ := trodAll_cons r0
  obtain ⟨v2, vs2, d2, ds2, p2, q2, rfl, rfl, rfl, h2, r2⟩ := trodAll_cons r1
  obtain ⟨rfl, rfl, rfl⟩ := trodAll_nil r2
  obtain rfl : args = #[v0, v1, v2] := by cases args; simp_all
  obtain ⟨rfl, rfl⟩ := trodVars_none hV
  obtain ⟨a0, rfl, rfl, rfl, m0⟩ := open_string Try.underlying9 (hval 0 9 v0 rfl rfl) h0
  have w0 : a0.size ≤ 140737488351232 := by
    have := sized_string hsz (j := 0) (t := 9) rfl rfl
    rw [bytes_len] at this
    exact this
  obtain ⟨a1, rfl, rfl, rfl, m1⟩ := open_string Try.underlying9 (hval 1 9 v1 rfl rfl) h1
  have w1 : a1.size ≤ 140737488351232 := by
    have := sized_string hsz (j := 1) (t := 9) rfl rfl
    rw [bytes_len] at this
    exact this
  obtain ⟨a2, rfl, rfl, rfl, m2⟩ := open_string Try.underlying9 (hval 2 9 v2 rfl rfl) h2
  have w2 : a2.size ≤ 140737488351232 := by
    have := sized_string hsz (j := 2) (t := 9) rfl rfl
    rw [bytes_len] at this
    exact this
  clear hA0 hsz
  refine (walk W a0 w0 a1 w1 a2 w2).mono fun e W' ⟨he, bel⟩ => ?_
  subst he
  exact ⟨_, rfl, _, _, _, [], _, [], hW', trodAll_mk1 (shut_bool Try.underlying4 _), (trodAll_cons_mk (shut_string Try.underlying9 m0) (trodAll_cons_mk (shut_string Try.underlying9 m1) (trodAll_cons_mk (shut_string Try.underlying9 m2) trodAll_mk0))), rfl, bel.frame _, fun h => by cases h⟩
set_option maxRecDepth 100000 in
theorem lifted (os : Os) (started : os.Started) (H : Type) (enc : TypeId × Value → H) :
    ReturnsInHanded {} Try.checked os 7 .any (Rows.globPartsSpec.pre6 enc Try.prog Try.f7 Rows.globPartsRow.domain false) (Rows.globPartsSpec.post enc Try.prog Try.f7 false true false false) := by
  refine returnsInHanded_of_change_sized (C := Try.checked) own started (by kernel_rfl) Try.func7
    (ChangeSpec.witness6 (enc := enc) (C := Try.checked) false ⟨#[], #[.string ByteArray.empty, .string ByteArray.empty, .string ByteArray.empty], []⟩ 8 (by kernel_rfl) (by kernel_rfl) (by kernel_rfl) (by kernel_rfl)) ?_
  intro W base args ds gs before hval hW _ hsz _
  exact contract H enc W base args ds gs before hval hW hsz
theorem over : Rows.globPartsRow.holds Try.pinned (OpenSpec.ofChange Rows.globPartsSpec) :=
  OpenClaim.holds_of_wide 7 Try.f7 rfl rfl rfl rfl rfl rfl rfl ⟨rfl, rfl, rfl, rfl, rfl⟩ rfl rfl rfl rfl rfl (by kernel_rfl) Try.func7 (by kernel_rfl)
    (of_decide_eq_true (by kernel_rfl)) (by unfold Func.isWrapper; first | (rw [if_pos (by decide +kernel)]; kernel_rfl) | (rw [if_neg (by decide +kernel)]; exact ⟨rfl, rfl⟩))
    (fun os started H enc _ => lifted os started H enc)
theorem proved : Rows.GlobPartsSaid := over
end Go.Proofs.Ytehieeahiicnhaa.globParts
