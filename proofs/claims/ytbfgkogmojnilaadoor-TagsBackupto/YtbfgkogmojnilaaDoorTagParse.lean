/-
  The document's Parse.
-/
import Derived.Test.YtbfgkogmojnilaaDoorTagText
namespace Go.Proofs.YtbfgkogmojnilaaDoor
open Go.ChangeShapes Go.WideShapes Go.ChangeAt Go.RowKit
set_option linter.unusedVariables false
set_option linter.unusedSimpArgs false
/-- The last =, and how many there are. -/
def eqsN : List Nat → Nat → Nat → Nat → Nat × Nat
  | [], _, p, c => (p, c)
  | x :: l, k, p, c => if x = 61 then eqsN l (k + 1) k (c + 1) else eqsN l (k + 1) p c
theorem eqs_ge : ∀ (l : List Nat) (k p c : Nat), c ≤ (eqsN l k p c).2
  | [], k, p, c => Nat.le_refl _
  | x :: l, k, p, c => by
    rw [eqsN]
    split
    · have := eqs_ge l (k + 1) k (c + 1); omega
    · exact eqs_ge l (k + 1) p c
theorem eqs_same : ∀ (l : List Nat) (k p c : Nat), (eqsN l k p c).2 = c → (eqsN l k p c).1 = p
  | [], k, p, c, _ => rfl
  | x :: l, k, p, c, h => by
    rw [eqsN] at h ⊢
    split at h
    · have := eqs_ge l (k + 1) k (c + 1); omega
    · rename_i hx
      rw [if_neg hx]
      exact eqs_same l (k + 1) p c h
theorem eqs_at : ∀ (l : List Nat) (k p c : Nat), (eqsN l k p c).2 ≠ c → k ≤ (eqsN l k p c).1 ∧ (eqsN l k p c).1 < k + l.length
  | [], k, p, c, h => absurd rfl h
  | x :: l, k, p, c, h => by
    rw [eqsN] at h ⊢
    by_cases hx : x = 61
    · rw [if_pos hx] at h ⊢
      by_cases h2 : (eqsN l (k + 1) k (c + 1)).2 = c + 1
      · have e := eqs_same l (k + 1) k (c + 1) h2
        rw [e]
        simp
      · obtain ⟨a, b⟩ := eqs_at l (k + 1) k (c + 1) h2
        simp
        omega
    · rw [if_neg hx] at h ⊢
      obtain ⟨a, b⟩ := eqs_at l (k + 1) p c h
      simp
      omega
/-- The tag that a part is. -/
def pairO (part : List Nat) : Option (ByteArray × ByteArray) :=
  if (eqsN part 0 0 0).2 = 1 then match unescN (part.take (eqsN part 0 0 0).1), unescN (part.drop ((eqsN part 0 0 0).1 + 1)) with
    | some a, some b => some (strN a, strN b)
    | _, _ => none
  else none
def parseF : List Nat → List Nat → List (ByteArray × ByteArray) → Option (List (ByteArray × ByteArray))
  | [], cur, out => (pairO cur).map fun p => out ++ [p]
  | c :: l, cur, out => if c = 38 then (match pairO cur with | none => none | some p => parseF l [] (out ++ [p])) else parseF l (cur ++ [c]) out
def parseB (s : List Nat) : Except Nat (List (ByteArray × ByteArray)) := if s = [] then .ok [] else match parseF s [] [] with
  | none => .error 5
  | some out => if soundB out then .ok out else .error 2
theorem pair_count {part : List Nat} (h : (eqsN part 0 0 0).2 ≠ 1) : pairO part = none := by unfold pairO; rw [if_neg h]
theorem pair_left {part : List Nat} (h : (eqsN part 0 0 0).2 = 1) (h1 : unescN (part.take (eqsN part 0 0 0).1) = none) : pairO part = none := by unfold pairO; rw [if_pos h, h1]
theorem pair_right {part a : List Nat} (h : (eqsN part 0 0 0).2 = 1) (h1 : unescN (part.take (eqsN part 0 0 0).1) = some a) (h2 : unescN (part.drop ((eqsN part 0 0 0).1 + 1)) = none) : pairO part = none := by unfold pairO; rw [if_pos h, h1, h2]
theorem pair_some {part a b : List Nat} (h : (eqsN part 0 0 0).2 = 1) (h1 : unescN (part.take (eqsN part 0 0 0).1) = some a) (h2 : unescN (part.drop ((eqsN part 0 0 0).1 + 1)) = some b) : pairO part = some (strN a, strN b) := by unfold pairO; rw [if_pos h, h1, h2]
theorem str_between (s : ByteArray) (j k : Nat) (h1 : j ≤ k) (h2 : k ≤ s.size) (W : World) : (Instr.slice 9 (.string s) (some (.int .i64 (j : Nat))) (some (.int .i64 (k : Nat))) none).run Tryd.prog W = .ok (.string (s.extract j k)) W := by
  rw [run_slice_string W _ s .i64 .i64 (j : Nat) (k : Nat) Tryd.underlying9 (by omega) (by omega) (by omega), Int.toNat_natCast, Int.toNat_natCast]
theorem uns_len {s l : List Nat} (h : unescN s = some l) : l.length ≤ s.length := by
  obtain ⟨h1, -⟩ := esc_unesc s.length s l (Nat.le_refl _) h
  have : ∀ l : List Nat, l.length ≤ (escN l).length := by
    intro l
    induction l with
    | nil => simp
    | cons c l ih => rw [escN]; split <;> simp <;> omega
  have := this l
  rwa [h1] at this
theorem uns_form (o : Option (List Nat)) : ∃ (Y : ByteArray) (Z : Int), unsR o = .tuple #[.string Y, .int .i64 Z] := by
  cases o with
  | none => exact ⟨_, _, rfl⟩
  | some l => exact ⟨_, _, rfl⟩
theorem own_below {w w' : World} {base : Nat} {v : Value} {ts : List (ByteArray × ByteArray)} (h : OwnT w base v ts) (hb : Below w.heap.size w w') : OwnT w' base v ts := by
  obtain ⟨h1, h2 | ⟨g, cap, cur, rfl, hg, hbk, hn, hmm, hs, ht⟩⟩ := h
  · exact ⟨h1, .inl h2⟩
  · exact ⟨h1, .inr ⟨g, cap, cur, rfl, hg, (hb.block g (Array.getElem?_eq_some_iff.1 hbk).1).trans hbk, hn, hmm, hs, ht⟩⟩
theorem extract_txt (S : ByteArray) (j k : Nat) : txt (S.extract j k) = ((txt S).take k).drop j := txt_extract S j k
set_option maxRecDepth 100000 in
set_option maxHeartbeats 16000000 in
theorem rparse_any (S : ByteArray) (w : World) (hs : S.size ≤ 1099511627776) :
    Calls Tryd.prog 16 #[.string S] w fun e w' => TagsR (parseB (txt S)) e w' ∧ Below w.heap.size w w' := by
  have HTL : Hid ((txt S).length = S.size) := txt_length S
  have hemp := empty_txt S
  by_cases hE : txt S = []
  · have HR : Hid (parseB (txt S) = .ok []) := by unfold Hid parseB; rw [if_pos hE]
    rw [decide_eq_true hE] at hemp
    have hemp2 := (empty_iff S).2 hE
    clear hE
    go_enter Tryd.func16, Tryd.ntmps16
    go_wp2_with fail
    go_ret2
    refine ⟨?_, below_new w _⟩
    rw [HR.out]
    exact ⟨_, _, rfl, .inl rfl, Nat.le_refl _⟩
  · rw [decide_eq_false hE] at hemp
    have hemp2 : ¬ S.toList = [] := fun e => hE ((empty_iff S).1 e)
    have HPB : Hid (parseB (txt S) = match parseF (txt S) [] [] with | none => .error 5 | some out => if soundB out then .ok out else .error 2) := by unfold Hid parseB; rw [if_neg hE]
    clear hE
    go_enter Tryd.func16, Tryd.ntmps16
    go_wp2_with fail
    go_loopw [4, 5, 6] (fun ov fx ix wr => ∃ (wz : World) (i f : Nat) (v0 : Value) (out : List (ByteArray × ByteArray)), wz = wr ∧ ov = v0 ∧ fx = .int .i64 f ∧ ix = .int .i64 i ∧ i ≤ S.size + 1 ∧ f ≤ i ∧ out.length ≤ i ∧ OwnT wz w.heap.size v0 out ∧ (∀ u ∈ out, u.1.size ≤ 9223372036854775807 ∧ u.2.size ≤ 9223372036854775807) ∧ (i ≤ S.size → parseF (txt S) [] [] = parseF ((txt S).drop i) (((txt S).take i).drop f) out) ∧ (S.size < i → parseF (txt S) [] [] = some out) ∧ Below w.heap.size w wz) (fun _ _ ix _ => S.size + 1 - (intOf ix).toNat)
    case atStart => exact ⟨_, 0, 0, _, [], rfl, rfl, rfl, rfl, Nat.zero_le _, Nat.le_refl _, Nat.le_refl _, OwnT.empty w w.heap.size (Nat.le_refl _), (fun u hu => by cases hu), (fun _ => rfl), (fun h => by omega), below_new w _⟩
    case round =>
      obtain ⟨wr, i, f, ov, out, hwr, hov, rfl, rfl, hi, hfi, hol, hown, hsm, hp1, hp2, hbe⟩ := hrel
      subst hwr
      replace hov := hov.symm
      subst hov
      have HO : Hid (OwnT wr w.heap.size ov out) := hown
      have HSM : Hid (∀ u ∈ out, u.1.size ≤ 9223372036854775807 ∧ u.2.size ≤ 9223372036854775807) := hsm
      have HP1 : Hid (i ≤ S.size → parseF (txt S) [] [] = parseF ((txt S).drop i) (((txt S).take i).drop f) out) := hp1
      have HP2 : Hid (S.size < i → parseF (txt S) [] [] = some out) := hp2
      have HBE : Hid (Below w.heap.size w wr) := hbe
      have HOL : Hid (out.length ≤ i) := hol
      have hsz := hbe.size
      clear hown hsm hp1 hp2 hbe hol
      by_cases hle : i ≤ S.size
      · have hlei : (i : Int) ≤ (S.size : Int) := by omega
        have HPF : Hid (parseF (txt S) [] [] = parseF ((txt S).drop i) (((txt S).take i).drop f) out) := HP1.out hle
        clear HP1 HP2
        by_cases hgo : ∃ h : i < S.size, (S[i]'h).toNat ≠ 38
        · obtain ⟨hlt, hne⟩ := hgo
          have hii : (i : Int) < (S.size : Int) := by omega
          have HG : Hid ((S[i]'hlt).toNat = (txt S).getD i 0) := get_txt S i hlt
          have HDC : Hid ((txt S).drop i = (txt S).getD i 0 :: (txt S).drop (i + 1)) := drop_cons _ _ (by rw [HTL.out]; exact hlt)
          have HTS : Hid ((txt S).take (i + 1) = (txt S).take i ++ [(txt S).getD i 0]) := take_snoc (txt S) i (by rw [HTL.out]; exact hlt)
          obtain ⟨x, hx⟩ : ∃ x, x = (txt S).getD i 0 := ⟨_, rfl⟩
          rw [← hx] at HG HDC HTS
          have hxs : ((S[i]'hlt).toNat : Int) = (x : Int) := by rw [HG.out]
          have hx38 : x ≠ 38 := by rw [← HG.out]; exact hne
          have hxi : ((x : Int) != 38) = true := by rw [bne_iff_ne]; omega
          have HN1 : Hid (i + 1 ≤ S.size → parseF (txt S) [] [] = parseF ((txt S).drop (i + 1)) (((txt S).take (i + 1)).drop f) out) := fun _ => by
            rw [HPF.out, HDC.out, parseF, if_neg hx38, HTS.out]
            congr 1
            rw [List.drop_append_of_le_length (by rw [List.length_take, HTL.out]; omega)]
          clear hx hx38 hne HPF HDC HTS
          go_wp2_with fail
          go_roundw
          case rel => exact ⟨wr, i + 1, f, ov, out, rfl, rfl, rfl, by go_num, by omega, by omega, by have := HOL.out; omega, HO.out, HSM.out, HN1.out, (fun h => by omega), HBE.out⟩
          case measure => simp [intOf]; omega
        · by_cases hend : i = S.size
          · clear hgo
            have hii : ¬ (i : Int) < (S.size : Int) := by omega
            obtain ⟨X, hX⟩ : ∃ X, X = S.extract f i := ⟨_, rfl⟩
            have hsl : ∀ W, (Instr.slice 9 (.string S) (some (.int .i64 (f : Nat))) (some (.int .i64 (i : Nat))) none).run Tryd.prog W = .ok (.string X) W := fun W => by rw [hX]; exact str_between S f i hfi hle W
            have tX : txt X = ((txt S).take i).drop f := by rw [hX, txt_extract]
            have hXs : X.size ≤ S.size := by rw [← txt_length, tX, List.length_drop, List.length_take, HTL.out]; omega
            rw [← tX] at HPF
            have HN : Hid (pairO (txt X) = none → parseB (txt S) = .error 5) := fun h => by rw [HPB.out, HPF.out, show i = (txt S).length by rw [HTL.out]; omega, List.drop_length, parseF, h]; rfl
            have HY : Hid (∀ q, pairO (txt X) = some q → (i + 1 ≤ S.size → parseF (txt S) [] [] = parseF ((txt S).drop (i + 1)) (((txt S).take (i + 1)).drop (i + 1)) (out ++ [q])) ∧ (S.size < i + 1 → parseF (txt S) [] [] = some (out ++ [q]))) := fun q h => by
              have e : parseF (txt S) [] [] = some (out ++ [q]) := by rw [HPF.out, show i = (txt S).length by rw [HTL.out]; omega, List.drop_length, parseF, h]; rfl
              exact ⟨fun h2 => by omega, fun _ => e⟩
            clear hX tX HPF HPB
            clear hend
            go_wp2_with fail
            go_loop [8, 9, 10] (fun pv cv kx => ∃ k p c : Nat, pv = .int .i64 p ∧ cv = .int .i64 c ∧ kx = .int .i64 k ∧ k ≤ X.size ∧ c ≤ k ∧ p ≤ k ∧ eqsN (txt X) 0 0 0 = eqsN ((txt X).drop k) k p c) (fun _ _ kx => X.size - (intOf kx).toNat)
            case atStart => exact ⟨0, 0, 0, rfl, rfl, rfl, Nat.zero_le _, Nat.le_refl _, Nat.le_refl _, rfl⟩
            case round =>
              obtain ⟨k, p, c, rfl, rfl, rfl, hk, hck, hpk, hq⟩ := hrel
              have HQ : Hid (eqsN (txt X) 0 0 0 = eqsN ((txt X).drop k) k p c) := hq
              clear hq
              by_cases hkl : k < X.size
              · have hki : (k : Int) < (X.size : Int) := by omega
                have HG : Hid ((X[k]'hkl).toNat = (txt X).getD k 0) := get_txt X k hkl
                have HDC : Hid ((txt X).drop k = (txt X).getD k 0 :: (txt X).drop (k + 1)) := drop_cons _ _ (by rw [txt_length]; exact hkl)
                obtain ⟨y, hy⟩ : ∃ y, y = (txt X).getD k 0 := ⟨_, rfl⟩
                rw [← hy] at HG HDC
                have hys : ((X[k]'hkl).toNat : Int) = (y : Int) := by rw [HG.out]
                clear hy
                by_cases h61 : y = 61
                · have hyi : ((y : Int) == 61) = true := by rw [h61]; rfl
                  have HQ2 : Hid (eqsN (txt X) 0 0 0 = eqsN ((txt X).drop (k + 1)) (k + 1) k (c + 1)) := by unfold Hid; rw [HQ.out, HDC.out, eqsN, if_pos h61]
                  clear h61 HQ HDC
                  go_wp2_with fail
                  go_round
                  case rel => exact ⟨k + 1, k, c + 1, rfl, by go_num, by go_num, by omega, by omega, by omega, HQ2.out⟩
                  case measure => simp [intOf]; omega
                · have hyi : ((y : Int) == 61) = false := by rw [beq_eq_false_iff_ne]; omega
                  have HQ2 : Hid (eqsN (txt X) 0 0 0 = eqsN ((txt X).drop (k + 1)) (k + 1) p c) := by unfold Hid; rw [HQ.out, HDC.out, eqsN, if_neg h61]
                  clear h61 HQ HDC
                  go_wp2_with fail
                  go_round
                  case rel => exact ⟨k + 1, p, c, rfl, rfl, by go_num, by omega, by omega, by omega, HQ2.out⟩
                  case measure => simp [intOf]; omega
              · have hki : ¬ (k : Int) < (X.size : Int) := by omega
                have hE : eqsN (txt X) 0 0 0 = (p, c) := by rw [HQ.out, show k = (txt X).length by rw [txt_length]; omega, List.drop_length, eqsN]
                clear HQ
                by_cases hc1 : c = 1
                · have hci : ((c : Int) != 1) = false := by rw [hc1]; rfl
                  have hpx : p < X.size := by
                    have h := (eqs_at (txt X) 0 0 0 (by rw [hE]; simp; omega)).2
                    rw [hE, txt_length] at h
                    simpa using h
                  have hE2 : (eqsN (txt X) 0 0 0).2 = 1 := by rw [hE]; exact hc1
                  have hE1 : (eqsN (txt X) 0 0 0).1 = p := by rw [hE]
                  obtain ⟨A1, hA1⟩ : ∃ A, A = X.extract 0 p := ⟨_, rfl⟩
                  obtain ⟨A2, hA2⟩ : ∃ A, A = X.extract (p + 1) X.size := ⟨_, rfl⟩
                  have s1 : ∀ W, (Instr.slice 9 (.string X) none (some (.int .i64 (p : Nat))) none).run Tryd.prog W = .ok (.string A1) W := fun W => by rw [hA1]; exact str_to X p .i64 (by omega) W
                  have s2 : ∀ W, (Instr.slice 9 (.string X) (some (.int .i64 ((p : Int) + 1))) none none).run Tryd.prog W = .ok (.string A2) W := fun W => by rw [hA2]; exact str_from X (p + 1) .i64 (by omega) W
                  have t1 : txt A1 = (txt X).take p := by rw [hA1, txt_extract, List.drop_zero]
                  have t2 : txt A2 = (txt X).drop (p + 1) := by rw [hA2, txt_extract, ← txt_length, List.take_length]
                  have l1 : A1.size ≤ X.size := by rw [← txt_length, t1, List.length_take, txt_length]; omega
                  have l2 : A2.size ≤ X.size := by rw [← txt_length, t2, List.length_drop, txt_length]; omega
                  have HU1 : Hid _ := runesc_any A1 wr (by omega)
                  have HU2 : Hid (∀ V, Calls Tryd.prog 31 #[.string A2] V fun e w' => e = .returned (unsR (unescN (txt A2))) ∧ Below V.heap.size V w') := fun V => runesc_any A2 V (by omega)
                  rw [t1] at HU1
                  rw [t2] at HU2
                  clear hA1 hA2 t1 t2 hE
                  cases o1 : unescN ((txt X).take p) with
                  | none =>
                    have HR5 : Hid (parseB (txt S) = .error 5) := HN.out (pair_left hE2 (by rw [hE1]; exact o1))
                    rw [o1, show unsR none = .tuple #[.string (strN []), .int .i64 5] from rfl] at HU1
                    obtain ⟨Y, Z, hYZ⟩ := uns_form (unescN ((txt X).drop (p + 1)))
                    rw [hYZ] at HU2
                    clear o1 hE1 hE2 hYZ HN HY
                    go_wp2_with fail
                    refine Calls.mono HU1.out ?_
                    rintro _ w4 ⟨rfl, hb⟩
                    have HB4 : Hid (Below w.heap.size w w4) := HBE.out.trans (hb.mono HBE.out.size)
                    clear hb HU1
                    go_wp2_with fail
                    refine Calls.mono (HU2.out _) ?_
                    rintro _ w5 ⟨rfl, hb⟩
                    have HB5 : Hid (Below w.heap.size w w5) := HB4.out.trans (hb.mono HB4.out.size)
                    clear hb HU2
                    go_wp2_with fail
                    go_ret2
                    exact ⟨by rw [HR5.out]; exact rfl, HB5.out⟩
                  | some la =>
                    rw [o1, show unsR (some la) = .tuple #[.string (strN la), .int .i64 0] from rfl] at HU1
                    cases o2 : unescN ((txt X).drop (p + 1)) with
                    | none =>
                      have HR5 : Hid (parseB (txt S) = .error 5) := HN.out (pair_right hE2 (by rw [hE1]; exact o1) (by rw [hE1]; exact o2))
                      rw [o2, show unsR none = .tuple #[.string (strN []), .int .i64 5] from rfl] at HU2
                      clear o1 o2 hE1 hE2 HN HY
                      go_wp2_with fail
                      refine Calls.mono HU1.out ?_
                      rintro _ w4 ⟨rfl, hb⟩
                      have HB4 : Hid (Below w.heap.size w w4) := HBE.out.trans (hb.mono HBE.out.size)
                      clear hb HU1
                      go_wp2_with fail
                      refine Calls.mono (HU2.out _) ?_
                      rintro _ w5 ⟨rfl, hb⟩
                      have HB5 : Hid (Below w.heap.size w w5) := HB4.out.trans (hb.mono HB4.out.size)
                      clear hb HU2
                      go_wp2_with fail
                      go_ret2
                      exact ⟨by rw [HR5.out]; exact rfl, HB5.out⟩
                    | some lb =>
                      rw [o2, show unsR (some lb) = .tuple #[.string (strN lb), .int .i64 0] from rfl] at HU2
                      have HYY := HY.out _ (pair_some hE2 (by rw [hE1]; exact o1) (by rw [hE1]; exact o2))
                      have la1 := uns_len o1
                      have lb1 := uns_len o2
                      rw [List.length_take, txt_length] at la1
                      rw [List.length_drop, txt_length] at lb1
                      obtain ⟨NA, hNA⟩ : ∃ A, A = strN la := ⟨_, rfl⟩
                      obtain ⟨NB, hNB⟩ : ∃ A, A = strN lb := ⟨_, rfl⟩
                      rw [← hNA] at HU1
                      rw [← hNB] at HU2
                      rw [← hNA, ← hNB] at HYY
                      have HNA : Hid (NA.size ≤ 9223372036854775807 ∧ NB.size ≤ 9223372036854775807) := by unfold Hid; rw [hNA, hNB, strN_size, strN_size]; omega
                      have HY1 : Hid _ := HYY
                      clear o1 o2 hE1 hE2 HN HY HYY la1 lb1 hNA hNB
                      go_wp2_with fail
                      refine Calls.mono HU1.out ?_
                      rintro _ w4 ⟨rfl, hb⟩
                      have HB4 : Hid (Below w.heap.size w w4) := HBE.out.trans (hb.mono HBE.out.size)
                      have HO4 : Hid (OwnT w4 w.heap.size ov out) := own_below HO.out hb
                      clear hb HU1
                      go_wp2_with fail
                      refine Calls.mono (HU2.out _) ?_
                      rintro _ w5 ⟨rfl, hb⟩
                      have HB5 : Hid (Below w.heap.size w w5) := HB4.out.trans (hb.mono HB4.out.size)
                      have HO5 : Hid (OwnT w5 w.heap.size ov out) := own_below HO4.out hb
                      clear hb HU2 HO4 HB4
                      have hsz5 := HB5.out.size
                      have HT : Hid (RowT (w5.alloc (.cells #[.string NA, .string NB] 40)) (some ⟨w5.heap.size, 0, none⟩) [(NA, NB)]) := rowT_new w5 (NA, NB)
                      have HO6 : Hid (OwnT (w5.alloc (.cells #[.string NA, .string NB] 40)) w.heap.size ov out) := HO5.out.alloc _
                      have HB6 : Hid (Below w.heap.size w (w5.alloc (.cells #[.string NA, .string NB] 40))) := HB5.out.alloc hsz5 _
                      go_wp2_with (at_builtin; (refine appendT (w5.alloc (.cells #[.string NA, .string NB] 40)) rfl _ _ rfl w.heap.size ov out [(NA, NB)] rfl HO6.out (some ⟨w5.heap.size, 0, none⟩) 1 1 rfl HT.out rfl (fun h => by cases h) (by have := HOL.out; omega) (by simp; omega) ?_; intro v7 w7 hown7 hb7))
                      go_roundw
                      case rel =>
                        refine ⟨w7, i + 1, i + 1, v7, out ++ [(NA, NB)], rfl, rfl, by go_num, by go_num, by omega, Nat.le_refl _, ?_, hown7, ?_, HY1.out.1, HY1.out.2, HB6.out.trans hb7⟩
                        · rw [List.length_append]
                          have := HOL.out
                          simp
                          omega
                        · intro u hu
                          rcases List.mem_append.1 hu with hu | hu
                          · exact HSM.out u hu
                          · rw [List.mem_singleton] at hu
                            rw [hu]
                            exact HNA.out
                      case measure => simp [intOf]; omega
                · have hci : ((c : Int) != 1) = true := by rw [bne_iff_ne]; omega
                  have HR5 : Hid (parseB (txt S) = .error 5) := HN.out (pair_count (by rw [hE]; exact hc1))
                  clear hE hc1 HN HY
                  go_wp2_with fail
                  go_ret2
                  exact ⟨by rw [HR5.out]; exact rfl, HBE.out⟩
          · clear hemp
            have hlt : i < S.size := by omega
            have h38 : (S[i]'hlt).toNat = 38 := Classical.byContradiction fun h => hgo ⟨hlt, h⟩
            have hii : (i : Int) < (S.size : Int) := by omega
            have hx38 : ((S[i]'hlt).toNat : Int) = 38 := by rw [h38]; rfl
            have hxi : (((S[i]'hlt).toNat : Int) != 38) = false := by rw [hx38]; rfl
            have HDC : Hid ((txt S).drop i = 38 :: (txt S).drop (i + 1)) := by
              unfold Hid
              rw [drop_cons (txt S) i (by rw [HTL.out]; exact hlt), ← get_txt S i hlt, h38]
            obtain ⟨X, hX⟩ : ∃ X, X = S.extract f i := ⟨_, rfl⟩
            have hsl : ∀ W, (Instr.slice 9 (.string S) (some (.int .i64 (f : Nat))) (some (.int .i64 (i : Nat))) none).run Tryd.prog W = .ok (.string X) W := fun W => by rw [hX]; exact str_between S f i hfi hle W
            have tX : txt X = ((txt S).take i).drop f := by rw [hX, txt_extract]
            have hXs : X.size ≤ S.size := by rw [← txt_length, tX, List.length_drop, List.length_take, HTL.out]; omega
            rw [← tX] at HPF
            have HN : Hid (pairO (txt X) = none → parseB (txt S) = .error 5) := fun h => by rw [HPB.out, HPF.out, HDC.out, parseF, if_pos rfl, h]
            have HY : Hid (∀ q, pairO (txt X) = some q → (i + 1 ≤ S.size → parseF (txt S) [] [] = parseF ((txt S).drop (i + 1)) (((txt S).take (i + 1)).drop (i + 1)) (out ++ [q])) ∧ (S.size < i + 1 → parseF (txt S) [] [] = some (out ++ [q]))) := fun q h => by
              have e : parseF (txt S) [] [] = parseF ((txt S).drop (i + 1)) [] (out ++ [q]) := by rw [HPF.out, HDC.out, parseF, if_pos rfl, h]
              refine ⟨fun _ => ?_, fun h2 => by omega⟩
              have e2 : ((txt S).take (i + 1)).drop (i + 1) = [] := List.drop_eq_nil_of_le (by rw [List.length_take]; omega)
              rw [e, e2]
            clear hX tX HPF HPB HDC hgo h38 hx38
            go_wp2_with fail
            go_loop [8, 9, 10] (fun pv cv kx => ∃ k p c : Nat, pv = .int .i64 p ∧ cv = .int .i64 c ∧ kx = .int .i64 k ∧ k ≤ X.size ∧ c ≤ k ∧ p ≤ k ∧ eqsN (txt X) 0 0 0 = eqsN ((txt X).drop k) k p c) (fun _ _ kx => X.size - (intOf kx).toNat)
            case atStart => exact ⟨0, 0, 0, rfl, rfl, rfl, Nat.zero_le _, Nat.le_refl _, Nat.le_refl _, rfl⟩
            case round =>
              obtain ⟨k, p, c, rfl, rfl, rfl, hk, hck, hpk, hq⟩ := hrel
              have HQ : Hid (eqsN (txt X) 0 0 0 = eqsN ((txt X).drop k) k p c) := hq
              clear hq
              by_cases hkl : k < X.size
              · have hki : (k : Int) < (X.size : Int) := by omega
                have HG : Hid ((X[k]'hkl).toNat = (txt X).getD k 0) := get_txt X k hkl
                have HDC : Hid ((txt X).drop k = (txt X).getD k 0 :: (txt X).drop (k + 1)) := drop_cons _ _ (by rw [txt_length]; exact hkl)
                obtain ⟨y, hy⟩ : ∃ y, y = (txt X).getD k 0 := ⟨_, rfl⟩
                rw [← hy] at HG HDC
                have hys : ((X[k]'hkl).toNat : Int) = (y : Int) := by rw [HG.out]
                clear hy
                by_cases h61 : y = 61
                · have hyi : ((y : Int) == 61) = true := by rw [h61]; rfl
                  have HQ2 : Hid (eqsN (txt X) 0 0 0 = eqsN ((txt X).drop (k + 1)) (k + 1) k (c + 1)) := by unfold Hid; rw [HQ.out, HDC.out, eqsN, if_pos h61]
                  clear h61 HQ HDC
                  go_wp2_with fail
                  go_round
                  case rel => exact ⟨k + 1, k, c + 1, rfl, by go_num, by go_num, by omega, by omega, by omega, HQ2.out⟩
                  case measure => simp [intOf]; omega
                · have hyi : ((y : Int) == 61) = false := by rw [beq_eq_false_iff_ne]; omega
                  have HQ2 : Hid (eqsN (txt X) 0 0 0 = eqsN ((txt X).drop (k + 1)) (k + 1) p c) := by unfold Hid; rw [HQ.out, HDC.out, eqsN, if_neg h61]
                  clear h61 HQ HDC
                  go_wp2_with fail
                  go_round
                  case rel => exact ⟨k + 1, p, c, rfl, rfl, by go_num, by omega, by omega, by omega, HQ2.out⟩
                  case measure => simp [intOf]; omega
              · have hki : ¬ (k : Int) < (X.size : Int) := by omega
                have hE : eqsN (txt X) 0 0 0 = (p, c) := by rw [HQ.out, show k = (txt X).length by rw [txt_length]; omega, List.drop_length, eqsN]
                clear HQ
                by_cases hc1 : c = 1
                · have hci : ((c : Int) != 1) = false := by rw [hc1]; rfl
                  have hpx : p < X.size := by
                    have h := (eqs_at (txt X) 0 0 0 (by rw [hE]; simp; omega)).2
                    rw [hE, txt_length] at h
                    simpa using h
                  have hE2 : (eqsN (txt X) 0 0 0).2 = 1 := by rw [hE]; exact hc1
                  have hE1 : (eqsN (txt X) 0 0 0).1 = p := by rw [hE]
                  obtain ⟨A1, hA1⟩ : ∃ A, A = X.extract 0 p := ⟨_, rfl⟩
                  obtain ⟨A2, hA2⟩ : ∃ A, A = X.extract (p + 1) X.size := ⟨_, rfl⟩
                  have s1 : ∀ W, (Instr.slice 9 (.string X) none (some (.int .i64 (p : Nat))) none).run Tryd.prog W = .ok (.string A1) W := fun W => by rw [hA1]; exact str_to X p .i64 (by omega) W
                  have s2 : ∀ W, (Instr.slice 9 (.string X) (some (.int .i64 ((p : Int) + 1))) none none).run Tryd.prog W = .ok (.string A2) W := fun W => by rw [hA2]; exact str_from X (p + 1) .i64 (by omega) W
                  have t1 : txt A1 = (txt X).take p := by rw [hA1, txt_extract, List.drop_zero]
                  have t2 : txt A2 = (txt X).drop (p + 1) := by rw [hA2, txt_extract, ← txt_length, List.take_length]
                  have l1 : A1.size ≤ X.size := by rw [← txt_length, t1, List.length_take, txt_length]; omega
                  have l2 : A2.size ≤ X.size := by rw [← txt_length, t2, List.length_drop, txt_length]; omega
                  have HU1 : Hid _ := runesc_any A1 wr (by omega)
                  have HU2 : Hid (∀ V, Calls Tryd.prog 31 #[.string A2] V fun e w' => e = .returned (unsR (unescN (txt A2))) ∧ Below V.heap.size V w') := fun V => runesc_any A2 V (by omega)
                  rw [t1] at HU1
                  rw [t2] at HU2
                  clear hA1 hA2 t1 t2 hE
                  cases o1 : unescN ((txt X).take p) with
                  | none =>
                    have HR5 : Hid (parseB (txt S) = .error 5) := HN.out (pair_left hE2 (by rw [hE1]; exact o1))
                    rw [o1, show unsR none = .tuple #[.string (strN []), .int .i64 5] from rfl] at HU1
                    obtain ⟨Y, Z, hYZ⟩ := uns_form (unescN ((txt X).drop (p + 1)))
                    rw [hYZ] at HU2
                    clear o1 hE1 hE2 hYZ HN HY
                    go_wp2_with fail
                    refine Calls.mono HU1.out ?_
                    rintro _ w4 ⟨rfl, hb⟩
                    have HB4 : Hid (Below w.heap.size w w4) := HBE.out.trans (hb.mono HBE.out.size)
                    clear hb HU1
                    go_wp2_with fail
                    refine Calls.mono (HU2.out _) ?_
                    rintro _ w5 ⟨rfl, hb⟩
                    have HB5 : Hid (Below w.heap.size w w5) := HB4.out.trans (hb.mono HB4.out.size)
                    clear hb HU2
                    go_wp2_with fail
                    go_ret2
                    exact ⟨by rw [HR5.out]; exact rfl, HB5.out⟩
                  | some la =>
                    rw [o1, show unsR (some la) = .tuple #[.string (strN la), .int .i64 0] from rfl] at HU1
                    cases o2 : unescN ((txt X).drop (p + 1)) with
                    | none =>
                      have HR5 : Hid (parseB (txt S) = .error 5) := HN.out (pair_right hE2 (by rw [hE1]; exact o1) (by rw [hE1]; exact o2))
                      rw [o2, show unsR none = .tuple #[.string (strN []), .int .i64 5] from rfl] at HU2
                      clear o1 o2 hE1 hE2 HN HY
                      go_wp2_with fail
                      refine Calls.mono HU1.out ?_
                      rintro _ w4 ⟨rfl, hb⟩
                      have HB4 : Hid (Below w.heap.size w w4) := HBE.out.trans (hb.mono HBE.out.size)
                      clear hb HU1
                      go_wp2_with fail
                      refine Calls.mono (HU2.out _) ?_
                      rintro _ w5 ⟨rfl, hb⟩
                      have HB5 : Hid (Below w.heap.size w w5) := HB4.out.trans (hb.mono HB4.out.size)
                      clear hb HU2
                      go_wp2_with fail
                      go_ret2
                      exact ⟨by rw [HR5.out]; exact rfl, HB5.out⟩
                    | some lb =>
                      rw [o2, show unsR (some lb) = .tuple #[.string (strN lb), .int .i64 0] from rfl] at HU2
                      have HYY := HY.out _ (pair_some hE2 (by rw [hE1]; exact o1) (by rw [hE1]; exact o2))
                      have la1 := uns_len o1
                      have lb1 := uns_len o2
                      rw [List.length_take, txt_length] at la1
                      rw [List.length_drop, txt_length] at lb1
                      obtain ⟨NA, hNA⟩ : ∃ A, A = strN la := ⟨_, rfl⟩
                      obtain ⟨NB, hNB⟩ : ∃ A, A = strN lb := ⟨_, rfl⟩
                      rw [← hNA] at HU1
                      rw [← hNB] at HU2
                      rw [← hNA, ← hNB] at HYY
                      have HNA : Hid (NA.size ≤ 9223372036854775807 ∧ NB.size ≤ 9223372036854775807) := by unfold Hid; rw [hNA, hNB, strN_size, strN_size]; omega
                      have HY1 : Hid _ := HYY
                      clear o1 o2 hE1 hE2 HN HY HYY la1 lb1 hNA hNB
                      go_wp2_with fail
                      refine Calls.mono HU1.out ?_
                      rintro _ w4 ⟨rfl, hb⟩
                      have HB4 : Hid (Below w.heap.size w w4) := HBE.out.trans (hb.mono HBE.out.size)
                      have HO4 : Hid (OwnT w4 w.heap.size ov out) := own_below HO.out hb
                      clear hb HU1
                      go_wp2_with fail
                      refine Calls.mono (HU2.out _) ?_
                      rintro _ w5 ⟨rfl, hb⟩
                      have HB5 : Hid (Below w.heap.size w w5) := HB4.out.trans (hb.mono HB4.out.size)
                      have HO5 : Hid (OwnT w5 w.heap.size ov out) := own_below HO4.out hb
                      clear hb HU2 HO4 HB4
                      have hsz5 := HB5.out.size
                      have HT : Hid (RowT (w5.alloc (.cells #[.string NA, .string NB] 40)) (some ⟨w5.heap.size, 0, none⟩) [(NA, NB)]) := rowT_new w5 (NA, NB)
                      have HO6 : Hid (OwnT (w5.alloc (.cells #[.string NA, .string NB] 40)) w.heap.size ov out) := HO5.out.alloc _
                      have HB6 : Hid (Below w.heap.size w (w5.alloc (.cells #[.string NA, .string NB] 40))) := HB5.out.alloc hsz5 _
                      go_wp2_with (at_builtin; (refine appendT (w5.alloc (.cells #[.string NA, .string NB] 40)) rfl _ _ rfl w.heap.size ov out [(NA, NB)] rfl HO6.out (some ⟨w5.heap.size, 0, none⟩) 1 1 rfl HT.out rfl (fun h => by cases h) (by have := HOL.out; omega) (by simp; omega) ?_; intro v7 w7 hown7 hb7))
                      go_roundw
                      case rel =>
                        refine ⟨w7, i + 1, i + 1, v7, out ++ [(NA, NB)], rfl, rfl, by go_num, by go_num, by omega, Nat.le_refl _, ?_, hown7, ?_, HY1.out.1, HY1.out.2, HB6.out.trans hb7⟩
                        · rw [List.length_append]
                          have := HOL.out
                          simp
                          omega
                        · intro u hu
                          rcases List.mem_append.1 hu with hu | hu
                          · exact HSM.out u hu
                          · rw [List.mem_singleton] at hu
                            rw [hu]
                            exact HNA.out
                      case measure => simp [intOf]; omega
                · have hci : ((c : Int) != 1) = true := by rw [bne_iff_ne]; omega
                  have HR5 : Hid (parseB (txt S) = .error 5) := HN.out (pair_count (by rw [hE]; exact hc1))
                  clear hE hc1 HN HY
                  go_wp2_with fail
                  go_ret2
                  exact ⟨by rw [HR5.out]; exact rfl, HBE.out⟩
      · have hlei : ¬ (i : Int) ≤ (S.size : Int) := by omega
        have HPS : Hid (parseF (txt S) [] [] = some out) := HP2.out (by omega)
        obtain ⟨ao, co, hvo, hro, hlo, -, -⟩ := HO.out.row
        obtain ⟨no, hno⟩ : ∃ no, out.length = no := ⟨_, rfl⟩
        rw [hno] at hvo
        subst hvo
        have HSO : Hid _ := rsound_any ao no co out wr hro hno (by have := HOL.out; omega) (Short.of (ts := out) HSM.out)
        have HRO : Hid (RowT wr ao out) := hro
        have HNO : Hid (out.length = no) := hno
        have HLO : Hid (out.length ≤ co) := hlo
        clear HO hro hlo hno HP1 HP2
        cases hs : soundB out with
        | true =>
          rw [hs] at HSO
          have HR0 : Hid (parseB (txt S) = .ok out) := by unfold Hid; rw [HPB.out, HPS.out]; simp only []; rw [hs]; rfl
          clear hs
          go_wp2_with fail
          refine Calls.mono HSO.out ?_
          rintro _ w2 ⟨rfl, hw⟩
          have hb2 := below_some hw
          have HB2 : Hid (Below w.heap.size w w2) := HBE.out.trans (hb2.mono HBE.out.size)
          have HR2 : Hid (RowT w2 ao out) := HRO.out.below hb2
          clear hw hb2 HSO
          go_wp2_with fail
          go_ret2
          refine ⟨?_, HB2.out⟩
          rw [HR0.out]
          exact ⟨ao, co, by rw [HNO.out]; rfl, HR2.out, HLO.out⟩
        | false =>
          rw [hs] at HSO
          have HR0 : Hid (parseB (txt S) = .error 2) := by unfold Hid; rw [HPB.out, HPS.out]; simp only []; rw [hs]; rfl
          clear hs
          go_wp2_with fail
          refine Calls.mono HSO.out ?_
          rintro _ w2 ⟨rfl, hw⟩
          have hb2 := below_some hw
          have HB2 : Hid (Below w.heap.size w w2) := HBE.out.trans (hb2.mono HBE.out.size)
          clear hw hb2 HSO
          go_wp2_with fail
          go_ret2
          exact ⟨by rw [HR0.out]; exact rfl, HB2.out⟩
end Go.Proofs.YtbfgkogmojnilaaDoor
