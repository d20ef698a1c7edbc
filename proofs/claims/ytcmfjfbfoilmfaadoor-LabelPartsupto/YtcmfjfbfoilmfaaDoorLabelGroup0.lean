/-
  The program's Group, as a plain function of lists, wherever strings.Index tells the first place.
-/
import Derived.Test.YtcmfjfbfoilmfaaDoorLabelAddr
import Derived.Lib.IndexMore
namespace Go.Proofs.YtcmfjfbfoilmfaaDoor
open Go.ChangeShapes Go.WideShapes Go.ChangeAt Go.RowKit
set_option linter.unusedVariables false
set_option linter.unusedSimpArgs false
theorem pre_iff : ∀ (p l : List UInt8), p.isPrefixOf l = begN (l.map UInt8.toNat) (p.map UInt8.toNat) := by
  intro p l
  cases h : p.isPrefixOf l with
  | true =>
    obtain ⟨r, hr⟩ := List.isPrefixOf_iff_prefix.1 h
    symm
    rw [beg_iff]
    exact ⟨r.map UInt8.toNat, by rw [← hr, List.map_append]⟩
  | false =>
    symm
    rw [Bool.eq_false_iff]
    intro hb
    obtain ⟨r, hr⟩ := (beg_iff _ _).1 hb
    have hp : p <+: l := by
      have h1 := congrArg (List.take p.length) hr
      rw [List.take_left' (by rw [List.length_map]), ← List.map_take] at h1
      have h2 := map_inj _ _ h1
      refine ⟨l.drop p.length, ?_⟩
      have h3 := List.take_append_drop p.length l
      rw [h2] at h3
      exact h3
    rw [List.isPrefixOf_iff_prefix.2 hp] at h
    cases h
theorem occ_beg (D M : ByteArray) (j : Nat) : Lib.occAt D.data.toList M.data.toList j = begN ((txt D).drop j) (txt M) := by
  unfold Lib.occAt
  rw [pre_iff, List.map_drop]
  rfl
theorem group_none (key mark : List Nat) : ∀ (n i : Nat), (∀ j, i ≤ j → j < i + n → begN (key.drop j) mark = false) → groupF key mark n i = none
  | 0, i, _ => rfl
  | n + 1, i, h => by
    rw [groupF, h i (Nat.le_refl _) (by omega), if_neg (by simp)]
    exact group_none key mark n (i + 1) (fun j h1 h2 => h j (by omega) (by omega))
theorem group_index (S P M D : ByteArray) (hD : txt D = (txt S).drop P.size) (hM : txt M ≠ []) (hb : begN (txt S) (txt P) = true) :
    (Lib.index D.data.toList M.data.toList = -1 ∧ groupN (txt S) (txt P) (txt M) = none) ∨
    ∃ i : Nat, Lib.index D.data.toList M.data.toList = (i : Int) ∧ P.size + i + M.size ≤ S.size ∧ groupN (txt S) (txt P) (txt M) = some ((txt S).take (P.size + i + M.size)) := by
  have hps : P.size ≤ S.size := by
    obtain ⟨r, hr⟩ := (beg_iff _ _).1 hb
    rw [← txt_length, ← txt_length, hr]
    simp
  have hDl : D.data.toList.length = S.size - P.size := by
    have : (txt D).length = S.size - P.size := by rw [hD, List.length_drop, txt_length]
    rwa [show (txt D).length = D.data.toList.length from List.length_map ..] at this
  have hml : 0 < M.size := by rw [← txt_length]; exact List.length_pos_iff.2 hM
  have hG : groupN (txt S) (txt P) (txt M) = groupF (txt S) (txt M) (S.size - P.size) P.size := by
    unfold groupN
    rw [if_neg (by intro e; rcases e with e | e; exact hM e; exact e hb), txt_length, txt_length]
  have hocc : ∀ j, Lib.occAt D.data.toList M.data.toList j = begN ((txt S).drop (P.size + j)) (txt M) := fun j => by rw [occ_beg, hD, List.drop_drop]
  rcases Lib.index_spec D.data.toList M.data.toList with ⟨h1, h2⟩ | ⟨i, h1, h2, h3, h4⟩
  · left
    refine ⟨h1, ?_⟩
    rw [hG]
    refine group_none _ _ _ _ (fun j hj1 hj2 => ?_)
    have := h2 (j - P.size) (by omega)
    rw [hocc, show P.size + (j - P.size) = j by omega] at this
    exact this
  · right
    have hbg : begN ((txt S).drop (P.size + i)) (txt M) = true := by rw [← hocc]; exact h3
    have hroom : P.size + i + M.size ≤ S.size := by
      obtain ⟨r, hr⟩ := (beg_iff _ _).1 hbg
      have := congrArg List.length hr
      rw [List.length_drop, List.length_append, txt_length, txt_length] at this
      omega
    refine ⟨i, h1, hroom, ?_⟩
    rw [hG, group_find (txt S) (txt M) (S.size - P.size) P.size (P.size + i) (by omega) (by omega) hbg ?_]
    · congr 1
      obtain ⟨r, hr⟩ := (beg_iff _ _).1 hbg
      have e1 : txt S = (txt S).take (P.size + i) ++ (txt M ++ r) := by rw [← hr, List.take_append_drop]
      have e2 : ((txt S).take (P.size + i)).length = P.size + i := by rw [List.length_take, txt_length]; omega
      have e3 : (txt S).take (P.size + i + M.size) = (txt S).take (P.size + i) ++ (txt M ++ r).take M.size := by
        conv => lhs; rw [e1]
        rw [take_app_le (by rw [e2]; omega), e2, show P.size + i + M.size - (P.size + i) = M.size by omega]
      rw [e3, List.take_left' (txt_length M)]
    · intro k hk1 hk2
      have := h4 (k - P.size) (by omega)
      rw [hocc, show P.size + (k - P.size) = k by omega] at this
      rw [this]
      simp
set_option maxHeartbeats 1000000 in
theorem group_of (S P M : ByteArray) (w : World) (hs : S.size ≤ 281474976710656) (hp : P.size ≤ 281474976710656) (hm : M.size ≤ 281474976710656)
    (hix : ∀ D : ByteArray, D.size ≤ S.size → Calls Tryd.prog 34 #[.string D, .string M] w fun e w' => e = .returned (.int .i64 (Lib.index D.data.toList M.data.toList)) ∧ w' = w) :
    Calls Tryd.prog 20 #[.string S, .string P, .string M] w fun e w' => e = .returned (optR (groupN (txt S) (txt P) (txt M))) ∧ w' = w := by
  have HTL : Hid ((txt S).length = S.size) := txt_length S
  have hemp := empty_txt M
  by_cases hM : txt M = []
  · have HR : Hid (groupN (txt S) (txt P) (txt M) = none) := by unfold Hid groupN; rw [if_pos (.inl hM)]
    rw [decide_eq_true hM] at hemp
    have hemp2 := (empty_iff M).2 hM
    clear hM hix
    go_enter Tryd.func20, Tryd.ntmps20
    go_wp2_with fail
    go_ret2
    exact ⟨by rw [HR.out]; rfl, rfl⟩
  · rw [decide_eq_false hM] at hemp
    have hemp2 : ¬ M.toList = [] := fun e => hM ((empty_iff M).1 e)
    have HB : Hid _ := Tryd.strings_HasPrefix S P w
    rw [show Lib.hasPrefix S.data.toList P.data.toList = begN (txt S) (txt P) from pre_iff _ _] at HB
    by_cases hb : begN (txt S) (txt P) = true
    · have hps : P.size ≤ S.size := by
        obtain ⟨r, hr⟩ := (beg_iff _ _).1 hb
        rw [← txt_length, ← txt_length, hr]
        simp
      obtain ⟨D, hD⟩ : ∃ D, D = S.extract P.size S.size := ⟨_, rfl⟩
      have hsl : ∀ W, (Instr.slice 9 (.string S) (some (.int .i64 (P.size : Nat))) none none).run Tryd.prog W = .ok (.string D) W := fun W => by rw [hD]; exact str_from S P.size .i64 hps W
      have hDt : txt D = (txt S).drop P.size := by rw [hD, txt_extract, ← HTL.out, List.take_length]
      have HIX : Hid _ := hix D (by rw [← txt_length, hDt, List.length_drop, HTL.out]; omega)
      have HGI := group_index S P M D hDt hM hb
      rw [hb] at HB
      clear hD hDt hM hb hix
      rcases HGI with ⟨g1, g2⟩ | ⟨i, g1, g2, g3⟩
      · have HR : Hid (groupN (txt S) (txt P) (txt M) = none) := g2
        rw [g1] at HIX
        clear g1 g2
        go_enter Tryd.func20, Tryd.ntmps20
        go_wp2_with fail
        refine Calls.mono HB.out ?_
        rintro _ w' ⟨rfl, hw⟩
        replace hw := hw.symm
        subst hw
        clear HB
        go_wp2_with fail
        refine Calls.mono HIX.out ?_
        rintro _ w' ⟨rfl, hw⟩
        replace hw := hw.symm
        subst hw
        clear HIX
        go_wp2_with fail
        go_ret2
        exact ⟨by rw [HR.out]; rfl, rfl⟩
      · have HR : Hid (groupN (txt S) (txt P) (txt M) = some ((txt S).take (P.size + i + M.size))) := g3
        rw [g1] at HIX
        have hi0 : ¬ (i : Int) < 0 := by omega
        obtain ⟨K, hK⟩ : ∃ K, K = P.size + i + M.size := ⟨_, rfl⟩
        have hKi : (P.size : Int) + (i : Int) + (M.size : Int) = (K : Int) := by omega
        rw [← hK] at HR g2
        obtain ⟨G, hG⟩ : ∃ G, G = S.extract 0 K := ⟨_, rfl⟩
        have hsg : ∀ W, (Instr.slice 9 (.string S) none (some (.int .i64 (K : Nat))) none).run Tryd.prog W = .ok (.string G) W := fun W => by rw [hG]; exact str_to S K .i64 g2 W
        have HGT : Hid (strN ((txt S).take K) = G) := by unfold Hid; rw [hG, ← strN_txt (S.extract 0 K), txt_extract, List.drop_zero]
        have hib : i ≤ 281474976710656 := by omega
        clear g1 g3 hK hG
        go_enter Tryd.func20, Tryd.ntmps20
        go_wp2_with fail
        refine Calls.mono HB.out ?_
        rintro _ w' ⟨rfl, hw⟩
        replace hw := hw.symm
        subst hw
        clear HB
        go_wp2_with fail
        refine Calls.mono HIX.out ?_
        rintro _ w' ⟨rfl, hw⟩
        replace hw := hw.symm
        subst hw
        clear HIX
        go_wp2_with fail
        go_ret2
        exact ⟨by rw [HR.out]; show _ = Ending.returned (.tuple #[.string (strN ((txt S).take K)), .bool true]); rw [HGT.out]; rfl, rfl⟩
    · have hbf : begN (txt S) (txt P) = false := by simpa using hb
      have HR : Hid (groupN (txt S) (txt P) (txt M) = none) := by unfold Hid groupN; rw [if_pos (.inr hb)]
      rw [hbf] at HB
      clear hb hbf hM hix
      go_enter Tryd.func20, Tryd.ntmps20
      go_wp2_with fail
      refine Calls.mono HB.out ?_
      rintro _ w' ⟨rfl, hw⟩
      replace hw := hw.symm
      subst hw
      clear HB
      go_wp2_with fail
      go_ret2
      exact ⟨by rw [HR.out]; rfl, rfl⟩
end Go.Proofs.YtcmfjfbfoilmfaaDoor
