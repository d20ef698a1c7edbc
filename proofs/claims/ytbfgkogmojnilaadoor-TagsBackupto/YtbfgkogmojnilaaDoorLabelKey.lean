/-
  The program's Key, as the document's answer.
-/
import Derived.Test.YtbfgkogmojnilaaDoorTab
import Derived.Test.YtbfgkogmojnilaaDoorLabelValid
namespace Go.Proofs.YtbfgkogmojnilaaDoor
open Go.ChangeShapes Go.WideShapes Go.ChangeAt Go.RowKit
set_option linter.unusedVariables false
set_option linter.unusedSimpArgs false
set_option maxHeartbeats 1000000 in
theorem key_any (S : ByteArray) (w : World) (hT : Tab6 w) (hs : S.size ≤ 9223372036854775806) :
    Calls Tryd.prog 58 #[.string S] w fun e w' => e = .returned (.bool (keyN (txt S))) ∧ Below w.heap.size w w' := by
  have HTL : Hid ((txt S).length = S.size) := txt_length S
  by_cases h1 : 1 ≤ S.size
  · have i1 : ¬ (S.size : Int) < 1 := by omega
    by_cases h2 : S.size ≤ 200
    · have i2 : ¬ (200 : Int) < (S.size : Int) := by omega
      have HV : Hid _ := Tryd.utf8_ValidString S w (by omega) hT.1
      have HK : Hid (keyN (txt S) = (Lib.validD S.data.toList && shownN (txt S))) := by unfold Hid keyN; rw [HTL.out, decide_eq_true h1, decide_eq_true h2, clean_txt]; rfl
      generalize Lib.validD S.data.toList = V at *
      clear h1 h2
      go_enter Tryd.func58, Tryd.ntmps58
      go_wp2_with fail
      refine Calls.mono HV.out ?_
      rintro _ w1 ⟨rfl, hb⟩
      have HB : Hid (Below w.heap.size w w1) := hb
      clear HV hb
      cases V with
      | false =>
        have HK2 : Hid (keyN (txt S) = false) := by unfold Hid; rw [HK.out]; rfl
        clear HK
        go_wp2_with fail
        go_ret
        exact ⟨by rw [HK2.out]; rfl, HB.out⟩
      | true =>
        have HK2 : Hid (keyN (txt S) = shownN (txt S)) := by unfold Hid; rw [HK.out]; rfl
        clear HK
        go_wp2_with fail
        go_loop [19] (fun ix => ∃ i : Nat, i ≤ S.size ∧ ix = .int .i64 i ∧ keyN (txt S) = shownN ((txt S).drop i)) (fun ix => S.size - (intOf ix).toNat)
        case atStart => exact ⟨0, Nat.zero_le _, rfl, HK2.out⟩
        case round =>
          clear HK2
          obtain ⟨i, hi, rfl, hj⟩ := hrel
          have HJ : Hid (keyN (txt S) = shownN ((txt S).drop i)) := hj
          clear hj
          by_cases hlt : i < S.size
          · have hii : (i : Int) < (S.size : Int) := by omega
            have HG : Hid ((S[i]'hlt).toNat = (txt S).getD i 0) := get_txt S i hlt
            have HDC : Hid ((txt S).drop i = (txt S).getD i 0 :: (txt S).drop (i + 1)) := drop_cons2 _ _ (by rw [HTL.out]; exact hlt)
            obtain ⟨x, hx⟩ : ∃ x, x = (txt S).getD i 0 := ⟨_, rfl⟩
            rw [← hx] at HG HDC
            have hxs : ((S[i]'hlt).toNat : Int) = (x : Int) := by rw [HG.out]
            have hxb : x < 256 := by rw [← HG.out]; exact (S[i]'hlt).toNat_lt
            have HST : Hid (keyN (txt S) = (decide (32 ≤ x) && x != 127 && shownN ((txt S).drop (i + 1)))) := by unfold Hid; rw [HJ.out, HDC.out, shownN]
            clear hx HJ HDC
            by_cases h32 : 32 ≤ x
            · have c1 : ¬ (x : Int) < 32 := by omega
              by_cases h127 : x = 127
              · have c2 : ((x : Int) == 127) = true := by rw [h127]; rfl
                have HS2 : Hid (keyN (txt S) = false) := by unfold Hid; rw [HST.out, h127]; simp
                clear HST h127
                go_wp2_with fail
                go_ret
                exact ⟨by rw [HS2.out]; rfl, HB.out⟩
              · have c2 : ((x : Int) == 127) = false := by rw [beq_eq_false_iff_ne]; omega
                have HS2 : Hid (keyN (txt S) = shownN ((txt S).drop (i + 1))) := by unfold Hid; rw [HST.out, decide_eq_true h32, bne_iff_ne.2 h127]; simp
                clear HST h127
                go_wp2_with fail
                go_round
                case rel => exact ⟨i + 1, by omega, by go_num, HS2.out⟩
                case measure => simp [intOf]; omega
            · have c1 : (x : Int) < 32 := by omega
              have HS2 : Hid (keyN (txt S) = false) := by unfold Hid; rw [HST.out, decide_eq_false h32]; rfl
              clear HST
              go_wp2_with fail
              go_ret
              exact ⟨by rw [HS2.out]; rfl, HB.out⟩
          · have hii : ¬ (i : Int) < (S.size : Int) := by omega
            have HS2 : Hid (keyN (txt S) = true) := by
              unfold Hid
              rw [HJ.out, show i = S.size by omega, ← HTL.out, List.drop_length, shownN]
            go_wp2_with fail
            go_ret
            exact ⟨by rw [HS2.out]; rfl, HB.out⟩
    · have i2 : (200 : Int) < (S.size : Int) := by omega
      have HK : Hid (keyN (txt S) = false) := by unfold Hid keyN; rw [HTL.out, decide_eq_false h2]; simp
      clear h1 h2
      go_enter Tryd.func58, Tryd.ntmps58
      go_wp2_with fail
      go_ret
      exact ⟨by rw [HK.out]; rfl, Below.refl _ _⟩
  · have i1 : (S.size : Int) < 1 := by omega
    have HK : Hid (keyN (txt S) = false) := by unfold Hid keyN; rw [HTL.out, decide_eq_false h1]; simp
    clear h1
    go_enter Tryd.func58, Tryd.ntmps58
    go_wp2_with fail
    go_ret
    exact ⟨by rw [HK.out]; rfl, Below.refl _ _⟩
end Go.Proofs.YtbfgkogmojnilaaDoor
