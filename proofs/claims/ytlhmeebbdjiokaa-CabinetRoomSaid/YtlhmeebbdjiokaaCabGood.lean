/-
  The document's good: may it be a name?
-/
import Derived.Test.YtlhmeebbdjiokaaCabAt
namespace Go.Proofs.Ytlhmeebbdjiokaa
open Go.ChangeShapes Go.WideShapes Go.ChangeAt Go.RowKit
set_option linter.unusedVariables false
set_option linter.unusedSimpArgs false
def okC (c : Nat) : Bool := (decide (97 ≤ c) && decide (c ≤ 122)) || (decide (48 ≤ c) && decide (c ≤ 57)) || decide (c = 45) || decide (c = 46)
theorem goodL_cons (c : Nat) (l : List Nat) : goodL (c :: l) = (okC c && goodL l) := rfl
theorem dropC_cons (l : List Nat) (i : Nat) (h : i < l.length) : l.drop i = l.getD i 0 :: l.drop (i + 1) := by
  rw [List.drop_eq_getElem_cons h, List.getD_eq_getElem?_getD, List.getElem?_eq_getElem h]
  rfl
set_option maxRecDepth 100000 in
set_option maxHeartbeats 8000000 in
theorem rgood_any (S : ByteArray) (w : World) (hs : S.size ≤ 9223372036854775806) :
    Calls Try.prog 53 #[.string S] w fun e w' => e = .returned (.bool (goodC S)) ∧ w' = w := by
  have HTL : Hid ((txt S).length = S.size) := txt_length S
  by_cases h1 : S.size < 1
  · have HR : Hid (goodC S = false) := by unfold Hid goodC; rw [decide_eq_false (by omega)]; rfl
    have i1 : (S.size : Int) < 1 := by omega
    clear h1
    go_enter Try.func53, Try.ntmps53
    go_wp2
    go_ret
    exact ⟨by rw [HR.out]; rfl, rfl⟩
  · have i1 : ¬ (S.size : Int) < 1 := by omega
    by_cases h2 : 32 < S.size
    · have HR : Hid (goodC S = false) := by unfold Hid goodC; rw [decide_eq_false (show ¬ S.size ≤ 32 by omega), Bool.and_false]; rfl
      have i2 : (32 : Int) < (S.size : Int) := by omega
      clear h1 h2
      go_enter Try.func53, Try.ntmps53
      go_wp2
      go_ret
      exact ⟨by rw [HR.out]; rfl, rfl⟩
    · have i2 : ¬ (32 : Int) < (S.size : Int) := by omega
      have HR : Hid (goodC S = goodL (txt S)) := by unfold Hid goodC; rw [decide_eq_true (by omega), decide_eq_true (by omega)]; rfl
      have h2' : S.size ≤ 32 := by omega
      clear h1 h2
      go_enter Try.func53, Try.ntmps53
      go_wp2
      go_loop [3] (fun ix => ∃ i : Nat, i ≤ S.size ∧ ix = .int .i64 i ∧ goodL (txt S) = goodL ((txt S).drop i)) (fun ix => S.size - (intOf ix).toNat)
      case atStart => exact ⟨0, Nat.zero_le _, rfl, rfl⟩
      case round =>
        obtain ⟨i, hi, rfl, hg⟩ := hrel
        have HG : Hid (goodL (txt S) = goodL ((txt S).drop i)) := hg
        clear hg
        by_cases hlt : i < S.size
        · have hii : (i : Int) < (S.size : Int) := by omega
          have HX : Hid ((S[i]'hlt).toNat = (txt S).getD i 0) := get_txt S i hlt
          have HST : Hid (goodL (txt S) = (okC ((txt S).getD i 0) && goodL ((txt S).drop (i + 1)))) := by unfold Hid; rw [HG.out, dropC_cons _ _ (by rw [HTL.out]; exact hlt), goodL_cons]
          obtain ⟨x, hx⟩ : ∃ x, x = (txt S).getD i 0 := ⟨_, rfl⟩
          rw [← hx] at HX HST
          have hxs : ((S[i]'hlt).toNat : Int) = (x : Int) := by rw [HX.out]
          clear hx HG
          by_cases e1 : 97 ≤ x
          · by_cases e2 : x ≤ 122
            · have k97 : (97 : Int) ≤ (x : Int) := by omega
              have k122 : (x : Int) ≤ 122 := by omega
              have HOK : Hid (okC x = true) := by unfold Hid okC; rw [decide_eq_true (show 97 ≤ x by omega), decide_eq_true (show x ≤ 122 by omega), decide_eq_true (show 48 ≤ x by omega), decide_eq_false (show ¬ x ≤ 57 by omega), decide_eq_false (show ¬ x = 45 by omega), decide_eq_false (show ¬ x = 46 by omega)]; rfl
              have HS2 : Hid (goodL (txt S) = goodL ((txt S).drop (i + 1))) := by unfold Hid; rw [HST.out, HOK.out, Bool.true_and]
              clear HST HOK e1 e2
              go_wp2
              go_round
              case rel => exact ⟨i + 1, by omega, by go_num, HS2.out⟩
              case measure => simp [intOf]; omega
            · have k97 : (97 : Int) ≤ (x : Int) := by omega
              have k122 : ¬ (x : Int) ≤ 122 := by omega
              have k48 : (48 : Int) ≤ (x : Int) := by omega
              have k57 : ¬ (x : Int) ≤ 57 := by omega
              have k45 : ((x : Int) == 45) = false := by rw [beq_eq_false_iff_ne]; omega
              have k46 : ((x : Int) == 46) = false := by rw [beq_eq_false_iff_ne]; omega
              have HOK : Hid (okC x = false) := by unfold Hid okC; rw [decide_eq_true (show 97 ≤ x by omega), decide_eq_false (show ¬ x ≤ 122 by omega), decide_eq_true (show 48 ≤ x by omega), decide_eq_false (show ¬ x ≤ 57 by omega), decide_eq_false (show ¬ x = 45 by omega), decide_eq_false (show ¬ x = 46 by omega)]; rfl
              have HS2 : Hid (goodC S = false) := by unfold Hid; rw [HR.out, HST.out, HOK.out, Bool.false_and]
              clear HST HOK e1 e2
              go_wp2
              go_ret
              exact ⟨by rw [HS2.out]; rfl, rfl⟩
          · by_cases e3 : 48 ≤ x
            · by_cases e4 : x ≤ 57
              · have k97 : ¬ (97 : Int) ≤ (x : Int) := by omega
                have k48 : (48 : Int) ≤ (x : Int) := by omega
                have k57 : (x : Int) ≤ 57 := by omega
                have HOK : Hid (okC x = true) := by unfold Hid okC; rw [decide_eq_false (show ¬ 97 ≤ x by omega), decide_eq_true (show x ≤ 122 by omega), decide_eq_true (show 48 ≤ x by omega), decide_eq_true (show x ≤ 57 by omega), decide_eq_false (show ¬ x = 45 by omega), decide_eq_false (show ¬ x = 46 by omega)]; rfl
                have HS2 : Hid (goodL (txt S) = goodL ((txt S).drop (i + 1))) := by unfold Hid; rw [HST.out, HOK.out, Bool.true_and]
                clear HST HOK e1 e3 e4
                go_wp2
                go_round
                case rel => exact ⟨i + 1, by omega, by go_num, HS2.out⟩
                case measure => simp [intOf]; omega
              · have k97 : ¬ (97 : Int) ≤ (x : Int) := by omega
                have k48 : (48 : Int) ≤ (x : Int) := by omega
                have k57 : ¬ (x : Int) ≤ 57 := by omega
                have k45 : ((x : Int) == 45) = false := by rw [beq_eq_false_iff_ne]; omega
                have k46 : ((x : Int) == 46) = false := by rw [beq_eq_false_iff_ne]; omega
                have HOK : Hid (okC x = false) := by unfold Hid okC; rw [decide_eq_false (show ¬ 97 ≤ x by omega), decide_eq_true (show x ≤ 122 by omega), decide_eq_true (show 48 ≤ x by omega), decide_eq_false (show ¬ x ≤ 57 by omega), decide_eq_false (show ¬ x = 45 by omega), decide_eq_false (show ¬ x = 46 by omega)]; rfl
                have HS2 : Hid (goodC S = false) := by unfold Hid; rw [HR.out, HST.out, HOK.out, Bool.false_and]
                clear HST HOK e1 e3 e4
                go_wp2
                go_ret
                exact ⟨by rw [HS2.out]; rfl, rfl⟩
            · by_cases e5 : x = 45
              · have k97 : ¬ (97 : Int) ≤ (x : Int) := by omega
                have k48 : ¬ (48 : Int) ≤ (x : Int) := by omega
                have k45 : ((x : Int) == 45) = true := by rw [beq_iff_eq]; omega
                have HOK : Hid (okC x = true) := by unfold Hid okC; rw [decide_eq_false (show ¬ 97 ≤ x by omega), decide_eq_true (show x ≤ 122 by omega), decide_eq_false (show ¬ 48 ≤ x by omega), decide_eq_true (show x ≤ 57 by omega), decide_eq_true (show x = 45 by omega), decide_eq_false (show ¬ x = 46 by omega)]; rfl
                have HS2 : Hid (goodL (txt S) = goodL ((txt S).drop (i + 1))) := by unfold Hid; rw [HST.out, HOK.out, Bool.true_and]
                clear HST HOK e1 e3 e5
                go_wp2
                go_round
                case rel => exact ⟨i + 1, by omega, by go_num, HS2.out⟩
                case measure => simp [intOf]; omega
              · by_cases e6 : x = 46
                · have k97 : ¬ (97 : Int) ≤ (x : Int) := by omega
                  have k48 : ¬ (48 : Int) ≤ (x : Int) := by omega
                  have k45 : ((x : Int) == 45) = false := by rw [beq_eq_false_iff_ne]; omega
                  have k46 : ((x : Int) == 46) = true := by rw [beq_iff_eq]; omega
                  have HOK : Hid (okC x = true) := by unfold Hid okC; rw [decide_eq_false (show ¬ 97 ≤ x by omega), decide_eq_true (show x ≤ 122 by omega), decide_eq_false (show ¬ 48 ≤ x by omega), decide_eq_true (show x ≤ 57 by omega), decide_eq_false (show ¬ x = 45 by omega), decide_eq_true (show x = 46 by omega)]; rfl
                  have HS2 : Hid (goodL (txt S) = goodL ((txt S).drop (i + 1))) := by unfold Hid; rw [HST.out, HOK.out, Bool.true_and]
                  clear HST HOK e1 e3 e5 e6
                  go_wp2
                  go_round
                  case rel => exact ⟨i + 1, by omega, by go_num, HS2.out⟩
                  case measure => simp [intOf]; omega
                · have k97 : ¬ (97 : Int) ≤ (x : Int) := by omega
                  have k48 : ¬ (48 : Int) ≤ (x : Int) := by omega
                  have k45 : ((x : Int) == 45) = false := by rw [beq_eq_false_iff_ne]; omega
                  have k46 : ((x : Int) == 46) = false := by rw [beq_eq_false_iff_ne]; omega
                  have HOK : Hid (okC x = false) := by unfold Hid okC; rw [decide_eq_false (show ¬ 97 ≤ x by omega), decide_eq_true (show x ≤ 122 by omega), decide_eq_false (show ¬ 48 ≤ x by omega), decide_eq_true (show x ≤ 57 by omega), decide_eq_false (show ¬ x = 45 by omega), decide_eq_false (show ¬ x = 46 by omega)]; rfl
                  have HS2 : Hid (goodC S = false) := by unfold Hid; rw [HR.out, HST.out, HOK.out, Bool.false_and]
                  clear HST HOK e1 e3 e5 e6
                  go_wp2
                  go_ret
                  exact ⟨by rw [HS2.out]; rfl, rfl⟩
        · have hii : ¬ (i : Int) < (S.size : Int) := by omega
          have HS2 : Hid (goodC S = true) := by unfold Hid; rw [HR.out, HG.out, List.drop_eq_nil_of_le (by rw [HTL.out]; omega)]; rfl
          clear HG
          go_wp2
          go_ret
          exact ⟨by rw [HS2.out]; rfl, rfl⟩
end Go.Proofs.Ytlhmeebbdjiokaa
