/-
  The program's isJoined and isNumber, as plain functions of lists; that a joined text is what the document asks of a name's letters.
-/
import Derived.Test.YtcmfjfbfoilmfaaDoorLabelChars
import Derived.Test.YtcmfjfbfoilmfaaDoorLabelBucket
namespace Go.Proofs.YtcmfjfbfoilmfaaDoor
open Go.ChangeShapes Go.WideShapes Go.ChangeAt Go.RowKit
set_option linter.unusedVariables false
set_option linter.unusedSimpArgs false
def joinF : Nat → List Nat → Bool
  | last, [] => lowN last
  | last, c :: l => followN c last && joinF c l
def joinN (l : List Nat) : Bool := joinF 46 l
set_option maxHeartbeats 1000000 in
theorem joined_any (S : ByteArray) (w : World) (hs : S.size ≤ 9223372036854775806) :
    Calls Tryd.prog 23 #[.string S] w fun e w' => e = .returned (.bool (joinN (txt S))) ∧ w' = w := by
  have HTL : Hid ((txt S).length = S.size) := txt_length S
  go_enter Tryd.func23, Tryd.ntmps23
  go_wp2_with fail
  go_loop [3, 7] (fun lv ix => ∃ i l : Nat, i ≤ S.size ∧ l < 256 ∧ lv = .int .u8 l ∧ ix = .int .i64 i ∧ joinN (txt S) = joinF l ((txt S).drop i)) (fun _ ix => S.size - (intOf ix).toNat)
  case atStart => exact ⟨0, 46, Nat.zero_le _, by decide, rfl, rfl, rfl⟩
  case round =>
    obtain ⟨i, l, hi, hl, rfl, rfl, hj⟩ := hrel
    have HJ : Hid (joinN (txt S) = joinF l ((txt S).drop i)) := hj
    clear hj
    by_cases hlt : i < S.size
    · have hii : (i : Int) < (S.size : Int) := by omega
      have HG : Hid ((S[i]'hlt).toNat = (txt S).getD i 0) := get_txt S i hlt
      have HDC : Hid ((txt S).drop i = (txt S).getD i 0 :: (txt S).drop (i + 1)) := drop_cons' _ _ (by rw [HTL.out]; exact hlt)
      obtain ⟨x, hx⟩ : ∃ x, x = (txt S).getD i 0 := ⟨_, rfl⟩
      rw [← hx] at HG HDC
      have hxs : ((S[i]'hlt).toNat : Int) = (x : Int) := by rw [HG.out]
      have hxb : x < 256 := by rw [← HG.out]; exact (S[i]'hlt).toNat_lt
      have HF : Hid _ := follow_any x l w hxb hl
      have HST : Hid (joinN (txt S) = (followN x l && joinF x ((txt S).drop (i + 1)))) := by unfold Hid; rw [HJ.out, HDC.out, joinF]
      clear hx HJ HDC
      go_wp2_with fail
      refine Calls.mono HF.out ?_
      rintro _ w' ⟨rfl, hw⟩
      replace hw := hw.symm
      subst hw
      clear HF
      cases hf : followN x l with
      | true =>
        have HS2 : Hid (joinN (txt S) = joinF x ((txt S).drop (i + 1))) := by unfold Hid; rw [HST.out, hf, Bool.true_and]
        clear hf HST
        go_wp2_with fail
        go_round
        case rel => exact ⟨i + 1, x, by omega, hxb, rfl, by go_num, HS2.out⟩
        case measure => simp [intOf]; omega
      | false =>
        have HS2 : Hid (joinN (txt S) = false) := by unfold Hid; rw [HST.out, hf, Bool.false_and]
        clear hf HST
        go_wp2_with fail
        go_ret
        exact ⟨by rw [HS2.out]; rfl, rfl⟩
    · have hii : ¬ (i : Int) < (S.size : Int) := by omega
      have HN : Hid _ := named_any l w hl
      have HS2 : Hid (joinN (txt S) = lowN l) := by
        unfold Hid
        rw [HJ.out, show i = S.size by omega, ← HTL.out, List.drop_length, joinF]
      go_wp2_with fail
      refine Calls.mono HN.out ?_
      rintro _ w' ⟨rfl, hw⟩
      replace hw := hw.symm
      subst hw
      go_wp2_with fail
      go_ret
      exact ⟨by rw [HS2.out]; rfl, rfl⟩
def digsN : List Nat → Bool
  | [] => true
  | c :: l => digN c && digsN l
def numbN (l : List Nat) : Bool := decide (1 ≤ l.length) && decide (l.length ≤ 3) && digsN l
set_option maxHeartbeats 1000000 in
theorem number_any (S : ByteArray) (w : World) (hs : S.size ≤ 9223372036854775806) :
    Calls Tryd.prog 38 #[.string S] w fun e w' => e = .returned (.bool (numbN (txt S))) ∧ w' = w := by
  have HTL : Hid ((txt S).length = S.size) := txt_length S
  by_cases h1 : 1 ≤ S.size
  · have i1 : ¬ (S.size : Int) < 1 := by omega
    by_cases h3 : S.size ≤ 3
    · have i3 : ¬ (3 : Int) < (S.size : Int) := by omega
      have HNB : Hid (numbN (txt S) = digsN (txt S)) := by unfold Hid numbN; rw [HTL.out, decide_eq_true h1, decide_eq_true h3]; rfl
      clear h1 h3
      go_enter Tryd.func38, Tryd.ntmps38
      go_wp2_with fail
      go_loop [14] (fun ix => ∃ i : Nat, i ≤ S.size ∧ ix = .int .i64 i ∧ numbN (txt S) = digsN ((txt S).drop i)) (fun ix => S.size - (intOf ix).toNat)
      case atStart => exact ⟨0, Nat.zero_le _, rfl, HNB.out⟩
      case round =>
        clear HNB
        obtain ⟨i, hi, rfl, hj⟩ := hrel
        have HJ : Hid (numbN (txt S) = digsN ((txt S).drop i)) := hj
        clear hj
        by_cases hlt : i < S.size
        · have hii : (i : Int) < (S.size : Int) := by omega
          have HG : Hid ((S[i]'hlt).toNat = (txt S).getD i 0) := get_txt S i hlt
          have HDC : Hid ((txt S).drop i = (txt S).getD i 0 :: (txt S).drop (i + 1)) := drop_cons' _ _ (by rw [HTL.out]; exact hlt)
          obtain ⟨x, hx⟩ : ∃ x, x = (txt S).getD i 0 := ⟨_, rfl⟩
          rw [← hx] at HG HDC
          have hxs : ((S[i]'hlt).toNat : Int) = (x : Int) := by rw [HG.out]
          have hxb : x < 256 := by rw [← HG.out]; exact (S[i]'hlt).toNat_lt
          have HF : Hid _ := dig_any x w hxb
          have HST : Hid (numbN (txt S) = (digN x && digsN ((txt S).drop (i + 1)))) := by unfold Hid; rw [HJ.out, HDC.out, digsN]
          clear hx HJ HDC
          go_wp2_with fail
          refine Calls.mono HF.out ?_
          rintro _ w' ⟨rfl, hw⟩
          replace hw := hw.symm
          subst hw
          clear HF
          cases hf : digN x with
          | true =>
            have HS2 : Hid (numbN (txt S) = digsN ((txt S).drop (i + 1))) := by unfold Hid; rw [HST.out, hf, Bool.true_and]
            clear hf HST
            go_wp2_with fail
            go_round
            case rel => exact ⟨i + 1, by omega, by go_num, HS2.out⟩
            case measure => simp [intOf]; omega
          | false =>
            have HS2 : Hid (numbN (txt S) = false) := by unfold Hid; rw [HST.out, hf, Bool.false_and]
            clear hf HST
            go_wp2_with fail
            go_ret
            exact ⟨by rw [HS2.out]; rfl, rfl⟩
        · have hii : ¬ (i : Int) < (S.size : Int) := by omega
          have HS2 : Hid (numbN (txt S) = true) := by
            unfold Hid
            rw [HJ.out, show i = S.size by omega, ← HTL.out, List.drop_length, digsN]
          go_wp2_with fail
          go_ret
          exact ⟨by rw [HS2.out]; rfl, rfl⟩
    · have i3 : (3 : Int) < (S.size : Int) := by omega
      have HNB : Hid (numbN (txt S) = false) := by unfold Hid numbN; rw [HTL.out, decide_eq_false h3]; simp
      clear h1 h3
      go_enter Tryd.func38, Tryd.ntmps38
      go_wp2_with fail
      go_ret
      exact ⟨by rw [HNB.out]; rfl, rfl⟩
  · have i1 : (S.size : Int) < 1 := by omega
    have HNB : Hid (numbN (txt S) = false) := by unfold Hid numbN; rw [HTL.out, decide_eq_false h1]; simp
    clear h1
    go_enter Tryd.func38, Tryd.ntmps38
    go_wp2_with fail
    go_ret
    exact ⟨by rw [HNB.out]; rfl, rfl⟩
/-! What a joined text is. -/
theorem join_get : ∀ (l : List Nat) (a : Nat), joinF a l = true ↔ ((∀ i, i < l.length → followN (l.getD i 0) ((a :: l).getD i 0) = true) ∧ lowN ((a :: l).getD l.length 0) = true)
  | [], a => by simp [joinF]
  | c :: l, a => by
    rw [joinF, Bool.and_eq_true, join_get l c]
    constructor
    · rintro ⟨h1, h2, h3⟩
      refine ⟨fun i hi => ?_, h3⟩
      cases i with
      | zero => exact h1
      | succ i => exact h2 i (by simpa using hi)
    · rintro ⟨h1, h2⟩
      exact ⟨h1 0 (by simp), fun i hi => h1 (i + 1) (by simpa using hi), h2⟩
theorem low45 : lowN 45 = false := by decide
theorem low46 : lowN 46 = false := by decide
theorem follow_first (c : Nat) : followN c 46 = lowN c := by
  unfold followN
  by_cases h1 : c = 45
  · rw [if_pos h1, h1]; decide
  · rw [if_neg h1]
    by_cases h2 : c = 46
    · rw [if_pos h2, h2]
    · rw [if_neg h2]
theorem follow_next (c a : Nat) (ha : letB a = true) : followN c a = (letB c && pairB a c) := by
  unfold followN letB pairB
  by_cases h1 : c = 45
  · subst h1
    rw [if_pos rfl, low45]
    cases lowN a <;> simp
  · rw [if_neg h1]
    by_cases h2 : c = 46
    · subst h2
      rw [if_pos rfl, low46]
      cases lowN a <;> simp
    · rw [if_neg h2, beq_eq_false_iff_ne.2 h1, beq_eq_false_iff_ne.2 h2]
      cases lowN c <;> simp
theorem let_low {c : Nat} (h : lowN c = true) : letB c = true := by unfold letB; rw [h]; rfl
theorem join_body (l : List Nat) (hl : 1 ≤ l.length) : joinN l = true ↔ (lowN (l.getD 0 0) = true ∧ lowN (l.getD (l.length - 1) 0) = true ∧ bodyB l) := by
  unfold joinN
  rw [join_get]
  have hlast : (46 :: l).getD l.length 0 = l.getD (l.length - 1) 0 := by
    obtain ⟨n, hn⟩ : ∃ n, l.length = n + 1 := ⟨l.length - 1, by omega⟩
    rw [hn]
    rfl
  rw [hlast]
  constructor
  · rintro ⟨h1, h2⟩
    have h0 : lowN (l.getD 0 0) = true := by have := h1 0 (by omega); rw [← follow_first]; exact this
    refine ⟨h0, h2, ?_⟩
    have hall : ∀ i, i < l.length → letB (l.getD i 0) = true ∧ okB l i = true := by
      intro i
      induction i with
      | zero => intro _; exact ⟨let_low h0, by unfold okB; rw [let_low h0]; rfl⟩
      | succ i ih =>
        intro hi
        obtain ⟨q1, q2⟩ := ih (by omega)
        have := h1 (i + 1) hi
        rw [show (46 :: l).getD (i + 1) 0 = l.getD i 0 from rfl, follow_next _ _ q1, Bool.and_eq_true] at this
        refine ⟨this.1, ?_⟩
        unfold okB
        rw [this.1, show i + 1 - 1 = i from rfl, this.2]
        simp
    exact fun i hi => (hall i hi).2
  · rintro ⟨h0, h2, hb⟩
    refine ⟨fun i hi => ?_, h2⟩
    cases i with
    | zero => rw [show (46 :: l).getD 0 0 = 46 from rfl, follow_first]; exact h0
    | succ i =>
      have q1 := hb i (by omega)
      have q2 := hb (i + 1) hi
      unfold okB at q1 q2
      rw [Bool.and_eq_true] at q1 q2
      rw [show (46 :: l).getD (i + 1) 0 = l.getD i 0 from rfl, follow_next _ _ q1.1, q2.1, Bool.true_and]
      have := q2.2
      rw [show i + 1 - 1 = i from rfl] at this
      simpa using this
end Go.Proofs.YtcmfjfbfoilmfaaDoor
