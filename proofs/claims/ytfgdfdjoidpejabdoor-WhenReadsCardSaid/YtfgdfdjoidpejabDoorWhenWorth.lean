/-
  The program's worth of any text, letter by letter.
-/
import Derived.Test.YtfgdfdjoidpejabDoorTexts
namespace Go.Proofs.YtfgdfdjoidpejabDoor
open Go.ChangeShapes Go.WideShapes Go.ChangeAt Go.RowKit
set_option linter.unusedVariables false
set_option linter.unusedSimpArgs false
def w64 (x : Int) : Int := IntKind.i64.wrap x
theorem w64_bound (x : Int) : -9223372036854775808 ≤ w64 x ∧ w64 x ≤ 9223372036854775807 := by unfold w64; rw [IntKind.wrap_i64]; omega
/-- One letter's step: what is told so far, and the digits since. -/
def wst (p : Int × Int) (c : Nat) : Int × Int :=
  if c = 68 then (w64 (p.1 + w64 (p.2 * 86400)), 0) else if c = 72 then (w64 (p.1 + w64 (p.2 * 3600)), 0) else if c = 77 then (w64 (p.1 + w64 (p.2 * 60)), 0)
  else if c = 83 then (w64 (p.1 + p.2), 0) else if c = 45 ∨ c = 80 ∨ c = 84 then p else (p.1, w64 (w64 (10 * p.2) + ((c + 208) % 256 : Nat)))
def wfo (l : List Nat) : Int × Int := l.foldl wst (0, 0)
def worthN (l : List Nat) : Int := if l.head? = some 45 then w64 (-(wfo l).1) else (wfo l).1
theorem wst_bound {p : Int × Int} (c : Nat) (h : (-9223372036854775808 ≤ p.1 ∧ p.1 ≤ 9223372036854775807) ∧ -9223372036854775808 ≤ p.2 ∧ p.2 ≤ 9223372036854775807) :
    (-9223372036854775808 ≤ (wst p c).1 ∧ (wst p c).1 ≤ 9223372036854775807) ∧ -9223372036854775808 ≤ (wst p c).2 ∧ (wst p c).2 ≤ 9223372036854775807 := by
  unfold wst
  repeat' split
  all_goals first | exact h | exact ⟨w64_bound _, (by decide : (-9223372036854775808 : Int) ≤ 0), (by decide : (0 : Int) ≤ 9223372036854775807)⟩ | exact ⟨h.1, w64_bound _⟩
theorem wfo_snoc (l : List Nat) (c : Nat) : wfo (l ++ [c]) = wst (wfo l) c := by unfold wfo; rw [List.foldl_append]; rfl
theorem wfo_bound (l : List Nat) : (-9223372036854775808 ≤ (wfo l).1 ∧ (wfo l).1 ≤ 9223372036854775807) ∧ -9223372036854775808 ≤ (wfo l).2 ∧ (wfo l).2 ≤ 9223372036854775807 := by
  have : ∀ (l : List Nat) (p : Int × Int), ((-9223372036854775808 ≤ p.1 ∧ p.1 ≤ 9223372036854775807) ∧ -9223372036854775808 ≤ p.2 ∧ p.2 ≤ 9223372036854775807) → ((-9223372036854775808 ≤ (l.foldl wst p).1 ∧ (l.foldl wst p).1 ≤ 9223372036854775807) ∧ -9223372036854775808 ≤ (l.foldl wst p).2 ∧ (l.foldl wst p).2 ≤ 9223372036854775807) := by
    intro l
    induction l with
    | nil => intro p h; exact h
    | cons c l ih => intro p h; exact ih _ (wst_bound c h)
  exact this l (0, 0) ⟨⟨by decide, by decide⟩, by decide, by decide⟩
theorem worth_bound (l : List Nat) : -9223372036854775808 ≤ worthN l ∧ worthN l ≤ 9223372036854775807 := by
  unfold worthN
  split
  · exact w64_bound _
  · exact (wfo_bound l).1
set_option maxRecDepth 100000 in
set_option maxHeartbeats 16000000 in
theorem worth_any (S : ByteArray) (w : World) (hs : S.size ≤ 9223372036854775807) :
    Calls Tryd.prog 7 #[.string S] w fun e w' => e = .returned (.int .i64 (worthN (txt S))) ∧ w' = w := by
  have HL : Hid ((txt S).length = S.size) := txt_length S
  go_enter Tryd.func7, Tryd.ntmps7
  go_wp2
  go_loop [3, 4, 8] (fun av dv ix => ∃ (i : Nat) (a d : Int), i ≤ S.size ∧ ix = .int .i64 i ∧ av = .int .i64 a ∧ dv = .int .i64 d ∧ wfo ((txt S).take i) = (a, d)) (fun _ _ ix => S.size - (intOf ix).toNat)
  case atStart => exact ⟨0, 0, 0, by omega, rfl, rfl, rfl, rfl⟩
  case round =>
    obtain ⟨i, a, d, hi, rfl, rfl, rfl, hw⟩ := hrel
    have HW : Hid (wfo ((txt S).take i) = (a, d)) := hw
    have hbd := wfo_bound ((txt S).take i)
    rw [hw] at hbd
    obtain ⟨⟨a0, a1⟩, d0, d1⟩ := hbd
    clear hw
    by_cases hlt : i < S.size
    · have hli : (i : Int) < (S.size : Int) := by omega
      have HG : Hid ((S[i]'hlt).toNat = (txt S).getD i 0) := get_txt S i hlt
      obtain ⟨x, hx⟩ : ∃ x, x = (txt S).getD i 0 := ⟨_, rfl⟩
      have hxs : ((S[i]'hlt).toNat : Int) = (x : Int) := by rw [HG.out, hx]
      have hxb : x < 256 := by rw [hx, ← HG.out]; exact (S[i]'hlt).toNat_lt
      have HN : Hid (wfo ((txt S).take (i + 1)) = wst (a, d) x) := by
        unfold Hid
        rw [take_snoc (txt S) i (by rw [HL.out]; exact hlt), wfo_snoc, HW.out, ← hx]
      clear hx HG HW
      rcases (show x = 68 ∨ x = 72 ∨ x = 77 ∨ x = 83 ∨ x = 45 ∨ x = 80 ∨ x = 84 ∨ (x ≠ 68 ∧ x ≠ 72 ∧ x ≠ 77 ∧ x ≠ 83 ∧ x ≠ 45 ∧ x ≠ 80 ∧ x ≠ 84) by omega) with hx | hx | hx | hx | hx | hx | hx | hx
      · have y68 : ((x : Int) == 68) = true := by rw [hx]; rfl
        obtain ⟨e, he⟩ : ∃ e, IntKind.i64.wrap (d * 86400) = e := ⟨_, rfl⟩
        obtain ⟨f, hf⟩ : ∃ f, IntKind.i64.wrap (a + e) = f := ⟨_, rfl⟩
        have HS : Hid (wst (a, d) x = (f, 0)) := by rw [← hf, ← he, hx]; rfl
        clear hx
        go_wp2
        go_round
        case rel => exact ⟨i + 1, f, 0, by omega, by go_num, rfl, rfl, by rw [HN.out, HS.out]⟩
        case measure => simp [intOf]; omega
      · have n68 : ((x : Int) == 68) = false := by rw [beq_eq_false_iff_ne]; omega
        have y72 : ((x : Int) == 72) = true := by rw [hx]; rfl
        obtain ⟨e, he⟩ : ∃ e, IntKind.i64.wrap (d * 3600) = e := ⟨_, rfl⟩
        obtain ⟨f, hf⟩ : ∃ f, IntKind.i64.wrap (a + e) = f := ⟨_, rfl⟩
        have HS : Hid (wst (a, d) x = (f, 0)) := by rw [← hf, ← he, hx]; rfl
        clear hx
        go_wp2
        go_round
        case rel => exact ⟨i + 1, f, 0, by omega, by go_num, rfl, rfl, by rw [HN.out, HS.out]⟩
        case measure => simp [intOf]; omega
      · have n68 : ((x : Int) == 68) = false := by rw [beq_eq_false_iff_ne]; omega
        have n72 : ((x : Int) == 72) = false := by rw [beq_eq_false_iff_ne]; omega
        have y77 : ((x : Int) == 77) = true := by rw [hx]; rfl
        obtain ⟨e, he⟩ : ∃ e, IntKind.i64.wrap (d * 60) = e := ⟨_, rfl⟩
        obtain ⟨f, hf⟩ : ∃ f, IntKind.i64.wrap (a + e) = f := ⟨_, rfl⟩
        have HS : Hid (wst (a, d) x = (f, 0)) := by rw [← hf, ← he, hx]; rfl
        clear hx
        go_wp2
        go_round
        case rel => exact ⟨i + 1, f, 0, by omega, by go_num, rfl, rfl, by rw [HN.out, HS.out]⟩
        case measure => simp [intOf]; omega
      · have n68 : ((x : Int) == 68) = false := by rw [beq_eq_false_iff_ne]; omega
        have n72 : ((x : Int) == 72) = false := by rw [beq_eq_false_iff_ne]; omega
        have n77 : ((x : Int) == 77) = false := by rw [beq_eq_false_iff_ne]; omega
        have y83 : ((x : Int) == 83) = true := by rw [hx]; rfl
        obtain ⟨f, hf⟩ : ∃ f, IntKind.i64.wrap (a + d) = f := ⟨_, rfl⟩
        have HS : Hid (wst (a, d) x = (f, 0)) := by rw [← hf, hx]; rfl
        clear hx
        go_wp2
        go_round
        case rel => exact ⟨i + 1, f, 0, by omega, by go_num, rfl, rfl, by rw [HN.out, HS.out]⟩
        case measure => simp [intOf]; omega
      · have n68 : ((x : Int) == 68) = false := by rw [beq_eq_false_iff_ne]; omega
        have n72 : ((x : Int) == 72) = false := by rw [beq_eq_false_iff_ne]; omega
        have n77 : ((x : Int) == 77) = false := by rw [beq_eq_false_iff_ne]; omega
        have n83 : ((x : Int) == 83) = false := by rw [beq_eq_false_iff_ne]; omega
        have y45 : ((x : Int) == 45) = true := by rw [hx]; rfl
        have HS : Hid (wst (a, d) x = (a, d)) := by rw [hx]; rfl
        clear hx
        go_wp2
        go_round
        case rel => exact ⟨i + 1, a, d, by omega, by go_num, rfl, rfl, by rw [HN.out, HS.out]⟩
        case measure => simp [intOf]; omega
      · have n68 : ((x : Int) == 68) = false := by rw [beq_eq_false_iff_ne]; omega
        have n72 : ((x : Int) == 72) = false := by rw [beq_eq_false_iff_ne]; omega
        have n77 : ((x : Int) == 77) = false := by rw [beq_eq_false_iff_ne]; omega
        have n83 : ((x : Int) == 83) = false := by rw [beq_eq_false_iff_ne]; omega
        have n45 : ((x : Int) == 45) = false := by rw [beq_eq_false_iff_ne]; omega
        have y80 : ((x : Int) == 80) = true := by rw [hx]; rfl
        have HS : Hid (wst (a, d) x = (a, d)) := by rw [hx]; rfl
        clear hx
        go_wp2
        go_round
        case rel => exact ⟨i + 1, a, d, by omega, by go_num, rfl, rfl, by rw [HN.out, HS.out]⟩
        case measure => simp [intOf]; omega
      · have n68 : ((x : Int) == 68) = false := by rw [beq_eq_false_iff_ne]; omega
        have n72 : ((x : Int) == 72) = false := by rw [beq_eq_false_iff_ne]; omega
        have n77 : ((x : Int) == 77) = false := by rw [beq_eq_false_iff_ne]; omega
        have n83 : ((x : Int) == 83) = false := by rw [beq_eq_false_iff_ne]; omega
        have n45 : ((x : Int) == 45) = false := by rw [beq_eq_false_iff_ne]; omega
        have n80 : ((x : Int) == 80) = false := by rw [beq_eq_false_iff_ne]; omega
        have y84 : ((x : Int) == 84) = true := by rw [hx]; rfl
        have HS : Hid (wst (a, d) x = (a, d)) := by rw [hx]; rfl
        clear hx
        go_wp2
        go_round
        case rel => exact ⟨i + 1, a, d, by omega, by go_num, rfl, rfl, by rw [HN.out, HS.out]⟩
        case measure => simp [intOf]; omega
      · have n68 : ((x : Int) == 68) = false := by rw [beq_eq_false_iff_ne]; omega
        have n72 : ((x : Int) == 72) = false := by rw [beq_eq_false_iff_ne]; omega
        have n77 : ((x : Int) == 77) = false := by rw [beq_eq_false_iff_ne]; omega
        have n83 : ((x : Int) == 83) = false := by rw [beq_eq_false_iff_ne]; omega
        have n45 : ((x : Int) == 45) = false := by rw [beq_eq_false_iff_ne]; omega
        have n80 : ((x : Int) == 80) = false := by rw [beq_eq_false_iff_ne]; omega
        have n84 : ((x : Int) == 84) = false := by rw [beq_eq_false_iff_ne]; omega
        obtain ⟨u, hu⟩ : ∃ u : Nat, u = (x + 208) % 256 := ⟨_, rfl⟩
        have hui : IntKind.u8.wrap ((x : Int) - 48) = (u : Int) := by rw [IntKind.wrap_u8]; omega
        have hub : u < 256 := by omega
        obtain ⟨e, he⟩ : ∃ e, IntKind.i64.wrap (10 * d) = e := ⟨_, rfl⟩
        obtain ⟨f, hf⟩ : ∃ f, IntKind.i64.wrap (e + (u : Int)) = f := ⟨_, rfl⟩
        have HS : Hid (wst (a, d) x = (a, f)) := by
          obtain ⟨h1, h2, h3, h4, h5, h6, h7⟩ := hx
          unfold Hid wst
          rw [if_neg h1, if_neg h2, if_neg h3, if_neg h4, if_neg (by omega), ← hf, ← he, hu]
          rfl
        clear hx hu
        go_wp2
        go_round
        case rel => exact ⟨i + 1, a, f, by omega, by go_num, rfl, rfl, by rw [HN.out, HS.out]⟩
        case measure => simp [intOf]; omega
    · have hli : ¬ (i : Int) < (S.size : Int) := by omega
      have HF : Hid (wfo (txt S) = (a, d)) := by
        have := HW.out
        rw [List.take_of_length_le (by rw [HL.out]; omega)] at this
        exact this
      clear HW
      by_cases hz : 0 < S.size
      · have hzi : (0 : Int) < (S.size : Int) := by omega
        have HG : Hid ((S[0]'hz).toNat = (txt S).getD 0 0) := get_txt S 0 hz
        obtain ⟨x, hx⟩ : ∃ x, x = (txt S).getD 0 0 := ⟨_, rfl⟩
        have hxs : ((S[0]'hz).toNat : Int) = (x : Int) := by rw [HG.out, hx]
        have hxb : x < 256 := by rw [hx, ← HG.out]; exact (S[0]'hz).toNat_lt
        have HH : Hid ((txt S).head? = some x) := by
          unfold Hid
          have hl : 0 < (txt S).length := by rw [HL.out]; exact hz
          rw [hx]
          cases ht : txt S with
          | nil => rw [ht] at hl; simp at hl
          | cons c l => rfl
        clear hx HG
        by_cases h45 : x = 45
        · have k1 : ((x : Int) == 45) = true := by rw [h45]; rfl
          obtain ⟨f, hf⟩ : ∃ f, IntKind.i64.wrap (-a) = f := ⟨_, rfl⟩
          have HR : Hid (worthN (txt S) = f) := by unfold Hid worthN; rw [HH.out, h45, if_pos rfl, HF.out, ← hf]; rfl
          clear h45 HH HF
          go_wp2
          go_ret
          exact ⟨by rw [HR.out]; rfl, rfl⟩
        · have k1 : ((x : Int) == 45) = false := by rw [beq_eq_false_iff_ne]; omega
          have HR : Hid (worthN (txt S) = a) := by unfold Hid worthN; rw [HH.out, if_neg (by simpa using h45), HF.out]
          clear h45 HH HF
          go_wp2
          go_ret
          exact ⟨by rw [HR.out]; rfl, rfl⟩
      · have hzi : ¬ (0 : Int) < (S.size : Int) := by omega
        have HR : Hid (worthN (txt S) = a) := by
          have hn : txt S = [] := List.eq_nil_of_length_eq_zero (by rw [HL.out]; omega)
          have := HF.out
          unfold Hid worthN
          rw [hn] at this ⊢
          rw [if_neg (by simp), this]
        clear HF
        go_wp2
        go_ret
        exact ⟨by rw [HR.out]; rfl, rfl⟩
end Go.Proofs.YtfgdfdjoidpejabDoor
