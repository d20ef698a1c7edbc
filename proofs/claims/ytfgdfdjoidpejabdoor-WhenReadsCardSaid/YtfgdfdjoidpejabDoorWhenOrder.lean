/-
  Layer 5's plain mathematics, further: a date's text is of the form and has its numbers; later moments have greater texts; days behind one another, weeks.
-/
import Derived.Test.YtfgdfdjoidpejabDoorWhenForm
import Derived.Test.YtfgdfdjoidpejabDoorWhenText
namespace Go.Proofs.YtfgdfdjoidpejabDoor
open Go.ChangeShapes Go.WideShapes Go.ChangeAt Go.RowKit
set_option linter.unusedVariables false
set_option linter.unusedSimpArgs false
theorem ok_small {y mo d h mi s : Nat} (hk : OkD y mo d h mi s) : 1 ≤ y ∧ y ≤ 9999 ∧ mo ≤ 12 ∧ d ≤ 31 ∧ h ≤ 23 ∧ mi ≤ 59 ∧ s ≤ 59 := by
  obtain ⟨y1, y2, m1, m2, d1, d2, h6, h7, h8⟩ := hk
  have := (len_bound y mo).2
  exact ⟨y1, y2, m2, by omega, h6, h7, h8⟩
theorem form_text {y mo d h mi s : Nat} (hk : OkD y mo d h mi s) : PForm (textN y mo d h mi s) ∧ arrAt (textN y mo d h mi s) 20 = [y, mo, d, h, mi, s] := by
  obtain ⟨y1, y2, m2, d2, h6, h7, h8⟩ := ok_small hk
  refine ⟨⟨rfl, fun j hj => ?_⟩, ?_⟩
  · match j, hj with
    | 0, _ | 1, _ | 2, _ | 3, _ | 5, _ | 6, _ | 8, _ | 9, _ | 11, _ | 12, _ | 14, _ | 15, _ | 17, _ | 18, _ =>
      simp only [letOk, signAt, textN, twoN]
      simp
      omega
    | 4, _ | 7, _ | 10, _ | 13, _ | 16, _ | 19, _ => exact rfl
    | n + 20, hn => exact absurd hn (by omega)
  · simp only [arrAt, textN, twoN]
    simp [numF]
    omega
/-- Dates in order. -/
def LexD (y mo d h mi s y' mo' d' h' mi' s' : Nat) : Prop :=
  y < y' ∨ y = y' ∧ (mo < mo' ∨ mo = mo' ∧ (d < d' ∨ d = d' ∧ (h < h' ∨ h = h' ∧ (mi < mi' ∨ mi = mi' ∧ s < s'))))
theorem sec_lex {y mo d h mi s y' mo' d' h' mi' s' : Nat} (hk : OkD y mo d h mi s) (hk' : OkD y' mo' d' h' mi' s') (hl : secN y mo d h mi s < secN y' mo' d' h' mi' s') : LexD y mo d h mi s y' mo' d' h' mi' s' := by
  obtain ⟨p1, p2, p3, p4, -⟩ := day_parts hk
  obtain ⟨q1, q2, q3, q4, -⟩ := day_parts hk'
  obtain ⟨y1, y2, m1, m2, d1, d2, h6, h7, h8⟩ := hk
  obtain ⟨y1', y2', m1', m2', d1', d2', h6', h7', h8'⟩ := hk'
  unfold secN at hl
  have hd : dayN y mo d ≤ dayN y' mo' d' := by omega
  unfold LexD
  rcases Nat.lt_trichotomy y y' with c | c | c
  · exact .inl c
  · subst c
    refine .inr ⟨rfl, ?_⟩
    rcases Nat.lt_trichotomy mo mo' with c | c | c
    · exact .inl c
    · subst c
      refine .inr ⟨rfl, ?_⟩
      have e : dayN y mo d' = dayN y mo d + d' - d := by unfold dayN; omega
      rcases Nat.lt_trichotomy d d' with c | c | c
      · exact .inl c
      · subst c
        refine .inr ⟨rfl, ?_⟩
        omega
      · exfalso
        unfold dayN at hd
        omega
    · exfalso
      have := dmk_mono y (a := mo' - 1 + 1) (b := mo - 1) (by omega)
      unfold dayN at *
      omega
  · exfalso
    have := dbk_mono (a := y' - 1 + 1) (b := y - 1) (by omega)
    omega
theorem lex_app {l m : List Nat} (a b : List Nat) (hl : l.length = m.length) (h : l < m) : l ++ a < m ++ b := by
  induction l generalizing m with
  | nil =>
    cases m with
    | nil => exact absurd h (by simp)
    | cons y m => simp at hl
  | cons x l ih =>
    cases m with
    | nil => simp at hl
    | cons y m =>
      rw [List.cons_append, List.cons_append]
      rcases List.cons_lt_cons_iff.1 h with h | ⟨h1, h2⟩
      · exact List.cons_lt_cons_iff.2 (.inl h)
      · exact List.cons_lt_cons_iff.2 (.inr ⟨h1, ih (by simpa using hl) h2⟩)
theorem lex_same (l : List Nat) {a b : List Nat} (h : a < b) : l ++ a < l ++ b := by
  induction l with
  | nil => exact h
  | cons x l ih => exact List.cons_lt_cons_iff.2 (.inr ⟨rfl, ih⟩)
theorem two_lt {n m : Nat} (h : n < m) (hm : m < 100) : twoN n < twoN m := by
  unfold twoN
  by_cases hq : n / 10 = m / 10
  · refine List.cons_lt_cons_iff.2 (.inr ⟨by rw [hq], List.cons_lt_cons_iff.2 (.inl (by omega))⟩)
  · exact List.cons_lt_cons_iff.2 (.inl (by omega))
theorem two_len (n : Nat) : (twoN n).length = 2 := rfl
theorem text_lex {y mo d h mi s y' mo' d' h' mi' s' : Nat} (hk : OkD y mo d h mi s) (hk' : OkD y' mo' d' h' mi' s') (hl : LexD y mo d h mi s y' mo' d' h' mi' s') : textN y mo d h mi s < textN y' mo' d' h' mi' s' := by
  obtain ⟨a1, a2, a3, a4, a5, a6, a7⟩ := ok_small hk
  obtain ⟨b1, b2, b3, b4, b5, b6, b7⟩ := ok_small hk'
  unfold textN
  simp only [List.append_assoc]
  rcases hl with c | ⟨rfl, c⟩
  · by_cases hq : y / 100 = y' / 100
    · rw [hq]
      exact lex_same _ (lex_app _ _ rfl (two_lt (by omega) (by omega)))
    · exact lex_app _ _ rfl (two_lt (by omega) (by omega))
  refine lex_same _ (lex_same _ (lex_same _ ?_))
  rcases c with c | ⟨rfl, c⟩
  · exact lex_app _ _ rfl (two_lt c (by omega))
  refine lex_same _ (lex_same _ ?_)
  rcases c with c | ⟨rfl, c⟩
  · exact lex_app _ _ rfl (two_lt c (by omega))
  refine lex_same _ (lex_same _ ?_)
  rcases c with c | ⟨rfl, c⟩
  · exact lex_app _ _ rfl (two_lt c (by omega))
  refine lex_same _ (lex_same _ ?_)
  rcases c with c | ⟨rfl, c⟩
  · exact lex_app _ _ rfl (two_lt c (by omega))
  refine lex_same _ (lex_same _ ?_)
  exact lex_app _ _ rfl (two_lt c (by omega))
/-- Of seconds in a row. -/
theorem sec_parts {y mo d h mi s : Nat} (hk : OkD y mo d h mi s) : s = secN y mo d h mi s % 60 ∧ h = secN y mo d h mi s % 86400 / 3600 := by
  obtain ⟨a1, a2, a3, a4, a5, a6, a7⟩ := ok_small hk
  unfold secN
  omega
/-- Days. -/
theorem days_small {t n : Int} (h0 : -62135596800 ≤ t) (h1 : t ≤ 253402300799) (n0 : -1000000 ≤ n) (n1 : n ≤ 1000000) : daysN t n = clampN (t + n * 86400) := by
  unfold daysN
  rw [clamp_in h0 h1, sat_in (x := n * 86400) (by omega) (by omega), sat_in (by omega) (by omega)]
theorem days_add {t a b : Int} (h0 : -62135596800 ≤ t) (h1 : t ≤ 253402300799) (a0 : 0 ≤ a) (a1 : a ≤ 65535) (b0 : 0 ≤ b) (b1 : b ≤ 65535) : daysN (daysN t a) b = daysN t (a + b) := by
  have hc := clamp_bound (t + a * 86400)
  rw [days_small h0 h1 (by omega) (by omega), days_small hc.1 hc.2 (by omega) (by omega), days_small h0 h1 (by omega) (by omega)]
  unfold clampN
  repeat' split
  all_goals omega
theorem days_back {t : Int} (h0 : -62135596800 ≤ t) (h1 : t ≤ 253402300799) : daysN t (-7) ≤ t := by
  rw [days_small h0 h1 (by decide) (by decide)]
  unfold clampN
  repeat' split
  all_goals omega
theorem days_week {t : Int} (h0 : -62135596800 ≤ t) (h1 : t ≤ 253402300799) : daysN t 7 = if t + 604800 ≤ 253402300799 then t + 604800 else 253402300799 := by
  rw [days_small h0 h1 (by decide) (by decide)]
  unfold clampN
  repeat' split
  all_goals omega
theorem week_same (t : Int) : weekN (t + 604800) = weekN t := by
  unfold weekN
  omega
end Go.Proofs.YtfgdfdjoidpejabDoor
