/-
  Layer 5's plain mathematics: days ahead of years and months, the seconds of a date, that no two dates have the same ones.
-/
import Derived.Test.YtoaegepphkocoaaRows
namespace Go.Proofs.Ytoaegepphkocoaa
set_option linter.unusedVariables false
set_option linter.unusedSimpArgs false
def leapN (y : Nat) : Bool := if y % 100 = 0 then y % 400 == 0 else y % 4 == 0
def yearN (y : Nat) : Nat := if leapN y then 366 else 365
def lenN (y m : Nat) : Nat := if m = 2 then (if leapN y then 29 else 28) else if m = 4 ∨ m = 6 ∨ m = 9 ∨ m = 11 then 30 else 31
/-- Days ahead of year k + 1; days ahead of month k + 1. -/
def dbk : Nat → Nat
  | 0 => 0
  | k + 1 => dbk k + yearN (k + 1)
def dmk (y : Nat) : Nat → Nat
  | 0 => 0
  | k + 1 => dmk y k + lenN y (k + 1)
theorem year_two (y : Nat) : yearN y = 365 ∨ yearN y = 366 := by unfold yearN; split <;> simp
theorem len_bound (y m : Nat) : 28 ≤ lenN y m ∧ lenN y m ≤ 31 := by
  unfold lenN
  repeat' split
  all_goals omega
theorem dmk_year (y : Nat) : dmk y 12 = yearN y := by
  simp only [dmk, lenN, yearN]
  cases leapN y <;> simp
theorem year_closed (y : Nat) : yearN y = 365 + (if y % 4 = 0 then 1 else 0) - (if y % 100 = 0 then 1 else 0) + (if y % 400 = 0 then 1 else 0) := by
  unfold yearN leapN
  by_cases h1 : y % 100 = 0
  · have h4 : y % 4 = 0 := by omega
    by_cases h2 : y % 400 = 0
    · simp [h1, h2, h4]
    · simp [h1, h2, h4]
  · have h2 : ¬ y % 400 = 0 := by omega
    by_cases h4 : y % 4 = 0
    · simp [h1, h2, h4]
    · simp [h1, h2, h4]
theorem dbk_closed : ∀ k, dbk k = 365 * k + k / 4 - k / 100 + k / 400
  | 0 => rfl
  | k + 1 => by
    rw [dbk, dbk_closed k, year_closed]
    have h1 : (k + 1) / 4 = k / 4 + (if (k + 1) % 4 = 0 then 1 else 0) := by split <;> omega
    have h2 : (k + 1) / 100 = k / 100 + (if (k + 1) % 100 = 0 then 1 else 0) := by split <;> omega
    have h3 : (k + 1) / 400 = k / 400 + (if (k + 1) % 400 = 0 then 1 else 0) := by split <;> omega
    have h4 : (if (k + 1) % 100 = 0 then 1 else 0) ≤ (if (k + 1) % 4 = 0 then 1 else 0) := by
      split
      · rw [if_pos (by omega)]; exact Nat.le_refl _
      · exact Nat.zero_le _
    have h5 : (if (k + 1) % 4 = 0 then 1 else 0) ≤ 1 := by split <;> omega
    generalize (if (k + 1) % 4 = 0 then 1 else 0) = u at *
    generalize (if (k + 1) % 100 = 0 then 1 else 0) = v at *
    generalize (if (k + 1) % 400 = 0 then 1 else 0) = x at *
    rw [h1, h2, h3]
    omega
theorem dbk_mono {a b : Nat} (h : a ≤ b) : dbk a + 365 * (b - a) ≤ dbk b := by
  induction b with
  | zero => have : a = 0 := by omega
            subst this; simp
  | succ b ih =>
    by_cases hb : a = b + 1
    · subst hb; simp
    · have := ih (by omega)
      rw [dbk]
      rcases year_two (b + 1) with h' | h' <;> omega
theorem dmk_mono (y : Nat) {a b : Nat} (h : a ≤ b) : dmk y a + 28 * (b - a) ≤ dmk y b := by
  induction b with
  | zero => have : a = 0 := by omega
            subst this; simp
  | succ b ih =>
    by_cases hb : a = b + 1
    · subst hb; simp
    · have := ih (by omega)
      have := (len_bound y (b + 1)).1
      rw [dmk]
      omega
/-- A day's number stands in one year, and in one month of it. -/
theorem year_one {a b N : Nat} (ha : dbk a ≤ N) (ha' : N < dbk (a + 1)) (hb : dbk b ≤ N) (hb' : N < dbk (b + 1)) : a = b := by
  rcases Nat.lt_trichotomy a b with h | h | h
  · have := dbk_mono (a := a + 1) (b := b) h; omega
  · exact h
  · have := dbk_mono (a := b + 1) (b := a) h; omega
theorem month_one {y a b N : Nat} (ha : dmk y a ≤ N) (ha' : N < dmk y (a + 1)) (hb : dmk y b ≤ N) (hb' : N < dmk y (b + 1)) : a = b := by
  rcases Nat.lt_trichotomy a b with h | h | h
  · have := dmk_mono y (a := a + 1) (b := b) h; omega
  · exact h
  · have := dmk_mono y (a := b + 1) (b := a) h; omega
/-- A date that there is, from year 1 on, and its seconds since then. -/
def OkD (y mo d h mi s : Nat) : Prop := 1 ≤ y ∧ y ≤ 9999 ∧ 1 ≤ mo ∧ mo ≤ 12 ∧ 1 ≤ d ∧ d ≤ lenN y mo ∧ h ≤ 23 ∧ mi ≤ 59 ∧ s ≤ 59
def dayN (y mo d : Nat) : Nat := dbk (y - 1) + dmk y (mo - 1) + (d - 1)
def secN (y mo d h mi s : Nat) : Nat := dayN y mo d * 86400 + (h * 3600 + mi * 60 + s)
theorem last_day : dbk 9999 = 3652059 := by rw [dbk_closed]
theorem day_parts {y mo d h mi s : Nat} (hk : OkD y mo d h mi s) : dbk (y - 1) ≤ dayN y mo d ∧ dayN y mo d < dbk (y - 1 + 1) ∧ dmk y (mo - 1) ≤ dayN y mo d - dbk (y - 1) ∧ dayN y mo d - dbk (y - 1) < dmk y (mo - 1 + 1) ∧ dayN y mo d < 3652059 := by
  obtain ⟨y1, y2, m1, m2, d1, d2, -⟩ := hk
  have e1 : dmk y (mo - 1 + 1) = dmk y (mo - 1) + lenN y mo := by rw [dmk, show mo - 1 + 1 = mo by omega]
  have e2 : dmk y mo ≤ dmk y 12 := by have := dmk_mono y m2; omega
  rw [show mo - 1 + 1 = mo by omega] at e1
  have e3 : dbk (y - 1 + 1) = dbk (y - 1) + yearN y := by rw [dbk, show y - 1 + 1 = y by omega]
  have e4 : dbk y ≤ dbk 9999 := by have := dbk_mono y2; omega
  rw [last_day] at e4
  rw [dmk_year] at e2
  rw [show y - 1 + 1 = y by omega] at e3
  rw [show mo - 1 + 1 = mo by omega, show y - 1 + 1 = y by omega]
  unfold dayN
  omega
theorem sec_lt {y mo d h mi s : Nat} (hk : OkD y mo d h mi s) : secN y mo d h mi s < 315537897600 := by
  have h1 := (day_parts hk).2.2.2.2
  obtain ⟨-, -, -, -, -, -, h6, h7, h8⟩ := hk
  unfold secN
  omega
theorem sec_one {y mo d h mi s y' mo' d' h' mi' s' : Nat} (hk : OkD y mo d h mi s) (hk' : OkD y' mo' d' h' mi' s') (he : secN y mo d h mi s = secN y' mo' d' h' mi' s') : y = y' ∧ mo = mo' ∧ d = d' ∧ h = h' ∧ mi = mi' ∧ s = s' := by
  obtain ⟨p1, p2, p3, p4, -⟩ := day_parts hk
  obtain ⟨q1, q2, q3, q4, -⟩ := day_parts hk'
  obtain ⟨y1, y2, m1, m2, d1, d2, h6, h7, h8⟩ := hk
  obtain ⟨y1', y2', m1', m2', d1', d2', h6', h7', h8'⟩ := hk'
  unfold secN at he
  have hd : dayN y mo d = dayN y' mo' d' := by omega
  have hy : y - 1 = y' - 1 := year_one p1 p2 (by rw [hd]; exact q1) (by rw [hd]; exact q2)
  have hyy : y = y' := by omega
  subst hyy
  have hm : mo - 1 = mo' - 1 := month_one p3 p4 (by rw [hd]; exact q3) (by rw [hd]; exact q4)
  have hmm : mo = mo' := by omega
  subst hmm
  unfold dayN at hd
  omega
/-- Any number of seconds is a date's. -/
theorem year_some (N : Nat) (k : Nat) (h : N < dbk k) : ∃ j, j < k ∧ dbk j ≤ N ∧ N < dbk (j + 1) := by
  induction k with
  | zero => simp [dbk] at h
  | succ k ih =>
    by_cases hk : N < dbk k
    · obtain ⟨j, h1, h2⟩ := ih hk
      exact ⟨j, by omega, h2⟩
    · exact ⟨k, by omega, by omega, h⟩
theorem month_some (y N : Nat) (k : Nat) (h : N < dmk y k) : ∃ j, j < k ∧ dmk y j ≤ N ∧ N < dmk y (j + 1) := by
  induction k with
  | zero => simp [dmk] at h
  | succ k ih =>
    by_cases hk : N < dmk y k
    · obtain ⟨j, h1, h2⟩ := ih hk
      exact ⟨j, by omega, h2⟩
    · exact ⟨k, by omega, by omega, h⟩
theorem date_of {T j i : Nat} (hj : dbk j ≤ T / 86400) (hj' : T / 86400 < dbk (j + 1)) (h9 : T < 315537897600) (hi : dmk (j + 1) i ≤ T / 86400 - dbk j) (hi' : T / 86400 - dbk j < dmk (j + 1) (i + 1)) :
    OkD (j + 1) (i + 1) (T / 86400 - dbk j - dmk (j + 1) i + 1) (T % 86400 / 3600) (T % 86400 % 3600 / 60) (T % 86400 % 60) ∧
    secN (j + 1) (i + 1) (T / 86400 - dbk j - dmk (j + 1) i + 1) (T % 86400 / 3600) (T % 86400 % 3600 / 60) (T % 86400 % 60) = T := by
  have hj9 : j < 9999 := by
    rcases Nat.lt_or_ge j 9999 with h | h
    · exact h
    · have := dbk_mono h
      rw [last_day] at this
      omega
  have hi12 : i < 12 := by
    rcases Nat.lt_or_ge i 12 with h | h
    · exact h
    · have := dmk_mono (j + 1) h
      rw [dmk_year] at this
      rw [dbk] at hj'
      omega
  rw [dmk] at hi'
  refine ⟨⟨by omega, by omega, by omega, by omega, by omega, by omega, by omega, by omega, by omega⟩, ?_⟩
  unfold secN dayN
  rw [show j + 1 - 1 = j by omega, show i + 1 - 1 = i by omega]
  generalize dbk j = a at *
  generalize dmk (j + 1) i = b at *
  omega
end Go.Proofs.Ytoaegepphkocoaa
