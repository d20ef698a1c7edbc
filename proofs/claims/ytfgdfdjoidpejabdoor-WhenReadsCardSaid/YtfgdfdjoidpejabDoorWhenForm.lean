/-
  The form of a moment's text: which letter may stand where, and the six numbers that its digits are: plain mathematics.
-/
import Derived.Test.YtfgdfdjoidpejabDoorWhenMath
namespace Go.Proofs.YtfgdfdjoidpejabDoor
set_option linter.unusedVariables false
set_option linter.unusedSimpArgs false
def signAt (i : Nat) : Nat := if i = 4 ∨ i = 7 then 45 else if i = 10 then 84 else if i = 13 ∨ i = 16 then 58 else if i = 19 then 90 else 0
def kAt (i : Nat) : Nat := [4, 7, 10, 13, 16, 19].countP (· < i)
def letOk (i c : Nat) : Prop := if signAt i = 0 then 48 ≤ c ∧ c ≤ 57 else c = signAt i
def numF (l : List Nat) (a : Nat) : Nat → Nat
  | 0 => 0
  | n + 1 => numF l a n * 10 + (l.getD (a + n) 0 - 48)
def arrAt (l : List Nat) (i : Nat) : List Nat := [numF l 0 (min i 4), numF l 5 (min (i - 5) 2), numF l 8 (min (i - 8) 2), numF l 11 (min (i - 11) 2), numF l 14 (min (i - 14) 2), numF l 17 (min (i - 17) 2)]
def PForm (l : List Nat) : Prop := l.length = 20 ∧ ∀ j, j < 20 → letOk j (l.getD j 0)
theorem numF_lt (l : List Nat) (a : Nat) : ∀ n, (∀ j, j < n → 48 ≤ l.getD (a + j) 0 ∧ l.getD (a + j) 0 ≤ 57) → numF l a n < 10 ^ n
  | 0, _ => by simp [numF]
  | n + 1, h => by
    have ih := numF_lt l a n (fun j hj => h j (by omega))
    have := h n (by omega)
    rw [numF, Nat.pow_succ]
    omega
theorem arr_len (l : List Nat) (i : Nat) : (arrAt l i).length = 6 := rfl
theorem arr_digit (l : List Nat) (i : Nat) (hi : i < 20) (hs : signAt i = 0) : kAt i < 6 ∧ kAt (i + 1) = kAt i ∧ arrAt l (i + 1) = (arrAt l i).set (kAt i) ((arrAt l i).getD (kAt i) 0 * 10 + (l.getD i 0 - 48)) := by
  match i, hi, hs with
  | 0, _, _ | 1, _, _ | 2, _, _ | 3, _, _ | 5, _, _ | 6, _, _ | 8, _, _ | 9, _, _ | 11, _, _ | 12, _, _ | 14, _, _ | 15, _, _ | 17, _, _ | 18, _, _ => exact ⟨by decide, by decide, rfl⟩
  | 4, _, h | 7, _, h | 10, _, h | 13, _, h | 16, _, h | 19, _, h => exact absurd h (by decide)
  | n + 20, hn, _ => exact absurd hn (by omega)
theorem arr_sign (l : List Nat) (i : Nat) (hi : i < 20) (hs : ¬ signAt i = 0) : kAt (i + 1) = kAt i + 1 ∧ arrAt l (i + 1) = arrAt l i := by
  match i, hi, hs with
  | 0, _, h | 1, _, h | 2, _, h | 3, _, h | 5, _, h | 6, _, h | 8, _, h | 9, _, h | 11, _, h | 12, _, h | 14, _, h | 15, _, h | 17, _, h | 18, _, h => exact absurd (by decide) h
  | 4, _, _ | 7, _, _ | 10, _, _ | 13, _, _ | 16, _, _ | 19, _, _ => exact ⟨by decide, rfl⟩
theorem let_digit {l : List Nat} {m : Nat} (h : ∀ j, j < m → letOk j (l.getD j 0)) (j : Nat) (hj : j < m) (hs : signAt j = 0) : 48 ≤ l.getD j 0 ∧ l.getD j 0 ≤ 57 := by
  have := h j hj
  unfold letOk at this
  rw [if_pos hs] at this
  exact this
theorem arr_small (l : List Nat) (i : Nat) (hi : i < 20) (hs : signAt i = 0) (h : ∀ j, j < i → letOk j (l.getD j 0)) : (arrAt l i).getD (kAt i) 0 ≤ 999 := by
  have hd := fun j hj hs => let_digit h j hj hs
  have key : ∀ a n : Nat, n ≤ 3 → a + n ≤ i → (∀ j, j < n → signAt (a + j) = 0) → numF l a n ≤ 999 := fun a n hn ha hz => by
    have h1 := numF_lt l a n (fun j hj => hd (a + j) (by omega) (hz j hj))
    have h2 : 10 ^ n ≤ 10 ^ 3 := Nat.pow_le_pow_right (by decide) hn
    omega
  match i, hi, hs, key with
  | 0, _, _, key => exact key 0 0 (by decide) (by decide) (fun j hj => by omega)
  | 1, _, _, key => exact key 0 1 (by decide) (by decide) (by decide)
  | 2, _, _, key => exact key 0 2 (by decide) (by decide) (by decide)
  | 3, _, _, key => exact key 0 3 (by decide) (by decide) (by decide)
  | 5, _, _, key => exact key 5 0 (by decide) (by decide) (fun j hj => by omega)
  | 6, _, _, key => exact key 5 1 (by decide) (by decide) (by decide)
  | 8, _, _, key => exact key 8 0 (by decide) (by decide) (fun j hj => by omega)
  | 9, _, _, key => exact key 8 1 (by decide) (by decide) (by decide)
  | 11, _, _, key => exact key 11 0 (by decide) (by decide) (fun j hj => by omega)
  | 12, _, _, key => exact key 11 1 (by decide) (by decide) (by decide)
  | 14, _, _, key => exact key 14 0 (by decide) (by decide) (fun j hj => by omega)
  | 15, _, _, key => exact key 14 1 (by decide) (by decide) (by decide)
  | 17, _, _, key => exact key 17 0 (by decide) (by decide) (fun j hj => by omega)
  | 18, _, _, key => exact key 17 1 (by decide) (by decide) (by decide)
  | 4, _, h, _ | 7, _, h, _ | 10, _, h, _ | 13, _, h, _ | 16, _, h, _ | 19, _, h, _ => exact absurd h (by decide)
  | n + 20, hn, _, _ => exact absurd hn (by omega)
theorem form_bad {l : List Nat} (j : Nat) (hj : j < 20) (h : ¬ letOk j (l.getD j 0)) : ¬ PForm l := fun hf => h (hf.2 j hj)
theorem sign_cases (i : Nat) (hi : i < 20) : signAt i = 0 ∨ i = 4 ∨ i = 7 ∨ i = 10 ∨ i = 13 ∨ i = 16 ∨ i = 19 := by
  unfold signAt
  repeat' split
  all_goals omega
theorem sign_no {i : Nat} (h : signAt i = 0) : i ≠ 4 ∧ i ≠ 7 ∧ i ≠ 10 ∧ i ≠ 13 ∧ i ≠ 16 ∧ i ≠ 19 := by
  refine ⟨?_, ?_, ?_, ?_, ?_, ?_⟩ <;> (intro e; rw [e] at h; exact absurd h (by decide))
end Go.Proofs.YtfgdfdjoidpejabDoor
