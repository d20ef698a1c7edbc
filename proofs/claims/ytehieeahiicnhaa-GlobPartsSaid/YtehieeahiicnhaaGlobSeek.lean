/-
  Plain mathematics of seeking a match with the last star alone.
-/
import Derived.Test.YtehieeahiicnhaaGlobBool
namespace Go.Proofs.Ytehieeahiicnhaa
set_option linter.unusedVariables false
set_option linter.unusedSimpArgs false
/-- Whether the pieces from k on match the text from i on. -/
def mAt (ps : List (Nat × Nat)) (s : List Nat) (k i : Nat) : Bool := matchP (ps.drop k) (s.drop i)
/-- Whether a piece that is just one byte may be a certain one. -/
def fitN (p : Nat × Nat) (c : Nat) : Bool := p.1 == 1 || p.1 == 0 && p.2 == c
theorem mAt_star {ps : List (Nat × Nat)} {s : List Nat} {k i : Nat} (hk : k < ps.length) (h2 : (ps.getD k (0, 0)).1 = 2) (hi : i ≤ s.length) : mAt ps s k i = true ↔ ∃ j, i ≤ j ∧ j ≤ s.length ∧ mAt ps s (k + 1) j = true := by
  unfold mAt
  rw [dropP_cons ps k hk, match_star _ _ _ h2]
  constructor
  · rintro ⟨j, hj, h⟩
    rw [List.length_drop] at hj
    rw [List.drop_drop] at h
    exact ⟨i + j, by omega, by omega, h⟩
  · rintro ⟨j, h1, h3, h⟩
    refine ⟨j - i, by rw [List.length_drop]; omega, ?_⟩
    rw [List.drop_drop, show i + (j - i) = j by omega]
    exact h
theorem mAt_one {ps : List (Nat × Nat)} {s : List Nat} {k i : Nat} (hk : k < ps.length) (h2 : (ps.getD k (0, 0)).1 ≠ 2) (hle : (ps.getD k (0, 0)).1 ≤ 2) (hi : i < s.length) : mAt ps s k i = (fitN (ps.getD k (0, 0)) (s.getD i 0) && mAt ps s (k + 1) (i + 1)) := by
  unfold mAt fitN
  rw [dropP_cons ps k hk]
  generalize ps.getD k (0, 0) = p at *
  obtain ⟨a, b⟩ := p
  have e := match_step_one (a, b) (ps.drop (k + 1)) s i h2 hi
  rw [e]
  have : a = 0 ∨ a = 1 := by simp at h2 hle; omega
  generalize matchP (ps.drop (k + 1)) (s.drop (i + 1)) = m
  rcases this with rfl | rfl <;> simp [Bool.and_comm]
theorem mAt_short {ps : List (Nat × Nat)} {s : List Nat} {k i : Nat} (hk : k < ps.length) (h2 : (ps.getD k (0, 0)).1 ≠ 2) (hi : s.length ≤ i) : mAt ps s k i = false := by
  unfold mAt
  rw [dropP_cons ps k hk, List.drop_eq_nil_of_le hi, matchP, if_neg h2]
  rfl
theorem mAt_end {ps : List (Nat × Nat)} {s : List Nat} {k i : Nat} (hk : ps.length ≤ k) : mAt ps s k i = (s.drop i).isEmpty := by
  unfold mAt
  rw [List.drop_eq_nil_of_le hk, matchP]
/-- Stars side by side are as one. -/
theorem mAt_stars {ps : List (Nat × Nat)} {s : List Nat} : ∀ (m k i : Nat), k + m + 1 ≤ ps.length → (∀ d, d ≤ m → (ps.getD (k + d) (0, 0)).1 = 2) → i ≤ s.length → (mAt ps s k i = true ↔ ∃ j, i ≤ j ∧ j ≤ s.length ∧ mAt ps s (k + m + 1) j = true)
  | 0, k, i, hk, h, hi => mAt_star (by omega) (h 0 (Nat.le_refl _)) hi
  | m + 1, k, i, hk, h, hi => by
    have h00 : (ps.getD k (0, 0)).1 = 2 := h 0 (Nat.zero_le _)
    rw [mAt_star (by omega) h00 hi]
    have ih := fun j hj => mAt_stars (ps := ps) (s := s) m (k + 1) j (by omega) (fun d hd => by have := h (d + 1) (by omega); rwa [show k + (d + 1) = k + 1 + d by omega] at this) hj
    rw [show k + (m + 1) + 1 = k + 1 + m + 1 by omega]
    constructor
    · rintro ⟨j, h1, h2, h3⟩
      obtain ⟨j2, h4, h5, h6⟩ := (ih j h2).1 h3
      exact ⟨j2, by omega, h5, h6⟩
    · rintro ⟨j, h1, h2, h3⟩
      exact ⟨j, h1, h2, (ih j h2).2 ⟨j, Nat.le_refl _, h2, h3⟩⟩
/-- All that is left are stars: the empty rest matches. -/
theorem mAt_nil {ps : List (Nat × Nat)} {s : List Nat} : ∀ (m k i : Nat), ps.length = k + m → s.length ≤ i → (∀ d, d < m → (ps.getD (k + d) (0, 0)).1 = 2) → mAt ps s k i = true
  | 0, k, i, hk, hi, _ => by rw [mAt_end (by omega), List.drop_eq_nil_of_le hi]; rfl
  | m + 1, k, i, hk, hi, h => by
    have ih := mAt_nil (ps := ps) (s := s) m (k + 1) i (by omega) hi (fun d hd => by have := h (d + 1) (by omega); rwa [show k + (d + 1) = k + 1 + d by omega] at this)
    unfold mAt at ih ⊢
    have h00 : (ps.getD k (0, 0)).1 = 2 := h 0 (by omega)
    rw [dropP_cons ps k (by omega), match_star _ _ _ h00]
    exact ⟨0, Nat.zero_le _, ih⟩
theorem mAt_not_nil {ps : List (Nat × Nat)} {s : List Nat} : ∀ (m k i : Nat), k + m < ps.length → s.length ≤ i → (∀ d, d < m → (ps.getD (k + d) (0, 0)).1 = 2) → (ps.getD (k + m) (0, 0)).1 ≠ 2 → mAt ps s k i = false
  | 0, k, i, hk, hi, _, h2 => mAt_short (by omega) h2 hi
  | m + 1, k, i, hk, hi, h, h2 => by
    have ih := mAt_not_nil (ps := ps) (s := s) m (k + 1) i (by omega) hi (fun d hd => by have := h (d + 1) (by omega); rwa [show k + (d + 1) = k + 1 + d by omega] at this) (by rwa [show k + 1 + m = k + (m + 1) by omega])
    unfold mAt at ih ⊢
    rw [List.drop_eq_nil_of_le hi] at ih ⊢
    have h00 : (ps.getD k (0, 0)).1 = 2 := h 0 (by omega)
    rw [dropP_cons ps k (by omega), matchP, if_pos h00, starM]
    exact ih
/-- m bytes were matched one by one. -/
def Steps (ps : List (Nat × Nat)) (s : List Nat) (r f m : Nat) : Prop := r + m ≤ ps.length ∧ f + m ≤ s.length ∧ ∀ d, d < m → (ps.getD (r + d) (0, 0)).1 ≠ 2 ∧ fitN (ps.getD (r + d) (0, 0)) (s.getD (f + d) 0) = true
theorem Steps.back {ps : List (Nat × Nat)} {s : List Nat} (hle : ∀ q ∈ ps, q.1 ≤ 2) : ∀ (m r f : Nat), Steps ps s r f m → mAt ps s r f = mAt ps s (r + m) (f + m)
  | 0, r, f, _ => rfl
  | m + 1, r, f, ⟨h1, h2, h3⟩ => by
    have hm : ps.getD r (0, 0) ∈ ps := by rw [List.getD_eq_getElem?_getD, List.getElem?_eq_getElem (by omega)]; exact List.getElem_mem _
    obtain ⟨g1, g2⟩ := h3 0 (by omega)
    rw [Nat.add_zero, Nat.add_zero] at g2
    rw [Nat.add_zero] at g1
    rw [mAt_one (by omega) g1 (hle _ hm) (by omega), g2, Bool.true_and, Steps.back hle m (r + 1) (f + 1) ⟨by omega, by omega, fun d hd => by have := h3 (d + 1) (by omega); rwa [show r + (d + 1) = r + 1 + d by omega, show f + (d + 1) = f + 1 + d by omega] at this⟩, show r + 1 + m = r + (m + 1) by omega, show f + 1 + m = f + (m + 1) by omega]
/-- A match of pieces that begin with m single ones goes on behind m bytes. -/
theorem mAt_go {ps : List (Nat × Nat)} {s : List Nat} (hle : ∀ q ∈ ps, q.1 ≤ 2) : ∀ (m r j : Nat), r + m ≤ ps.length → (∀ d, d < m → (ps.getD (r + d) (0, 0)).1 ≠ 2) → j ≤ s.length → mAt ps s r j = true → j + m ≤ s.length ∧ mAt ps s (r + m) (j + m) = true
  | 0, r, j, _, _, hj, h => ⟨hj, h⟩
  | m + 1, r, j, hr, h2, hj, h => by
    have hm : ps.getD r (0, 0) ∈ ps := by rw [List.getD_eq_getElem?_getD, List.getElem?_eq_getElem (by omega)]; exact List.getElem_mem _
    have g1 := h2 0 (by omega)
    rw [Nat.add_zero] at g1
    by_cases hlt : j < s.length
    · rw [mAt_one (by omega) g1 (hle _ hm) hlt, Bool.and_eq_true] at h
      obtain ⟨a, b⟩ := mAt_go hle m (r + 1) (j + 1) (by omega) (fun d hd => by have := h2 (d + 1) (by omega); rwa [show r + (d + 1) = r + 1 + d by omega] at this) (by omega) h.2
      exact ⟨by omega, by rwa [show r + (m + 1) = r + 1 + m by omega, show j + (m + 1) = j + 1 + m by omega]⟩
    · rw [mAt_short (by omega) g1 (by omega)] at h
      cases h
/-- What stays true while a match is sought. -/
def Seek (ps : List (Nat × Nat)) (s : List Nat) (met : Bool) (r f k i : Nat) : Prop :=
  if met then (∃ m, k = r + m ∧ i = f + m ∧ Steps ps s r f m) ∧ (mAt ps s 0 0 = true ↔ ∃ j, f ≤ j ∧ j ≤ s.length ∧ mAt ps s r j = true)
  else mAt ps s 0 0 = mAt ps s k i
theorem Seek.start (ps : List (Nat × Nat)) (s : List Nat) (r f : Nat) : Seek ps s false r f 0 0 := rfl
/-- While i is within the text, and the pieces from k on begin with stars up to k'. -/
theorem Seek.star {ps : List (Nat × Nat)} {s : List Nat} (hle : ∀ q ∈ ps, q.1 ≤ 2) {met : Bool} {r f k i k' : Nat} (h : Seek ps s met r f k i) (hi : i ≤ s.length) (hk : k < k') (hk' : k' ≤ ps.length) (hst : ∀ j, k ≤ j → j < k' → (ps.getD j (0, 0)).1 = 2) : Seek ps s true k' i k' i := by
  have e := mAt_stars (ps := ps) (s := s) (k' - k - 1) k
  rw [show k + (k' - k - 1) + 1 = k' by omega] at e
  have e' := fun j hj => e j hk' (fun d hd => hst _ (by omega) (by omega)) hj
  refine ⟨⟨0, rfl, rfl, by omega, by omega, fun d hd => by omega⟩, ?_⟩
  cases met with
  | false =>
    have h : mAt ps s 0 0 = mAt ps s k i := h
    rw [h]
    exact e' i hi
  | true =>
    obtain ⟨⟨m, rfl, rfl, hs⟩, hx⟩ := (h : (∃ m, k = r + m ∧ i = f + m ∧ Steps ps s r f m) ∧ _)
    rw [hx]
    constructor
    · rintro ⟨j, h1, h2, h3⟩
      obtain ⟨g1, g2⟩ := mAt_go hle m r j hs.1 (fun d hd => (hs.2.2 d hd).1) h2 h3
      obtain ⟨j2, g3, g4, g5⟩ := (e' _ g1).1 g2
      exact ⟨j2, by omega, g4, g5⟩
    · rintro hj
      refine ⟨f, Nat.le_refl _, by omega, ?_⟩
      rw [Steps.back hle m r f hs]
      exact (e' _ hi).2 hj
theorem Seek.fit {ps : List (Nat × Nat)} {s : List Nat} (hle : ∀ q ∈ ps, q.1 ≤ 2) {met : Bool} {r f k i : Nat} (h : Seek ps s met r f k i) (hi : i < s.length) (hk : k < ps.length) (h2 : (ps.getD k (0, 0)).1 ≠ 2) (hf : fitN (ps.getD k (0, 0)) (s.getD i 0) = true) : Seek ps s met r f (k + 1) (i + 1) := by
  have hm : ps.getD k (0, 0) ∈ ps := by rw [List.getD_eq_getElem?_getD, List.getElem?_eq_getElem hk]; exact List.getElem_mem _
  cases met with
  | false =>
    have h : mAt ps s 0 0 = mAt ps s k i := h
    show mAt ps s 0 0 = mAt ps s (k + 1) (i + 1)
    rw [h, mAt_one hk h2 (hle _ hm) hi, hf, Bool.true_and]
  | true =>
    obtain ⟨⟨m, rfl, rfl, hs⟩, hx⟩ := (h : (∃ m, k = r + m ∧ i = f + m ∧ Steps ps s r f m) ∧ _)
    refine ⟨⟨m + 1, rfl, rfl, by omega, by omega, fun d hd => ?_⟩, hx⟩
    by_cases hd' : d < m
    · exact hs.2.2 d hd'
    · obtain rfl : d = m := by omega
      exact ⟨h2, hf⟩
/-- Where it fits no more. -/
theorem mAt_stuck {ps : List (Nat × Nat)} {s : List Nat} (hle : ∀ q ∈ ps, q.1 ≤ 2) {k i : Nat} (hi : i < s.length) (h : k < ps.length → (ps.getD k (0, 0)).1 ≠ 2 ∧ fitN (ps.getD k (0, 0)) (s.getD i 0) = false) : mAt ps s k i = false := by
  by_cases hk : k < ps.length
  · have hm : ps.getD k (0, 0) ∈ ps := by rw [List.getD_eq_getElem?_getD, List.getElem?_eq_getElem hk]; exact List.getElem_mem _
    rw [mAt_one hk (h hk).1 (hle _ hm) hi, (h hk).2, Bool.false_and]
  · rw [mAt_end (by omega), List.drop_eq_getElem_cons hi]
    rfl
theorem Seek.again {ps : List (Nat × Nat)} {s : List Nat} (hle : ∀ q ∈ ps, q.1 ≤ 2) {r f k i : Nat} (h : Seek ps s true r f k i) (hi : i < s.length) (hno : mAt ps s k i = false) : Seek ps s true r (f + 1) r (f + 1) := by
  obtain ⟨⟨m, rfl, rfl, hs⟩, hx⟩ := (h : (∃ m, k = r + m ∧ i = f + m ∧ Steps ps s r f m) ∧ _)
  have hrl := hs.1
  refine ⟨⟨0, rfl, rfl, by omega, by omega, fun d hd => by omega⟩, ?_⟩
  rw [hx]
  constructor
  · rintro ⟨j, h1, h2, h3⟩
    by_cases hj : j = f
    · subst hj
      rw [Steps.back hle m r j hs, hno] at h3
      cases h3
    · exact ⟨j, by omega, h2, h3⟩
  · rintro ⟨j, h1, h2, h3⟩
    exact ⟨j, by omega, h2, h3⟩
theorem Seek.none {ps : List (Nat × Nat)} {s : List Nat} {r f k i : Nat} (h : Seek ps s false r f k i) (hno : mAt ps s k i = false) : mAt ps s 0 0 = false := (h : mAt ps s 0 0 = mAt ps s k i).trans hno
theorem Seek.done {ps : List (Nat × Nat)} {s : List Nat} (hle : ∀ q ∈ ps, q.1 ≤ 2) {met : Bool} {r f k i : Nat} (h : Seek ps s met r f k i) (hi : i = s.length) : mAt ps s 0 0 = mAt ps s k i := by
  cases met with
  | false => exact h
  | true =>
    obtain ⟨⟨m, rfl, rfl, hs⟩, hx⟩ := (h : (∃ m, k = r + m ∧ i = f + m ∧ Steps ps s r f m) ∧ _)
    rw [Bool.eq_iff_iff, hx, ← Steps.back hle m r f hs]
    constructor
    · rintro ⟨j, h1, h2, h3⟩
      obtain ⟨g1, g2⟩ := mAt_go hle m r j hs.1 (fun d hd => (hs.2.2 d hd).1) h2 h3
      obtain rfl : j = f := by omega
      exact h3
    · intro h3
      exact ⟨f, Nat.le_refl _, by omega, h3⟩
theorem Seek.le {ps : List (Nat × Nat)} {s : List Nat} {r f k i : Nat} (h : Seek ps s true r f k i) : r ≤ k ∧ f ≤ i := by
  obtain ⟨⟨m, rfl, rfl, hs⟩, hx⟩ := (h : (∃ m, k = r + m ∧ i = f + m ∧ Steps ps s r f m) ∧ _)
  omega
end Go.Proofs.Ytehieeahiicnhaa
