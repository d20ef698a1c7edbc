/-
  Frames as lists of numbers, whatever the sum is (S): what is put, what is told of any bytes, all that are told. (Plain; made ahead for layer 11.)
-/
import Derived.Test.YtaahmpabhophfaaDoorRows
namespace Go.Proofs.YtaahmpabhophfaaDoor
set_option linter.unusedVariables false
set_option linter.unusedSimpArgs false
def be4 (n : Nat) : List Nat := [n / 16777216 % 256, n / 65536 % 256, n / 256 % 256, n % 256]
def val4 (l : List Nat) : Nat := ((l.getD 0 0 * 256 + l.getD 1 0) * 256 + l.getD 2 0) * 256 + l.getD 3 0
theorem be4_len (n : Nat) : (be4 n).length = 4 := rfl
theorem be4_lt (n : Nat) : ∀ c ∈ be4 n, c < 256 := by
  intro c hc
  simp [be4] at hc
  rcases hc with rfl | rfl | rfl | rfl <;> exact Nat.mod_lt _ (by decide)
theorem val_be4 (n : Nat) (h : n < 4294967296) : val4 (be4 n) = n := by
  simp [val4, be4]
  omega
theorem be4_val (l : List Nat) (hl : l.length = 4) (hb : ∀ c ∈ l, c < 256) : be4 (val4 l) = l := by
  match l, hl with
  | [a, b, c, d], _ =>
    have ha := hb a (by simp)
    have hb' := hb b (by simp)
    have hc := hb c (by simp)
    have hd := hb d (by simp)
    simp [val4, be4]
    omega
theorem be4_inj {m n : Nat} (hm : m < 4294967296) (hn : n < 4294967296) (h : be4 m = be4 n) : m = n := by
  have := congrArg val4 h
  rwa [val_be4 m hm, val_be4 n hn] at this
section
variable (S : List Nat → Nat)
def frN (b : List Nat) : List Nat := be4 b.length ++ (be4 (S b) ++ b)
theorem frN_len (b : List Nat) : (frN S b).length = 8 + b.length := by
  unfold frN
  rw [List.length_append, List.length_append, be4_len, be4_len]; omega
/-- What First tells: the bytes, how many the frame has, the error. -/
def firstN (s : List Nat) : List Nat × Nat × Nat :=
  if s.length < 8 then ([], 0, 3) else if 16384 < val4 (s.take 4) then ([], 0, 2) else if s.length - 8 < val4 (s.take 4) then ([], 0, 3)
  else if be4 (S ((s.drop 8).take (val4 (s.take 4)))) = (s.drop 4).take 4 then ((s.drop 8).take (val4 (s.take 4)), 8 + val4 (s.take 4), 0) else ([], 0, 2)
theorem take4 (b t : List Nat) : (frN S b ++ t).take 4 = be4 b.length := by
  unfold frN
  rw [List.append_assoc, List.take_append_of_le_length (by rw [be4_len]; omega), List.take_of_length_le (by rw [be4_len]; omega)]
theorem drop4 (b t : List Nat) : (frN S b ++ t).drop 4 = be4 (S b) ++ (b ++ t) := by
  unfold frN
  have := List.drop_left (l₁ := be4 b.length) (l₂ := (be4 (S b) ++ b) ++ t)
  rw [be4_len] at this
  rw [List.append_assoc, this, List.append_assoc]
theorem drop8 (b t : List Nat) : (frN S b ++ t).drop 8 = b ++ t := by
  rw [show 8 = 4 + 4 by rfl, ← List.drop_drop, drop4]
  have := List.drop_left (l₁ := be4 (S b)) (l₂ := b ++ t)
  rwa [be4_len] at this
/-- A frame is told, whatever stands behind it. -/
theorem first_put (b t : List Nat) (hb : b.length ≤ 16384) : firstN S (frN S b ++ t) = (b, 8 + b.length, 0) := by
  have hl : (frN S b ++ t).length = 8 + b.length + t.length := by rw [List.length_append, frN_len]
  have hv : val4 ((frN S b ++ t).take 4) = b.length := by rw [take4, val_be4 _ (by omega)]
  unfold firstN
  rw [hv, drop8, drop4, if_neg (by omega), if_neg (by omega), if_neg (by omega), List.take_left]
  have e : (be4 (S b) ++ (b ++ t)).take 4 = be4 (S b) := by
    have := List.take_left (l₁ := be4 (S b)) (l₂ := b ++ t)
    rwa [be4_len] at this
  rw [if_pos e.symm]
/-- Of a part of a frame nothing is told. -/
theorem first_torn (b : List Nat) (hb : b.length ≤ 16384) (k : Nat) (hk : k < 8 + b.length) : firstN S ((frN S b).take k) = ([], 0, 3) := by
  have hl : ((frN S b).take k).length = k := by rw [List.length_take, frN_len]; omega
  unfold firstN
  rw [hl]
  by_cases h8 : k < 8
  · rw [if_pos h8]
  · have ht : ((frN S b).take k).take 4 = be4 b.length := by
      rw [List.take_take, Nat.min_eq_left (by omega)]
      have := take4 S b []
      rwa [List.append_nil] at this
    rw [ht, val_be4 _ (by omega), if_neg h8, if_neg (by omega), if_pos (by omega)]
/-- What is in a frame is other bytes, of another sum: told to be wrong. -/
theorem first_turned (b c : List Nat) (hb : b.length ≤ 16384) (hc : c.length = b.length) (hS : ∀ l, S l < 4294967296) (hne : S c ≠ S b) (t : List Nat) : firstN S ((be4 b.length ++ (be4 (S b) ++ c)) ++ t) = ([], 0, 2) := by
  have hl : ((be4 b.length ++ (be4 (S b) ++ c)) ++ t).length = 8 + b.length + t.length := by simp [be4_len, hc]; omega
  have h4 : ((be4 b.length ++ (be4 (S b) ++ c)) ++ t).take 4 = be4 b.length := by
    rw [List.append_assoc, List.take_append_of_le_length (by rw [be4_len]; omega), List.take_of_length_le (by rw [be4_len]; omega)]
  have d4 : ((be4 b.length ++ (be4 (S b) ++ c)) ++ t).drop 4 = be4 (S b) ++ (c ++ t) := by
    have := List.drop_left (l₁ := be4 b.length) (l₂ := (be4 (S b) ++ c) ++ t)
    rw [be4_len] at this
    rw [List.append_assoc, this, List.append_assoc]
  have d8 : ((be4 b.length ++ (be4 (S b) ++ c)) ++ t).drop 8 = c ++ t := by
    rw [show 8 = 4 + 4 by rfl, ← List.drop_drop, d4]
    have := List.drop_left (l₁ := be4 (S b)) (l₂ := c ++ t)
    rwa [be4_len] at this
  have e : (be4 (S b) ++ (c ++ t)).take 4 = be4 (S b) := by
    have := List.take_left (l₁ := be4 (S b)) (l₂ := c ++ t)
    rwa [be4_len] at this
  unfold firstN
  rw [h4, d4, d8, e, val_be4 _ (by omega), if_neg (by omega), if_neg (by omega), if_neg (by omega), ← hc, List.take_left, if_neg (fun h => hne (be4_inj (hS c) (hS b) h))]
/-- The sum is another one: told to be wrong. -/
theorem first_sum (b u t : List Nat) (hb : b.length ≤ 16384) (hu : u.length = 4) (hne : u ≠ be4 (S b)) : firstN S ((be4 b.length ++ (u ++ b)) ++ t) = ([], 0, 2) := by
  have hl : ((be4 b.length ++ (u ++ b)) ++ t).length = 8 + b.length + t.length := by simp [be4_len, hu]; omega
  have h4 : ((be4 b.length ++ (u ++ b)) ++ t).take 4 = be4 b.length := by
    rw [List.append_assoc, List.take_append_of_le_length (by rw [be4_len]; omega), List.take_of_length_le (by rw [be4_len]; omega)]
  have d4 : ((be4 b.length ++ (u ++ b)) ++ t).drop 4 = u ++ (b ++ t) := by
    have := List.drop_left (l₁ := be4 b.length) (l₂ := (u ++ b) ++ t)
    rw [be4_len] at this
    rw [List.append_assoc, this, List.append_assoc]
  have d8 : ((be4 b.length ++ (u ++ b)) ++ t).drop 8 = b ++ t := by
    rw [show 8 = 4 + 4 by rfl, ← List.drop_drop, d4]
    have := List.drop_left (l₁ := u) (l₂ := b ++ t)
    rwa [hu] at this
  have e : (u ++ (b ++ t)).take 4 = u := by
    have := List.take_left (l₁ := u) (l₂ := b ++ t)
    rwa [hu] at this
  unfold firstN
  rw [h4, d4, d8, e, val_be4 _ (by omega), if_neg (by omega), if_neg (by omega), if_neg (by omega), List.take_left, if_neg (fun h => hne h.symm)]
theorem first_le (s : List Nat) (h : (firstN S s).2.2 = 0) : 8 ≤ (firstN S s).2.1 ∧ (firstN S s).2.1 ≤ s.length ∧ (firstN S s).1.length + 8 = (firstN S s).2.1 := by
  unfold firstN at h ⊢
  split at h
  · simp at h
  · split at h
    · simp at h
    · split at h
      · simp at h
      · split at h
        · rename_i h1 h2 h3 h4
          rw [if_neg h1, if_neg h2, if_neg h3, if_pos h4]
          dsimp only
          rw [List.length_take, List.length_drop]
          omega
        · simp at h
/-- All frames that bytes begin with, and how many bytes they have. -/
def scanN : Nat → List Nat → List (List Nat) × Nat
  | 0, _ => ([], 0)
  | f + 1, s => if (firstN S s).2.2 = 0 then ((firstN S s).1 :: (scanN f (s.drop (firstN S s).2.1)).1, (firstN S s).2.1 + (scanN f (s.drop (firstN S s).2.1)).2) else ([], 0)
/-- Enough rounds are as good as more. -/
theorem scan_more : ∀ (f g : Nat) (s : List Nat), s.length < f → s.length < g → scanN S f s = scanN S g s
  | 0, _, s, h, _ => by omega
  | _, 0, s, _, h => by omega
  | f + 1, g + 1, s, hf, hg => by
    rw [scanN, scanN]
    by_cases h : (firstN S s).2.2 = 0
    · have hle := first_le S s h
      have ih := scan_more f g (s.drop (firstN S s).2.1) (by rw [List.length_drop]; omega) (by rw [List.length_drop]; omega)
      rw [if_pos h, if_pos h, ih]
    · rw [if_neg h, if_neg h]
/-- Frames, one behind the other, with what is none behind, are told one by one. -/
theorem scan_frames : ∀ (bs : List (List Nat)) (t : List Nat), (∀ b ∈ bs, b.length ≤ 16384) → (firstN S t).2.2 ≠ 0 → ∀ f, ((bs.map (frN S)).flatten ++ t).length < f → scanN S f ((bs.map (frN S)).flatten ++ t) = (bs, ((bs.map (frN S)).flatten).length)
  | [], t, _, ht, f, hf => by
    cases f with
    | zero => omega
    | succ f =>
      rw [scanN]
      simp only [List.map_nil, List.flatten_nil, List.nil_append]
      rw [if_neg ht]; rfl
  | b :: bs, t, hb, ht, f, hf => by
    cases f with
    | zero => omega
    | succ f =>
      have e : ((b :: bs).map (frN S)).flatten ++ t = frN S b ++ ((bs.map (frN S)).flatten ++ t) := by simp
      rw [e] at hf ⊢
      rw [List.length_append, frN_len] at hf
      have h1 := first_put S b ((bs.map (frN S)).flatten ++ t) (hb b (by simp))
      have hd : (frN S b ++ ((bs.map (frN S)).flatten ++ t)).drop (8 + b.length) = (bs.map (frN S)).flatten ++ t := by
        have := List.drop_left (l₁ := frN S b) (l₂ := (bs.map (frN S)).flatten ++ t)
        rwa [frN_len] at this
      rw [scanN, h1, if_pos rfl]
      dsimp only
      rw [hd, scan_frames bs t (fun c hc => hb c (by simp [hc])) ht f (by omega)]
      simp [frN_len]
end
end Go.Proofs.YtaahmpabhophfaaDoor
