/-
  Layer 7's plain mathematics: pieces of a pattern, what they match, as functions of lists of numbers.
-/
import Derived.Test.YtehieeahiicnhaaRows
namespace Go.Proofs.Ytehieeahiicnhaa
set_option linter.unusedVariables false
set_option linter.unusedSimpArgs false
/-- A pattern's pieces: (0, c) a byte, (1, 0) any one, (2, 0) any. -/
def piecesN : List Nat → Option (List (Nat × Nat))
  | [] => some []
  | [c] => if c = 42 then some [(2, 0)] else if c = 63 then some [(1, 0)] else if c = 92 then none else some [(0, c)]
  | c :: d :: r => if c = 42 then (piecesN (d :: r)).map ((2, 0) :: ·) else if c = 63 then (piecesN (d :: r)).map ((1, 0) :: ·) else if c = 92 then (piecesN r).map ((0, d) :: ·) else (piecesN (d :: r)).map ((0, c) :: ·)
theorem pieces_star (l : List Nat) : piecesN (42 :: l) = (piecesN l).map ((2, 0) :: ·) := by
  cases l with
  | nil => rfl
  | cons d r => conv => lhs; rw [piecesN, if_pos rfl]
theorem pieces_any (l : List Nat) : piecesN (63 :: l) = (piecesN l).map ((1, 0) :: ·) := by
  cases l with
  | nil => rfl
  | cons d r => conv => lhs; rw [piecesN, if_neg (by decide), if_pos rfl]
theorem pieces_back (d : Nat) (r : List Nat) : piecesN (92 :: d :: r) = (piecesN r).map ((0, d) :: ·) := by
  conv => lhs; rw [piecesN, if_neg (by decide), if_neg (by decide), if_pos rfl]
theorem pieces_end : piecesN [92] = none := rfl
theorem pieces_byte {c : Nat} (l : List Nat) (h1 : c ≠ 42) (h2 : c ≠ 63) (h3 : c ≠ 92) : piecesN (c :: l) = (piecesN l).map ((0, c) :: ·) := by
  cases l with
  | nil => simp [piecesN, h1, h2, h3]
  | cons d r => conv => lhs; rw [piecesN, if_neg h1, if_neg h2, if_neg h3]
theorem pieces_app : ∀ (n : Nat) (p q : List Nat) (l m : List (Nat × Nat)), p.length ≤ n → piecesN p = some l → piecesN q = some m → piecesN (p ++ q) = some (l ++ m)
  | n, [], q, l, m, _, hl, hm => by
    simp [piecesN] at hl
    subst hl
    simpa using hm
  | 0, c :: p, q, l, m, hn, _, _ => by simp at hn
  | n + 1, c :: p, q, l, m, hn, hl, hm => by
    have hn' : p.length ≤ n := by simpa using hn
    by_cases h1 : c = 42
    · subst h1
      rw [pieces_star] at hl
      cases hr : piecesN p with
      | none => rw [hr] at hl; simp at hl
      | some r =>
        rw [hr] at hl
        simp at hl
        subst hl
        rw [List.cons_append, pieces_star, pieces_app n p q r m hn' hr hm]
        rfl
    · by_cases h2 : c = 63
      · subst h2
        rw [pieces_any] at hl
        cases hr : piecesN p with
        | none => rw [hr] at hl; simp at hl
        | some r =>
          rw [hr] at hl
          simp at hl
          subst hl
          rw [List.cons_append, pieces_any, pieces_app n p q r m hn' hr hm]
          rfl
      · by_cases h3 : c = 92
        · subst h3
          cases p with
          | nil => rw [pieces_end] at hl; cases hl
          | cons d p =>
            rw [pieces_back] at hl
            cases hr : piecesN p with
            | none => rw [hr] at hl; simp at hl
            | some r =>
              rw [hr] at hl
              simp at hl
              subst hl
              rw [List.cons_append, List.cons_append, pieces_back, pieces_app n p q r m (by simp at hn'; omega) hr hm]
              rfl
        · rw [pieces_byte _ h1 h2 h3] at hl
          cases hr : piecesN p with
          | none => rw [hr] at hl; simp at hl
          | some r =>
            rw [hr] at hl
            simp at hl
            subst hl
            rw [List.cons_append, pieces_byte _ h1 h2 h3, pieces_app n p q r m hn' hr hm]
            rfl
/-- What pieces match. -/
def starM (f : List Nat → Bool) : List Nat → Bool
  | [] => f []
  | c :: t => f (c :: t) || starM f t
def oneM (p : Nat × Nat) (f : List Nat → Bool) : List Nat → Bool
  | [] => false
  | c :: t => (p.1 == 1 || p.2 == c) && f t
def matchP : List (Nat × Nat) → List Nat → Bool
  | [], s => s.isEmpty
  | p :: ps, s => if p.1 = 2 then starM (matchP ps) s else oneM p (matchP ps) s
theorem star_iff (f : List Nat → Bool) : ∀ s : List Nat, starM f s = true ↔ ∃ i, i ≤ s.length ∧ f (s.drop i) = true
  | [] => by
    rw [starM]
    constructor
    · intro h; exact ⟨0, Nat.le_refl _, h⟩
    · rintro ⟨i, hi, h⟩
      simp at hi
      subst hi
      exact h
  | c :: t => by
    rw [starM, Bool.or_eq_true, star_iff f t]
    constructor
    · rintro (h | ⟨i, hi, h⟩)
      · exact ⟨0, Nat.zero_le _, h⟩
      · exact ⟨i + 1, by simp; omega, h⟩
    · rintro ⟨i, hi, h⟩
      cases i with
      | zero => exact .inl h
      | succ i => exact .inr ⟨i, by simp at hi; omega, h⟩
theorem match_star (p : Nat × Nat) (ps : List (Nat × Nat)) (s : List Nat) (h : p.1 = 2) : matchP (p :: ps) s = true ↔ ∃ i, i ≤ s.length ∧ matchP ps (s.drop i) = true := by
  rw [matchP, if_pos h, star_iff]
theorem match_one (p : Nat × Nat) (ps : List (Nat × Nat)) (s : List Nat) (h : ¬ p.1 = 2) : matchP (p :: ps) s = true ↔ ∃ c t, s = c :: t ∧ (p.1 == 1 || p.2 == c) = true ∧ matchP ps t = true := by
  rw [matchP, if_neg h]
  cases s with
  | nil => simp [oneM]
  | cons c t =>
    rw [oneM, Bool.and_eq_true]
    constructor
    · rintro ⟨h1, h2⟩; exact ⟨c, t, rfl, h1, h2⟩
    · rintro ⟨c', t', e, h1, h2⟩
      cases e
      exact ⟨h1, h2⟩
/-- A pattern of two parts matches just what can be parted so. -/
theorem match_app : ∀ (p q : List (Nat × Nat)) (s : List Nat), matchP (p ++ q) s = true ↔ ∃ i, i ≤ s.length ∧ matchP p (s.take i) = true ∧ matchP q (s.drop i) = true
  | [], q, s => by
    rw [List.nil_append]
    constructor
    · intro h; exact ⟨0, Nat.zero_le _, rfl, h⟩
    · rintro ⟨i, hi, h1, h2⟩
      have : s.take i = [] := by simpa [matchP] using h1
      have hl : (s.take i).length = 0 := by rw [this]; rfl
      rw [List.length_take] at hl
      have : i = 0 := by omega
      rw [this, List.drop_zero] at h2
      exact h2
  | p :: ps, q, s => by
    rw [List.cons_append]
    by_cases hp : p.1 = 2
    · rw [match_star p (ps ++ q) s hp]
      constructor
      · rintro ⟨i, hi, h⟩
        obtain ⟨j, hj, h1, h2⟩ := (match_app ps q (s.drop i)).1 h
        rw [List.length_drop] at hj
        refine ⟨i + j, by omega, ?_, by rw [List.drop_drop] at h2; exact h2⟩
        rw [match_star p ps _ hp]
        refine ⟨i, by rw [List.length_take]; omega, ?_⟩
        rw [List.drop_take, show i + j - i = j by omega]
        exact h1
      · rintro ⟨i, hi, h1, h2⟩
        rw [match_star p ps _ hp] at h1
        obtain ⟨j, hj, h3⟩ := h1
        rw [List.length_take] at hj
        refine ⟨j, by omega, (match_app ps q (s.drop j)).2 ⟨i - j, by rw [List.length_drop]; omega, ?_, ?_⟩⟩
        · rw [List.drop_take] at h3
          exact h3
        · rw [List.drop_drop, show j + (i - j) = i by omega]
          exact h2
    · rw [match_one p (ps ++ q) s hp]
      constructor
      · rintro ⟨c, t, rfl, h1, h2⟩
        obtain ⟨j, hj, h3, h4⟩ := (match_app ps q t).1 h2
        refine ⟨j + 1, by simp; omega, ?_, h4⟩
        rw [match_one p ps _ hp]
        exact ⟨c, t.take j, rfl, h1, h3⟩
      · rintro ⟨i, hi, h1, h2⟩
        rw [match_one p ps _ hp] at h1
        obtain ⟨c, t, e, h3, h4⟩ := h1
        cases s with
        | nil => simp at e
        | cons c' s' =>
          cases i with
          | zero => simp at e
          | succ i =>
            rw [List.take_succ_cons] at e
            cases e
            exact ⟨_, _, rfl, h3, (match_app ps q s').2 ⟨i, by simp at hi; omega, h4, h2⟩⟩
theorem match_end (t : List Nat) : matchP [(2, 0)] t = true := (match_star (2, 0) [] t rfl).2 ⟨t.length, Nat.le_refl _, by rw [List.drop_length]; rfl⟩
/-- How many bytes at least. -/
def leastN : List (Nat × Nat) → Nat
  | [] => 0
  | p :: ps => if p.1 = 2 then leastN ps else leastN ps + 1
theorem match_least : ∀ (ps : List (Nat × Nat)) (s : List Nat), matchP ps s = true → leastN ps ≤ s.length
  | [], s, _ => Nat.zero_le _
  | p :: ps, s, h => by
    rw [leastN]
    by_cases hp : p.1 = 2
    · rw [if_pos hp]
      obtain ⟨i, hi, h2⟩ := (match_star p ps s hp).1 h
      have := match_least ps _ h2
      rw [List.length_drop] at this
      omega
    · rw [if_neg hp]
      obtain ⟨c, t, rfl, -, h2⟩ := (match_one p ps s hp).1 h
      have := match_least ps t h2
      simp
      omega
/-- A text's own pattern. -/
def quoteN : List Nat → List Nat
  | [] => []
  | c :: l => if c = 42 ∨ c = 63 ∨ c = 92 then 92 :: c :: quoteN l else c :: quoteN l
def plainP : List (Nat × Nat) → Option (List Nat)
  | [] => some []
  | p :: ps => if p.1 = 0 then (plainP ps).map (p.2 :: ·) else none
theorem quote_pieces : ∀ s : List Nat, piecesN (quoteN s) = some (s.map fun c => (0, c))
  | [] => rfl
  | c :: s => by
    rw [quoteN]
    by_cases h : c = 42 ∨ c = 63 ∨ c = 92
    · rw [if_pos h, pieces_back, quote_pieces s]
      rfl
    · rw [if_neg h, pieces_byte _ (fun e => h (.inl e)) (fun e => h (.inr (.inl e))) (fun e => h (.inr (.inr e))), quote_pieces s]
      rfl
theorem quote_match : ∀ s t : List Nat, matchP (s.map fun c => (0, c)) t = true ↔ s = t
  | [], t => by simp [matchP]
  | c :: s, t => by
    rw [List.map_cons, match_one _ _ _ (by simp)]
    constructor
    · rintro ⟨d, r, rfl, h1, h2⟩
      have e : c = d := by simpa using h1
      rw [e, (quote_match s r).1 h2]
    · rintro rfl
      exact ⟨c, s, rfl, by simp, (quote_match s s).2 rfl⟩
theorem quote_plain : ∀ s : List Nat, plainP (s.map fun c => (0, c)) = some s
  | [] => rfl
  | c :: s => by rw [List.map_cons, plainP, if_pos rfl, quote_plain s]; rfl
theorem quote_app : ∀ l m : List Nat, quoteN (l ++ m) = quoteN l ++ quoteN m
  | [], m => rfl
  | c :: l, m => by
    rw [List.cons_append, quoteN, quoteN, quote_app l m]
    split <;> simp
theorem quote_len : ∀ l : List Nat, (quoteN l).length ≤ 2 * l.length
  | [] => by simp [quoteN]
  | c :: l => by
    have := quote_len l
    rw [quoteN]
    split <;> simp <;> omega
/-- A pattern. -/
def soundN (p : List Nat) : Bool := decide (p.length ≤ 200) && (piecesN p).isSome
end Go.Proofs.Ytehieeahiicnhaa
