/-
  Layer 4's plain mathematics: bytes and numbers as letters, and back, as functions of lists of numbers.
-/
import Derived.Test.YtgeoijbjndjpoaaRows
namespace Go.Proofs.Ytgeoijbjndjpoaa
set_option linter.unusedVariables false
set_option linter.unusedSimpArgs false
/-- Where a number stands in a list. -/
def placeN : List Nat → Nat → Option Nat
  | [], _ => none
  | x :: l, b => if x = b then some 0 else (placeN l b).map (· + 1)
theorem place_get {l : List Nat} {b i : Nat} (h : placeN l b = some i) : i < l.length ∧ l.getD i 0 = b := by
  induction l generalizing i with
  | nil => cases h
  | cons x l ih =>
    rw [placeN] at h
    split at h
    · rename_i hx
      cases h
      exact ⟨by simp, hx⟩
    · cases hp : placeN l b with
      | none => rw [hp] at h; cases h
      | some j =>
        rw [hp] at h
        simp at h
        subst h
        obtain ⟨h1, h2⟩ := ih hp
        exact ⟨by simp; omega, by simpa using h2⟩
def hexD : List Nat := [48, 49, 50, 51, 52, 53, 54, 55, 56, 57, 97, 98, 99, 100, 101, 102]
def baseD : List Nat := [97, 98, 99, 100, 101, 102, 103, 104, 105, 106, 107, 108, 109, 110, 111, 112, 113, 114, 115, 116, 117, 118, 119, 120, 121, 122, 50, 51, 52, 53, 54, 55]
def numD : List Nat := [48, 49, 50, 51, 52, 53, 54, 55, 56, 57, 97, 98, 99, 100, 101, 102, 103, 104, 105, 106, 107, 108, 109, 110, 111, 112, 113, 114, 115, 116, 117, 118]
theorem hex_place : ∀ i : Fin 16, placeN hexD (hexD.getD i.val 0) = some i.val := by decide +kernel
theorem base_place : ∀ i : Fin 32, placeN baseD (baseD.getD i.val 0) = some i.val := by decide +kernel
theorem num_place : ∀ i : Fin 32, placeN numD (numD.getD i.val 0) = some i.val := by decide +kernel
/-! Digits of sixteen. -/
def hexN : List Nat → List Nat
  | [] => []
  | c :: xs => hexD.getD (c / 16) 0 :: hexD.getD (c % 16) 0 :: hexN xs
def unhexN : List Nat → Option (List Nat)
  | [] => some []
  | [_] => none
  | x :: y :: s => match placeN hexD x, placeN hexD y, unhexN s with
    | some a, some b, some r => some ((a * 16 + b) :: r)
    | _, _, _ => none
theorem hexN_length : ∀ xs, (hexN xs).length = 2 * xs.length
  | [] => rfl
  | c :: xs => by rw [hexN, List.length_cons, List.length_cons, hexN_length xs, List.length_cons]; omega
theorem unhex_hex : ∀ xs : List Nat, (∀ c ∈ xs, c < 256) → unhexN (hexN xs) = some xs
  | [], _ => rfl
  | c :: xs, h => by
    have hc := h c (by simp)
    have h1 := hex_place ⟨c / 16, by omega⟩
    have h2 := hex_place ⟨c % 16, by omega⟩
    have h3 := unhex_hex xs (fun x hx => h x (by simp [hx]))
    simp only [] at h1 h2
    rw [hexN, unhexN, h1, h2, h3]
    simp
    omega
theorem hex_unhex : ∀ (s xs : List Nat), unhexN s = some xs → hexN xs = s ∧ (∀ c ∈ xs, c < 256)
  | [], xs, h => by
    simp [unhexN] at h
    subst h
    exact ⟨rfl, by simp⟩
  | [x], xs, h => by simp [unhexN] at h
  | x :: y :: s, xs, h => by
    rw [unhexN] at h
    cases hx : placeN hexD x with
    | none => rw [hx] at h; simp at h
    | some a =>
      cases hy : placeN hexD y with
      | none => rw [hx, hy] at h; simp at h
      | some b =>
        cases hr : unhexN s with
        | none => rw [hx, hy, hr] at h; simp at h
        | some r =>
          rw [hx, hy, hr] at h
          simp at h
          subst h
          obtain ⟨a1, a2⟩ := place_get hx
          obtain ⟨b1, b2⟩ := place_get hy
          obtain ⟨r1, r2⟩ := hex_unhex s r hr
          have la : a < 16 := a1
          have lb : b < 16 := b1
          refine ⟨?_, fun c hc => ?_⟩
          · rw [hexN, show (a * 16 + b) / 16 = a by omega, show (a * 16 + b) % 16 = b by omega, a2, b2, r1]
          · rcases List.mem_cons.1 hc with rfl | hc
            · omega
            · exact r2 c hc
/-! Numbers with letters of 32. -/
def letN (n : Nat) : Nat → List Nat
  | 0 => []
  | k + 1 => letN (n / 32) k ++ [numD.getD (n % 32) 0]
def valN : List Nat → Nat → Option Nat
  | [], acc => some acc
  | x :: s, acc => match placeN numD x with
    | some k => valN s (acc * 32 + k)
    | none => none
theorem letN_length : ∀ k n, (letN n k).length = k
  | 0, n => rfl
  | k + 1, n => by rw [letN, List.length_append, letN_length k]; rfl
theorem val_append : ∀ (s t : List Nat) (acc m : Nat), valN s acc = some m → valN (s ++ t) acc = valN t m
  | [], t, acc, m, h => by simp [valN] at h; subst h; rfl
  | x :: s, t, acc, m, h => by
    rw [List.cons_append, valN]
    rw [valN] at h
    cases hx : placeN numD x with
    | none => rw [hx] at h; cases h
    | some k => rw [hx] at h; exact val_append s t _ m h
theorem val_let : ∀ k n, n < 32 ^ k → valN (letN n k) 0 = some n
  | 0, n, h => by simp at h; subst h; rfl
  | k + 1, n, h => by
    have h1 := val_let k (n / 32) (by rw [Nat.pow_succ] at h; omega)
    have h2 := num_place ⟨n % 32, by omega⟩
    simp only [] at h2
    rw [letN, val_append _ _ _ _ h1, valN, h2]
    simp only [valN]
    congr 1
    omega
theorem let_val : ∀ (s : List Nat) (acc m n : Nat), valN s acc = some n → letN n (s.length + m) = letN acc m ++ s ∧ n / 32 ^ s.length = acc
  | [], acc, m, n, h => by
    simp [valN] at h
    subst h
    simp
  | x :: s, acc, m, n, h => by
    rw [valN] at h
    cases hx : placeN numD x with
    | none => rw [hx] at h; cases h
    | some k =>
      rw [hx] at h
      obtain ⟨h1, h2⟩ := let_val s (acc * 32 + k) (m + 1) n h
      obtain ⟨k1, k2⟩ := place_get hx
      have lk : k < 32 := k1
      refine ⟨?_, ?_⟩
      · rw [List.length_cons, show s.length + 1 + m = s.length + (m + 1) by omega, h1, letN, show (acc * 32 + k) / 32 = acc by omega, show (acc * 32 + k) % 32 = k by omega, k2]
        simp
      · rw [List.length_cons, Nat.pow_succ, ← Nat.div_div_eq_div_mul, h2]
        omega
def numN (n : Nat) : List Nat := letN n 13
def unnumN (s : List Nat) : Option Nat :=
  if s.length = 13 then (match valN s 0 with | some n => if n < 18446744073709551616 then some n else none | none => none) else none
theorem unnum_num (n : Nat) (h : n < 18446744073709551616) : unnumN (numN n) = some n := by
  have h1 := val_let 13 n (Nat.lt_of_lt_of_le h (by decide))
  unfold unnumN numN
  rw [if_pos (letN_length 13 n), h1]
  simp [h]
theorem num_unnum (s : List Nat) (n : Nat) (h : unnumN s = some n) : numN n = s ∧ n < 18446744073709551616 := by
  unfold unnumN at h
  split at h
  · rename_i hl
    cases hv : valN s 0 with
    | none => rw [hv] at h; cases h
    | some m =>
      rw [hv] at h
      simp only [] at h
      split at h
      · cases h
        obtain ⟨h1, -⟩ := let_val s 0 0 n hv
        rw [hl] at h1
        exact ⟨by unfold numN; rw [h1]; rfl, by assumption⟩
      · cases h
  · cases h
/-- The letters of 32 stand in the order of their codes. -/
theorem num_mono : ∀ i j : Fin 32, i.val < j.val ↔ numD.getD i.val 0 < numD.getD j.val 0 := by decide +kernel
theorem snoc_lex : ∀ (l m : List Nat) (x y : Nat), l.length = m.length → (l ++ [x] < m ++ [y] ↔ l < m ∨ l = m ∧ x < y)
  | [], [], x, y, _ => by rw [List.nil_append, List.nil_append, List.cons_lt_cons_iff]; simp
  | a :: l, b :: m, x, y, h => by
    have ih := snoc_lex l m x y (by simpa using h)
    rw [List.cons_append, List.cons_append, List.cons_lt_cons_iff, List.cons_lt_cons_iff, ih]
    simp only [List.cons.injEq]
    constructor
    · rintro (h | ⟨h1, h2 | ⟨h2, h3⟩⟩)
      · exact .inl (.inl h)
      · exact .inl (.inr ⟨h1, h2⟩)
      · exact .inr ⟨⟨h1, h2⟩, h3⟩
    · rintro ((h | ⟨h1, h2⟩) | ⟨⟨h1, h2⟩, h3⟩)
      · exact .inl h
      · exact .inr ⟨h1, .inl h2⟩
      · exact .inr ⟨h1, .inr ⟨h2, h3⟩⟩
theorem letN_lex : ∀ k a b, a < 32 ^ k → b < 32 ^ k → (a < b ↔ letN a k < letN b k)
  | 0, a, b, ha, hb => by simp at ha hb; subst ha hb; simp [letN]
  | k + 1, a, b, ha, hb => by
    rw [Nat.pow_succ] at ha hb
    have ih := letN_lex k (a / 32) (b / 32) (by omega) (by omega)
    have ihe : letN (a / 32) k = letN (b / 32) k ↔ a / 32 = b / 32 := by
      constructor
      · intro h
        have h1 := val_let k (a / 32) (by omega)
        have h2 := val_let k (b / 32) (by omega)
        rw [h, h2] at h1
        exact (Option.some.inj h1).symm
      · intro h; rw [h]
    have hm := num_mono ⟨a % 32, by omega⟩ ⟨b % 32, by omega⟩
    simp only [] at hm
    rw [letN, letN, snoc_lex _ _ _ _ (by rw [letN_length, letN_length]), ← ih, ihe, ← hm]
    omega
/-! Five bits each. -/
def to5 (n : Nat) : List Nat := [n / 16 % 2, n / 8 % 2, n / 4 % 2, n / 2 % 2, n % 2]
def to8 (n : Nat) : List Nat := [n / 128 % 2, n / 64 % 2, n / 32 % 2, n / 16 % 2, n / 8 % 2, n / 4 % 2, n / 2 % 2, n % 2]
def spread5 : List Nat → List Nat
  | [] => []
  | n :: l => to5 n ++ spread5 l
def spread8 : List Nat → List Nat
  | [] => []
  | n :: l => to8 n ++ spread8 l
def grp5 : List Nat → List Nat
  | a :: b :: c :: d :: e :: l => (16 * a + 8 * b + 4 * c + 2 * d + e) :: grp5 l
  | _ => []
def grp8 : List Nat → List Nat
  | a :: b :: c :: d :: e :: f :: g :: h :: l => (128 * a + 64 * b + 32 * c + 16 * d + 8 * e + 4 * f + 2 * g + h) :: grp8 l
  | _ => []
theorem spread5_length : ∀ l, (spread5 l).length = 5 * l.length
  | [] => rfl
  | n :: l => by rw [spread5, List.length_append, spread5_length l]; simp [to5]; omega
theorem spread8_length : ∀ l, (spread8 l).length = 8 * l.length
  | [] => rfl
  | n :: l => by rw [spread8, List.length_append, spread8_length l]; simp [to8]; omega
theorem grp5_spread : ∀ l, (∀ n ∈ l, n < 32) → grp5 (spread5 l) = l
  | [], _ => rfl
  | n :: l, h => by
    have hn := h n (by simp)
    rw [spread5, to5]
    simp only [List.cons_append, List.nil_append, grp5]
    rw [grp5_spread l (fun m hm => h m (by simp [hm]))]
    congr 1
    omega
theorem grp8_spread : ∀ l r, (∀ n ∈ l, n < 256) → r.length < 8 → grp8 (spread8 l ++ r) = l
  | [], r, _, hr => by
    match r, hr with
    | [], _ | [_], _ | [_, _], _ | [_, _, _], _ | [_, _, _, _], _ | [_, _, _, _, _], _ | [_, _, _, _, _, _], _ | [_, _, _, _, _, _, _], _ => rfl
  | n :: l, r, h, hr => by
    have hn := h n (by simp)
    rw [spread8, to8]
    simp only [List.cons_append, List.nil_append, grp8]
    rw [grp8_spread l r (fun m hm => h m (by simp [hm])) hr]
    congr 1
    omega
theorem spread5_grp : ∀ (k : Nat) (l : List Nat), l.length = 5 * k → (∀ b ∈ l, b < 2) → spread5 (grp5 l) = l ∧ ∀ n ∈ grp5 l, n < 32
  | 0, l, hl, hb => by
    have : l = [] := List.eq_nil_of_length_eq_zero (by omega)
    subst this
    exact ⟨rfl, by simp [grp5]⟩
  | k + 1, l, hl, hb => by
    match l, hl, hb with
    | a :: b :: c :: d :: e :: l, hl, hb =>
      have ih := spread5_grp k l (by simp at hl; omega) (fun x hx => hb x (by simp [hx]))
      have ha := hb a (by simp)
      have hb' := hb b (by simp)
      have hc := hb c (by simp)
      have hd := hb d (by simp)
      have he := hb e (by simp)
      refine ⟨?_, fun n hn => ?_⟩
      · rw [grp5, spread5, ih.1, to5]
        simp only [List.cons_append, List.nil_append]
        congr 1
        · omega
        congr 1
        · omega
        congr 1
        · omega
        congr 1
        · omega
        congr 1
        omega
      · rw [grp5] at hn
        rcases List.mem_cons.1 hn with rfl | hn
        · omega
        · exact ih.2 n hn
theorem spread8_grp : ∀ (k : Nat) (l : List Nat), 8 * k ≤ l.length → l.length < 8 * k + 8 → (∀ b ∈ l, b < 2) → spread8 (grp8 l) = l.take (8 * k) ∧ (grp8 l).length = k ∧ ∀ n ∈ grp8 l, n < 256
  | 0, l, h1, h2, hb => by
    have hl : l.length < 8 := by omega
    match l, hl with
    | [], _ | [_], _ | [_, _], _ | [_, _, _], _ | [_, _, _, _], _ | [_, _, _, _, _], _ | [_, _, _, _, _, _], _ | [_, _, _, _, _, _, _], _ => exact ⟨rfl, rfl, by simp [grp8]⟩
  | k + 1, l, h1, h2, hb => by
    match l, h1, h2, hb with
    | a :: b :: c :: d :: e :: f :: g :: h :: l, h1, h2, hb =>
      have ih := spread8_grp k l (by simp at h1; omega) (by simp at h2; omega) (fun x hx => hb x (by simp [hx]))
      have ha := hb a (by simp)
      have hb' := hb b (by simp)
      have hc := hb c (by simp)
      have hd := hb d (by simp)
      have he := hb e (by simp)
      have hf := hb f (by simp)
      have hg := hb g (by simp)
      have hh := hb h (by simp)
      refine ⟨?_, by rw [grp8, List.length_cons, ih.2.1], fun n hn => ?_⟩
      · rw [grp8, spread8, ih.1, to8, show 8 * (k + 1) = 8 * k + 1 + 1 + 1 + 1 + 1 + 1 + 1 + 1 by omega]
        simp only [List.cons_append, List.nil_append, List.take_succ_cons]
        congr 1
        · omega
        congr 1
        · omega
        congr 1
        · omega
        congr 1
        · omega
        congr 1
        · omega
        congr 1
        · omega
        congr 1
        · omega
        congr 1
        omega
      · rw [grp8] at hn
        rcases List.mem_cons.1 hn with rfl | hn
        · omega
        · exact ih.2.2 n hn
theorem spread_bits5 : ∀ l, ∀ b ∈ spread5 l, b < 2
  | [], b, h => by cases h
  | n :: l, b, h => by
    rw [spread5, List.mem_append] at h
    rcases h with h | h
    · simp [to5] at h
      omega
    · exact spread_bits5 l b h
theorem spread_bits8 : ∀ l, ∀ b ∈ spread8 l, b < 2
  | [], b, h => by cases h
  | n :: l, b, h => by
    rw [spread8, List.mem_append] at h
    rcases h with h | h
    · simp [to8] at h
      omega
    · exact spread_bits8 l b h
/-- How many bits 0 stand behind those of so many bytes. -/
def padB (m : Nat) : Nat := (5 - 8 * m % 5) % 5
def baseN (xs : List Nat) : List Nat := (grp5 (spread8 xs ++ List.replicate (padB xs.length) 0)).map fun n => baseD.getD n 0
def placesN : List Nat → Option (List Nat)
  | [] => some []
  | x :: s => match placeN baseD x, placesN s with
    | some k, some l => some (k :: l)
    | _, _ => none
def unbaseN (s : List Nat) : Option (List Nat) :=
  match placesN s with
  | none => none
  | some l => if s.length % 8 = 1 ∨ s.length % 8 = 3 ∨ s.length % 8 = 6 then none
    else if ((spread5 l).drop (8 * ((spread5 l).length / 8))).all (· == 0) then some (grp8 (spread5 l)) else none
theorem places_map : ∀ l : List Nat, (∀ n ∈ l, n < 32) → placesN (l.map fun n => baseD.getD n 0) = some l
  | [], _ => rfl
  | n :: l, h => by
    have hn := base_place ⟨n, h n (by simp)⟩
    simp only [] at hn
    rw [List.map_cons, placesN, hn, places_map l (fun m hm => h m (by simp [hm]))]
theorem map_places : ∀ (s l : List Nat), placesN s = some l → (l.map fun n => baseD.getD n 0) = s ∧ (∀ n ∈ l, n < 32) ∧ l.length = s.length
  | [], l, h => by simp [placesN] at h; subst h; exact ⟨rfl, by simp, rfl⟩
  | x :: s, l, h => by
    rw [placesN] at h
    cases hx : placeN baseD x with
    | none => rw [hx] at h; simp at h
    | some k =>
      cases hr : placesN s with
      | none => rw [hx, hr] at h; simp at h
      | some r =>
        rw [hx, hr] at h
        simp at h
        subst h
        obtain ⟨k1, k2⟩ := place_get hx
        obtain ⟨r1, r2, r3⟩ := map_places s r hr
        refine ⟨by rw [List.map_cons, k2, r1], fun n hn => ?_, by simp [r3]⟩
        rcases List.mem_cons.1 hn with rfl | hn
        · exact k1
        · exact r2 n hn
theorem unbase_base (xs : List Nat) (h : ∀ c ∈ xs, c < 256) : unbaseN (baseN xs) = some xs := by
  have hlen : (spread8 xs ++ List.replicate (padB xs.length) 0).length = 8 * xs.length + padB xs.length := by rw [List.length_append, spread8_length, List.length_replicate]
  obtain ⟨k, hk⟩ : ∃ k, 8 * xs.length + padB xs.length = 5 * k := ⟨(8 * xs.length + padB xs.length) / 5, by unfold padB; omega⟩
  have hbits : ∀ b ∈ spread8 xs ++ List.replicate (padB xs.length) 0, b < 2 := fun b hb => by
    rcases List.mem_append.1 hb with hb | hb
    · exact spread_bits8 xs b hb
    · rw [List.eq_of_mem_replicate hb]; decide
  obtain ⟨g1, g2⟩ := spread5_grp k _ (by rw [hlen, hk]) hbits
  have gl : (grp5 (spread8 xs ++ List.replicate (padB xs.length) 0)).length = k := by
    have := spread5_length (grp5 (spread8 xs ++ List.replicate (padB xs.length) 0))
    rw [g1, hlen, hk] at this
    omega
  have hp5 : padB xs.length < 5 := by unfold padB; omega
  unfold unbaseN baseN
  rw [places_map _ g2]
  simp only []
  rw [List.length_map, gl, g1, hlen]
  have hk8 : ¬ (k % 8 = 1 ∨ k % 8 = 3 ∨ k % 8 = 6) := by omega
  rw [if_neg hk8, grp8_spread xs _ h (by rw [List.length_replicate]; omega), if_pos]
  rw [List.all_eq_true]
  intro b hb
  rw [beq_iff_eq]
  rw [show 8 * ((8 * xs.length + padB xs.length) / 8) = 8 * xs.length by omega, List.drop_append_of_le_length (by rw [spread8_length]; omega), ← spread8_length, List.drop_length, List.nil_append] at hb
  exact List.eq_of_mem_replicate hb
theorem pad_tail (n : Nat) (h : ¬ (n % 8 = 1 ∨ n % 8 = 3 ∨ n % 8 = 6)) : 5 * n - 8 * (5 * n / 8) = padB (5 * n / 8) := by
  unfold padB
  obtain ⟨q, hq⟩ : ∃ q, q = n / 8 := ⟨_, rfl⟩
  obtain h | h | h | h | h : n = 8 * q ∨ n = 8 * q + 2 ∨ n = 8 * q + 4 ∨ n = 8 * q + 5 ∨ n = 8 * q + 7 := by omega
  · rw [show 5 * n / 8 = 5 * q by omega]; omega
  · rw [show 5 * n / 8 = 5 * q + 1 by omega]; omega
  · rw [show 5 * n / 8 = 5 * q + 2 by omega]; omega
  · rw [show 5 * n / 8 = 5 * q + 3 by omega]; omega
  · rw [show 5 * n / 8 = 5 * q + 4 by omega]; omega
theorem base_unbase (s xs : List Nat) (h : unbaseN s = some xs) : baseN xs = s ∧ (∀ c ∈ xs, c < 256) := by
  unfold unbaseN at h
  cases hp : placesN s with
  | none => rw [hp] at h; cases h
  | some l =>
    rw [hp] at h
    simp only [] at h
    split at h
    · cases h
    · rename_i hl
      split at h
      · rename_i hz
        cases h
        obtain ⟨m1, m2, m3⟩ := map_places s l hp
        have hL := spread5_length l
        obtain ⟨q1, q2, q3⟩ := spread8_grp ((spread5 l).length / 8) (spread5 l) (by omega) (by omega) (spread_bits5 l)
        refine ⟨?_, q3⟩
        have htail : (spread5 l).drop (8 * ((spread5 l).length / 8)) = List.replicate (padB ((spread5 l).length / 8)) 0 := by
          apply List.eq_replicate_iff.2
          refine ⟨?_, fun b hb => by rw [List.all_eq_true] at hz; exact beq_iff_eq.1 (hz b hb)⟩
          rw [List.length_drop, hL, m3]
          exact pad_tail s.length hl
        unfold baseN
        rw [q2, q1, ← htail, List.take_append_drop, grp5_spread l m2, m1]
      · cases h
end Go.Proofs.Ytgeoijbjndjpoaa
