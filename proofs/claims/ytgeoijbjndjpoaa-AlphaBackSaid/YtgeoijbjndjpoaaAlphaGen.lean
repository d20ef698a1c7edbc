/-
  Layer 4's plain mathematics, further: bytes as letters of W bits each, and back, by one number that all of them make; for W = 4 and 5 these are the digits of sixteen and the 32 letters.
-/
import Derived.Test.YtgeoijbjndjpoaaAlphaMath
namespace Go.Proofs.Ytgeoijbjndjpoaa
set_option linter.unusedVariables false
set_option linter.unusedSimpArgs false
/-- The last k digits of a number, the highest first; the number that digits make behind another one. -/
def digs (B n : Nat) : Nat → List Nat
  | 0 => []
  | k + 1 => digs B (n / B) k ++ [n % B]
def valA (B acc : Nat) : List Nat → Nat
  | [] => acc
  | x :: l => valA B (acc * B + x) l
theorem digs_length (B : Nat) : ∀ k n, (digs B n k).length = k
  | 0, n => rfl
  | k + 1, n => by rw [digs, List.length_append, digs_length B k]; rfl
theorem digs_lt (B : Nat) (hB : 0 < B) : ∀ k n, ∀ d ∈ digs B n k, d < B
  | 0, n, d, h => by cases h
  | k + 1, n, d, h => by
    rw [digs, List.mem_append] at h
    rcases h with h | h
    · exact digs_lt B hB k _ d h
    · rw [List.mem_singleton] at h
      rw [h]
      exact Nat.mod_lt _ hB
theorem valA_append (B : Nat) : ∀ (s t : List Nat) (acc : Nat), valA B acc (s ++ t) = valA B (valA B acc s) t
  | [], t, acc => rfl
  | x :: s, t, acc => by rw [List.cons_append, valA, valA, valA_append B s t]
theorem valA_snoc (B : Nat) (s : List Nat) (x acc : Nat) : valA B acc (s ++ [x]) = valA B acc s * B + x := by rw [valA_append]; rfl
theorem valA_lt (B : Nat) : ∀ (l : List Nat) (acc : Nat), (∀ d ∈ l, d < B) → valA B acc l < (acc + 1) * B ^ l.length
  | [], acc, _ => by simp [valA]
  | x :: l, acc, h => by
    have hx := h x (by simp)
    have ih := valA_lt B l (acc * B + x) (fun d hd => h d (by simp [hd]))
    rw [valA, List.length_cons, Nat.pow_succ]
    refine Nat.lt_of_lt_of_le ih ?_
    have : (acc * B + x + 1) * B ^ l.length ≤ ((acc + 1) * B) * B ^ l.length := by
      apply Nat.mul_le_mul_right
      rw [Nat.add_mul]
      omega
    rw [Nat.mul_assoc, Nat.mul_comm B] at this
    exact this
theorem digs_valA (B : Nat) : ∀ (l : List Nat) (acc m : Nat), (∀ d ∈ l, d < B) → digs B (valA B acc l) (l.length + m) = digs B acc m ++ l
  | [], acc, m, _ => by simp [valA]
  | x :: l, acc, m, h => by
    have hx := h x (by simp)
    have ih := digs_valA B l (acc * B + x) (m + 1) (fun d hd => h d (by simp [hd]))
    have e1 : (acc * B + x) / B = acc := by
      rw [Nat.mul_comm, Nat.mul_add_div (by omega), Nat.div_eq_of_lt hx, Nat.add_zero]
    have e2 : (acc * B + x) % B = x := by
      rw [Nat.mul_comm, Nat.mul_add_mod, Nat.mod_eq_of_lt hx]
    rw [valA, List.length_cons, show l.length + 1 + m = l.length + (m + 1) by omega, ih, digs, e1, e2]
    simp
theorem digs_val (B : Nat) (l : List Nat) (h : ∀ d ∈ l, d < B) : digs B (valA B 0 l) l.length = l := by
  have := digs_valA B l 0 0 h
  simpa [digs] using this
theorem val_digs (B : Nat) (hB : 0 < B) : ∀ k n, n < B ^ k → valA B 0 (digs B n k) = n
  | 0, n, h => by simp at h; subst h; rfl
  | k + 1, n, h => by
    have : n / B < B ^ k := by
      rw [Nat.pow_succ] at h
      exact Nat.div_lt_of_lt_mul (by rw [Nat.mul_comm]; exact h)
    rw [digs, valA_snoc, val_digs B hB k (n / B) this]
    have := Nat.div_add_mod n B
    rw [Nat.mul_comm] at this
    exact this
/-- How many bits 0 stand behind those of m bytes. -/
def padW (W m : Nat) : Nat := (W - 8 * m % W) % W
def spellN (W : Nat) (D xs : List Nat) : List Nat := (digs (2 ^ W) (valA 256 0 xs * 2 ^ padW W xs.length) ((8 * xs.length + W - 1) / W)).map fun n => D.getD n 0
def placesD (D : List Nat) : List Nat → Option (List Nat)
  | [] => some []
  | x :: s => match placeN D x, placesD D s with
    | some k, some l => some (k :: l)
    | _, _ => none
def unspellN (W : Nat) (D s : List Nat) : Option (List Nat) :=
  match placesD D s with
  | none => none
  | some l => if W * l.length % 8 < W ∧ valA (2 ^ W) 0 l % 2 ^ (W * l.length % 8) = 0 then some (digs 256 (valA (2 ^ W) 0 l / 2 ^ (W * l.length % 8)) (W * l.length / 8)) else none
/-- Letters that are all others. -/
def Apart (W : Nat) (D : List Nat) : Prop := D.length = 2 ^ W ∧ ∀ n, n < 2 ^ W → placeN D (D.getD n 0) = some n
theorem hex_apart : Apart 4 hexD := ⟨rfl, fun n h => hex_place ⟨n, h⟩⟩
theorem base_apart : Apart 5 baseD := ⟨rfl, fun n h => base_place ⟨n, h⟩⟩
theorem placesD_map {W : Nat} {D : List Nat} (hD : Apart W D) : ∀ l : List Nat, (∀ n ∈ l, n < 2 ^ W) → placesD D (l.map fun n => D.getD n 0) = some l
  | [], _ => rfl
  | n :: l, h => by
    rw [List.map_cons, placesD, hD.2 n (h n (by simp)), placesD_map hD l (fun m hm => h m (by simp [hm]))]
theorem map_placesD {W : Nat} {D : List Nat} (hD : Apart W D) : ∀ (s l : List Nat), placesD D s = some l → (l.map fun n => D.getD n 0) = s ∧ (∀ n ∈ l, n < 2 ^ W) ∧ l.length = s.length
  | [], l, h => by simp [placesD] at h; subst h; exact ⟨rfl, by simp, rfl⟩
  | x :: s, l, h => by
    rw [placesD] at h
    cases hx : placeN D x with
    | none => rw [hx] at h; simp at h
    | some k =>
      cases hr : placesD D s with
      | none => rw [hx, hr] at h; simp at h
      | some r =>
        rw [hx, hr] at h
        simp at h
        subst h
        obtain ⟨k1, k2⟩ := place_get hx
        obtain ⟨r1, r2, r3⟩ := map_placesD hD s r hr
        refine ⟨by rw [List.map_cons, k2, r1], fun n hn => ?_, by simp [r3]⟩
        rcases List.mem_cons.1 hn with rfl | hn
        · rw [← hD.1]; exact k1
        · exact r2 n hn
theorem placesD_snoc {D : List Nat} : ∀ (s l : List Nat) (x k : Nat), placesD D s = some l → placeN D x = some k → placesD D (s ++ [x]) = some (l ++ [k])
  | [], l, x, k, h, hk => by simp [placesD] at h; subst h; simp [placesD, hk]
  | y :: s, l, x, k, h, hk => by
    rw [placesD] at h
    cases hy : placeN D y with
    | none => rw [hy] at h; simp at h
    | some j =>
      cases hr : placesD D s with
      | none => rw [hy, hr] at h; simp at h
      | some r =>
        rw [hy, hr] at h
        simp at h
        subst h
        rw [List.cons_append, placesD, hy, placesD_snoc s r x k hr hk]
        rfl
theorem placesD_bad {D : List Nat} : ∀ (s r : List Nat) (x : Nat), placeN D x = none → placesD D (s ++ x :: r) = none
  | [], r, x, h => by rw [List.nil_append, placesD, h]
  | y :: s, r, x, h => by
    rw [List.cons_append, placesD, placesD_bad s r x h]
    cases placeN D y <;> rfl
theorem pad_len (W m : Nat) (h1 : 1 ≤ W) (h2 : W ≤ 8) : 8 * m + padW W m = W * ((8 * m + W - 1) / W) ∧ padW W m < W := by
  unfold padW
  obtain rfl | rfl | rfl | rfl | rfl | rfl | rfl | rfl : W = 1 ∨ W = 2 ∨ W = 3 ∨ W = 4 ∨ W = 5 ∨ W = 6 ∨ W = 7 ∨ W = 8 := by omega
  all_goals omega
theorem unspell_spell (W : Nat) (D xs : List Nat) (h1 : 1 ≤ W) (h2 : W ≤ 8) (hD : Apart W D) (h : ∀ c ∈ xs, c < 256) : unspellN W D (spellN W D xs) = some xs := by
  obtain ⟨p1, p2⟩ := pad_len W xs.length h1 h2
  have hv := valA_lt 256 xs 0 h
  unfold spellN unspellN
  generalize hp : padW W xs.length = p at *
  generalize hk : (8 * xs.length + W - 1) / W = k at *
  have hpos : 0 < 2 ^ p := Nat.two_pow_pos p
  have hlt : valA 256 0 xs * 2 ^ p < (2 ^ W) ^ k := by
    rw [← Nat.pow_mul, ← p1, Nat.pow_add, Nat.pow_mul]
    exact (Nat.mul_lt_mul_right hpos).2 (by simpa using hv)
  rw [placesD_map hD _ (digs_lt _ (Nat.two_pow_pos W) _ _)]
  simp only []
  rw [digs_length, val_digs _ (Nat.two_pow_pos W) k _ hlt, ← p1, show (8 * xs.length + p) % 8 = p by omega, show (8 * xs.length + p) / 8 = xs.length by omega, if_pos ⟨p2, Nat.mul_mod_left _ _⟩, Nat.mul_div_cancel _ hpos, digs_val 256 xs h]
theorem spell_unspell (W : Nat) (D s xs : List Nat) (h1 : 1 ≤ W) (h2 : W ≤ 8) (hD : Apart W D) (h : unspellN W D s = some xs) : spellN W D xs = s ∧ (∀ c ∈ xs, c < 256) := by
  unfold unspellN at h
  cases hp : placesD D s with
  | none => rw [hp] at h; cases h
  | some l =>
    rw [hp] at h
    simp only [] at h
    split at h
    · rename_i hc
      obtain ⟨c1, c2⟩ := hc
      obtain ⟨m1, m2, m3⟩ := map_placesD hD s l hp
      have hv := valA_lt (2 ^ W) l 0 m2
      have hdl := digs_val (2 ^ W) l m2
      generalize hV : valA (2 ^ W) 0 l = V at *
      obtain ⟨r, hr⟩ : ∃ r, r = W * l.length % 8 := ⟨_, rfl⟩
      obtain ⟨q, hq⟩ : ∃ q, q = W * l.length / 8 := ⟨_, rfl⟩
      rw [← hr, ← hq] at h
      rw [← hr] at c1 c2
      have hn : W * l.length = 8 * q + r := by omega
      have hr8 : r < 8 := by omega
      simp only [Option.some.injEq] at h
      subst h
      refine ⟨?_, digs_lt 256 (by decide) _ _⟩
      obtain ⟨p1, p2⟩ := pad_len W q h1 h2
      have hpr : padW W q = r ∧ (8 * q + W - 1) / W = l.length := by
        clear hv hdl c2
        generalize l.length = L at *
        unfold padW at *
        obtain rfl | rfl | rfl | rfl | rfl | rfl | rfl | rfl : W = 1 ∨ W = 2 ∨ W = 3 ∨ W = 4 ∨ W = 5 ∨ W = 6 ∨ W = 7 ∨ W = 8 := by omega
        all_goals omega
      unfold spellN
      have hpos : 0 < 2 ^ r := Nat.two_pow_pos r
      have hlt : V / 2 ^ r < 256 ^ q := by
        apply Nat.div_lt_of_lt_mul
        rw [show (256 : Nat) = 2 ^ 8 from rfl, ← Nat.pow_mul, ← Nat.pow_add, Nat.add_comm, ← hn, Nat.pow_mul]
        simpa using hv
      rw [digs_length, val_digs 256 (by decide) q _ hlt, hpr.1, hpr.2, Nat.div_mul_cancel (Nat.dvd_of_mod_eq_zero c2), hdl, m1]
    · cases h
/-! The digits of sixteen. -/
theorem digs_hex (acc c m : Nat) (hc : c < 256) : digs 16 (acc * 256 + c) (m + 2) = digs 16 acc m ++ [c / 16, c % 16] := by
  rw [show m + 2 = m + 1 + 1 from rfl, digs, digs, show (acc * 256 + c) / 16 / 16 = acc by omega, show (acc * 256 + c) / 16 % 16 = c / 16 by omega, show (acc * 256 + c) % 16 = c % 16 by omega, List.append_assoc]
  rfl
theorem hex_digs : ∀ (xs : List Nat) (acc m : Nat), (∀ c ∈ xs, c < 256) → (digs 16 (valA 256 acc xs) (2 * xs.length + m)).map (fun n => hexD.getD n 0) = (digs 16 acc m).map (fun n => hexD.getD n 0) ++ hexN xs
  | [], acc, m, _ => by simp [valA, hexN]
  | c :: xs, acc, m, h => by
    rw [valA, List.length_cons, show 2 * (xs.length + 1) + m = 2 * xs.length + (m + 2) by omega, hex_digs xs _ (m + 2) (fun d hd => h d (by simp [hd])), digs_hex acc c m (h c (by simp)), hexN]
    simp
theorem spell_hex (xs : List Nat) (h : ∀ c ∈ xs, c < 256) : spellN 4 hexD xs = hexN xs := by
  have := hex_digs xs 0 0 h
  unfold spellN padW
  rw [show (4 - 8 * xs.length % 4) % 4 = 0 by omega, show (8 * xs.length + 4 - 1) / 4 = 2 * xs.length + 0 by omega, Nat.pow_zero, Nat.mul_one]
  simpa [digs] using this
theorem unspell_hex (s : List Nat) : unspellN 4 hexD s = unhexN s := by
  cases h : unspellN 4 hexD s with
  | some xs =>
    obtain ⟨h1, h2⟩ := spell_unspell 4 hexD s xs (by decide) (by decide) hex_apart h
    rw [spell_hex xs h2] at h1
    rw [← h1, unhex_hex xs h2]
  | none =>
    cases h' : unhexN s with
    | none => rfl
    | some xs =>
      obtain ⟨h1, h2⟩ := hex_unhex s xs h'
      rw [← spell_hex xs h2] at h1
      rw [← h1, unspell_spell 4 hexD xs (by decide) (by decide) hex_apart h2] at h
      cases h
/-! The 32 letters. -/
theorem grp5_digs : ∀ (k : Nat) (l : List Nat) (acc m : Nat), l.length = 5 * k → (∀ b ∈ l, b < 2) → digs 32 (valA 2 acc l) (k + m) = digs 32 acc m ++ grp5 l
  | 0, l, acc, m, hl, _ => by
    have : l = [] := List.eq_nil_of_length_eq_zero (by omega)
    subst this
    simp [valA, grp5]
  | k + 1, l, acc, m, hl, hb => by
    match l, hl, hb with
    | a :: b :: c :: d :: e :: l, hl, hb =>
      have ha := hb a (by simp)
      have hb' := hb b (by simp)
      have hc := hb c (by simp)
      have hd := hb d (by simp)
      have he := hb e (by simp)
      simp only [valA]
      rw [show k + 1 + m = k + (m + 1) by omega, grp5_digs k l _ (m + 1) (by simp at hl; omega) (fun x hx => hb x (by simp [hx])), digs, grp5,
        show ((((((acc * 2 + a) * 2 + b) * 2 + c) * 2 + d) * 2 + e) / 32) = acc by omega, show ((((((acc * 2 + a) * 2 + b) * 2 + c) * 2 + d) * 2 + e) % 32) = 16 * a + 8 * b + 4 * c + 2 * d + e by omega]
      simp
theorem val_spread8 : ∀ (xs : List Nat) (acc : Nat), (∀ c ∈ xs, c < 256) → valA 2 acc (spread8 xs) = valA 256 acc xs
  | [], acc, _ => rfl
  | c :: xs, acc, h => by
    have hc := h c (by simp)
    rw [spread8, valA_append, valA, ← val_spread8 xs (acc * 256 + c) (fun d hd => h d (by simp [hd]))]
    congr 1
    simp only [to8, valA]
    omega
theorem val_zeros : ∀ (p acc : Nat), valA 2 acc (List.replicate p 0) = acc * 2 ^ p
  | 0, acc => by simp [valA]
  | p + 1, acc => by rw [List.replicate_succ, valA, val_zeros p, Nat.pow_succ, Nat.add_zero, Nat.mul_assoc, Nat.mul_comm 2]
theorem spell_base (xs : List Nat) (h : ∀ c ∈ xs, c < 256) : spellN 5 baseD xs = baseN xs := by
  have hlen : (spread8 xs ++ List.replicate (padB xs.length) 0).length = 8 * xs.length + padB xs.length := by rw [List.length_append, spread8_length, List.length_replicate]
  have hbits : ∀ b ∈ spread8 xs ++ List.replicate (padB xs.length) 0, b < 2 := fun b hb => by
    rcases List.mem_append.1 hb with hb | hb
    · exact spread_bits8 xs b hb
    · rw [List.eq_of_mem_replicate hb]; decide
  have hpad : padW 5 xs.length = padB xs.length := rfl
  have hk : 8 * xs.length + padB xs.length = 5 * ((8 * xs.length + 5 - 1) / 5) := by unfold padB; omega
  have hg := grp5_digs _ _ 0 0 (hlen.trans hk) hbits
  rw [valA_append, val_spread8 xs 0 h, val_zeros] at hg
  unfold spellN baseN
  rw [hpad, ← show digs 32 0 0 ++ grp5 (spread8 xs ++ List.replicate (padB xs.length) 0) = grp5 (spread8 xs ++ List.replicate (padB xs.length) 0) from rfl, ← hg]
  rfl
theorem unspell_base (s : List Nat) : unspellN 5 baseD s = unbaseN s := by
  cases h : unspellN 5 baseD s with
  | some xs =>
    obtain ⟨h1, h2⟩ := spell_unspell 5 baseD s xs (by decide) (by decide) base_apart h
    rw [spell_base xs h2] at h1
    rw [← h1, unbase_base xs h2]
  | none =>
    cases h' : unbaseN s with
    | none => rfl
    | some xs =>
      obtain ⟨h1, h2⟩ := base_unbase s xs h'
      rw [← spell_base xs h2] at h1
      rw [← h1, unspell_spell 5 baseD xs (by decide) (by decide) base_apart h2] at h
      cases h
/-! A step of the register. -/
theorem reg_in (V B p W : Nat) (hp : p < 2 ^ W) : (V * 2 ^ W + p) / 2 ^ (B + W) = V / 2 ^ B := by
  rw [Nat.add_comm B W, Nat.pow_add, ← Nat.div_div_eq_div_mul, Nat.mul_comm, Nat.mul_add_div (Nat.two_pow_pos W), Nat.div_eq_of_lt hp, Nat.add_zero]
theorem mul_mod_in (V p M B : Nat) (hM : 0 < M) (hp : p < B) : (V * B + p) % (M * B) = (V % M) * B + p := by
  have h1 : V * B + p = M * B * (V / M) + ((V % M) * B + p) := by
    have := Nat.div_add_mod V M
    conv => lhs; rw [← this]
    rw [Nat.add_mul, Nat.add_assoc, Nat.mul_right_comm]
  have h2 : (V % M) * B + p < M * B := by
    have h3 : V % M + 1 ≤ M := Nat.mod_lt _ hM
    have h4 := Nat.mul_le_mul_right B h3
    rw [Nat.add_mul] at h4
    omega
  rw [h1, Nat.mul_add_mod, Nat.mod_eq_of_lt h2]
theorem reg_mod (V p W : Nat) (hW : W ≤ 32) (hp : p < 2 ^ W) : (V % 4294967296) * 2 ^ W % 4294967296 + p = (V * 2 ^ W + p) % 4294967296 := by
  have e : (4294967296 : Nat) = 2 ^ (32 - W) * 2 ^ W := by rw [← Nat.pow_add, Nat.sub_add_cancel hW]
  have hpos : 0 < 2 ^ W := Nat.two_pow_pos W
  have e1 : (V % 4294967296) * 2 ^ W % 4294967296 = (V * 2 ^ W) % 4294967296 := Nat.mod_mul_mod _ _ _
  rw [e1]
  have e2 : (V * 2 ^ W) % 4294967296 = (V % 2 ^ (32 - W)) * 2 ^ W := by
    conv => lhs; rw [e]
    rw [Nat.mul_mod_mul_right]
  have e3 : (V * 2 ^ W + p) % 4294967296 = (V % 2 ^ (32 - W)) * 2 ^ W + p := by
    conv => lhs; rw [e]
    exact mul_mod_in V p _ _ (Nat.two_pow_pos _) hp
  rw [e2, e3]
end Go.Proofs.Ytgeoijbjndjpoaa
