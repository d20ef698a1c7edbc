/-
  Frames with bits turned, as lists: within 32 in a row of the sum, or of what is in it, or in the last byte: told to be wrong. (Plain.)
-/
import Derived.Test.YtaahmpabhophfaaDoorCrcMath
import Derived.Test.YtaahmpabhophfaaDoorFrameMath
import Derived.Test.YtaahmpabhophfaaDoorCrcFeed
namespace Go.Proofs.YtaahmpabhophfaaDoor
set_option linter.unusedVariables false
set_option linter.unusedSimpArgs false
theorem xor_self_ne {a d : Nat} (h : a = a ^^^ d) : d = 0 := by
  have := congrArg (a ^^^ ·) h
  simp only [← Nat.xor_assoc, Nat.xor_self, Nat.zero_xor] at this
  exact this.symm
theorem crc_lt (xs : List Nat) (h : ∀ c ∈ xs, c < 256) : crcN xs < 4294967296 := by unfold crcN; exact ones_lt _ (regN_lt xs _ (by decide) h)
theorem crc_differs (l m : List Nat) (hl : ∀ c ∈ l, c < 256) (hm : ∀ c ∈ m, c < 256) (h : l.length = m.length) (k b : Nat) (hn : numN l = numN m ^^^ (2 ^ k * b)) (hk : k ≤ 8 * m.length) (hb : b < 4294967296) (h0 : b ≠ 0) : crcN l ≠ crcN m := by
  intro he
  have hd := reg_diff ones32 l m h hl hm _ hn
  have hz := burst_ne (8 * m.length) k b hk hb h0
  unfold crcN at he
  have e2 : regN ones32 l = regN ones32 m := by
    have := congrArg (· ^^^ ones32) he
    simp only [Nat.xor_assoc, Nat.xor_self, Nat.xor_zero] at this
    exact this
  rw [hd] at e2
  exact hz (xor_self_ne e2.symm)
/-- What is in a frame is other bytes, of another sum. (first_turned asks that every sum be below 2^32: here of these two.) -/
theorem first_other (b c : List Nat) (hb : b.length ≤ 16384) (hc : c.length = b.length) (h1 : crcN c < 4294967296) (h2 : crcN b < 4294967296) (hne : crcN c ≠ crcN b) : firstN crcN (be4 b.length ++ (be4 (crcN b) ++ c)) = ([], 0, 2) := by
  have hu : be4 (crcN b) ≠ be4 (crcN c) := fun h => hne (be4_inj h1 h2 h.symm)
  have := first_sum crcN c (be4 (crcN b)) [] (by omega) (be4_len _) hu
  rwa [List.append_nil, hc] at this
theorem num_set (l : List Nat) : ∀ p t, p < l.length → t < 256 → (∀ c ∈ l, c < 256) → numN (l.set p (l.getD p 0 ^^^ t)) = numN l ^^^ (2 ^ (8 * p) * t) := by
  induction l with
  | nil => intro p q hp; simp at hp
  | cons c l ih =>
    intro p t hp ht hc
    have h1 := hc c (List.mem_cons_self ..)
    have e : c + 256 * numN l = c ^^^ (2 ^ 8 * numN l) := join_xor 8 c (numN l) h1
    cases p with
    | zero =>
      have hlt : c ^^^ t < 2 ^ 8 := Nat.xor_lt_two_pow (n := 8) h1 ht
      have e2 : (c ^^^ t) + 256 * numN l = (c ^^^ t) ^^^ (2 ^ 8 * numN l) := join_xor 8 _ (numN l) hlt
      show (c ^^^ t) + 256 * numN l = (c + 256 * numN l) ^^^ (2 ^ (8 * 0) * t)
      rw [e2, e, Nat.mul_zero, Nat.pow_zero, Nat.one_mul, Nat.xor_assoc, Nat.xor_comm t, ← Nat.xor_assoc]
    | succ p =>
      have h2 := ih p t (by simpa using hp) ht (fun x hx => hc x (List.mem_cons_of_mem _ hx))
      show c + 256 * numN (l.set p (l.getD p 0 ^^^ t)) = (c + 256 * numN l) ^^^ (2 ^ (8 * (p + 1)) * t)
      have e3 : c + 256 * numN (l.set p (l.getD p 0 ^^^ t)) = c ^^^ (2 ^ 8 * numN (l.set p (l.getD p 0 ^^^ t))) := join_xor 8 c _ h1
      rw [e3, h2, mul_xor, e, ← Nat.mul_assoc, ← Nat.pow_add, show 8 + 8 * p = 8 * (p + 1) by omega, Nat.xor_assoc]
theorem getD_right (l m : List Nat) (i : Nat) (h : l.length ≤ i) : (l ++ m).getD i 0 = m.getD (i - l.length) 0 := by
  simp [List.getD, List.getElem?_append_right h]
/-- Bits of the last byte turned. -/
theorem turn_last (b : List Nat) (t : Nat) (hb : b.length ≤ 16384) (hx : ∀ c ∈ b, c < 256) (ht : t < 256) (h0 : t ≠ 0) : firstN crcN ((frN crcN b).set (7 + b.length) ((frN crcN b).getD (7 + b.length) 0 ^^^ t)) = ([], 0, 2) := by
  by_cases hn : b.length = 0
  · have hb0 : b = [] := List.eq_nil_of_length_eq_zero hn
    subst hb0
    have hne : (be4 (crcN [])).set 3 ((be4 (crcN [])).getD 3 0 ^^^ t) ≠ be4 (crcN []) := by
      intro h
      have hh := num_set (be4 (crcN [])) 3 t (by rw [be4_len]; omega) ht (be4_lt _)
      rw [h] at hh
      have := xor_self_ne hh
      have h1 : 2 ^ (8 * 3) * t ≠ 0 := Nat.mul_ne_zero (by decide) h0
      exact h1 this
    have := first_sum crcN [] ((be4 (crcN [])).set 3 ((be4 (crcN [])).getD 3 0 ^^^ t)) [] hb (by rw [List.length_set, be4_len]) hne
    rw [List.append_nil, List.append_nil] at this
    exact this
  · have hset : (frN crcN b).set (7 + b.length) ((frN crcN b).getD (7 + b.length) 0 ^^^ t) = be4 b.length ++ (be4 (crcN b) ++ b.set (b.length - 1) (b.getD (b.length - 1) 0 ^^^ t)) := by
      unfold frN
      have e1 : (be4 b.length).length = 4 := be4_len _
      have e2 : (be4 (crcN b)).length = 4 := be4_len _
      rw [List.set_append_right _ _ (by omega), List.set_append_right _ _ (by omega), getD_right _ _ _ (by omega), getD_right _ _ _ (by omega), e1, e2, show 7 + b.length - 4 - 4 = b.length - 1 by omega]
    have hbb : ∀ c ∈ b.set (b.length - 1) (b.getD (b.length - 1) 0 ^^^ t), c < 256 := by
      intro c hc
      rcases List.mem_or_eq_of_mem_set hc with h1 | h1
      · exact hx c h1
      · rw [h1]; exact Nat.xor_lt_two_pow (n := 8) (getD_lt b hx _) ht
    have hne := crc_differs (b.set (b.length - 1) (b.getD (b.length - 1) 0 ^^^ t)) b hbb hx (by rw [List.length_set]) (8 * (b.length - 1)) t (num_set b (b.length - 1) t (by omega) ht hx) (by omega) (by omega) h0
    rw [hset, first_other b _ hb (by rw [List.length_set]) (crc_lt _ hbb) (crc_lt _ hx) hne]
/-- The bytes behind so many of the pattern's bits. -/
def turnN (xs : List Nat) (k burst : Nat) : Nat → List Nat
  | 0 => xs
  | i + 1 => if burst / 2 ^ i % 2 = 1 then (turnN xs k burst i).set ((k + i) / 8) ((turnN xs k burst i).getD ((k + i) / 8) 0 ^^^ 2 ^ ((k + i) % 8)) else turnN xs k burst i
theorem turnN_length (xs : List Nat) (k burst : Nat) : ∀ i, (turnN xs k burst i).length = xs.length
  | 0 => rfl
  | i + 1 => by
    rw [turnN]
    split
    · rw [List.length_set, turnN_length xs k burst i]
    · exact turnN_length xs k burst i
theorem turnN_bytes (xs : List Nat) (k burst : Nat) (h : ∀ c ∈ xs, c < 256) : ∀ i, ∀ c ∈ turnN xs k burst i, c < 256
  | 0 => h
  | i + 1 => by
    have ih := turnN_bytes xs k burst h i
    rw [turnN]
    split
    · intro c hc
      rcases List.mem_or_eq_of_mem_set hc with h1 | h1
      · exact ih c h1
      · rw [h1]; exact byte_flip _ _ (getD_lt _ ih _) (Nat.mod_lt _ (by decide))
    · exact ih
theorem turnN_num (xs : List Nat) (k burst : Nat) (h : ∀ c ∈ xs, c < 256) : ∀ i, k + i ≤ 8 * xs.length → numN (turnN xs k burst i) = numN xs ^^^ (2 ^ k * (burst % 2 ^ i))
  | 0 => fun _ => by rw [Nat.pow_zero, Nat.mod_one, Nat.mul_zero, Nat.xor_zero]; rfl
  | i + 1 => fun hi => by
    have ih := turnN_num xs k burst h i (by omega)
    rw [turnN, low_more, mul_xor, ← Nat.xor_assoc, ← ih]
    split
    · rename_i hb
      rw [num_flip _ _ _ (by rw [turnN_length]; omega) (Nat.mod_lt _ (by decide)) (turnN_bytes xs k burst h i), show 8 * ((k + i) / 8) + (k + i) % 8 = k + i by omega, hb, Nat.mul_one, Nat.pow_add]
    · rename_i hb
      rw [show burst / 2 ^ i % 2 = 0 by omega, Nat.mul_zero, Nat.mul_zero, Nat.xor_zero]
theorem turn_full (xs : List Nat) (k burst : Nat) (h : ∀ c ∈ xs, c < 256) (hk : k + 32 ≤ 8 * xs.length) (hb : burst < 4294967296) : numN (turnN xs k burst 32) = numN xs ^^^ (2 ^ k * burst) := by
  have hn := turnN_num xs k burst h 32 hk
  rwa [Nat.mod_eq_of_lt (show burst < 2 ^ 32 from hb)] at hn
/-- What stands ahead, and what stands behind, stays. -/
theorem turnN_pre (p l : List Nat) (k burst : Nat) : ∀ i, turnN (p ++ l) (8 * p.length + k) burst i = p ++ turnN l k burst i
  | 0 => rfl
  | i + 1 => by
    have ih := turnN_pre p l k burst i
    rw [turnN, turnN, ih]
    have e1 : (8 * p.length + k + i) / 8 = p.length + (k + i) / 8 := by omega
    have e2 : (8 * p.length + k + i) % 8 = (k + i) % 8 := by omega
    rw [e1, e2]
    split
    · rw [List.set_append_right _ _ (by omega)]
      simp [List.getD, List.getElem?_append_right]
    · rfl
theorem turnN_post (l q : List Nat) (k burst : Nat) : ∀ i, k + i ≤ 8 * l.length → turnN (l ++ q) k burst i = turnN l k burst i ++ q
  | 0 => fun _ => rfl
  | i + 1 => fun hi => by
    have ih := turnN_post l q k burst i (by omega)
    have hl := turnN_length l k burst i
    have hlt : (k + i) / 8 < (turnN l k burst i).length := by omega
    rw [turnN, turnN, ih]
    split
    · rw [List.set_append_left _ _ hlt]
      simp [List.getD, List.getElem?_append_left hlt]
    · rfl
/-- Bits of the sum turned. -/
theorem turn_sum (b : List Nat) (burst : Nat) (hb : b.length ≤ 16384) (hx : ∀ c ∈ b, c < 256) (hB : burst < 4294967296) (h0 : burst ≠ 0) : firstN crcN (turnN (frN crcN b) 32 burst 32) = ([], 0, 2) := by
  have e : turnN (frN crcN b) 32 burst 32 = be4 b.length ++ (turnN (be4 (crcN b)) 0 burst 32 ++ b) := by
    unfold frN
    have h1 := turnN_pre (be4 b.length) (be4 (crcN b) ++ b) 0 burst 32
    rw [be4_len] at h1
    rw [h1, turnN_post _ _ _ _ _ (by rw [be4_len]; decide)]
  have hne : turnN (be4 (crcN b)) 0 burst 32 ≠ be4 (crcN b) := by
    intro h
    have hn := turn_full (be4 (crcN b)) 0 burst (be4_lt _) (by rw [be4_len]; decide) hB
    rw [h] at hn
    have := xor_self_ne hn
    simp at this
    exact h0 this
  have h2 := first_sum crcN b (turnN (be4 (crcN b)) 0 burst 32) [] hb (by rw [turnN_length, be4_len]) hne
  rw [List.append_nil] at h2
  rw [e, h2]
/-- Bits of what is in it turned. -/
theorem turn_body (b : List Nat) (k burst : Nat) (hb : b.length ≤ 16384) (hx : ∀ c ∈ b, c < 256) (hk : k + 32 ≤ 8 * b.length) (hB : burst < 4294967296) (h0 : burst ≠ 0) : firstN crcN (turnN (frN crcN b) (64 + k) burst 32) = ([], 0, 2) := by
  have e : turnN (frN crcN b) (64 + k) burst 32 = be4 b.length ++ (be4 (crcN b) ++ turnN b k burst 32) := by
    unfold frN
    have h1 := turnN_pre (be4 b.length ++ be4 (crcN b)) b k burst 32
    rw [List.length_append, be4_len, be4_len, List.append_assoc] at h1
    rw [h1, List.append_assoc]
  have hne := crc_differs (turnN b k burst 32) b (turnN_bytes b k burst hx 32) hx (turnN_length b k burst 32) k burst (turn_full b k burst hx hk hB) (by omega) hB h0
  have hs : crcN (turnN b k burst 32) < 4294967296 := crc_lt _ (turnN_bytes b k burst hx 32)
  have hs2 : crcN b < 4294967296 := crc_lt _ hx
  have h2 := first_other b (turnN b k burst 32) hb (turnN_length b k burst 32) hs hs2 hne
  rw [e, h2]
end Go.Proofs.YtaahmpabhophfaaDoor
