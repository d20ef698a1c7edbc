/-
  Plain mathematics of the check sum: one step of the register is linear and takes nothing but 0 to 0; bytes, fed from the lowest bit on, are so many steps of the register with the text's number laid over it.
-/
import Derived.Test.YtaahmpabhophfaaDoorRows
namespace Go.Proofs.YtaahmpabhophfaaDoor
def poly : Nat := 2197175160
/-- One step of the register, with a 0 fed in. -/
def zst (r : Nat) : Nat := if r % 2 = 1 then r / 2 ^^^ poly else r / 2
def zn : Nat → Nat → Nat
  | 0, r => r
  | k + 1, r => zn k (zst r)
theorem zn_succ (k : Nat) : ∀ r, zn (k + 1) r = zst (zn k r) := by
  induction k with
  | zero => intro r; rfl
  | succ k ih => intro r; rw [zn, ih (zst r), zn]
theorem zn_add (a : Nat) : ∀ b r, zn (a + b) r = zn b (zn a r) := by
  induction a with
  | zero => intro b r; rw [Nat.zero_add]; rfl
  | succ a ih => intro b r; rw [show a + 1 + b = (a + b) + 1 by omega, zn, ih b (zst r), zn]
theorem xor_half (a b : Nat) : (a ^^^ b) / 2 = a / 2 ^^^ b / 2 := by
  apply Nat.eq_of_testBit_eq
  intro i
  rw [← Nat.testBit_succ, Nat.testBit_xor, Nat.testBit_xor, ← Nat.testBit_succ, ← Nat.testBit_succ]
theorem xor_mod2 (a b : Nat) : (a ^^^ b) % 2 = (a % 2 + b % 2) % 2 := by
  have h : (a ^^^ b).testBit 0 = (a.testBit 0 ^^ b.testBit 0) := Nat.testBit_xor a b 0
  rw [Nat.testBit_zero, Nat.testBit_zero, Nat.testBit_zero] at h
  obtain h1 | h1 : a % 2 = 0 ∨ a % 2 = 1 := by omega
  · obtain h2 | h2 : b % 2 = 0 ∨ b % 2 = 1 := by omega
    · rw [h1, h2] at h ⊢; have := of_decide_eq_false (h.trans (by decide)); omega
    · rw [h1, h2] at h ⊢; have := of_decide_eq_true (h.trans (by decide)); omega
  · obtain h2 | h2 : b % 2 = 0 ∨ b % 2 = 1 := by omega
    · rw [h1, h2] at h ⊢; have := of_decide_eq_true (h.trans (by decide)); omega
    · rw [h1, h2] at h ⊢; have := of_decide_eq_false (h.trans (by decide)); omega
theorem xor_swap (a b c d : Nat) : (a ^^^ b) ^^^ (c ^^^ d) = (a ^^^ c) ^^^ (b ^^^ d) := by
  rw [Nat.xor_assoc, Nat.xor_assoc, ← Nat.xor_assoc b c d, Nat.xor_comm b c, Nat.xor_assoc c b d]
theorem zst_xor (a b : Nat) : zst (a ^^^ b) = zst a ^^^ zst b := by
  unfold zst
  rw [xor_half, xor_mod2]
  obtain h1 | h1 : a % 2 = 0 ∨ a % 2 = 1 := by omega
  · obtain h2 | h2 : b % 2 = 0 ∨ b % 2 = 1 := by omega
    · rw [h1, h2]; rfl
    · rw [h1, h2]
      show (a / 2 ^^^ b / 2) ^^^ poly = a / 2 ^^^ (b / 2 ^^^ poly)
      rw [Nat.xor_assoc]
  · obtain h2 | h2 : b % 2 = 0 ∨ b % 2 = 1 := by omega
    · rw [h1, h2]
      show (a / 2 ^^^ b / 2) ^^^ poly = (a / 2 ^^^ poly) ^^^ b / 2
      rw [Nat.xor_assoc, Nat.xor_assoc, Nat.xor_comm (b / 2)]
    · rw [h1, h2]
      show a / 2 ^^^ b / 2 = (a / 2 ^^^ poly) ^^^ (b / 2 ^^^ poly)
      rw [xor_swap, Nat.xor_self, Nat.xor_zero]
theorem zn_xor (k : Nat) : ∀ a b, zn k (a ^^^ b) = zn k a ^^^ zn k b := by
  induction k with
  | zero => intro a b; rfl
  | succ k ih => intro a b; rw [zn, zn, zn, zst_xor, ih]
theorem zst_zero : zst 0 = 0 := rfl
theorem zn_zero (k : Nat) : zn k 0 = 0 := by
  induction k with
  | zero => rfl
  | succ k ih => rw [zn, zst_zero, ih]
theorem zst_even (y : Nat) : zst (2 * y) = y := by unfold zst; rw [if_neg (by omega)]; omega
theorem zn_pow (k : Nat) : ∀ y, zn k (2 ^ k * y) = y := by
  induction k with
  | zero => intro y; rw [Nat.pow_zero, Nat.one_mul]; rfl
  | succ k ih => intro y; rw [zn, Nat.pow_succ, Nat.mul_comm (2 ^ k) 2, Nat.mul_assoc, zst_even, ih]
theorem zst_lt (r : Nat) (h : r < 4294967296) : zst r < 4294967296 := by
  unfold zst
  split
  · exact Nat.xor_lt_two_pow (n := 32) (by omega) (by decide)
  · omega
theorem zn_lt (k : Nat) : ∀ r, r < 4294967296 → zn k r < 4294967296 := by
  induction k with
  | zero => intro r h; exact h
  | succ k ih => intro r h; rw [zn]; exact ih _ (zst_lt r h)
/-- Nothing but 0 comes to 0. -/
theorem zst_ne (r : Nat) (h : r < 4294967296) (h0 : r ≠ 0) : zst r ≠ 0 := by
  unfold zst
  split
  · intro hx
    have ht : (r / 2 ^^^ poly).testBit 31 = true := by
      rw [Nat.testBit_xor, Nat.testBit_lt_two_pow (show r / 2 < 2 ^ 31 by omega)]
      decide
    rw [hx] at ht
    simp at ht
  · omega
theorem zn_ne (k : Nat) : ∀ r, r < 4294967296 → r ≠ 0 → zn k r ≠ 0 := by
  induction k with
  | zero => intro r _ h; exact h
  | succ k ih => intro r h h0; rw [zn]; exact ih _ (zst_lt r h) (zst_ne r h h0)
/-- One bit fed in. -/
def bst (r b : Nat) : Nat := if b = r % 2 then r / 2 else r / 2 ^^^ poly
theorem bst_eq (r b : Nat) (hb : b < 2) : bst r b = zst (r ^^^ b) := by
  unfold bst zst
  rw [xor_half, xor_mod2, show b / 2 = 0 by omega, Nat.xor_zero]
  obtain h | h : b = r % 2 ∨ b ≠ r % 2 := by omega
  · rw [if_pos h, if_neg (by omega)]
  · rw [if_neg h, if_pos (by omega)]
/-- So many bits of a number fed in, the lowest first. -/
def feed : Nat → Nat → Nat → Nat
  | 0, r, _ => r
  | k + 1, r, c => feed k (bst r (c % 2)) (c / 2)
theorem low_split (c k : Nat) : c % 2 ^ (k + 1) = (c % 2) ^^^ (2 * (c / 2 % 2 ^ k)) := by
  have e : c % 2 ^ (k + 1) = c % 2 + 2 * (c / 2 % 2 ^ k) := by rw [Nat.pow_succ, Nat.mul_comm, Nat.mod_mul]
  rw [e]
  apply Nat.eq_of_testBit_eq
  intro i
  rw [Nat.testBit_xor]
  cases i with
  | zero =>
    rw [Nat.testBit_zero, Nat.testBit_zero, Nat.testBit_zero, show (c % 2 + 2 * (c / 2 % 2 ^ k)) % 2 = c % 2 % 2 by omega, show 2 * (c / 2 % 2 ^ k) % 2 = 0 by omega]
    simp
  | succ i =>
    rw [Nat.testBit_succ, Nat.testBit_succ, Nat.testBit_succ, show (c % 2 + 2 * (c / 2 % 2 ^ k)) / 2 = c / 2 % 2 ^ k by omega, show c % 2 / 2 = 0 by omega, show 2 * (c / 2 % 2 ^ k) / 2 = c / 2 % 2 ^ k by omega]
    simp
theorem feed_eq (k : Nat) : ∀ r c, feed k r c = zn k (r ^^^ c % 2 ^ k) := by
  induction k with
  | zero => intro r c; rw [Nat.pow_zero, Nat.mod_one, Nat.xor_zero]; rfl
  | succ k ih =>
    intro r c
    rw [feed, ih, bst_eq r (c % 2) (by omega), zn, low_split, ← Nat.xor_assoc, zst_xor (r ^^^ c % 2), zst_even]
/-- A byte fed in. -/
def byteN (r c : Nat) : Nat := zn 8 (r ^^^ c)
theorem feed_byte (r c : Nat) (hc : c < 256) : feed 8 r c = byteN r c := by
  rw [feed_eq, Nat.mod_eq_of_lt (by simpa using hc)]; rfl
def regN (r : Nat) (l : List Nat) : Nat := l.foldl byteN r
theorem regN_cons (r c : Nat) (l : List Nat) : regN r (c :: l) = regN (byteN r c) l := rfl
theorem regN_append (l : List Nat) : ∀ r m, regN r (l ++ m) = regN (regN r l) m := by
  induction l with
  | nil => intro r m; rfl
  | cons c l ih => intro r m; rw [List.cons_append, regN_cons, regN_cons, ih]
theorem regN_lt (l : List Nat) : ∀ r, r < 4294967296 → (∀ c ∈ l, c < 256) → regN r l < 4294967296 := by
  induction l with
  | nil => intro r h _; exact h
  | cons c l ih =>
    intro r h hc
    rw [regN_cons]
    have h1 := hc c (List.mem_cons_self ..)
    exact ih _ (zn_lt 8 _ (Nat.xor_lt_two_pow (n := 32) h (by omega))) (fun x hx => hc x (List.mem_cons_of_mem _ hx))
theorem regN_zeros (n : Nat) : ∀ r, regN r (List.replicate n 0) = zn (8 * n) r := by
  induction n with
  | zero => intro r; rfl
  | succ n ih => intro r; rw [List.replicate_succ, regN_cons, ih, byteN, Nat.xor_zero, ← zn_add, show 8 + 8 * n = 8 * (n + 1) by omega]
/-- Another register ahead of the same bytes. -/
theorem regN_xor (l : List Nat) : ∀ r s, regN (r ^^^ s) l = regN r l ^^^ zn (8 * l.length) s := by
  induction l with
  | nil => intro r s; rfl
  | cons c l ih =>
    intro r s
    rw [regN_cons, regN_cons]
    have e : byteN (r ^^^ s) c = byteN r c ^^^ zn 8 s := by
      unfold byteN
      rw [← zn_xor, Nat.xor_assoc, Nat.xor_comm s c, ← Nat.xor_assoc]
    rw [e, ih, ← zn_add, List.length_cons, show 8 + 8 * l.length = 8 * (l.length + 1) by omega]
def ones32 : Nat := 4294967295
/-- The check sum of bytes. -/
def crcN (l : List Nat) : Nat := regN ones32 l ^^^ ones32
/-- The sum of two texts out of both sums. -/
theorem crc_join (a b : List Nat) : crcN (a ++ b) = zn (8 * b.length) (crcN a) ^^^ crcN b := by
  unfold crcN
  have e : regN ones32 a = ones32 ^^^ (regN ones32 a ^^^ ones32) := by
    rw [Nat.xor_comm (regN ones32 a), ← Nat.xor_assoc, Nat.xor_self, Nat.zero_xor]
  rw [regN_append]
  conv => lhs; rw [e]
  rw [regN_xor, Nat.xor_comm (regN ones32 b), Nat.xor_assoc]
/-- Bytes 0 behind a text. -/
def zerosN (sum n : Nat) : Nat := zn (8 * n) (sum ^^^ ones32) ^^^ ones32
theorem zeros_add (sum a b : Nat) : zerosN (zerosN sum a) b = zerosN sum (a + b) := by
  unfold zerosN
  rw [Nat.xor_assoc (zn (8 * a) (sum ^^^ ones32)), Nat.xor_self, Nat.xor_zero, ← zn_add, Nat.mul_add]
/-- The number that bytes are, the first one the lowest. -/
def numN : List Nat → Nat
  | [] => 0
  | c :: l => c + 256 * numN l
theorem join_xor (k c m : Nat) (hc : c < 2 ^ k) : c + 2 ^ k * m = c ^^^ (2 ^ k * m) := by
  apply Nat.eq_of_testBit_eq
  intro j
  rw [Nat.add_comm, Nat.testBit_two_pow_mul_add m hc j, Nat.testBit_xor, Nat.testBit_two_pow_mul]
  by_cases hj : j < k
  · have : ¬ k ≤ j := by omega
    simp [hj, this]
  · have h1 : k ≤ j := by omega
    have h2 : c.testBit j = false := Nat.testBit_lt_two_pow (Nat.lt_of_lt_of_le hc (Nat.pow_le_pow_right (by decide) h1))
    simp [hj, h1, h2]
theorem mul_xor (k a b : Nat) : 2 ^ k * (a ^^^ b) = (2 ^ k * a) ^^^ (2 ^ k * b) := by
  apply Nat.eq_of_testBit_eq
  intro j
  rw [Nat.testBit_xor, Nat.testBit_two_pow_mul, Nat.testBit_two_pow_mul, Nat.testBit_two_pow_mul, Nat.testBit_xor]
  by_cases hj : k ≤ j <;> simp [hj]
theorem reg_num (l : List Nat) : ∀ r, (∀ c ∈ l, c < 256) → regN r l = zn (8 * l.length) (r ^^^ numN l) := by
  induction l with
  | nil => intro r _; rw [numN, Nat.xor_zero]; rfl
  | cons c l ih =>
    intro r hc
    have h1 := hc c (List.mem_cons_self ..)
    rw [regN_cons, ih _ (fun x hx => hc x (List.mem_cons_of_mem _ hx)), numN, List.length_cons, show 8 * (l.length + 1) = 8 + 8 * l.length by omega, zn_add]
    have e : c + 256 * numN l = c ^^^ (2 ^ 8 * numN l) := join_xor 8 c (numN l) h1
    rw [e, ← Nat.xor_assoc, zn_xor 8, zn_pow]
    rfl
/-- Two texts of one length: what their registers differ by. -/
theorem reg_diff (r : Nat) (l m : List Nat) (h : l.length = m.length) (hl : ∀ c ∈ l, c < 256) (hm : ∀ c ∈ m, c < 256) (d : Nat) (hd : numN l = numN m ^^^ d) :
    regN r l = regN r m ^^^ zn (8 * m.length) d := by
  rw [reg_num l r hl, reg_num m r hm, hd, h, ← Nat.xor_assoc, zn_xor]
/-- Within 32 bits in a row: unlike registers. -/
theorem burst_ne (n k burst : Nat) (hk : k ≤ n) (hb : burst < 4294967296) (h0 : burst ≠ 0) : zn n (2 ^ k * burst) ≠ 0 := by
  rw [show n = k + (n - k) by omega, zn_add, zn_pow]
  exact zn_ne _ _ hb h0
theorem byte_flip (c q : Nat) (hc : c < 256) (hq : q < 8) : c ^^^ 2 ^ q < 256 :=
  Nat.xor_lt_two_pow (n := 8) hc (Nat.pow_lt_pow_right (by decide) hq)
/-- One bit of one byte turned. -/
theorem num_flip (l : List Nat) : ∀ p q, p < l.length → q < 8 → (∀ c ∈ l, c < 256) → numN (l.set p (l.getD p 0 ^^^ 2 ^ q)) = numN l ^^^ 2 ^ (8 * p + q) := by
  induction l with
  | nil => intro p q hp; simp at hp
  | cons c l ih =>
    intro p q hp hq hc
    have h1 := hc c (List.mem_cons_self ..)
    have e : c + 256 * numN l = c ^^^ (2 ^ 8 * numN l) := join_xor 8 c (numN l) h1
    cases p with
    | zero =>
      have e2 : (c ^^^ 2 ^ q) + 256 * numN l = (c ^^^ 2 ^ q) ^^^ (2 ^ 8 * numN l) := join_xor 8 _ (numN l) (byte_flip c q h1 hq)
      show (c ^^^ 2 ^ q) + 256 * numN l = (c + 256 * numN l) ^^^ 2 ^ (8 * 0 + q)
      rw [e2, e, Nat.mul_zero, Nat.zero_add, Nat.xor_assoc, Nat.xor_comm (2 ^ q), ← Nat.xor_assoc]
    | succ p =>
      have h2 := ih p q (by simpa using hp) hq (fun x hx => hc x (List.mem_cons_of_mem _ hx))
      show c + 256 * numN (l.set p (l.getD p 0 ^^^ 2 ^ q)) = (c + 256 * numN l) ^^^ 2 ^ (8 * (p + 1) + q)
      have e3 : c + 256 * numN (l.set p (l.getD p 0 ^^^ 2 ^ q)) = c ^^^ (2 ^ 8 * numN (l.set p (l.getD p 0 ^^^ 2 ^ q))) := join_xor 8 c _ h1
      rw [e3, h2, mul_xor, e, ← Nat.pow_add, show 8 + (8 * p + q) = 8 * (p + 1) + q by omega, Nat.xor_assoc]
/-- The lowest i + 1 bits of a number by its lowest i. -/
theorem low_more (x i : Nat) : x % 2 ^ (i + 1) = x % 2 ^ i ^^^ (2 ^ i * (x / 2 ^ i % 2)) := by
  rw [← join_xor i (x % 2 ^ i) (x / 2 ^ i % 2) (Nat.mod_lt _ (Nat.two_pow_pos i)), Nat.pow_succ, Nat.mod_mul]
/-- What a matrix (its word i for bit i) makes of the lowest k bits of a word. -/
def app (m : Nat → Nat) (r : Nat) : Nat → Nat
  | 0 => 0
  | k + 1 => app m r k ^^^ (if r / 2 ^ k % 2 = 1 then m k else 0)
theorem app_lin (f : Nat → Nat) (hf : ∀ a b, f (a ^^^ b) = f a ^^^ f b) (h0 : f 0 = 0) (m : Nat → Nat) (r n : Nat) (hm : ∀ i, i < n → m i = f (2 ^ i)) :
    ∀ k, k ≤ n → app m r k = f (r % 2 ^ k) := by
  intro k
  induction k with
  | zero => intro _; rw [Nat.pow_zero, Nat.mod_one, h0]; rfl
  | succ k ih =>
    intro hk
    rw [app, ih (by omega), low_more, hf]
    obtain h | h : r / 2 ^ k % 2 = 0 ∨ r / 2 ^ k % 2 = 1 := by omega
    · rw [h, if_neg (by decide), Nat.mul_zero, h0]
    · rw [h, if_pos rfl, Nat.mul_one, hm k (by omega)]
/-- A matrix that holds so many steps makes them of any word. -/
theorem app_zn (m : Nat → Nat) (s r : Nat) (hm : ∀ i, i < 32 → m i = zn s (2 ^ i)) (hr : r < 4294967296) : app m r 32 = zn s r := by
  rw [app_lin (zn s) (zn_xor s) (zn_zero s) m r 32 hm 32 (Nat.le_refl _), Nat.mod_eq_of_lt (by simpa using hr)]
/-- The square of a matrix holds twice as many steps. -/
theorem app_square (m : Nat → Nat) (s : Nat) (hm : ∀ i, i < 32 → m i = zn s (2 ^ i)) (i : Nat) (hi : i < 32) : app m (m i) 32 = zn (s + s) (2 ^ i) := by
  have hp : 2 ^ i < 4294967296 := Nat.pow_lt_pow_right (n := 32) (by decide) hi
  rw [hm i hi, app_zn m s _ hm (zn_lt s _ hp), zn_add]
/-- A number's digits, one by one: so many steps by the squares that its digits name. -/
theorem zn_digits (s n r : Nat) : zn (s * n) r = zn ((s + s) * (n / 2)) (zn (s * (n % 2)) r) := by
  rw [← zn_add]
  congr 1
  rw [Nat.add_mul, ← Nat.mul_add, ← Nat.mul_add]
  congr 1
  omega
/-- Four steps at once. -/
theorem zn_four (r : Nat) : zn 4 r = r / 16 ^^^ zn 4 (r % 16) := by
  have e : r = (2 ^ 4 * (r / 16)) ^^^ (r % 16) := by
    have := join_xor 4 (r % 16) (r / 16) (Nat.mod_lt _ (by decide))
    rw [Nat.xor_comm, ← this]; omega
  conv => lhs; rw [e]
  rw [zn_xor, zn_pow]
def halfN (i : Nat) : Nat := [0, 274646895, 549293790, 820201905, 1098587580, 1361435347, 1640403810, 1905808397, 2197175160, 2460548119, 2722870694, 2987750089, 3280807620, 3553878443, 3811616794, 4084100981].getD i 0
theorem half_zn : ∀ i : Fin 16, halfN i.val = zn 4 i.val := by decide +kernel
theorem half_lt : ∀ i : Fin 16, halfN i.val < 4294967296 := by decide +kernel
theorem half_step (r : Nat) : r / 16 ^^^ halfN (r % 16) = zn 4 r := by
  rw [zn_four r, ← half_zn ⟨r % 16, Nat.mod_lt _ (by decide)⟩]
theorem byte_halves (r c : Nat) : byteN r c = zn 4 (zn 4 (r ^^^ c)) := by unfold byteN; rw [← zn_add]
end Go.Proofs.YtaahmpabhophfaaDoor
