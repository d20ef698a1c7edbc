/-
  Turn and Ones of package bits: a word turned round to the left by any number of places, and how many of its bits are 1, as plain functions of the word.
-/
import Derived.Test.YtbgnfcjnifcenabDoorAwake
import Derived.Laws.BitsAllLaws
namespace Go.Proofs.YtbgnfcjnifcenabDoor
open Go.ChangeShapes Go.WideShapes Go.ChangeAt Go.RowKit
set_option linter.unusedVariables false
set_option linter.unusedSimpArgs false
/-- A word of 32 bits turned round by k places, k below 32. -/
def rotN (X k : Nat) : Nat := X * 2 ^ k % 4294967296 + X / 2 ^ (32 - k)
theorem split32 (X k : Nat) (hk : k ≤ 32) : X * 2 ^ k % 4294967296 = X % 2 ^ (32 - k) * 2 ^ k := by
  have e : 4294967296 = 2 ^ (32 - k) * 2 ^ k := by rw [← Nat.pow_add, show 32 - k + k = 32 by omega]
  rw [e, Nat.mul_mod_mul_right]
theorem rot_or (X k : Nat) (hX : X < 4294967296) (hk : k < 32) : (X * 2 ^ k % 4294967296) ||| (X / 2 ^ (32 - k)) = rotN X k := by
  unfold rotN
  have hlt : X / 2 ^ (32 - k) < 2 ^ k := by
    rw [Nat.div_lt_iff_lt_mul (Nat.two_pow_pos _), ← Nat.pow_add, show k + (32 - k) = 32 by omega]
    exact hX
  rw [split32 X k (by omega)]
  exact nat_join k _ _ (Nat.mul_mod_left _ _) hlt
theorem rotN_lt (X k : Nat) (hX : X < 4294967296) (hk : k < 32) : rotN X k < 4294967296 := by
  rw [← rot_or X k hX hk]
  exact Nat.or_lt_two_pow (n := 32) (Nat.mod_lt _ (by decide)) (Nat.lt_of_le_of_lt (Nat.div_le_self _ _) hX)
theorem turn_val (X k : Nat) (hX : X < 4294967296) (hk : k < 32) :
    bits .or .u32 (IntKind.u32.wrap ((X : Int) * 2 ^ k)) ((X : Int) / 2 ^ (32 - k)) = (rotN X k : Nat) := by
  have e1 : IntKind.u32.wrap ((X : Int) * 2 ^ k) = ((X * 2 ^ k % 4294967296 : Nat) : Int) := by
    rw [show ((2 : Int) ^ k) = ((2 ^ k : Nat) : Int) by simp, ← Int.natCast_mul, IntKind.wrap_u32]; omega
  have e2 : ((X : Int) / 2 ^ (32 - k)) = ((X / 2 ^ (32 - k) : Nat) : Int) := by simp
  rw [e1, e2, u32_or_nat _ _ (Nat.mod_lt _ (by decide)) (Nat.lt_of_le_of_lt (Nat.div_le_self _ _) hX), rot_or X k hX hk]
theorem turn_count (n : Int) : bits .and .u32 (n % 4294967296) 31 = n % 32 := by
  have h := u32_and_nat (n % 4294967296).toNat 31 (by omega) (by decide)
  rw [nat_mask5] at h
  have e : n % 4294967296 = (((n % 4294967296).toNat : Nat) : Int) := by omega
  rw [e]
  exact h.trans (by omega)
theorem turn_any (X : Nat) (n : Int) (w : World) (hX : X < 4294967296) :
    Calls Tryd.prog 8 #[.int .u32 X, .int .i64 n] w fun e w' => e = .returned (.int .u32 (rotN X (n % 32).toNat : Nat)) ∧ w' = w := by
  have hc := turn_count n
  obtain ⟨k, hk⟩ := Int.eq_ofNat_of_zero_le (show 0 ≤ n % 32 by omega)
  have hk32 : k < 32 := by omega
  rw [hk, Int.toNat_natCast]
  rw [hk] at hc
  have HV : Hid (bits .or .u32 (IntKind.u32.wrap ((X : Int) * 2 ^ k)) ((X : Int) / 2 ^ (32 - k)) = (rotN X k : Nat)) := turn_val X k hX hk32
  clear hk
  go_enter Tryd.func8, Tryd.ntmps8
  go_wp2
  go_ret
  exact ⟨ret_int HV.out, rfl⟩
/-- How many of the lowest f bits are 1. -/
def popF : Nat → Nat → Nat
  | 0, _ => 0
  | f + 1, W => W % 2 + popF f (W / 2)
theorem popF_le (f : Nat) : ∀ W, popF f W ≤ f := by
  induction f with
  | zero => intro W; simp [popF]
  | succ f ih => intro W; rw [popF]; have := ih (W / 2); omega
theorem popF_zero (f : Nat) : popF f 0 = 0 := by
  induction f with
  | zero => rfl
  | succ f ih => rw [popF]; simpa using ih
theorem and_half (a b : Nat) : (a &&& b) / 2 = a / 2 &&& b / 2 := by
  apply Nat.eq_of_testBit_eq
  intro i
  rw [← Nat.testBit_succ, Nat.testBit_and, Nat.testBit_and, ← Nat.testBit_succ, ← Nat.testBit_succ]
theorem and_odd (a b : Nat) (ha : a % 2 = 1) : (a &&& b) % 2 = b % 2 := by
  have h : (a &&& b).testBit 0 = b.testBit 0 := by rw [Nat.testBit_and, Nat.testBit_zero, ha]; simp
  rw [Nat.testBit_zero, Nat.testBit_zero] at h
  have := decide_eq_decide.1 h
  omega
theorem and_even' (a b : Nat) (ha : a % 2 = 0) : (a &&& b) % 2 = 0 := by
  have h : (a &&& b).testBit 0 = false := by rw [Nat.testBit_and, Nat.testBit_zero, ha]; simp
  rw [Nat.testBit_zero] at h
  have := of_decide_eq_false h
  omega
theorem and_self' (a : Nat) : a &&& a = a := Nat.and_self a
theorem popF_drop (f : Nat) : ∀ W, 0 < W → W < 2 ^ f → popF f (W &&& (W - 1)) + 1 = popF f W := by
  induction f with
  | zero => intro W h0 h1; simp at h1; omega
  | succ f ih =>
    intro W h0 h1
    rw [Nat.pow_succ] at h1
    rw [popF, popF, and_half]
    obtain h | h : W % 2 = 1 ∨ W % 2 = 0 := by omega
    · rw [and_odd _ _ h, show (W - 1) / 2 = W / 2 by omega, Nat.and_self]
      omega
    · rw [and_even' _ _ h, show (W - 1) / 2 = W / 2 - 1 by omega]
      have := ih (W / 2) (by omega) (by omega)
      omega
def pop64 (W : Nat) : Nat := popF 64 W
theorem pop64_le (W : Nat) : pop64 W ≤ 64 := popF_le 64 W
theorem pop64_zero : pop64 0 = 0 := popF_zero 64
theorem pop64_drop (W : Nat) (h0 : 0 < W) (h1 : W < 18446744073709551616) : pop64 (W &&& (W - 1)) + 1 = pop64 W := popF_drop 64 W h0 h1
theorem ones_any (W : Nat) (w : World) (hW : W < 18446744073709551616) :
    Calls Tryd.prog 9 #[.int .u64 W] w fun e w' => e = .returned (.int .i64 (pop64 W : Nat)) ∧ w' = w := by
  go_enter Tryd.func9, Tryd.ntmps9
  go_wp2
  go_loop [0, 3] (fun v n => ∃ Y c : Nat, Y < 18446744073709551616 ∧ v = .int .u64 Y ∧ n = .int .i64 c ∧ c + pop64 Y = pop64 W) (fun v _ => (intOf v).toNat)
  case atStart => exact ⟨W, 0, hW, rfl, rfl, by omega⟩
  case round =>
    obtain ⟨Y, c, hY, rfl, rfl, hp⟩ := hrel
    have hle := pop64_le W
    have hc : c ≤ 64 := by omega
    have HP : Hid (c + pop64 Y = pop64 W) := hp
    clear hp hle
    by_cases h0 : Y = 0
    · have HZ : Hid (pop64 W = c) := by have := HP.out; rw [h0, pop64_zero] at this; exact this.symm
      have hz : ((Y : Int) != 0) = false := by simp [h0]
      clear h0
      go_wp2
      go_ret
      exact ⟨by rw [HZ.out]; rfl, rfl⟩
    · have hz : ((Y : Int) != 0) = true := by rw [bne_iff_ne]; omega
      have hd := pop64_drop Y (by omega) hY
      have hle : Y &&& (Y - 1) ≤ Y - 1 := Nat.and_le_right
      have e : bits .and .u64 (Y : Int) ((Y : Int) - 1) = ((Y &&& (Y - 1) : Nat) : Int) := by
        rw [show ((Y : Int) - 1) = ((Y - 1 : Nat) : Int) by omega]
        exact u64_and_nat Y (Y - 1) hY (by omega)
      have HD : Hid (pop64 (Y &&& (Y - 1)) + 1 = pop64 Y) := hd
      clear hd
      generalize Y &&& (Y - 1) = Z at *
      go_wp2
      go_round
      case rel => exact ⟨Z, c + 1, by omega, by go_num, by go_num, by have := HD.out; have := HP.out; omega⟩
      case measure => simp [intOf]; omega
end Go.Proofs.YtbgnfcjnifcenabDoor
