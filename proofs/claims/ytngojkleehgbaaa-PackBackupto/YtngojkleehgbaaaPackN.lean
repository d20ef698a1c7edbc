/-
  A number as few bytes, seven bits in each: the list of bytes, as a plain function; Pack of package bits and of the document's answer make just these, in new memory.
-/
import Derived.Test.YtngojkleehgbaaaAppend
namespace Go.Proofs.Ytngojkleehgbaaa
open Go.ChangeShapes Go.WideShapes Go.ChangeAt Go.RowKit
set_option linter.unusedVariables false
set_option linter.unusedSimpArgs false
def pk : Nat → Int → List Int
  | 0, n => [n]
  | f + 1, n => if n < 128 then [n] else (n % 128 + 128) :: pk f (n / 128)
theorem pk_low (f : Nat) (n : Int) (h : n < 128) : pk f n = [n] := by
  cases f with
  | zero => rfl
  | succ f => rw [pk, if_pos h]
theorem pk_high (f : Nat) (n : Int) (h : ¬ n < 128) : pk (f + 1) n = (n % 128 + 128) :: pk f (n / 128) := by rw [pk, if_neg h]
theorem pk_length (f : Nat) (n : Int) : (pk f n).length ≤ f + 1 := by
  induction f generalizing n with
  | zero => simp [pk]
  | succ f ih =>
    rw [pk]
    split
    · simp
    · have := ih (n / 128); simp; omega
theorem or128 (x : Int) (h0 : 0 ≤ x) (h1 : x ≤ 255) : bits .or .u8 x 128 = x % 128 + 128 := by
  obtain ⟨n, rfl⟩ := Int.eq_ofNat_of_zero_le h0
  have hall : ∀ n : Fin 256, bits .or .u8 ((n.val : Nat) : Int) 128 = ((n.val : Nat) : Int) % 128 + 128 := by decide +kernel
  exact hall ⟨n, by omega⟩
theorem pow128 (f : Nat) (h : f ≤ 9) : (2 : Int) * 128 ^ f ≤ 18446744073709551616 := by
  obtain rfl | rfl | rfl | rfl | rfl | rfl | rfl | rfl | rfl | rfl : f = 0 ∨ f = 1 ∨ f = 2 ∨ f = 3 ∨ f = 4 ∨ f = 5 ∨ f = 6 ∨ f = 7 ∨ f = 8 ∨ f = 9 := by omega
  all_goals decide
theorem pow_step (m : Int) (f : Nat) (h : m < 2 * 128 ^ (f + 1)) : m / 128 < 2 * 128 ^ f := by
  rw [Int.pow_succ] at h
  omega
theorem pack_all (n : Int) (w : World) (h0 : 0 ≤ n) (hn : n ≤ 18446744073709551615) :
    Calls Try.prog 36 #[.int .u64 n] w fun e w' => ∃ a cap, e = .returned (.slice a (pk 9 n).length cap) ∧ Made w' a (pk 9 n).length (pk 9 n) ∧ Below w.heap.size w w' := by
  go_enter Try.func36, Try.ntmps36
  go_wp2
  go_loopw [0, 3] (fun n' v wr => ∃ (f : Nat) (m : Int) (xs : List Int), f + xs.length = 9 ∧ 0 ≤ m ∧ m < 2 * 128 ^ f ∧ n' = .int .u64 m ∧ OwnB wr w.heap.size v xs ∧ pk 9 n = xs ++ pk f m ∧ Below w.heap.size w wr) (fun n' _ _ => (intOf n').toNat)
  case atStart => exact ⟨9, n, [], rfl, h0, by omega, rfl, OwnB.nil _ _, rfl, Below.refl _ _⟩
  case round =>
    obtain ⟨f, m, xs, hf, m0, m1, rfl, hown, hpk, hbel⟩ := hrel
    have m2 := pow128 f (by omega)
    have m3 : m ≤ 18446744073709551615 := by omega
    have HM : Hid (m < 2 * 128 ^ f) := m1
    have HP : Hid (pk 9 n = xs ++ pk f m) := hpk
    have hsz := hbel.size
    clear m1 m2 hpk
    by_cases hlt : m < 128
    · go_wp2_with (first
        | (at_builtin; refine append_byte _ rfl (.tmp 14) (.tmp 17) rfl w.heap.size _ xs rfl hown _ _ rfl rfl (by omega) (by omega) ?_; intro v' w1 hown' hb'))
      go_ret
      obtain ⟨a, cap, rfl, hm⟩ := hown'.made
      have e : pk 9 n = xs ++ [m] := by rw [HP.out, pk_low f m hlt]
      rw [e]
      exact ⟨a, cap, rfl, hm, hbel.trans hb'⟩
    · have hor := or128 (m % 256) (by omega) (by omega)
      go_wp2_with (first
        | (at_builtin; refine append_byte _ rfl (.tmp 6) (.tmp 10) rfl w.heap.size _ xs rfl hown _ _ rfl rfl (by omega) (by omega) ?_; intro v' w1 hown' hb'))
      go_roundw
      case rel =>
        cases f with
        | zero => have := HM.out; omega
        | succ f =>
          refine ⟨f, m / 128, xs ++ [m % 128 + 128], by simp; omega, by omega, pow_step m f HM.out, rfl, hown', ?_, hbel.trans hb'⟩
          rw [HP.out, pk_high f m hlt, List.append_assoc]; rfl
      case measure => simp [intOf]; omega
theorem rpack_all (n : Int) (w : World) (h0 : 0 ≤ n) (hn : n ≤ 18446744073709551615) :
    Calls Try.prog 37 #[.int .u64 n] w fun e w' => ∃ a cap, e = .returned (.slice a (pk 9 n).length cap) ∧ Made w' a (pk 9 n).length (pk 9 n) ∧ Below w.heap.size w w' := by
  go_enter Try.func37, Try.ntmps37
  go_wp2
  go_loopw [0, 3] (fun n' v wr => ∃ (f : Nat) (m : Int) (xs : List Int), f + xs.length = 9 ∧ 0 ≤ m ∧ m < 2 * 128 ^ f ∧ n' = .int .u64 m ∧ OwnB wr w.heap.size v (xs ++ [m % 128]) ∧ pk 9 n = xs ++ pk f m ∧ Below w.heap.size w wr) (fun n' _ _ => (intOf n').toNat)
  case atStart => exact ⟨9, n, [], rfl, h0, by omega, rfl, OwnB.one _ _ _ (Nat.le_refl _), rfl, by go_grown⟩
  case round =>
    obtain ⟨f, m, xs, hf, m0, m1, rfl, hown, hpk, hbel⟩ := hrel
    have m2 := pow128 f (by omega)
    have m3 : m ≤ 18446744073709551615 := by omega
    have HM : Hid (m < 2 * 128 ^ f) := m1
    have HP : Hid (pk 9 n = xs ++ pk f m) := hpk
    have hsz := hbel.size
    clear m1 m2 hpk
    by_cases hlt : m < 128
    · go_wp2
      go_ret
      have e1 : m % 128 = m := by omega
      rw [e1] at hown
      obtain ⟨a, cap, rfl, hm⟩ := hown.made
      have e : pk 9 n = xs ++ [m] := by rw [HP.out, pk_low f m hlt]
      rw [e]
      exact ⟨a, cap, rfl, hm, hbel⟩
    · obtain ⟨g, cap, rfl, hg, hgs, hcell, hfr, hset⟩ := hown.last
      have hset' := hset (m % 128 + 128)
      have HS : Hid (OwnB (wr.setCell ⟨g, xs.length, none⟩ (.int .u8 (m % 128 + 128))) w.heap.size (.slice (some ⟨g, 0, none⟩) (xs.length + 1) cap) (xs ++ [m % 128 + 128])) := hset'
      clear hset hset' hown
      go_wp2_with (first
        | (at_builtin; refine append_byte _ rfl (.tmp 20) (.tmp 24) rfl w.heap.size _ (xs ++ [m % 128 + 128]) rfl HS.out _ _ rfl (by simp) (by simp; omega) (by simp; omega) ?_; intro v' w1 hown' hb'))
      go_roundw
      case rel =>
        cases f with
        | zero => have := HM.out; omega
        | succ f =>
          refine ⟨f, m / 128, xs ++ [m % 128 + 128], by simp; omega, by omega, pow_step m f HM.out, rfl, hown', ?_, (hbel.setCell (p := ⟨g, xs.length, none⟩) hg _).trans hb'⟩
          rw [HP.out, pk_high f m hlt, List.append_assoc]; rfl
      case measure => simp [intOf]; omega
end Go.Proofs.Ytngojkleehgbaaa
