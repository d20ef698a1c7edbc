/-
  What is written is read as it was, and what is read is written so again: the calls of the program, two by two.
-/
import Derived.Test.YtgeoijbjndjpoaaAlphaSame
namespace Go.Proofs.Ytgeoijbjndjpoaa
open Go.ChangeShapes Go.WideShapes Go.ChangeAt Go.RowKit
set_option linter.unusedVariables false
set_option linter.unusedSimpArgs false
theorem hexD_lt (k : Nat) : hexD.getD k 0 < 256 := getD_lt (by decide) k
theorem baseD_lt (k : Nat) : baseD.getD k 0 < 256 := getD_lt (by decide) k
theorem hex_lt : ∀ xs : List Nat, ∀ c ∈ hexN xs, c < 256
  | [], c, h => by cases h
  | x :: xs, c, h => by
    rw [hexN] at h
    rcases List.mem_cons.1 h with rfl | h
    · exact hexD_lt _
    · rcases List.mem_cons.1 h with rfl | h
      · exact hexD_lt _
      · exact hex_lt xs c h
theorem base_lt (xs : List Nat) : ∀ c ∈ baseN xs, c < 256 := fun c h => by
  obtain ⟨n, -, rfl⟩ := List.mem_map.1 h
  exact baseD_lt n
theorem base_len (xs : List Nat) (h : ∀ c ∈ xs, c < 256) : (baseN xs).length = (8 * xs.length + 4) / 5 := by
  rw [← spell_base xs h]
  unfold spellN
  rw [List.length_map, digs_length, show 8 * xs.length + 5 - 1 = 8 * xs.length + 4 by omega]
theorem hex_back (xs : List Nat) (h : ∀ c ∈ xs, c < 256) : unhexN (txt (strN (hexN xs))) = some xs := by rw [txt_strN _ (hex_lt xs), unhex_hex xs h]
theorem base_back (xs : List Nat) (h : ∀ c ∈ xs, c < 256) : unbaseN (txt (strN (baseN xs))) = some xs := by rw [txt_strN _ (base_lt xs), unbase_base xs h]
theorem num_back (n : Nat) (h : n < 18446744073709551616) : unnumN (txt (strN (numN n))) = some n := by rw [txt_strN _ (num_lt n), unnum_num n h]
theorem hex_forth {S : ByteArray} {ys : List Nat} (h : unhexN (txt S) = some ys) : strN (hexN ys) = S ∧ (∀ c ∈ ys, c < 256) ∧ 2 * ys.length = S.size := by
  obtain ⟨h1, h2⟩ := hex_unhex _ _ h
  exact ⟨by rw [h1, strN_txt], h2, by rw [← hexN_length, h1, txt_length]⟩
theorem base_forth {S : ByteArray} {ys : List Nat} (h : unbaseN (txt S) = some ys) : strN (baseN ys) = S ∧ (∀ c ∈ ys, c < 256) ∧ (8 * ys.length + 4) / 5 = S.size := by
  obtain ⟨h1, h2⟩ := base_unbase _ _ h
  exact ⟨by rw [h1, strN_txt], h2, by rw [← base_len ys h2, h1, txt_length]⟩
theorem num_forth {S : ByteArray} {n : Nat} (h : unnumN (txt S) = some n) : strN (numN n) = S ∧ n < 18446744073709551616 := by
  obtain ⟨h1, h2⟩ := num_unnum _ _ h
  exact ⟨by rw [h1, strN_txt], h2⟩
end Go.Proofs.Ytgeoijbjndjpoaa
