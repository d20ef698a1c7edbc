/-
  Layer 9, plain: what was synced and turned lasts through any crash.
-/
import Derived.Test.YtlhmeebbdjiokaaCabMath
namespace Go.Proofs.Ytlhmeebbdjiokaa
set_option linter.unusedVariables false
set_option linter.unusedSimpArgs false
theorem txt_app (s t : ByteArray) : txt (s ++ t) = txt s ++ txt t := by
  unfold txt
  rw [ByteArray.data_append, Array.toList_append, List.map_append]
theorem txt_upto (s : ByteArray) (e : Nat) : txt (s.extract 0 e) = (txt s).take e := by
  unfold txt
  rw [ByteArray.data_extract, Array.toList_extract, List.map_take]
  simp
theorem cut_txt (f : ByteArray × Nat) (keep : List Int) (t : UInt8) : txt (cutC f keep t) = (txt f.1).take (f.2 + keepC keep (f.1.size - f.2)) ++ (if t ≠ 0 ∧ f.2 + keepC keep (f.1.size - f.2) < f.1.size then [(f.1.data.getD (f.2 + keepC keep (f.1.size - f.2)) 0 ^^^ t).toNat] else []) := by
  unfold cutC
  dsimp only
  split
  · rw [txt_app, txt_upto]
    rfl
  · rw [txt_upto, List.append_nil]
theorem cut_lasts (a b : ByteArray) (keep : List Int) (t : UInt8) :
    (txt (cutC (a ++ b, a.size) keep t)).take a.size = txt a ∧
    ∀ i, i < (cutC (a ++ b, a.size) keep t).size - a.size → (txt (cutC (a ++ b, a.size) keep t)).getD (a.size + i) 0 ≠ (txt b).getD i 0 → i + 1 = (cutC (a ++ b, a.size) keep t).size - a.size ∧ t ≠ 0 := by
  have hz : (a ++ b).size = a.size + b.size := ByteArray.size_append
  have hk := keep_le keep ((a ++ b).size - a.size)
  have hx := cut_txt (a ++ b, a.size) keep t
  dsimp only at hx
  generalize keepC keep ((a ++ b).size - a.size) = k at *
  have hsz := txt_length (cutC (a ++ b, a.size) keep t)
  generalize hX : cutC (a ++ b, a.size) keep t = X at *
  rw [txt_app] at hx
  have hla := txt_length a
  have hlb := txt_length b
  have htk : (txt a ++ txt b).take (a.size + k) = txt a ++ (txt b).take k := by
    rw [List.take_append, hla, show a.size + k - a.size = k by omega, List.take_of_length_le (by omega)]
  rw [htk] at hx
  refine ⟨?_, fun i hi hne => ?_⟩
  · rw [hx, List.append_assoc, List.take_append, hla, Nat.sub_self, List.take_zero, List.append_nil, List.take_of_length_le (by omega)]
  · have hlk : ((txt b).take k).length = k := by rw [List.length_take, hlb]; omega
    have hget : i < k → (txt X).getD (a.size + i) 0 = (txt b).getD i 0 := fun hik => by
      rw [hx, List.append_assoc, List.getD_eq_getElem?_getD, List.getElem?_append_right (by omega), hla, show a.size + i - a.size = i by omega, List.getElem?_append_left (by omega), List.getElem?_take, if_pos hik, List.getD_eq_getElem?_getD]
    have hik : ¬ i < k := fun h => hne (hget h)
    rw [hx] at hsz
    split at hsz
    · rename_i h2
      rw [List.length_append, List.length_append, hla, hlk] at hsz
      have : ([((a ++ b).data.getD (a.size + k) 0 ^^^ t).toNat] : List Nat).length = 1 := rfl
      exact ⟨by omega, h2.1⟩
    · rw [List.length_append, List.length_append, hla, hlk] at hsz
      have : ([] : List Nat).length = 0 := rfl
      omega
end Go.Proofs.Ytlhmeebbdjiokaa
