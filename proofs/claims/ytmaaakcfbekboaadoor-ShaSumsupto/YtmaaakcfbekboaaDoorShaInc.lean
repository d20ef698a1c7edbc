/-
  A text that comes in pieces: the words behind its whole blocks and what is left over tell the digest; plain facts on lists.
-/
import Derived.Test.YtmaaakcfbekboaaDoorShaRef
namespace Go.Proofs.YtmaaakcfbekboaaDoor
open Go.ChangeShapes Go.WideShapes Go.ChangeAt Go.RowKit
set_option linter.unusedVariables false
/-- So many blocks of a text hang on no more than its first bytes. -/
theorem blks_append (ks h l m : List Nat) : ∀ n, 64 * n ≤ l.length → blks ks h (l ++ m) n = blks ks h l n
  | 0, _ => rfl
  | n + 1, hn => by
    rw [blks, blks, blks_append ks h l m n (by omega)]
    congr 1
    rw [List.drop_append_of_le_length (by omega), List.take_append_of_le_length (by rw [List.length_drop]; omega)]
/-- So many blocks, and so many more. -/
theorem blks_more (ks h l : List Nat) (n : Nat) : ∀ k, blks ks h l (n + k) = blks ks (blks ks h l n) (l.drop (64 * n)) k
  | 0 => rfl
  | k + 1 => by
    rw [← Nat.add_assoc, blks, blks, blks_more ks h l n k, List.drop_drop]
    congr 2
    congr 1
    omega
/-- The words behind a text's whole blocks. -/
def stN (t : List Nat) : List Nat := blks factorsN startN t (t.length / 64)
/-- What is left over. -/
def rsN (t : List Nat) : List Nat := t.drop (64 * (t.length / 64))
theorem rsN_length (t : List Nat) : (rsN t).length = t.length % 64 := by
  unfold rsN
  rw [List.length_drop]
  omega
theorem stN_nil : stN [] = startN := rfl
theorem rsN_nil : rsN [] = [] := rfl
theorem stN_length (t : List Nat) : (stN t).length = 8 := blks_length _ _ _ start_length _
theorem stN_lt (t : List Nat) (j : Nat) : (stN t).getD j 0 < 4294967296 := blks_lt _ _ _ start_lt _ j
/-- Whole blocks of what is left over with more behind it are whole blocks of the whole. -/
theorem blks_go (t m : List Nat) (k : Nat) : blks factorsN (stN t) (rsN t ++ m) k = blks factorsN startN (t ++ m) (t.length / 64 + k) := by
  rw [blks_more]
  congr 1
  · exact (blks_append _ _ _ _ _ (by omega)).symm
  · unfold rsN
    rw [List.drop_append_of_le_length (by omega)]
theorem split_len (t m : List Nat) : (t ++ m).length / 64 = t.length / 64 + (rsN t ++ m).length / 64 := by
  rw [List.length_append, List.length_append, rsN_length]
  omega
/-- More bytes behind a text. -/
theorem stN_write (t m : List Nat) : stN (t ++ m) = blks factorsN (stN t) (rsN t ++ m) ((rsN t ++ m).length / 64) := by
  rw [blks_go, ← split_len]
  rfl
theorem rsN_write (t m : List Nat) : rsN (t ++ m) = (rsN t ++ m).drop (64 * ((rsN t ++ m).length / 64)) := by
  have e : rsN t ++ m = (t ++ m).drop (64 * (t.length / 64)) := by
    unfold rsN
    rw [List.drop_append_of_le_length (by omega)]
  rw [e, List.drop_drop, ← e]
  unfold rsN
  congr 1
  have := split_len t m
  unfold rsN at this
  omega
/-- The digest of a text, out of the words behind its whole blocks and of what is left over. -/
theorem shaN_end (t : List Nat) : shaN t = outN (blks factorsN (stN t) (rsN t ++ padN t.length) ((rsN t ++ padN t.length).length / 64)) 32 := by
  unfold shaN
  rw [blks_go, ← split_len, List.length_append]
theorem shaN_rest (t : List Nat) : ((rsN t).length + (padN t.length).length) % 64 = 0 := by
  have := pad_whole t.length
  rw [rsN_length]
  omega
end Go.Proofs.YtmaaakcfbekboaaDoor
