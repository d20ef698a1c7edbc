/-
  The document's Merge.
-/
import Derived.Test.YtbfgkogmojnilaaDoorTagMake
namespace Go.Proofs.YtbfgkogmojnilaaDoor
open Go.ChangeShapes Go.WideShapes Go.ChangeAt Go.RowKit
set_option linter.unusedVariables false
set_option linter.unusedSimpArgs false
/-- Those whose names others have not. -/
def restB (b : List (ByteArray × ByteArray)) : List (ByteArray × ByteArray) → List (ByteArray × ByteArray)
  | [] => []
  | t :: l => match getB b t.1 with | none => t :: restB b l | some _ => restB b l
def mergeB (a b : List (ByteArray × ByteArray)) : Except Nat (List (ByteArray × ByteArray)) :=
  if soundB a && soundB b then makeB (b ++ restB b a) else .error 2
theorem rest_snoc (b l : List (ByteArray × ByteArray)) (t : ByteArray × ByteArray) : restB b (l ++ [t]) = restB b l ++ (match getB b t.1 with | none => [t] | some _ => []) := by
  induction l with
  | nil =>
    rw [List.nil_append, restB, restB, List.nil_append]
    cases getB b t.1 <;> rfl
  | cons u l ih =>
    rw [List.cons_append, restB, restB, ih]
    cases getB b u.1 <;> simp
theorem rest_len (b : List (ByteArray × ByteArray)) : ∀ l, (restB b l).length ≤ l.length
  | [] => Nat.le_refl _
  | t :: l => by
    have := rest_len b l
    rw [restB]
    cases getB b t.1 <;> simp <;> omega
theorem rest_mem (b : List (ByteArray × ByteArray)) : ∀ l, ∀ u ∈ restB b l, u ∈ l
  | [], u, h => h
  | t :: l, u, h => by
    rw [restB] at h
    cases hg : getB b t.1 with
    | none =>
      rw [hg] at h
      rcases List.mem_cons.1 h with rfl | h
      · exact List.mem_cons_self
      · exact List.mem_cons_of_mem _ (rest_mem b l u h)
    | some v =>
      rw [hg] at h
      exact List.mem_cons_of_mem _ (rest_mem b l u h)
theorem takeT2_snoc (ts : List (ByteArray × ByteArray)) (i : Nat) (h : i < ts.length) : ts.take (i + 1) = ts.take i ++ [tagAt ts i] := by
  unfold tagAt
  rw [List.take_succ_eq_append_getElem h, List.getD_eq_getElem?_getD, List.getElem?_eq_getElem h, Option.getD_some]
theorem sound_short {ts : List (ByteArray × ByteArray)} (h : soundB ts = true) : ts.length ≤ 8 := by
  unfold soundB at h
  rw [Bool.and_eq_true, decide_eq_true_eq] at h
  exact h.1
end Go.Proofs.YtbfgkogmojnilaaDoor
