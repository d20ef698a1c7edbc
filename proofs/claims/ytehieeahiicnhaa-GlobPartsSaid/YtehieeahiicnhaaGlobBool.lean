/-
  A table of truths in memory; that of which rests of a text the rests of a pattern match.
-/
import Derived.Test.YtehieeahiicnhaaGlobLeast
import Derived.Deep.OwnRows
namespace Go.Proofs.Ytehieeahiicnhaa
open Go.ChangeShapes Go.WideShapes Go.ChangeAt Go.RowKit
set_option linter.unusedVariables false
set_option linter.unusedSimpArgs false
def encB (l : List Bool) : Array Value := (l.map Value.bool).toArray
theorem encB_get (l : List Bool) (i : Nat) (h : i < l.length) : (encB l)[i]? = some (.bool (l.getD i false)) := by simp [encB, h]
theorem encB_set (l : List Bool) (i : Nat) (x : Bool) : (encB l).setIfInBounds i (.bool x) = encB (l.set i x) := by
  unfold encB
  rw [List.map_set]
  simp
/-- A block that holds just these truths. -/
def BlkB (w : World) (g : Nat) (l : List Bool) : Prop := w.heap[g]? = some (.cells (encB l) 4 (0, 0))
theorem BlkB.lt {w : World} {g : Nat} {l : List Bool} (h : BlkB w g l) : g < w.heap.size := (Array.getElem?_eq_some_iff.1 h).1
theorem BlkB.alloc {w : World} {g : Nat} {l : List Bool} (h : BlkB w g l) (o : Obj) : BlkB (w.alloc o) g l := (Below.heap_alloc w o g h.lt).trans h
theorem BlkB.set {w : World} {g : Nat} {l : List Bool} (h : BlkB w g l) (i : Nat) (x : Bool) : BlkB (w.setCell ⟨g, i, none⟩ (.bool x)) g (l.set i x) := by
  unfold BlkB at *
  rw [← encB_set]
  simp [World.setCell, Array.getElem?_modify, h]
theorem BlkB.other {w : World} {g : Nat} {l : List Bool} {b : Nat} (h : BlkB w g l) (hne : g ≠ b) (i : Nat) (v : Value) : BlkB (w.setCell ⟨b, i, none⟩ v) g l :=
  (Below.heap_setCell w ⟨b, i, none⟩ v g hne).trans h
theorem BlkB.cell {w : World} {g : Nat} {l : List Bool} (h : BlkB w g l) (i : Nat) (hi : i < l.length) : w.cell? ⟨g, i, none⟩ = some (.bool (l.getD i false)) := by
  rw [cell_of_row w g i _ _ _ h, encB_get l i hi]
theorem BlkB.frozen {w : World} {g : Nat} {l : List Bool} (h : BlkB w g l) (i : Nat) : w.frozen? ⟨g, i, none⟩ = false := frozen_of_row w g i _ _ h
theorem BlkB.new (w : World) (n : Nat) : BlkB (w.alloc (.cells (madeCells #[.bool false] n) 4)) w.heap.size (List.replicate n false) := by
  unfold BlkB
  rw [heap_alloc_last w]
  congr 1
  unfold encB madeCells
  congr 1
  apply Array.ext
  · simp
  · intro i h1 h2
    simp [Nat.mod_one]
theorem boolT : (Try.prog.info? 4).map (fun i => (i.zero, i.size, i.bytes)) = some (some (.bool false), 1, 1) := by kernel_rfl
theorem make_bool (n : Nat) (h : n ≤ 281474976710656) (w : World) : (Instr.makeSlice 41 (.int .i64 (n : Int)) (.int .i64 (n : Int))).run Try.prog w = .ok (.slice (some ⟨w.heap.size, 0, none⟩) n n) (w.alloc (.cells (madeCells #[.bool false] n) 4)) :=
  run_make_row' 41 4 (.bool false) 1 Try.underlying41 boolT rfl .i64 .i64 n (by omega) (by omega) w
/-- Which rests of a text match. -/
def tabM (ps : List (Nat × Nat)) (s : List Nat) : List Bool := (List.range (s.length + 1)).map fun i => matchP ps (s.drop i)
/-- .. from a place on, the others not yet told. -/
def tabQ (ps : List (Nat × Nat)) (s : List Nat) (q : Nat) : List Bool := (List.range (s.length + 1)).map fun i => decide (q ≤ i) && matchP ps (s.drop i)
theorem tabM_length (ps : List (Nat × Nat)) (s : List Nat) : (tabM ps s).length = s.length + 1 := by simp [tabM]
theorem tabQ_length (ps : List (Nat × Nat)) (s : List Nat) (q : Nat) : (tabQ ps s q).length = s.length + 1 := by simp [tabQ]
theorem tabM_get (ps : List (Nat × Nat)) (s : List Nat) (i : Nat) (h : i ≤ s.length) : (tabM ps s).getD i false = matchP ps (s.drop i) := by
  unfold tabM
  rw [List.getD_eq_getElem?_getD, List.getElem?_map, List.getElem?_range (by omega)]
  rfl
theorem tabQ_get (ps : List (Nat × Nat)) (s : List Nat) (q i : Nat) (h : i ≤ s.length) : (tabQ ps s q).getD i false = (decide (q ≤ i) && matchP ps (s.drop i)) := by
  unfold tabQ
  rw [List.getD_eq_getElem?_getD, List.getElem?_map, List.getElem?_range (by omega)]
  rfl
theorem tabQ_all (ps : List (Nat × Nat)) (s : List Nat) : tabQ ps s 0 = tabM ps s := by
  unfold tabQ tabM
  simp
theorem tabQ_none (ps : List (Nat × Nat)) (s : List Nat) : tabQ ps s (s.length + 1) = List.replicate (s.length + 1) false := by
  unfold tabQ
  apply List.ext_getElem?
  intro i
  rw [List.getElem?_map, List.getElem?_replicate]
  by_cases h : i < s.length + 1
  · rw [List.getElem?_range h, if_pos h]
    simp
    intro h'
    omega
  · rw [if_neg h, List.getElem?_eq_none (by simp; omega)]
    rfl
theorem tabQ_step (ps : List (Nat × Nat)) (s : List Nat) (q : Nat) (h : q ≤ s.length) : tabQ ps s q = (tabQ ps s (q + 1)).set q (matchP ps (s.drop q)) := by
  apply List.ext_getElem?
  intro i
  rw [List.getElem?_set, tabQ_length]
  by_cases h1 : q = i
  · subst h1
    rw [if_pos rfl, if_pos (by omega)]
    unfold tabQ
    rw [List.getElem?_map, List.getElem?_range (by omega)]
    simp
  · rw [if_neg h1]
    unfold tabQ
    rw [List.getElem?_map, List.getElem?_map]
    by_cases h2 : i < s.length + 1
    · rw [List.getElem?_range h2]
      simp only [Option.map_some]
      congr 2
      by_cases h3 : q ≤ i
      · rw [decide_eq_true h3, decide_eq_true (by omega)]
      · rw [decide_eq_false h3, decide_eq_false (by omega)]
    · rw [List.getElem?_eq_none (by simp; omega)]
      rfl
theorem tabM_nil (s : List Nat) : tabM [] s = (List.replicate (s.length + 1) false).set s.length true := by
  apply List.ext_getElem?
  intro i
  rw [List.getElem?_set, List.length_replicate]
  unfold tabM
  rw [List.getElem?_map]
  by_cases h1 : s.length = i
  · subst h1
    rw [if_pos rfl, if_pos (by omega), List.getElem?_range (by omega)]
    simp [matchP]
  · rw [if_neg h1, List.getElem?_replicate]
    by_cases h2 : i < s.length + 1
    · rw [List.getElem?_range h2, if_pos h2]
      simp [matchP]
      omega
    · rw [if_neg h2, List.getElem?_eq_none (by simp; omega)]
      rfl
/-- One step of the table. -/
theorem match_step_star (p : Nat × Nat) (ps : List (Nat × Nat)) (s : List Nat) (i : Nat) (hp : p.1 = 2) (h : i < s.length) : matchP (p :: ps) (s.drop i) = (matchP ps (s.drop i) || matchP (p :: ps) (s.drop (i + 1))) := by
  rw [matchP, if_pos hp, matchP, if_pos hp, drop_cons s i h, starM]
theorem match_step_end (p : Nat × Nat) (ps : List (Nat × Nat)) (s : List Nat) (hp : p.1 = 2) : matchP (p :: ps) (s.drop s.length) = matchP ps (s.drop s.length) := by
  rw [matchP, if_pos hp, List.drop_length, starM]
theorem match_step_one (p : Nat × Nat) (ps : List (Nat × Nat)) (s : List Nat) (i : Nat) (hp : ¬ p.1 = 2) (h : i < s.length) : matchP (p :: ps) (s.drop i) = (matchP ps (s.drop (i + 1)) && (p.1 == 1 || p.2 == s.getD i 0)) := by
  rw [matchP, if_neg hp, drop_cons s i h, oneM, Bool.and_comm]
theorem match_step_no (p : Nat × Nat) (ps : List (Nat × Nat)) (s : List Nat) (hp : ¬ p.1 = 2) : matchP (p :: ps) (s.drop s.length) = false := by
  rw [matchP, if_neg hp, List.drop_length, oneM]
theorem dropP_cons (l : List (Nat × Nat)) (i : Nat) (h : i < l.length) : l.drop i = l.getD i (0, 0) :: l.drop (i + 1) := by
  rw [List.drop_eq_getElem_cons h, List.getD_eq_getElem?_getD, List.getElem?_eq_getElem h]
  rfl
end Go.Proofs.Ytehieeahiicnhaa
