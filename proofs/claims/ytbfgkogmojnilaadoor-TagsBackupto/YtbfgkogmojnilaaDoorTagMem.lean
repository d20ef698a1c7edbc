/-
  Tags in memory: slices of structs of two texts; the document's Get, Within, Same.
-/
import Derived.Test.YtbfgkogmojnilaaDoorTexts
import Derived.Laws.AppendOwn
import Derived.Laws.AppendOwnNone
namespace Go.Proofs.YtbfgkogmojnilaaDoor
open Go.ChangeShapes Go.WideShapes Go.ChangeAt Go.RowKit
set_option linter.unusedVariables false
set_option linter.unusedSimpArgs false
def tagAt (ts : List (ByteArray × ByteArray)) (i : Nat) : ByteArray × ByteArray := ts.getD i (ByteArray.empty, ByteArray.empty)
def encT (t : ByteArray × ByteArray) : List Value := [.string t.1, .string t.2]
def encTs (ts : List (ByteArray × ByteArray)) : List Value := ts.flatMap encT
theorem encTs_length (ts : List (ByteArray × ByteArray)) : (encTs ts).length = ts.length * 2 := by
  unfold encTs
  induction ts with
  | nil => rfl
  | cons p ts ih => rw [List.flatMap_cons, List.length_append, ih, List.length_cons]; show 2 + _ = _; omega
theorem encTs_app (ts us : List (ByteArray × ByteArray)) : encTs (ts ++ us) = encTs ts ++ encTs us := by unfold encTs; rw [List.flatMap_append]
theorem encTs_at : ∀ (ts : List (ByteArray × ByteArray)) (i : Nat), i < ts.length → (encTs ts)[i * 2]? = some (.string (tagAt ts i).1) ∧ (encTs ts)[i * 2 + 1]? = some (.string (tagAt ts i).2)
  | [], i, h => by simp at h
  | p :: ts, 0, _ => ⟨rfl, rfl⟩
  | p :: ts, i + 1, h => by
    have ih := encTs_at ts i (by simpa using h)
    have e : encTs (p :: ts) = .string p.1 :: .string p.2 :: encTs ts := rfl
    rw [e, show (i + 1) * 2 = i * 2 + 1 + 1 by omega, List.getElem?_cons_succ, List.getElem?_cons_succ, List.getElem?_cons_succ, List.getElem?_cons_succ]
    exact ih
/-- Tags in memory, at an address where there are any. -/
def RowT (w : World) (a : Option Addr) (ts : List (ByteArray × ByteArray)) : Prop :=
  ts.length = 0 ∨ ∃ b off, a = some ⟨b, off, none⟩ ∧ b < w.heap.size ∧ ∀ i, i < ts.length → w.cell? ⟨b, off + i * 2, none⟩ = some (.string (tagAt ts i).1) ∧ w.cell? ⟨b, off + i * 2 + 1, none⟩ = some (.string (tagAt ts i).2)
theorem RowT.below {w w' : World} {a : Option Addr} {ts : List (ByteArray × ByteArray)} (h : RowT w a ts) (hb : Below w.heap.size w w') : RowT w' a ts := by
  rcases h with h | ⟨b, off, ha, hlt, hc⟩
  · exact .inl h
  · exact .inr ⟨b, off, ha, Nat.lt_of_lt_of_le hlt hb.size, fun i hi => ⟨(hb.cell (p := ⟨b, off + i * 2, none⟩) hlt).trans (hc i hi).1, (hb.cell (p := ⟨b, off + i * 2 + 1, none⟩) hlt).trans (hc i hi).2⟩⟩
/-- No text is too long. -/
def Short (ts : List (ByteArray × ByteArray)) : Prop := ∀ i, i < ts.length → (tagAt ts i).1.size ≤ 9223372036854775807 ∧ (tagAt ts i).2.size ≤ 9223372036854775807
def eqB (s t : ByteArray) : Bool := decide (txt s = txt t)
theorem eqB_iff (s t : ByteArray) : eqB s t = true ↔ s = t := by
  unfold eqB
  rw [decide_eq_true_eq]
  exact ⟨fun h => by rw [← strN_txt s, h, strN_txt], fun h => by rw [h]⟩
theorem str_same (s t : ByteArray) : (s.toList == t.toList) = eqB s t := str_eq s t
/-- The value of the first one with a name. -/
def getB (ts : List (ByteArray × ByteArray)) (nm : ByteArray) : Option ByteArray := match ts with
  | [] => none
  | t :: ts => if eqB t.1 nm then some t.2 else getB ts nm
def optT (o : Option ByteArray) : Value := match o with | some v => .tuple #[.string v, .bool true] | none => .tuple #[.string (ByteArray.mk #[]), .bool false]
theorem optT_form (o : Option ByteArray) : ∃ (X : ByteArray) (b : Bool), optT o = .tuple #[.string X, .bool b] := by
  cases o with
  | none => exact ⟨_, _, rfl⟩
  | some l => exact ⟨_, _, rfl⟩
theorem dropT_cons (ts : List (ByteArray × ByteArray)) (i : Nat) (h : i < ts.length) : ts.drop i = tagAt ts i :: ts.drop (i + 1) := by
  unfold tagAt
  rw [List.drop_eq_getElem_cons h, List.getD_eq_getElem?_getD, List.getElem?_eq_getElem h]
  rfl
/-- Is each of some in a list, with that value? -/
def withinB (us ts : List (ByteArray × ByteArray)) : Bool := match us with
  | [] => true
  | u :: us => (match getB ts u.1 with | some v => eqB v u.2 | none => false) && withinB us ts
end Go.Proofs.YtbfgkogmojnilaaDoor
