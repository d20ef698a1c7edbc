/-
  Locks and defaults that come in by value.
-/
import Derived.Test.YtoaegepphkocoaaModeRef
import Derived.Test.YtoaegepphkocoaaPArgs
import Derived.Lib.SmallJoins
namespace Go.Proofs.Ytoaegepphkocoaa
open Go.ChangeShapes Go.WideShapes Go.ChangeAt Go.RowKit
set_option linter.unusedVariables false
theorem lock_open {H : Type} {enc : TypeId × Value → H} {W : World} {r : Reach} {b0 base : Nat} {spare : Nat → Bool} {held : Bool} {v : Value} {d : DataW H} {p : List MemPlace}
    (hv : Value.okWide Try.prog W r b0 23 v) (h : DataW.Trod enc Try.prog W base spare held 23 v d p) : ∃ m u : Int, ∃ b : Bool, v = lockV m u b ∧ i64 m ∧ i64 u := by
  obtain ⟨v0, v1, v2, y0, y1, y2, n, rfl, -, -, h0, h1, h2⟩ := Joins.open_agg3 Try.underlying23 (by kernel_rfl) (by kernel_rfl) hv h
  obtain ⟨m, e0, -, w0⟩ := DataW.trod_int Try.underlying3 h0
  obtain ⟨u, e1, -, w1⟩ := DataW.trod_int Try.underlying2 h1
  obtain ⟨b, e2, -⟩ := DataW.trod_bool Try.underlying4 h2
  simp only [List.cons.injEq, and_true] at e0 e1 e2
  exact ⟨m, u, b, by rw [e0, e1, e2], bounds_i64 w0, bounds_i64 w1⟩
theorem default_open {H : Type} {enc : TypeId × Value → H} {W : World} {r : Reach} {b0 base : Nat} {spare : Nat → Bool} {held : Bool} {v : Value} {d : DataW H} {p : List MemPlace}
    (hv : Value.okWide Try.prog W r b0 25 v) (h : DataW.Trod enc Try.prog W base spare held 25 v d p) : ∃ m n : Int, v = defV m n ∧ i64 m ∧ i64 n := by
  obtain ⟨v0, v1, y0, y1, n, rfl, -, -, h0, h1⟩ := Joins.open_agg2 Try.underlying25 (by kernel_rfl) (by kernel_rfl) hv h
  obtain ⟨m, e0, -, w0⟩ := DataW.trod_int Try.underlying3 h0
  obtain ⟨u, e1, -, w1⟩ := DataW.trod_int Try.underlying3 h1
  simp only [List.cons.injEq, and_true] at e0 e1
  exact ⟨m, u, by rw [e0, e1], bounds_i64 w0, bounds_i64 w1⟩
end Go.Proofs.Ytoaegepphkocoaa
