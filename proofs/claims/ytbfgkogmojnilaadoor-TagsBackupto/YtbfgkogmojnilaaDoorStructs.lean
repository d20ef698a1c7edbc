/-
  Structs by value: a block that holds a struct's numbers, loaded and stored as a whole; results of which the first is a struct.
-/
import Derived.Test.YtbfgkogmojnilaaDoorByVal
namespace Go.Proofs.YtbfgkogmojnilaaDoor
open Go.ChangeShapes Go.WideShapes Go.ChangeAt Go.RowKit
set_option linter.unusedVariables false
set_option linter.unusedSimpArgs false
/-- The type's row: a struct or an array of so many cells. -/
def AggT (t : TypeId) (n : Nat) : Prop := (Tryd.prog.info? t).map (·.size) = some n ∧ ∃ d, Tryd.prog.underlying t = some d ∧ (match d with | .struct _ | .array _ _ => true | _ => false) = true
theorem agg_load {w : World} {g : Nat} {t : TypeId} {k : IntKind} {l : List Nat} {n : Nat} (h : Blk w g t k l) (ht : AggT t n) (hl : l.length = n) : (loadVar t ⟨g, 0, none⟩).run Tryd.prog w = .ok (.agg (encL k l)) w := by
  obtain ⟨h1, d, h2, h3⟩ := ht
  exact run_loadVar_row w g t t (encL k l) (0, 0) d h h2 (by cases d <;> exact h3) (by rw [encL_size, hl]; exact h1)
theorem agg_store {w : World} {g : Nat} {t : TypeId} {k : IntKind} {l m : List Nat} {n : Nat} (h : Blk w g t k l) (ht : AggT t n) (hl : l.length = n) (hm : m.length = n) :
    (storeVar t ⟨g, 0, none⟩ (.agg (encL k m))).run Tryd.prog w = .ok () (w.setRow g (encL k m)) :=
  run_storeVar_row w g t t (encL k l) (encL k m) h (by rw [encL_size, hm]; exact ht.1) (by rw [encL_size, encL_size]; omega) (encL_one k m)
theorem below_row {B : Nat} {a w : World} (h : Below B a w) {g : Nat} (hg : B ≤ g) (c : Array Value) : Below B a (w.setRow g c) :=
  h.trans ⟨rfl, rfl, rfl, by simp [World.setRow], fun k hk => setRow_other w g k c (by omega)⟩
theorem results_ct {fn : Func} {p q : Tmp} {ty : TypeId} (h : fn.results = #[.cell p ty, .tmp q]) (tmps : Array Value) (P : Program) (w : World) (g : Nat) (hp : tmps.getD p undef = .pointer (some ⟨g, 0, none⟩)) (v : Value) (hv : (loadVar ty ⟨g, 0, none⟩).run P w = .ok v w) :
    (results fn tmps).run P w = .ok (.tuple #[v, tmps.getD q undef]) w := by
  have hp' : tmps[p]?.getD undef = .pointer (some ⟨g, 0, none⟩) := by simpa using hp
  simp [results, h, hp', asAddr, hv, Sem.run_bind, Result.andThen]
end Go.Proofs.YtbfgkogmojnilaaDoor
