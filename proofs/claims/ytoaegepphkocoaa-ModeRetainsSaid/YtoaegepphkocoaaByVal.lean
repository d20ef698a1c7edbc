/-
  Arrays by value, as one letter: laws at the operations 'load', 'store', 'alloc', 'build' for the walk, so that it does not open them cell by cell; a result that is an array.
-/
import Derived.Test.YtoaegepphkocoaaWords
namespace Go.Proofs.Ytoaegepphkocoaa
open Go.ChangeShapes Go.WideShapes Go.ChangeAt Go.RowKit
set_option linter.unusedVariables false
set_option linter.unusedSimpArgs false
theorem load_op {P : Program} {ops : Array Oper} {rest : List Oper} {o : Oper} {a : Act} {Q : Exit → Act → World → Prop} {w : World} (hg : o.guard = none) (t : TypeId) (x : Operand) (ho : o.op = .load t x)
    (p : Addr) (hx : a.eval x = .pointer (some p)) (c : Array Value) (hr : (loadVar t p).run P w = .ok (.agg c) w) (h : wpList P ops Q rest (a.put o.dst (.agg c)) w) : wpList P ops Q (o :: rest) a w :=
  wpList_plain hg fun _ hK => by
    unfold Oper.wp execOp
    simp only [ho, hx, Instr.loadAt, Instr.sureAddr, Sem.run_bind, Sem.run_pure, Result.andThen_ok, hr]
    exact hK _ _ h
theorem store_op {P : Program} {ops : Array Oper} {rest : List Oper} {o : Oper} {a : Act} {Q : Exit → Act → World → Prop} {w w' : World} (hg : o.guard = none) (t : TypeId) (x y : Operand) (ho : o.op = .store t x y)
    (p : Addr) (hx : a.eval x = .pointer (some p)) (v : Value) (hy : a.eval y = v) (hr : (storeVar t p v).run P w = .ok () w') (h : wpList P ops Q rest (a.put o.dst undef) w') : wpList P ops Q (o :: rest) a w :=
  wpList_plain hg fun _ hK => by
    unfold Oper.wp execOp
    simp only [ho, hx, hy, Instr.storeAt, Instr.sureAddr, Sem.run_bind, Sem.run_pure, Result.andThen_ok, hr]
    exact hK _ _ h
theorem alloc_op {P : Program} {ops : Array Oper} {rest : List Oper} {o : Oper} {a : Act} {Q : Exit → Act → World → Prop} {w w' : World} (hg : o.guard = none) (t : TypeId) (ho : o.op = .alloc t)
    (v : Value) (hr : (Instr.alloc t true (.tuple #[])).run P w = .ok v w') (h : wpList P ops Q rest (a.put o.dst v) w') : wpList P ops Q (o :: rest) a w :=
  wpList_plain hg fun _ hK => by
    unfold Oper.wp execOp
    simp only [ho, Sem.run_bind, Sem.run_pure, Result.andThen_ok, hr]
    exact hK _ _ h
theorem build_op {P : Program} {ops : Array Oper} {rest : List Oper} {o : Oper} {a : Act} {Q : Exit → Act → World → Prop} {w w' : World} (hg : o.guard = none) (t : TypeId) (parts : Array (Nat × Operand)) (ho : o.op = .build t parts)
    (ps : Array (Nat × Value)) (hp : (parts.map fun (i, x) => (i, a.eval x)) = ps)
    (v : Value) (hr : (Instr.build t ps).run P w = .ok v w') (h : wpList P ops Q rest (a.put o.dst v) w') : wpList P ops Q (o :: rest) a w :=
  wpList_plain hg fun _ hK => by
    unfold Oper.wp execOp
    simp only [ho, hp, Sem.run_bind, Sem.run_pure, Result.andThen_ok, hr]
    exact hK _ _ h
theorem results_cell {fn : Func} {p : Tmp} {ty : TypeId} (h : fn.results = #[.cell p ty]) (tmps : Array Value) (P : Program) (w : World) :
    (results fn tmps).run P w = ((asAddr (tmps.getD p undef)).run P w).andThen fun a w₁ => (loadVar ty a).run P w₁ := by
  simp only [results, h]
  simp [Sem.run_bind, Result.andThen]
/-- The type's row: an array of so many numbers. -/
def ArrT (t : TypeId) (n : Nat) : Prop := (Try.prog.info? t).map (·.size) = some n ∧ ∃ e, Try.prog.underlying t = some (.array n e)
theorem Blk.load {w : World} {g : Nat} {t : TypeId} {k : IntKind} {l : List Nat} {n : Nat} (h : Blk w g t k l) (ht : ArrT t n) (hl : l.length = n) : (loadVar t ⟨g, 0, none⟩).run Try.prog w = .ok (.agg (encL k l)) w := by
  obtain ⟨h1, e, h2⟩ := ht
  exact run_loadVar_row w g t t (encL k l) (0, 0) _ h h2 rfl (by rw [encL_size, hl]; exact h1)
theorem Blk.store {w : World} {g : Nat} {t : TypeId} {k : IntKind} {l m : List Nat} {n : Nat} (h : Blk w g t k l) (ht : ArrT t n) (hl : l.length = n) (hm : m.length = n) :
    (storeVar t ⟨g, 0, none⟩ (.agg (encL k m))).run Try.prog w = .ok () (w.setRow g (encL k m)) :=
  run_storeVar_row w g t t (encL k l) (encL k m) h (by rw [encL_size, hm]; exact ht.1) (by rw [encL_size, encL_size]; omega) (encL_one k m)
theorem Blk.setRow {w : World} {g : Nat} {t : TypeId} {k : IntKind} {l : List Nat} (h : Blk w g t k l) (m : List Nat) : Blk (w.setRow g (encL k m)) g t k m := setRow_heap w g _ _ _ _ h
theorem Blk.otherRow {w : World} {g b : Nat} {t : TypeId} {k : IntKind} {l : List Nat} (h : Blk w g t k l) (hne : g ≠ b) (c : Array Value) : Blk (w.setRow b c) g t k l := (setRow_other w b g c hne).trans h
end Go.Proofs.Ytoaegepphkocoaa
