/-
  Bytes of parts as one list.
-/
import Derived.Test.YtmaaakcfbekboaaDoorShaAwake
import Derived.Test.YtmaaakcfbekboaaDoorArgs
namespace Go.Proofs.YtmaaakcfbekboaaDoor
open Go.ChangeShapes Go.WideShapes Go.ChangeAt Go.RowKit
set_option linter.unusedVariables false
theorem flat_bytes : ∀ (ps : List (List Nat)), (∀ xs ∈ ps, ∀ j, xs.getD j 0 < 256) → ∀ j, ps.flatten.getD j 0 < 256
  | [], _, j => by simp
  | x :: ps, h, j => by
    rw [List.flatten_cons]
    exact bytes_append (h x (by simp)) (flat_bytes ps (fun xs hx => h xs (by simp [hx]))) j
/-- A digest of noughts, typed out. -/
theorem yield_build {o : Oper} {a : Act} (ho : o.op = .build 25 #[]) (w : World) : (execOp a.eval o).run Tryd.prog w = .ok (.value (.agg (encL .u8 zeros32))) w := by
  have hp : ((#[] : Array (Nat × Operand)).map fun (i, x) => (i, a.eval x)) = #[] := by simp
  unfold execOp
  simp only [ho, hp, Sem.run_bind, Sem.run_pure, Result.andThen_ok, digBuild]
end Go.Proofs.YtmaaakcfbekboaaDoor
