/-
  Arrays of numbers by value: one number of them, two of them that are alike.
-/
import Derived.Test.YtngojkleehgbaaaByVal
import Derived.ChangeKeysEq
namespace Go.Proofs.Ytngojkleehgbaaa
open Go.ChangeShapes Go.WideShapes Go.ChangeAt Go.RowKit
set_option linter.unusedVariables false
set_option linter.unusedSimpArgs false
/-- An array's type over numbers of one cell each. -/
def NumsT (t e : TypeId) (n : Nat) : Prop := Try.prog.underlying t = some (.array n e) ∧ Try.prog.plainKey e = true ∧ Try.prog.cellsOf e = 1 ∧ ∃ i, Try.prog.info? e = some i
theorem index_any {t e : TypeId} {n : Nat} (ht : NumsT t e n) (k : IntKind) (l : List Nat) (hl : l.length = n) (i : Nat) (hi : i < n) (w : World) :
    Sem.run Try.prog (Instr.index t (.agg (encL k l)) (.int .i64 (i : Nat))) w = .ok (.int k (l.getD i 0 : Nat)) w := by
  obtain ⟨h1, h2, h3, i0, h4⟩ := ht
  have hc : (0 : Int) ≤ (i : Int) ∧ (i : Int) < (n : Int) := ⟨by omega, by omega⟩
  have hp := run_part_plain (P := Try.prog) w h2 (encL_get k l i (by omega))
  simp only [Instr.index, asIntOf, Sem.run_bind, Sem.run_pure, Result.andThen_ok, run_underlying h1, hc, and_self, if_true, run_sizeOf w h4, h3, Int.toNat_natCast, Nat.mul_one]
  exact hp
theorem eqItems_same {e : TypeId} (h2 : Try.prog.plainKey e = true) {k k' : IntKind} (hu : Try.prog.underlying e = some (.int k')) (l : List Nat) (d : Nat) (w : World) : ∀ is : List Nat, (∀ i ∈ is, i < l.length) →
    Sem.run Try.prog (Op.eqItems (d + 1) e 1 (encL k l) (encL k l) is) w = .ok true w
  | [], _ => by simp [Op.eqItems]
  | i :: is, h => by
    have hp := run_part_plain (P := Try.prog) w h2 (encL_get k l i (h i (by simp)))
    have := eqItems_same h2 hu l d w is (fun j hj => h j (by simp [hj])) (k := k)
    simp only [Op.eqItems, Sem.run_bind, Nat.mul_one, hp, Result.andThen_ok, run_equalIn_int w d e k k' _ _ hu, beq_self_eq_true, Bool.not_true, Bool.false_eq_true, if_false]
    exact this
theorem equal_same {t e : TypeId} {n : Nat} (ht : NumsT t e n) {k k' : IntKind} (hu : Try.prog.underlying e = some (.int k')) (l : List Nat) (hl : l.length = n) (w : World) :
    Sem.run Try.prog (Op.equalIn 10000 t (.agg (encL k l)) (.agg (encL k l))) w = .ok true w := by
  obtain ⟨h1, h2, h3, i0, h4⟩ := ht
  rw [run_equalIn_array w 9999 _ _ h1 h4, h3]
  exact eqItems_same h2 hu l 9998 w _ (fun i hi => by rw [hl]; exact List.mem_range.1 hi)
theorem nums32 : NumsT 27 5 32 := ⟨Try.underlying27, by kernel_rfl, by kernel_rfl, _, rfl⟩
theorem same_digest (l : List Nat) (hl : l.length = 32) (w : World) : Sem.run Try.prog (Op.equalIn 10000 27 (.agg (encL .u8 l)) (.agg (encL .u8 l))) w = .ok true w :=
  equal_same nums32 Try.underlying5 l hl w
end Go.Proofs.Ytngojkleehgbaaa
