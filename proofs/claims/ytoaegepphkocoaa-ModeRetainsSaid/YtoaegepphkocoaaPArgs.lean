/-
  Slices of bytes that come in, as lists of numbers; what the second form's bound says of their lengths. (For laws without laid variables.)
-/
import Derived.Test.YtoaegepphkocoaaWords
import Derived.WalkKit
import Derived.SizedLaws
import Derived.ProofKit
import Derived.OpenShut
import Derived.ShutString
import Derived.ChangeOld
import Derived.Below
import Derived.JoinedCond
import Derived.Deep.CondSized
namespace Go.Proofs.Ytoaegepphkocoaa
open Go.ChangeShapes Go.WideShapes Go.ChangeAt Go.RowKit
set_option linter.unusedVariables false
theorem own : ownKnob Try.prog.godebug = none := by kernel_rfl
theorem laidOut : laidOutB Try.prog = true := by kernel_rfl
/-- A slice of integers that came in: nil, or a row of 'cap' cells. -/
def IsRow (k : IntKind) (w : World) (a : Option Addr) (len cap : Nat) (zs : List Int) : Prop :=
  (a = none ∧ len = 0 ∧ cap = 0 ∧ zs = []) ∨
  ∃ x, a = some x ∧ len ≤ cap ∧ cap ≤ maxLen ∧ zs.length = cap ∧ (∀ i, i < zs.length → w.cell? (x.add i) = some (.int k (zs.getD i 0))) ∧ ∀ n ∈ zs, (Lit.int k n).wf = true
def toN (zs : List Int) (len : Nat) : List Nat := (zs.take len).map Int.toNat
/-- What a walk is told of bytes that came in. -/
def ArgL (w : World) (a : Option Addr) (len cap : Nat) (xs : List Nat) : Prop :=
  RowL .u8 w a len xs ∧ (∀ j, xs.getD j 0 < 256) ∧ (a = none → len = 0 ∧ cap = 0) ∧ len ≤ cap ∧ cap ≤ maxLen
theorem nat_of {z : Int} (h : (Lit.int .u8 z).wf = true) : ((z.toNat : Nat) : Int) = z ∧ z.toNat < 256 := by
  have := bounds_u8 h
  omega
theorem arg_at {w : World} {a : Option Addr} {len cap : Nat} {zs : List Int} (h : IsRow .u8 w a len cap zs) : ArgL w a len cap (toN zs len) := by
  unfold toN
  rcases h with ⟨rfl, rfl, rfl, rfl⟩ | ⟨x, rfl, hl, hm, hz, hc, hw⟩
  · exact ⟨⟨rfl, .inl rfl⟩, (fun j => by simp), (fun _ => ⟨rfl, rfl⟩), Nat.le_refl _, Nat.zero_le _⟩
  · have hv : ∀ j, j < len → ((zs.take len).map Int.toNat).getD j 0 = (zs.getD j 0).toNat := by
      intro j hj
      simp [List.getD, hj]
      cases zs[j]? <;> simp
    have hcl : ∀ j, j < len → w.cell? (x.add j) = some (.int .u8 (((zs.take len).map Int.toNat).getD j 0 : Nat)) := by
      intro j hj
      rw [hc j (by omega), hv j hj]
      have hmem : zs.getD j 0 ∈ zs := by
        rw [List.getD_eq_getElem?_getD, List.getElem?_eq_getElem (by omega : j < zs.length)]
        exact List.getElem_mem _
      rw [(nat_of (hw _ hmem)).1]
    have hln : ((zs.take len).map Int.toNat).length = len := by simp; omega
    refine ⟨⟨hln, ?_⟩, ?_, (fun h => by cases h), hl, hm⟩
    · by_cases h0 : len = 0
      · exact .inl h0
      · obtain ⟨b, off, spot⟩ := x
        have c0 := hcl 0 (by omega)
        have hspot : spot = none := by simpa [Addr.add] using World.cell?_spot c0
        subst hspot
        refine .inr ⟨b, off, rfl, ?_, fun i hi => ?_⟩
        · simpa [Addr.add] using World.block_lt_of_cell? w _ c0
        · have := hcl i hi
          have hp : (⟨b, off, none⟩ : Addr).add i = ⟨b, off + i, none⟩ := by unfold Addr.add; split <;> simp_all
          rw [hp] at this
          exact this
    · intro j
      by_cases hj : j < len
      · rw [hv j hj]
        have hmem : zs.getD j 0 ∈ zs := by
          rw [List.getD_eq_getElem?_getD, List.getElem?_eq_getElem (by omega : j < zs.length)]
          exact List.getElem_mem _
        exact (nat_of (hw _ hmem)).2
      · rw [List.getD_eq_getElem?_getD, List.getElem?_eq_none (by omega)]; decide
/-! The second form's bound. -/
theorem bulk_append {H : Type} (a b : List (DataW H)) : Rows.uptoBulkAll (a ++ b) = Rows.uptoBulkAll a + Rows.uptoBulkAll b := by
  induction a with
  | nil => simp [Rows.uptoBulkAll]
  | cons d a ih => rw [List.cons_append, Rows.uptoBulkAll, Rows.uptoBulkAll, ih]; omega
theorem bulk_lits {H : Type} (k : IntKind) (l : List Int) : Rows.uptoBulkAll (lits k l : List (DataW H)) = l.length := by
  induction l with
  | nil => rfl
  | cons z l ih =>
    have e : (lits k (z :: l) : List (DataW H)) = .lit (.int k z) :: lits k l := rfl
    have e2 : Rows.uptoBulk (.lit (.int k z) : DataW H) = 1 := by rw [Rows.uptoBulk]; intro b h; cases h
    rw [e, Rows.uptoBulkAll, ih, e2, List.length_cons]
    omega
theorem bytes_len (s : ByteArray) : s.data.toList.length = s.size := by rw [Array.length_toList]; rfl
end Go.Proofs.Ytoaegepphkocoaa
