/-
  Slices of bytes, and slices of such slices, that come in, as lists of numbers (layer 11); what the second form's bound says of their lengths; what the row's list gives of the table of halves.
-/
import Derived.Test.YtaahmpabhophfaaDoorFrameScan
import Derived.WalkKit
import Derived.SizedLaws
import Derived.ProofKit
import Derived.OpenShut
import Derived.ShutString
import Derived.ChangeOld
import Derived.Below
import Derived.Deep.DeepHandedRow
import Derived.Deep.Matrix
import Derived.Lib.LaidTab
namespace Go.Proofs.YtaahmpabhophfaaDoor
open Go.ChangeShapes Go.WideShapes Go.ChangeAt Go.RowKit
set_option linter.unusedVariables false
theorem own : ownKnob Tryd.prog.godebug = none := by kernel_rfl
theorem laidOut : laidOutB Tryd.prog = true := by kernel_rfl
/-- A slice of integers that came in: nil, or a row of 'cap' cells. -/
def IsRow (k : IntKind) (w : World) (a : Option Addr) (len cap : Nat) (zs : List Int) : Prop :=
  (a = none ∧ len = 0 ∧ cap = 0 ∧ zs = []) ∨
  ∃ x, a = some x ∧ len ≤ cap ∧ cap ≤ maxLen ∧ zs.length = cap ∧ (∀ i, i < zs.length → w.cell? (x.add i) = some (.int k (zs.getD i 0))) ∧ ∀ n ∈ zs, (Lit.int k n).wf = true
def toN (zs : List Int) (len : Nat) : List Nat := (zs.take len).map Int.toNat
def ArgO (w : World) (a : Option Addr) (len cap : Nat) (xs : List Nat) : Prop :=
  RowL .u8 w a len xs ∧ (∀ j, xs.getD j 0 < 256) ∧ (a = none → len = 0 ∧ cap = 0) ∧ len ≤ cap ∧ cap ≤ maxLen
theorem nat_of {z : Int} (h : (Lit.int .u8 z).wf = true) : ((z.toNat : Nat) : Int) = z ∧ z.toNat < 256 := by
  have := bounds_u8 h
  omega
theorem arg_old {w : World} {a : Option Addr} {len cap : Nat} {zs : List Int} (h : IsRow .u8 w a len cap zs) : ArgO w a len cap (toN zs len) := by
  unfold toN
  rcases h with ⟨rfl, rfl, rfl, rfl⟩ | ⟨x, rfl, hl, hm, hz, hc, hw⟩
  · exact ⟨⟨rfl, .inl rfl⟩, (fun j => by simp), (fun _ => ⟨rfl, rfl⟩), Nat.le_refl _, Nat.zero_le _⟩
  · have hv : ∀ j, j < len → ((zs.take len).map Int.toNat).getD j 0 = (zs.getD j 0).toNat := by
      intro j hj
      simp [List.getD, hj]
      cases zs[j]? <;> simp
    have hcl : ∀ j, j < len → w.cell? (x.add j) = some (.int .u8 (((zs.take len).map Int.toNat).getD j 0 : Nat)) := by
      intro j hj
      rw [hc j (by omega), hv j hj]
      have hmem : zs.getD j 0 ∈ zs := by
        rw [List.getD_eq_getElem?_getD, List.getElem?_eq_getElem (by omega : j < zs.length)]
        exact List.getElem_mem _
      rw [(nat_of (hw _ hmem)).1]
    have hln : ((zs.take len).map Int.toNat).length = len := by simp; omega
    refine ⟨⟨hln, ?_⟩, ?_, (fun h => by cases h), hl, hm⟩
    · by_cases h0 : len = 0
      · exact .inl h0
      · obtain ⟨b, off, spot⟩ := x
        have c0 := hcl 0 (by omega)
        have hspot : spot = none := by simpa [Addr.add] using World.cell?_spot c0
        subst hspot
        refine .inr ⟨b, off, rfl, ?_, fun i hi => ?_⟩
        · simpa [Addr.add] using World.block_lt_of_cell? w _ c0
        · have := hcl i hi
          have hp : (⟨b, off, none⟩ : Addr).add i = ⟨b, off + i, none⟩ := by unfold Addr.add; split <;> simp_all
          rw [hp] at this
          exact this
    · intro j
      by_cases hj : j < len
      · rw [hv j hj]
        have hmem : zs.getD j 0 ∈ zs := by
          rw [List.getD_eq_getElem?_getD, List.getElem?_eq_getElem (by omega : j < zs.length)]
          exact List.getElem_mem _
        exact (nat_of (hw _ hmem)).2
      · rw [List.getD_eq_getElem?_getD, List.getElem?_eq_none (by omega)]; decide
/-- What a walk is told of bytes that came in. -/
def ArgL (w : World) (a : Option Addr) (len cap : Nat) (xs : List Nat) : Prop := BytL w a len cap xs
theorem arg_at {w : World} {a : Option Addr} {len cap : Nat} {zs : List Int} (h : IsRow .u8 w a len cap zs) : ArgL w a len cap (toN zs len) := by
  obtain ⟨h1, h2, h3, h4, h5⟩ := arg_old h
  refine ⟨h1, h3, fun c hc => ?_, h4, h5⟩
  obtain ⟨i, hi, rfl⟩ := List.getElem_of_mem hc
  have := h2 i
  rwa [List.getD_eq_getElem?_getD, List.getElem?_eq_getElem hi] at this
/-- What a walk is told of parts that came in. -/
def PArgL (w : World) (a : Option Addr) (len cap : Nat) (ps : List (List Nat)) : Prop :=
  ps.length = len ∧ (len = 0 ∨ ∃ b off, a = some ⟨b, off, none⟩ ∧ b < w.heap.size ∧ ∀ i, i < len → ∃ ai li ci, w.cell? ⟨b, off + i, none⟩ = some (.slice ai li ci) ∧ BytL w ai li ci (ps.getD i [])) ∧ (a = none → len = 0 ∧ cap = 0) ∧ len ≤ cap ∧ cap ≤ maxLen
theorem parg_nil (w : World) : PArgL w none 0 0 [] := ⟨rfl, .inl rfl, (fun _ => ⟨rfl, rfl⟩), Nat.le_refl _, Nat.zero_le _⟩
theorem parg_at {w : World} {a : Addr} {len cap : Nat} {A : Nat → Option Addr} {L C : Nat → Nat} {Z : Nat → List Int} (hl : len ≤ cap) (hm : cap ≤ maxLen)
    (h : ∀ r, r < cap → w.cell? (a.add r) = some (.slice (A r) (L r) (C r)) ∧ L r ≤ C r ∧ C r ≤ maxLen ∧ (Z r).length = C r ∧ (∀ n ∈ Z r, (Lit.int .u8 n).wf = true) ∧ (A r = none → C r = 0) ∧
        ∀ a', A r = some a' → 0 ≤ a'.block ∧ ∀ c, c < C r → w.cell? (a'.add c) = some (.int .u8 ((Z r).getD c 0))) :
    PArgL w (some a) len cap ((List.range len).map fun r => toN (Z r) (L r)) := by
  have hrow : ∀ r, r < len → ArgL w (A r) (L r) (C r) (toN (Z r) (L r)) := by
    intro r hr
    obtain ⟨-, q2, q3, q4, q5, q6, q7⟩ := h r (by omega)
    refine arg_at ?_
    cases hA : A r with
    | none =>
      have hc := q6 hA
      exact .inl ⟨rfl, by omega, hc, List.eq_nil_of_length_eq_zero (by omega)⟩
    | some a' => exact .inr ⟨a', rfl, q2, q3, q4, fun i hi => (q7 a' hA).2 i (by omega), q5⟩
  have hg : ∀ i, i < len → ((List.range len).map fun r => toN (Z r) (L r)).getD i [] = toN (Z i) (L i) := by intro i hi; simp [List.getD, hi]
  have hcell : ∀ i, i < len → w.cell? (a.add i) = some (.slice (A i) (L i) (C i)) := fun i hi => (h i (by omega)).1
  refine ⟨by simp, ?_, (fun h => by cases h), hl, hm⟩
  by_cases h0 : len = 0
  · exact .inl h0
  · obtain ⟨b, off, spot⟩ := a
    have c0 := hcell 0 (by omega)
    have hspot : spot = none := by simpa [Addr.add] using World.cell?_spot c0
    subst hspot
    refine .inr ⟨b, off, rfl, ?_, fun i hi => ⟨A i, L i, C i, ?_, by rw [hg i hi]; exact hrow i hi⟩⟩
    · simpa [Addr.add] using World.block_lt_of_cell? w _ c0
    · have := hcell i hi
      have hp : (⟨b, off, none⟩ : Addr).add i = ⟨b, off + i, none⟩ := by unfold Addr.add; split <;> simp_all
      rw [hp] at this
      exact this
/-! The second form's bound. -/
theorem bulk_append {H : Type} (a b : List (DataW H)) : Rows.uptoBulkAll (a ++ b) = Rows.uptoBulkAll a + Rows.uptoBulkAll b := by
  induction a with
  | nil => simp [Rows.uptoBulkAll]
  | cons d a ih => rw [List.cons_append, Rows.uptoBulkAll, Rows.uptoBulkAll, ih]; omega
theorem bulk_lits {H : Type} (k : IntKind) (l : List Int) : Rows.uptoBulkAll (lits k l : List (DataW H)) = l.length := by
  induction l with
  | nil => rfl
  | cons z l ih =>
    have e : (lits k (z :: l) : List (DataW H)) = .lit (.int k z) :: lits k l := rfl
    have e2 : Rows.uptoBulk (.lit (.int k z) : DataW H) = 1 := by rw [Rows.uptoBulk]; intro b h; cases h
    rw [e, Rows.uptoBulkAll, ih, e2, List.length_cons]
    omega
theorem bulk_row {H : Type} (k : IntKind) (A : Option Addr) (L : Nat) (Z : List Int) (h : A = none → L = 0 ∨ Z = []) : (toN Z L).length ≤ Rows.uptoBulk (Deep.intRow k A L Z : DataW H) := by
  unfold toN
  rw [List.length_map]
  cases A with
  | none =>
    rcases h rfl with h | h
    · rw [h]; simp
    · rw [h]; simp
  | some a =>
    show _ ≤ Rows.uptoBulk (.slice (lits k (Z.take L)) (lits k (Z.drop L)))
    rw [Rows.uptoBulk, bulk_lits, bulk_lits]
    omega
theorem bulk_rows {H : Type} (f : Nat → DataW H) (g : Nat → List Nat) : ∀ n, (∀ r, r < n → (g r).length ≤ Rows.uptoBulk (f r)) → ((List.range n).map g).flatten.length ≤ Rows.uptoBulkAll ((List.range n).map f)
  | 0, _ => by simp [Rows.uptoBulkAll]
  | n + 1, h => by
    rw [List.range_succ, List.map_append, List.map_append, List.flatten_append, List.length_append, bulk_append]
    have h1 := bulk_rows f g n (fun r hr => h r (by omega))
    have h2 := h n (by omega)
    have e1 : ([n].map g).flatten.length = (g n).length := by simp
    have e2 : Rows.uptoBulkAll ([n].map f) = Rows.uptoBulk (f n) := by simp [Rows.uptoBulkAll]
    rw [e1, e2]
    omega
def halfZ : List Int := [0, 274646895, 549293790, 820201905, 1098587580, 1361435347, 1640403810, 1905808397, 2197175160, 2460548119, 2722870694, 2987750089, 3280807620, 3553878443, 3811616794, 4084100981]
theorem gHalf : Tryd.prog.globalNamed (Rows.framePutsRow.laid.map (·.1))[0]! = some 0 := by kernel_rfl
theorem gHalfType : (Tryd.prog.globals[0]?).map (·.type) = some 60 := by kernel_rfl
theorem cellsHalf : Tryd.prog.cellsOf 60 = 16 := by kernel_rfl
theorem cellsU32 : Tryd.prog.cellsOf 44 = 1 := by kernel_rfl
theorem halfZ_at : ∀ i : Fin 16, halfZ[i.val]? = some ((halfN i.val : Nat) : Int) := by decide +kernel
theorem table {W : World} (h : laidMetH Tryd.prog Rows.framePutsRow.laid W) : HalfTab W := by
  have h' : laidMet Tryd.prog Rows.framePutsRow.laid W := h
  obtain ⟨ps, ⟨g', t', cs, fuel, p, q, hg', ht', hvar, hd, _, _⟩, _⟩ := h'
  obtain rfl : 0 = g' := Option.some.inj (gHalf.symm.trans hg')
  obtain rfl : 60 = t' := Option.some.inj (gHalfType.symm.trans ht')
  obtain ⟨l⟩ := cs
  have e := Lib.cells_of_tab (zs := halfZ) Tryd.underlying60 Tryd.underlying44 cellsU32 cellsHalf hd
  simp only [] at e
  subst e
  have hc := World.var?_cell hg' hvar
  have hall : ∀ i, i < 16 → W.cell? ⟨0, i, none⟩ = some (.int .u32 (halfN i : Nat)) := by
    intro i hi
    rw [hc i]
    have := halfZ_at ⟨i, hi⟩
    simp only [] at this
    simp [this]
  exact ⟨World.block_lt_of_cell? W _ (hall 0 (by decide)), hall⟩
end Go.Proofs.YtaahmpabhophfaaDoor
