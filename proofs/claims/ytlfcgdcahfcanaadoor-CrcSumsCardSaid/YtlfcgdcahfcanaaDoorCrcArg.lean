/-
  Slices of bytes that come in, as lists of numbers: what the laws' walks are told of them.
-/
import Derived.Test.YtlfcgdcahfcanaaDoorCrcLaid
import Derived.WalkKit
import Derived.SizedLaws
import Derived.ProofKit
import Derived.OpenShut
import Derived.ShutString
import Derived.ChangeOld
import Derived.Below
import Derived.Deep.DeepHandedRow
namespace Go.Proofs.YtlfcgdcahfcanaaDoor
open Go.ChangeShapes Go.WideShapes Go.ChangeAt Go.RowKit
set_option linter.unusedVariables false
theorem own : ownKnob Tryd.prog.godebug = none := by kernel_rfl
theorem laidOut : laidOutB Tryd.prog = true := by kernel_rfl
/-- A slice of integers that came in: nil, or a row of 'cap' cells. -/
def IsRow (k : IntKind) (w : World) (a : Option Addr) (len cap : Nat) (zs : List Int) : Prop :=
  (a = none ∧ len = 0 ∧ cap = 0 ∧ zs = []) ∨
  ∃ x, a = some x ∧ len ≤ cap ∧ cap ≤ maxLen ∧ zs.length = cap ∧ (∀ i, i < zs.length → w.cell? (x.add i) = some (.int k (zs.getD i 0))) ∧ ∀ n ∈ zs, (Lit.int k n).wf = true
/-- What a walk is told of it. -/
def Arg (w : World) (a : Option Addr) (len cap : Nat) (xs : List Nat) : Prop :=
  Row w a len xs ∧ (a = none → len = 0 ∧ cap = 0) ∧ (∀ ad, a = some ad → ∀ j, j < len → w.cell? (ad.add j) = some (.int .u8 (xs.getD j 0 : Nat))) ∧ len ≤ cap
theorem nat_of {z : Int} (h : (Lit.int .u8 z).wf = true) : ((z.toNat : Nat) : Int) = z ∧ z.toNat < 256 := by
  have := bounds_u8 h
  omega
theorem arg_of {w : World} {a : Option Addr} {len cap : Nat} {zs : List Int} (h : IsRow .u8 w a len cap zs) : ∃ xs, Arg w a len cap xs := by
  refine ⟨(zs.take len).map Int.toNat, ?_⟩
  rcases h with ⟨rfl, rfl, rfl, rfl⟩ | ⟨x, rfl, hl, hm, hz, hc, hw⟩
  · exact ⟨⟨rfl, Nat.zero_le _, (fun c hc => by simp at hc), .inl rfl⟩, fun _ => ⟨rfl, rfl⟩, (fun ad h => by cases h), Nat.le_refl _⟩
  · have hv : ∀ j, j < len → ((zs.take len).map Int.toNat).getD j 0 = (zs.getD j 0).toNat := by
      intro j hj
      simp [List.getD, hj]
      cases zs[j]? <;> simp
    have hcl : ∀ j, j < len → w.cell? (x.add j) = some (.int .u8 (((zs.take len).map Int.toNat).getD j 0 : Nat)) := by
      intro j hj
      rw [hc j (by omega), hv j hj]
      have hmem : zs.getD j 0 ∈ zs := by
        rw [List.getD_eq_getElem?_getD, List.getElem?_eq_getElem (by omega : j < zs.length)]
        exact List.getElem_mem _
      rw [(nat_of (hw _ hmem)).1]
    refine ⟨⟨by simp; omega, Nat.le_trans hl hm, ?_, ?_⟩, (fun h => by cases h), ?_, hl⟩
    · intro c hc'
      obtain ⟨z, hz', rfl⟩ := List.mem_map.1 hc'
      exact (nat_of (hw z (List.mem_of_mem_take hz'))).2
    · by_cases h0 : len = 0
      · exact .inl h0
      · obtain ⟨b, off, spot⟩ := x
        have c0 := hcl 0 (by omega)
        have hspot : spot = none := by simpa [Addr.add] using World.cell?_spot c0
        subst hspot
        refine .inr ⟨b, off, rfl, ?_, fun i hi => ?_⟩
        · simpa [Addr.add] using World.block_lt_of_cell? w _ c0
        · have := hcl i hi
          have hp : (⟨b, off, none⟩ : Addr).add i = ⟨b, off + i, none⟩ := by unfold Addr.add; split <;> simp_all
          rw [hp] at this
          exact this
    · intro ad had j hj
      cases had
      exact hcl j hj
/-- One part: the sum of its bytes. -/
theorem sums_one (x : List Nat) : sumsN 0 [x] = crcN x := by
  show regN (0 ^^^ ones32) x ^^^ ones32 = crcN x
  rw [Nat.zero_xor]
  rfl
theorem sums_two (x y : List Nat) : sumsN 0 [x, y] = crcN (x ++ y) := by
  rw [sums_regs, Nat.zero_xor]
  show regN (regN ones32 x) y ^^^ ones32 = regN ones32 (x ++ y) ^^^ ones32
  rw [regN_append]
theorem sums_join (x y : List Nat) : zn (8 * y.length) (sumsN 0 [x]) ^^^ sumsN 0 [y] = sumsN 0 [x, y] := by
  rw [sums_one, sums_one, sums_two, crc_join]
end Go.Proofs.YtlfcgdcahfcanaaDoor
