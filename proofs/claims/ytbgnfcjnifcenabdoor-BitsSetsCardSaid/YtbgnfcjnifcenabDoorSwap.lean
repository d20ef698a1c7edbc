/-
  Swap of package bits, over the table of its package-level variable: a word's bits in the other order, at any word, where the table's cells are as its text lays them.
-/
import Derived.Test.YtbgnfcjnifcenabDoorAwake
import Derived.Laws.BitsAllLaws
import Derived.LaidLaws
import Derived.ChangeArms
namespace Go.Proofs.YtbgnfcjnifcenabDoor
open Go.ChangeShapes Go.WideShapes Go.ChangeAt Go.RowKit
set_option linter.unusedVariables false
set_option linter.unusedSimpArgs false
theorem idx0 (W : World) : Sem.run Tryd.prog (Instr.index 43 (Value.agg #[Value.int IntKind.u32 1431655765, Value.int IntKind.u64 1, Value.int IntKind.u32 858993459, Value.int IntKind.u64 2, Value.int IntKind.u32 252645135, Value.int IntKind.u64 4, Value.int IntKind.u32 16711935, Value.int IntKind.u64 8, Value.int IntKind.u32 65535, Value.int IntKind.u64 16]) (Value.int IntKind.i64 0)) W = .ok (.agg #[.int .u32 1431655765, .int .u64 1]) W := by kernel_rfl
theorem idx1 (W : World) : Sem.run Tryd.prog (Instr.index 43 (Value.agg #[Value.int IntKind.u32 1431655765, Value.int IntKind.u64 1, Value.int IntKind.u32 858993459, Value.int IntKind.u64 2, Value.int IntKind.u32 252645135, Value.int IntKind.u64 4, Value.int IntKind.u32 16711935, Value.int IntKind.u64 8, Value.int IntKind.u32 65535, Value.int IntKind.u64 16]) (Value.int IntKind.i64 1)) W = .ok (.agg #[.int .u32 858993459, .int .u64 2]) W := by kernel_rfl
theorem idx2 (W : World) : Sem.run Tryd.prog (Instr.index 43 (Value.agg #[Value.int IntKind.u32 1431655765, Value.int IntKind.u64 1, Value.int IntKind.u32 858993459, Value.int IntKind.u64 2, Value.int IntKind.u32 252645135, Value.int IntKind.u64 4, Value.int IntKind.u32 16711935, Value.int IntKind.u64 8, Value.int IntKind.u32 65535, Value.int IntKind.u64 16]) (Value.int IntKind.i64 2)) W = .ok (.agg #[.int .u32 252645135, .int .u64 4]) W := by kernel_rfl
theorem idx3 (W : World) : Sem.run Tryd.prog (Instr.index 43 (Value.agg #[Value.int IntKind.u32 1431655765, Value.int IntKind.u64 1, Value.int IntKind.u32 858993459, Value.int IntKind.u64 2, Value.int IntKind.u32 252645135, Value.int IntKind.u64 4, Value.int IntKind.u32 16711935, Value.int IntKind.u64 8, Value.int IntKind.u32 65535, Value.int IntKind.u64 16]) (Value.int IntKind.i64 3)) W = .ok (.agg #[.int .u32 16711935, .int .u64 8]) W := by kernel_rfl
theorem idx4 (W : World) : Sem.run Tryd.prog (Instr.index 43 (Value.agg #[Value.int IntKind.u32 1431655765, Value.int IntKind.u64 1, Value.int IntKind.u32 858993459, Value.int IntKind.u64 2, Value.int IntKind.u32 252645135, Value.int IntKind.u64 4, Value.int IntKind.u32 16711935, Value.int IntKind.u64 8, Value.int IntKind.u32 65535, Value.int IntKind.u64 16]) (Value.int IntKind.i64 4)) W = .ok (.agg #[.int .u32 65535, .int .u64 16]) W := by kernel_rfl
/-- The table's ten cells. -/
def SwapTab (w : World) : Prop :=
  w.cell? ⟨0, 0, none⟩ = some (.int .u32 1431655765) ∧ w.cell? ⟨0, 1, none⟩ = some (.int .u64 1) ∧ w.cell? ⟨0, 2, none⟩ = some (.int .u32 858993459) ∧ w.cell? ⟨0, 3, none⟩ = some (.int .u64 2) ∧ w.cell? ⟨0, 4, none⟩ = some (.int .u32 252645135) ∧ w.cell? ⟨0, 5, none⟩ = some (.int .u64 4) ∧ w.cell? ⟨0, 6, none⟩ = some (.int .u32 16711935) ∧ w.cell? ⟨0, 7, none⟩ = some (.int .u64 8) ∧ w.cell? ⟨0, 8, none⟩ = some (.int .u32 65535) ∧ w.cell? ⟨0, 9, none⟩ = some (.int .u64 16) ∧ 0 < w.heap.size
theorem SwapTab.below {w w' : World} (h : SwapTab w) (hb : Below w.heap.size w w') : SwapTab w' := by
  obtain ⟨c0, c1, c2, c3, c4, c5, c6, c7, c8, c9, hs⟩ := h
  have hc : ∀ j, w'.cell? ⟨0, j, none⟩ = w.cell? ⟨0, j, none⟩ := fun j => hb.cell (p := ⟨0, j, none⟩) hs
  exact ⟨(hc 0).trans c0, (hc 1).trans c1, (hc 2).trans c2, (hc 3).trans c3, (hc 4).trans c4, (hc 5).trans c5, (hc 6).trans c6, (hc 7).trans c7, (hc 8).trans c8, (hc 9).trans c9, Nat.lt_of_lt_of_le hs hb.size⟩
def stepN (lo k X : Nat) : Nat := ((X &&& lo) * 2 ^ k % 4294967296) ||| ((X / 2 ^ k) &&& lo)
theorem stepN_lt (lo k X : Nat) (hX : X < 4294967296) : stepN lo k X < 4294967296 := by
  unfold stepN
  refine Nat.or_lt_two_pow (n := 32) (Nat.mod_lt _ (by decide)) ?_
  exact Nat.lt_of_le_of_lt Nat.and_le_left (Nat.lt_of_le_of_lt (Nat.div_le_self _ _) hX)
theorem stepN_bit (lo k X : Nat) (hX : X < 4294967296) (i : Nat) (hi : i < 32)
    (h1 : i / k % 2 = 0 → lo.testBit i = true ∧ (k ≤ i → lo.testBit (i - k) = false) ∧ i ^^^ k = i + k)
    (h2 : i / k % 2 = 1 → lo.testBit i = false ∧ k ≤ i ∧ lo.testBit (i - k) = true ∧ i ^^^ k = i - k) :
    (stepN lo k X).testBit i = X.testBit (i ^^^ k) := by
  unfold stepN
  rw [Nat.testBit_or, show 4294967296 = 2 ^ 32 from rfl, Nat.testBit_mod_two_pow, Nat.testBit_mul_two_pow, Nat.testBit_and, Nat.testBit_and, Nat.testBit_div_two_pow]
  obtain h | h : i / k % 2 = 0 ∨ i / k % 2 = 1 := by omega
  · obtain ⟨a, b, c⟩ := h1 h
    rw [c, a]
    by_cases hk : k ≤ i
    · rw [b hk]; simp
    · simp [hk]
  · obtain ⟨a, b, c, d⟩ := h2 h
    rw [d, a, c]
    simp [hi, b]
theorem step0_bit (X : Nat) (hX : X < 4294967296) (i : Nat) (hi : i < 32) : (stepN 1431655765 1 X).testBit i = X.testBit (i ^^^ 1) := by
  have h1 : ∀ i : Fin 32, i.val / 1 % 2 = 0 → Nat.testBit 1431655765 i.val = true ∧ (1 ≤ i.val → Nat.testBit 1431655765 (i.val - 1) = false) ∧ i.val ^^^ 1 = i.val + 1 := by decide +kernel
  have h2 : ∀ i : Fin 32, i.val / 1 % 2 = 1 → Nat.testBit 1431655765 i.val = false ∧ 1 ≤ i.val ∧ Nat.testBit 1431655765 (i.val - 1) = true ∧ i.val ^^^ 1 = i.val - 1 := by decide +kernel
  exact stepN_bit 1431655765 1 X hX i hi (h1 ⟨i, hi⟩) (h2 ⟨i, hi⟩)
theorem step1_bit (X : Nat) (hX : X < 4294967296) (i : Nat) (hi : i < 32) : (stepN 858993459 2 X).testBit i = X.testBit (i ^^^ 2) := by
  have h1 : ∀ i : Fin 32, i.val / 2 % 2 = 0 → Nat.testBit 858993459 i.val = true ∧ (2 ≤ i.val → Nat.testBit 858993459 (i.val - 2) = false) ∧ i.val ^^^ 2 = i.val + 2 := by decide +kernel
  have h2 : ∀ i : Fin 32, i.val / 2 % 2 = 1 → Nat.testBit 858993459 i.val = false ∧ 2 ≤ i.val ∧ Nat.testBit 858993459 (i.val - 2) = true ∧ i.val ^^^ 2 = i.val - 2 := by decide +kernel
  exact stepN_bit 858993459 2 X hX i hi (h1 ⟨i, hi⟩) (h2 ⟨i, hi⟩)
theorem step2_bit (X : Nat) (hX : X < 4294967296) (i : Nat) (hi : i < 32) : (stepN 252645135 4 X).testBit i = X.testBit (i ^^^ 4) := by
  have h1 : ∀ i : Fin 32, i.val / 4 % 2 = 0 → Nat.testBit 252645135 i.val = true ∧ (4 ≤ i.val → Nat.testBit 252645135 (i.val - 4) = false) ∧ i.val ^^^ 4 = i.val + 4 := by decide +kernel
  have h2 : ∀ i : Fin 32, i.val / 4 % 2 = 1 → Nat.testBit 252645135 i.val = false ∧ 4 ≤ i.val ∧ Nat.testBit 252645135 (i.val - 4) = true ∧ i.val ^^^ 4 = i.val - 4 := by decide +kernel
  exact stepN_bit 252645135 4 X hX i hi (h1 ⟨i, hi⟩) (h2 ⟨i, hi⟩)
theorem step3_bit (X : Nat) (hX : X < 4294967296) (i : Nat) (hi : i < 32) : (stepN 16711935 8 X).testBit i = X.testBit (i ^^^ 8) := by
  have h1 : ∀ i : Fin 32, i.val / 8 % 2 = 0 → Nat.testBit 16711935 i.val = true ∧ (8 ≤ i.val → Nat.testBit 16711935 (i.val - 8) = false) ∧ i.val ^^^ 8 = i.val + 8 := by decide +kernel
  have h2 : ∀ i : Fin 32, i.val / 8 % 2 = 1 → Nat.testBit 16711935 i.val = false ∧ 8 ≤ i.val ∧ Nat.testBit 16711935 (i.val - 8) = true ∧ i.val ^^^ 8 = i.val - 8 := by decide +kernel
  exact stepN_bit 16711935 8 X hX i hi (h1 ⟨i, hi⟩) (h2 ⟨i, hi⟩)
theorem step4_bit (X : Nat) (hX : X < 4294967296) (i : Nat) (hi : i < 32) : (stepN 65535 16 X).testBit i = X.testBit (i ^^^ 16) := by
  have h1 : ∀ i : Fin 32, i.val / 16 % 2 = 0 → Nat.testBit 65535 i.val = true ∧ (16 ≤ i.val → Nat.testBit 65535 (i.val - 16) = false) ∧ i.val ^^^ 16 = i.val + 16 := by decide +kernel
  have h2 : ∀ i : Fin 32, i.val / 16 % 2 = 1 → Nat.testBit 65535 i.val = false ∧ 16 ≤ i.val ∧ Nat.testBit 65535 (i.val - 16) = true ∧ i.val ^^^ 16 = i.val - 16 := by decide +kernel
  exact stepN_bit 65535 16 X hX i hi (h1 ⟨i, hi⟩) (h2 ⟨i, hi⟩)
def swN (X : Nat) : Nat → Nat
  | 0 => X
  | 1 => stepN 1431655765 1 X
  | 2 => stepN 858993459 2 (stepN 1431655765 1 X)
  | 3 => stepN 252645135 4 (stepN 858993459 2 (stepN 1431655765 1 X))
  | 4 => stepN 16711935 8 (stepN 252645135 4 (stepN 858993459 2 (stepN 1431655765 1 X)))
  | _ => stepN 65535 16 (stepN 16711935 8 (stepN 252645135 4 (stepN 858993459 2 (stepN 1431655765 1 X))))
theorem swN_lt (X j : Nat) (hX : X < 4294967296) : swN X j < 4294967296 := by
  unfold swN
  split
  · exact hX
  all_goals repeat (first | exact hX | apply stepN_lt)
/-- Bit i of the whole is bit 31 - i. -/
theorem swap_bit (X : Nat) (hX : X < 4294967296) (i : Nat) (hi : i < 32) : (swN X 5).testBit i = X.testBit (31 - i) := by
  have hall : ∀ i : Fin 32, i.val ^^^ 16 < 32 ∧ (i.val ^^^ 16) ^^^ 8 < 32 ∧ ((i.val ^^^ 16) ^^^ 8) ^^^ 4 < 32 ∧ (((i.val ^^^ 16) ^^^ 8) ^^^ 4) ^^^ 2 < 32 ∧ ((((i.val ^^^ 16) ^^^ 8) ^^^ 4) ^^^ 2) ^^^ 1 = 31 - i.val := by decide +kernel
  obtain ⟨q1, q2, q3, q4, q5⟩ := hall ⟨i, hi⟩
  show (stepN 65535 16 (swN X 4)).testBit i = _
  rw [step4_bit _ (swN_lt X 4 hX) i hi]
  show (stepN 16711935 8 (swN X 3)).testBit _ = _
  rw [step3_bit _ (swN_lt X 3 hX) _ q1]
  show (stepN 252645135 4 (swN X 2)).testBit _ = _
  rw [step2_bit _ (swN_lt X 2 hX) _ q2]
  show (stepN 858993459 2 (swN X 1)).testBit _ = _
  rw [step1_bit _ (swN_lt X 1 hX) _ q3]
  show (stepN 1431655765 1 X).testBit _ = _
  rw [step0_bit _ hX _ q4]
  exact congrArg X.testBit q5
theorem step_val (lo k X : Nat) (hX : X < 4294967296) (hlo : lo < 4294967296) (P : Int) (hP : P = ((2 ^ k : Nat) : Int)) :
    bits .or .u32 (bits .and .u32 (X : Int) (lo : Int) * P % 4294967296) (bits .and .u32 ((X : Int) / P) (lo : Int)) = (stepN lo k X : Nat) := by
  subst hP
  have hd : X / 2 ^ k < 4294967296 := Nat.lt_of_le_of_lt (Nat.div_le_self _ _) hX
  rw [← Int.natCast_ediv, u32_and_nat _ _ hX hlo, u32_and_nat _ _ hd hlo, ← Int.natCast_mul]
  have e : (((X &&& lo) * 2 ^ k : Nat) : Int) % 4294967296 = (((X &&& lo) * 2 ^ k % 4294967296 : Nat) : Int) := by omega
  rw [e, u32_or_nat _ _ (Nat.mod_lt _ (by decide)) (Nat.lt_of_le_of_lt Nat.and_le_left hd)]
  rfl
set_option maxHeartbeats 1000000 in
theorem swap_any (X : Nat) (w : World) (hX : X < 4294967296) (h : SwapTab w) :
    Calls Tryd.prog 7 #[.int .u32 X] w fun e w' => e = .returned (.int .u32 (swN X 5 : Nat)) ∧ Grown w w' ∧ Below w.heap.size w w' := by
  obtain ⟨c0, c1, c2, c3, c4, c5, c6, c7, c8, c9, hs⟩ := h
  have i0 := idx0
  have i1 := idx1
  have i2 := idx2
  have i3 := idx3
  have i4 := idx4
  have HSW : Hid (∀ j, swN X j < 4294967296) := fun j => swN_lt X j hX
  go_enter Tryd.func7, Tryd.ntmps7
  go_wp2
  go_loopw [0, 6] (fun v i wr => ∃ j : Nat, j ≤ 5 ∧ i = .int .i64 j ∧ v = .int .u32 (swN X j : Nat) ∧ Grown w wr ∧ Below w.heap.size w wr) (fun _ i _ => 5 - (intOf i).toNat)
  case atStart => exact ⟨0, by omega, rfl, rfl, Grown.refl _, Below.refl _ _⟩
  case round =>
    obtain ⟨j, hj, rfl, rfl, hg, hb⟩ := hrel
    have hsz := hb.size
    have hy := HSW.out j
    obtain rfl | rfl | rfl | rfl | rfl | rfl : j = 0 ∨ j = 1 ∨ j = 2 ∨ j = 3 ∨ j = 4 ∨ j = 5 := by omega
    · have HV : Hid (swN X 1 = stepN 1431655765 1 (swN X 0)) := rfl
      generalize swN X 0 = Y at *
      have e := step_val 1431655765 1 Y hy (by decide) 2 rfl
      go_wp2
      go_roundw
      case rel => exact ⟨1, by omega, by go_num, by rw [HV.out, ← e]; go_num, by go_grown, by go_grown⟩
      case measure => simp [intOf]
    · have HV : Hid (swN X 2 = stepN 858993459 2 (swN X 1)) := rfl
      generalize swN X 1 = Y at *
      have e := step_val 858993459 2 Y hy (by decide) 4 rfl
      go_wp2
      go_roundw
      case rel => exact ⟨2, by omega, by go_num, by rw [HV.out, ← e]; go_num, by go_grown, by go_grown⟩
      case measure => simp [intOf]
    · have HV : Hid (swN X 3 = stepN 252645135 4 (swN X 2)) := rfl
      generalize swN X 2 = Y at *
      have e := step_val 252645135 4 Y hy (by decide) 16 rfl
      go_wp2
      go_roundw
      case rel => exact ⟨3, by omega, by go_num, by rw [HV.out, ← e]; go_num, by go_grown, by go_grown⟩
      case measure => simp [intOf]
    · have HV : Hid (swN X 4 = stepN 16711935 8 (swN X 3)) := rfl
      generalize swN X 3 = Y at *
      have e := step_val 16711935 8 Y hy (by decide) 256 rfl
      go_wp2
      go_roundw
      case rel => exact ⟨4, by omega, by go_num, by rw [HV.out, ← e]; go_num, by go_grown, by go_grown⟩
      case measure => simp [intOf]
    · have HV : Hid (swN X 5 = stepN 65535 16 (swN X 4)) := rfl
      generalize swN X 4 = Y at *
      have e := step_val 65535 16 Y hy (by decide) 65536 rfl
      go_wp2
      go_roundw
      case rel => exact ⟨5, by omega, by go_num, by rw [HV.out, ← e]; go_num, by go_grown, by go_grown⟩
      case measure => simp [intOf]
    · go_wp2
      go_ret
      exact ⟨rfl, hg, hb⟩
end Go.Proofs.YtbgnfcjnifcenabDoor
