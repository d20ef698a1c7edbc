/-
  A copy of numbers that came in ('append([]T{}, s...)'), at one operation: bytes, and numbers with signs.
-/
import Derived.Test.YtlhmeebbdjiokaaCabPair
namespace Go.Proofs.Ytlhmeebbdjiokaa
open Go.ChangeShapes Go.WideShapes Go.ChangeAt Go.RowKit
set_option linter.unusedVariables false
set_option linter.unusedSimpArgs false
theorem byteT9 : (Try.prog.info? 5).map (fun i => (i.zero, i.size, i.bytes)) = some (some (.int .u8 0), 1, 1) := by kernel_rfl
theorem intT9 : (Try.prog.info? 3).map (fun i => (i.zero, i.size, i.bytes)) = some (some (.int .i64 0), 1, 8) := by kernel_rfl
/-- Cells in a row, at an address where there are any. -/
def RowC (w : World) (a : Option Addr) (vs : List Value) : Prop := vs.length = 0 ∨ ∃ b off, a = some ⟨b, off, none⟩ ∧ b < w.heap.size ∧ ∀ i, i < vs.length → w.cell? ⟨b, off + i, none⟩ = vs[i]?
theorem copy_at {s e : TypeId} {zero : Value} {by' : Nat} (ht : (Try.prog.info? e).map (fun i => (i.zero, i.size, i.bytes)) = some (some zero, 1, by')) (hz : zero.cells.size = 1) (hu : Try.prog.underlying s = some (.slice e))
    (w : World) {o : Oper} {a : Act} {K : Act → World → Prop} {Q : Exit → Act → World → Prop} (sl x : Operand)
    (ho : o.op = .call { callee := .builtin .append, args := #[sl, x], argTypes := #[s, s] }) (base : Nat) (v : Value) (hs : a.eval sl = v) (hown : w.ownsRow base e 1 v 0 []) (ax : Option Addr) (m c : Nat) (hx : a.eval x = .slice ax m c) (vs : List Value)
    (hrow : RowC w ax vs) (hm : vs.length = m) (hnil : ax = none → m = 0 ∧ c = 0) (h1 : ∀ u ∈ vs, u.oneCell' = true) (hl : m * by' ≤ 140737488355328) (hmx : m ≤ maxLen) (hb : base ≤ w.heap.size) (d : Option Tmp) (hd : o.dst = d)
    (h : ∀ v' w', w'.ownsRow base e 1 v' m vs → Below base w w' → K (a.put d v') w') : Oper.wp Try.prog o a w K Q := by
  subst hd
  obtain ⟨i0, hi, hz0, hz1, hz2⟩ := info_parts ht
  subst hm
  cases ax with
  | none =>
    obtain ⟨h0, rfl⟩ := hnil rfl
    have hv0 : vs = [] := List.eq_nil_of_length_eq_zero h0
    subst hv0
    have hrun := run_append_owned_none (P := Try.prog) (w := w) base s o.type e i0 1 hu hi v 0 [] hown
    unfold Oper.wp
    simp [execOp, ho, resolve, invoke, builtin, hs, hx, hrun, Result.andThen]
    exact h v w hown (Below.refl _ _)
  | some ad =>
    refine wp_append_own w sl x s ho base e i0 zero 1 by' hu hi hz0 hz1 hz2 hz (by decide) v 0 [] hs hown ad vs.length c vs hx (by omega) ?_ h1 (by omega) (by rw [Nat.zero_add]; exact hl) hb ?_
    · intro j u hj
      have hj' : j < vs.length := (List.getElem?_eq_some_iff.1 hj).1
      rcases hrow with h0 | ⟨b, off, hae, -, hcell⟩
      · omega
      · cases hae
        have hp : (⟨b, off, none⟩ : Addr).add j = ⟨b, off + j, none⟩ := by unfold Addr.add; split <;> simp_all
        rw [hp, hcell j hj', hj]
    · intro v' w' h1 h2 _
      rw [Nat.zero_add] at h1
      exact h v' w' h1 (Below.grown (Below.refl _ _) h2 hb (fun j hj => (World.ownsRow.lt hown j hj).1))
theorem RowL.cells9 {k : IntKind} {w : World} {a : Option Addr} {len : Nat} {xs : List Nat} (h : RowL k w a len xs) : RowC w a (xs.map fun x => .int k (x : Nat)) := by
  obtain ⟨h1, h2⟩ := h
  rcases h2 with h2 | ⟨b, off, ha, hlt, hc⟩
  · exact .inl (by rw [List.length_map]; omega)
  · refine .inr ⟨b, off, ha, hlt, fun i hi => ?_⟩
    rw [List.length_map] at hi
    rw [hc i (by omega), List.getElem?_map, List.getD_eq_getElem?_getD, List.getElem?_eq_getElem hi]
    rfl
theorem RowZ.cells9 {w : World} {a : Option Addr} {len : Nat} {zs : List Int} (h : RowZ w a len zs) : RowC w a (zs.map fun z => .int .i64 z) := by
  obtain ⟨h1, h2⟩ := h
  rcases h2 with h2 | ⟨b, off, ha, hlt, hc⟩
  · exact .inl (by rw [List.length_map]; omega)
  · refine .inr ⟨b, off, ha, hlt, fun i hi => ?_⟩
    rw [List.length_map] at hi
    rw [hc i (by omega), List.getElem?_map, List.getD_eq_getElem?_getD, List.getElem?_eq_getElem hi]
    rfl
/-- What is owned, read again. -/
theorem owned_bytes {w : World} {base : Nat} {v : Value} {xs : List Nat} (h : w.ownsRow base 5 1 v xs.length (xs.map fun x => .int .u8 (x : Nat))) : ∃ a cap, v = .slice a xs.length cap ∧ RowL .u8 w a xs.length xs ∧ (a = none → xs.length = 0) ∧ (∀ ad, a = some ad → v.ownBlock = some ad.block ∧ base ≤ ad.block ∧ ad.block < w.heap.size) := by
  have h0 := h
  obtain ⟨h1, ⟨rfl, h2⟩ | ⟨g, cap, cur, rfl, hg, hbk, hn, hmm, hs, ht⟩⟩ := h
  · exact ⟨none, 0, by rw [h2], ⟨rfl, .inl h2⟩, fun _ => h2, (fun ad e => by cases e)⟩
  · refine ⟨some ⟨g, 0, none⟩, cap, rfl, ⟨rfl, .inr ⟨g, 0, rfl, (World.ownsRow.lt h0 g rfl).2, fun i hi => ?_⟩⟩, (fun e => by cases e), fun ad e => by cases e; exact ⟨rfl, hg, (World.ownsRow.lt h0 g rfl).2⟩⟩
    have := World.ownsRow.cellAt h0 i (by omega)
    rw [Nat.zero_add, this]
    simp [hi]
theorem owned_ints {w : World} {base : Nat} {v : Value} {zs : List Int} (h : w.ownsRow base 3 1 v zs.length (zs.map fun z => .int .i64 z)) : ∃ a cap, v = .slice a zs.length cap ∧ RowZ w a zs.length zs ∧ (∀ ad, a = some ad → v.ownBlock = some ad.block ∧ base ≤ ad.block ∧ ad.block < w.heap.size) := by
  have h0 := h
  obtain ⟨h1, ⟨rfl, h2⟩ | ⟨g, cap, cur, rfl, hg, hbk, hn, hmm, hs, ht⟩⟩ := h
  · exact ⟨none, 0, by rw [h2], ⟨rfl, .inl h2⟩, (fun ad e => by cases e)⟩
  · refine ⟨some ⟨g, 0, none⟩, cap, rfl, ⟨rfl, .inr ⟨g, 0, rfl, (World.ownsRow.lt h0 g rfl).2, fun i hi => ?_⟩⟩, fun ad e => by cases e; exact ⟨rfl, hg, (World.ownsRow.lt h0 g rfl).2⟩⟩
    have := World.ownsRow.cellAt h0 i (by omega)
    rw [Nat.zero_add, this]
    simp [hi]
end Go.Proofs.Ytlhmeebbdjiokaa
