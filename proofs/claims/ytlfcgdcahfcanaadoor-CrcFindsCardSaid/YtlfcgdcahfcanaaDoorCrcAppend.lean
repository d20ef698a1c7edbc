/-
  A slice of bytes that the call makes by appending: what it owns, what one byte more or a whole slice behind it does to it, one byte of it written anew.
-/
import Derived.Test.YtlfcgdcahfcanaaDoorCrcArg
import Derived.Laws.AppendOwnNone
namespace Go.Proofs.YtlfcgdcahfcanaaDoor
open Go.ChangeShapes Go.WideShapes Go.ChangeAt Go.RowKit
set_option linter.unusedVariables false
theorem info_u8 : (Tryd.prog.info? 5).map (fun i => (i.zero, i.size, i.bytes)) = some (some (.int .u8 0), 1, 1) := by kernel_rfl
def enc8 (c : Nat) : Value := .int .u8 (c : Nat)
def OwnN (w : World) (base : Nat) (v : Value) (xs : List Nat) : Prop := w.ownsRow base 5 1 v xs.length (xs.map enc8)
theorem OwnN.row {w : World} {base : Nat} {v : Value} {xs : List Nat} (h : OwnN w base v xs) (hm : xs.length ≤ maxLen) (hb : ∀ c ∈ xs, c < 256) : ∃ a cap, v = .slice a xs.length cap ∧ Row w a xs.length xs := by
  have h0 := h
  obtain ⟨h1, ⟨rfl, h2⟩ | ⟨g, cap, cur, rfl, hg, hbk, hn, hmm, hs, ht⟩⟩ := h
  · exact ⟨none, 0, by rw [h2], rfl, hm, hb, .inl h2⟩
  · refine ⟨some ⟨g, 0, none⟩, cap, rfl, rfl, hm, hb, .inr ⟨g, 0, rfl, (h0.lt g rfl).2, fun i hi => ?_⟩⟩
    have := World.ownsRow.cellAt h0 i (by omega)
    rw [Nat.zero_add, this]
    simp [enc8, hi]
theorem append_byte (w : World) {ops : Array Oper} {rest : List Oper} {o : Oper} {a : Act} {Q : Exit → Act → World → Prop} (hgd : o.guard = none) (s x : Operand)
    (ho : o.op = .call { callee := .builtin .append, args := #[s, x], argTypes := #[23, 23] })
    (base : Nat) (v : Value) (xs : List Nat) (hs : a.eval s = v) (hown : OwnN w base v xs) (c : Nat) (C : Value) (hC : C = enc8 c) (N : Nat) (hx : a.eval x = .slice (some ⟨N, 0, none⟩) 1 1) (hN : N = w.heap.size)
    (hl : xs.length + 1 ≤ 140737488351232) (hb : base ≤ w.heap.size)
    (h : ∀ v' w', OwnN w' base v' (xs ++ [c]) → Below base w w' → wpList Tryd.prog ops Q rest (a.put o.dst v') w') :
    wpList Tryd.prog ops Q (o :: rest) a (w.alloc (.cells #[C] 5)) := by
  subst hN hC
  obtain ⟨i0, hi, hz0, hz1, hz2⟩ := info_parts info_u8
  refine wpList_append_own _ hgd s x 23 ho base 5 i0 (.int .u8 0) 1 1 Tryd.underlying23 hi hz0 hz1 hz2 rfl (by decide) v xs.length (xs.map enc8) hs (hown.alloc _) ⟨w.heap.size, 0, none⟩ 1 1 [enc8 c] hx rfl ?_ ?_ ?_ ?_ ?_ ?_
  · intro j u hj
    match j, hj with
    | 0, hj => simp at hj; subst hj; simp [Addr.add, go_sem]
  · intro u hu; simp at hu; subst hu; rfl
  · unfold maxLen; omega
  · omega
  · simp; omega
  · intro v' w' h1 h2 _
    refine h v' w' ?_ ?_
    · unfold OwnN; simpa using h1
    · refine Below.grown (w := w.alloc (.cells #[enc8 c] 5)) ((Below.refl _ _).alloc hb _) h2 (by simp; omega) ?_
      intro k hk
      exact (hown.lt k hk).1
theorem append_row (w : World) {ops : Array Oper} {rest : List Oper} {o : Oper} {a : Act} {Q : Exit → Act → World → Prop} (hgd : o.guard = none) (s x : Operand)
    (ho : o.op = .call { callee := .builtin .append, args := #[s, x], argTypes := #[23, 23] })
    (base : Nat) (v : Value) (xs ys : List Nat) (hs : a.eval s = v) (hown : OwnN w base v xs) (ax : Option Addr) (m c : Nat) (hx : a.eval x = .slice ax m c)
    (hm : ys.length = m) (hnil : ax = none → m = 0 ∧ c = 0) (hcell : ∀ ad, ax = some ad → ∀ j, j < m → w.cell? (ad.add j) = some (.int .u8 (ys.getD j 0 : Nat)))
    (hl : xs.length + m ≤ 140737488355328) (hb : base ≤ w.heap.size)
    (h : ∀ v' w', OwnN w' base v' (xs ++ ys) → Below base w w' → wpList Tryd.prog ops Q rest (a.put o.dst v') w') :
    wpList Tryd.prog ops Q (o :: rest) a w := by
  obtain ⟨i0, hi, hz0, hz1, hz2⟩ := info_parts info_u8
  cases ax with
  | none =>
    obtain ⟨rfl, rfl⟩ := hnil rfl
    have hys : ys = [] := List.eq_nil_of_length_eq_zero hm
    subst hys
    refine wpList_append_own_none hgd s x 23 ho base 5 i0 1 Tryd.underlying23 hi v xs.length (xs.map enc8) hs hown hx ?_
    exact h v w (by rw [List.append_nil]; exact hown) (Below.refl _ _)
  | some ad =>
    refine wpList_append_own _ hgd s x 23 ho base 5 i0 (.int .u8 0) 1 1 Tryd.underlying23 hi hz0 hz1 hz2 rfl (by decide) v xs.length (xs.map enc8) hs hown ad m c (ys.map enc8) hx (by simp; omega) ?_ ?_ ?_ ?_ hb ?_
    · intro j u hj
      have hj' : j < ys.length := by have := (List.getElem?_eq_some_iff.1 hj).1; simpa using this
      rw [hcell ad rfl j (by omega)]
      rw [List.getElem?_map, List.getElem?_eq_getElem hj'] at hj
      simp at hj
      rw [← hj]
      simp [hj', enc8]
    · intro u hu
      obtain ⟨z, _, rfl⟩ := List.mem_map.1 hu
      rfl
    · unfold maxLen; omega
    · omega
    · intro v' w' h1 h2 _
      refine h v' w' ?_ ?_
      · unfold OwnN
        have e : (xs ++ ys).length = xs.length + m := by simp; omega
        rw [e, List.map_append]
        exact h1
      · exact Below.grown (Below.refl _ _) h2 hb (fun k hk => (hown.lt k hk).1)
/-- A slice of the call's own that has bytes: where they lie, and one of them written anew. -/
theorem OwnN.at {w : World} {base : Nat} {v : Value} {xs : List Nat} (h : OwnN w base v xs) (i : Nat) (hi : i < xs.length) :
    ∃ g cap, v = .slice (some ⟨g, 0, none⟩) xs.length cap ∧ base ≤ g ∧ g < w.heap.size ∧ w.cell? ⟨g, i, none⟩ = some (.int .u8 (xs.getD i 0 : Nat)) ∧ w.frozen? ⟨g, i, none⟩ = false ∧
      ∀ y : Nat, OwnN (w.setCell ⟨g, i, none⟩ (.int .u8 y)) base v (xs.set i y) := by
  have h0 := h
  obtain ⟨h1, ⟨rfl, h2⟩ | ⟨g, cap, cur, rfl, hg, hb, hn, hm, hs, ht⟩⟩ := h
  · omega
  · refine ⟨g, cap, rfl, hg, (h0.lt g rfl).2, ?_, World.ownsRow.frozenAt h0 _, fun y => ?_⟩
    · have := World.ownsRow.cellAt h0 i (by omega)
      rw [this]; simp [enc8, hi]
    · have := (World.ownsRow.stored h0 i (enc8 y)).1
      unfold OwnN
      rw [List.length_set, List.map_set]
      exact this
end Go.Proofs.YtlfcgdcahfcanaaDoor
