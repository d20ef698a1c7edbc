/-
  A slice of numbers of whatever kind that the call makes by appending: what it owns, what one number more or a whole slice behind it does to it, one number of it written anew.
-/
import Derived.Test.YtaahmpabhophfaaDoorWords
import Derived.Laws.AppendOwnNone
namespace Go.Proofs.YtaahmpabhophfaaDoor
open Go.ChangeShapes Go.WideShapes Go.ChangeAt Go.RowKit
set_option linter.unusedVariables false
def encV (k : IntKind) (c : Nat) : Value := .int k (c : Nat)
/-- The type's row: numbers of kind k, of so many bytes, and the slice's type over it. -/
def NumT (s e : TypeId) (k : IntKind) (by' : Nat) : Prop := (Tryd.prog.info? e).map (fun i => (i.zero, i.size, i.bytes)) = some (some (.int k 0), 1, by') ∧ Tryd.prog.underlying s = some (.slice e)
def OwnL (e : TypeId) (k : IntKind) (w : World) (base : Nat) (v : Value) (xs : List Nat) : Prop := w.ownsRow base e 1 v xs.length (xs.map (encV k))
theorem OwnL.empty (e : TypeId) (k : IntKind) (w : World) (base : Nat) (hb : base ≤ w.heap.size) : OwnL e k (w.alloc (.cells #[] e)) base (.slice (some ⟨w.heap.size, 0, none⟩) 0 0) [] :=
  World.ownsRow_lit w #[] 0 hb (by decide) rfl
theorem OwnL.row {e : TypeId} {k : IntKind} {w : World} {base : Nat} {v : Value} {xs : List Nat} (h : OwnL e k w base v xs) : ∃ a cap, v = .slice a xs.length cap ∧ RowL k w a xs.length xs ∧ xs.length ≤ cap ∧ (∀ g o, a = some ⟨g, o, none⟩ → base ≤ g ∧ o = 0) := by
  have h0 := h
  obtain ⟨h1, ⟨rfl, h2⟩ | ⟨g, cap, cur, rfl, hg, hbk, hn, hmm, hs, ht⟩⟩ := h
  · exact ⟨none, 0, by rw [h2], ⟨rfl, .inl h2⟩, by omega, fun g o he => by cases he⟩
  · refine ⟨some ⟨g, 0, none⟩, cap, rfl, ⟨rfl, .inr ⟨g, 0, rfl, (h0.lt g rfl).2, fun i hi => ?_⟩⟩, by omega, fun g' o he => ?_⟩
    · have := World.ownsRow.cellAt h0 i (by omega)
      rw [Nat.zero_add, this]
      simp [encV, hi]
    · cases he; exact ⟨hg, rfl⟩
theorem append_num {e s : TypeId} {k : IntKind} {by' : Nat} (ht : NumT s e k by') (w : World) {ops : Array Oper} {rest : List Oper} {o : Oper} {a : Act} {Q : Exit → Act → World → Prop} (hgd : o.guard = none) (sl x : Operand)
    (ho : o.op = .call { callee := .builtin .append, args := #[sl, x], argTypes := #[s, s] })
    (base : Nat) (v : Value) (xs : List Nat) (hs : a.eval sl = v) (hown : OwnL e k w base v xs) (c : Nat) (C : Value) (hC : C = encV k c) (N : Nat) (hx : a.eval x = .slice (some ⟨N, 0, none⟩) 1 1) (hN : N = w.heap.size)
    (hl : (xs.length + 1) * by' ≤ 140737488355328) (hm : xs.length + 1 ≤ maxLen) (hb : base ≤ w.heap.size)
    (h : ∀ v' w', OwnL e k w' base v' (xs ++ [c]) → Below base w w' → wpList Tryd.prog ops Q rest (a.put o.dst v') w') :
    wpList Tryd.prog ops Q (o :: rest) a (w.alloc (.cells #[C] e)) := by
  subst hN hC
  obtain ⟨i0, hi, hz0, hz1, hz2⟩ := info_parts ht.1
  refine wpList_append_own _ hgd sl x s ho base e i0 (.int k 0) 1 by' ht.2 hi hz0 hz1 hz2 rfl (by decide) v xs.length (xs.map (encV k)) hs (hown.alloc _) ⟨w.heap.size, 0, none⟩ 1 1 [encV k c] hx rfl ?_ ?_ hm hl ?_ ?_
  · intro j u hj
    match j, hj with
    | 0, hj => simp at hj; subst hj; simp [Addr.add, go_sem]
  · intro u hu; simp at hu; subst hu; rfl
  · simp; omega
  · intro v' w' h1 h2 _
    refine h v' w' ?_ ?_
    · unfold OwnL; simpa using h1
    · refine Below.grown (w := w.alloc (.cells #[encV k c] e)) ((Below.refl _ _).alloc hb _) h2 (by simp; omega) ?_
      intro j hj
      exact (hown.lt j hj).1
theorem append_nums {e s : TypeId} {k : IntKind} {by' : Nat} (ht : NumT s e k by') (w : World) {ops : Array Oper} {rest : List Oper} {o : Oper} {a : Act} {Q : Exit → Act → World → Prop} (hgd : o.guard = none) (sl x : Operand)
    (ho : o.op = .call { callee := .builtin .append, args := #[sl, x], argTypes := #[s, s] })
    (base : Nat) (v : Value) (xs ys : List Nat) (hs : a.eval sl = v) (hown : OwnL e k w base v xs) (ax : Option Addr) (m c : Nat) (hx : a.eval x = .slice ax m c)
    (hrow : RowL k w ax m ys) (hnil : ax = none → m = 0 ∧ c = 0)
    (hl : (xs.length + m) * by' ≤ 140737488355328) (hm : xs.length + m ≤ maxLen) (hb : base ≤ w.heap.size)
    (h : ∀ v' w', OwnL e k w' base v' (xs ++ ys) → Below base w w' → wpList Tryd.prog ops Q rest (a.put o.dst v') w') :
    wpList Tryd.prog ops Q (o :: rest) a w := by
  obtain ⟨i0, hi, hz0, hz1, hz2⟩ := info_parts ht.1
  obtain ⟨hyl, hrow⟩ := hrow
  cases ax with
  | none =>
    obtain ⟨rfl, rfl⟩ := hnil rfl
    have hys : ys = [] := List.eq_nil_of_length_eq_zero hyl
    subst hys
    refine wpList_append_own_none hgd sl x s ho base e i0 1 ht.2 hi v xs.length (xs.map (encV k)) hs hown hx ?_
    exact h v w (by rw [List.append_nil]; exact hown) (Below.refl _ _)
  | some ad =>
    refine wpList_append_own _ hgd sl x s ho base e i0 (.int k 0) 1 by' ht.2 hi hz0 hz1 hz2 rfl (by decide) v xs.length (xs.map (encV k)) hs hown ad m c (ys.map (encV k)) hx (by simp; omega) ?_ ?_ hm hl hb ?_
    · intro j u hj
      have hj' : j < ys.length := by have := (List.getElem?_eq_some_iff.1 hj).1; simpa using this
      rcases hrow with h0 | ⟨b, off, hae, -, hcell⟩
      · omega
      · cases hae
        have hp : (⟨b, off, none⟩ : Addr).add j = ⟨b, off + j, none⟩ := by unfold Addr.add; split <;> simp_all
        rw [hp, hcell j (by omega)]
        rw [List.getElem?_map, List.getElem?_eq_getElem hj'] at hj
        simp at hj
        rw [← hj]
        simp [hj', encV]
    · intro u hu
      obtain ⟨z, _, rfl⟩ := List.mem_map.1 hu
      rfl
    · intro v' w' h1 h2 _
      refine h v' w' ?_ ?_
      · unfold OwnL
        have e : (xs ++ ys).length = xs.length + m := by simp; omega
        rw [e, List.map_append]
        exact h1
      · exact Below.grown (Below.refl _ _) h2 hb (fun j hj => (hown.lt j hj).1)
/-- A slice of the call's own that has numbers: where they lie, and one of them written anew. -/
theorem OwnL.at {e : TypeId} {k : IntKind} {w : World} {base : Nat} {v : Value} {xs : List Nat} (h : OwnL e k w base v xs) (i : Nat) (hi : i < xs.length) :
    ∃ g cap, v = .slice (some ⟨g, 0, none⟩) xs.length cap ∧ base ≤ g ∧ g < w.heap.size ∧ (∀ j, j < xs.length → w.cell? ⟨g, j, none⟩ = some (.int k (xs.getD j 0 : Nat))) ∧ w.frozen? ⟨g, i, none⟩ = false ∧
      ∀ y : Nat, OwnL e k (w.setCell ⟨g, i, none⟩ (.int k y)) base v (xs.set i y) := by
  have h0 := h
  obtain ⟨h1, ⟨rfl, h2⟩ | ⟨g, cap, cur, rfl, hg, hb, hn, hm, hs, ht⟩⟩ := h
  · omega
  · refine ⟨g, cap, rfl, hg, (h0.lt g rfl).2, fun j hj => ?_, World.ownsRow.frozenAt h0 _, fun y => ?_⟩
    · have := World.ownsRow.cellAt h0 j (by omega)
      rw [this]; simp [encV, hj]
    · have := (World.ownsRow.stored h0 i (encV k y)).1
      unfold OwnL
      rw [List.length_set, List.map_set]
      exact this
end Go.Proofs.YtaahmpabhophfaaDoor
