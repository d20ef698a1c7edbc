/-
  A slice of numbers that the call makes with room ('make([]T, 0, c)'), and one number more put into it where there is room: nothing is drawn, and no bound but the room's own is asked.
-/
import Derived.Test.YtbfgkogmojnilaaDoorOwn
import Derived.OwnWalk
namespace Go.Proofs.YtbfgkogmojnilaaDoor
open Go.ChangeShapes Go.WideShapes Go.ChangeAt Go.RowKit
set_option linter.unusedVariables false
theorem make_num {e s : TypeId} {k : IntKind} {by' : Nat} (ht : NumT s e k by') (w : World) {ops : Array Oper} {rest : List Oper} {o : Oper} {a : Act} {Q : Exit → Act → World → Prop} (hgd : o.guard = none) (l c : Operand)
    (ho : o.op = Op.makeSlice s l c) (kl kc : IntKind) (C : Int) (n : Nat) (hl : a.eval l = .int kl 0) (hc : a.eval c = .int kc C) (hC : C = (n : Int)) (hb : by' * n ≤ 281474976710656) (hm : n ≤ maxLen)
    (h : ∀ w', OwnL e k w' w.heap.size (.slice (some ⟨w.heap.size, 0, none⟩) 0 n) [] → Below w.heap.size w w' → wpList Tryd.prog ops Q rest (a.put o.dst (.slice (some ⟨w.heap.size, 0, none⟩) 0 n)) w') :
    wpList Tryd.prog ops Q (o :: rest) a w := by
  obtain ⟨i0, hi, hz0, hz1, hz2⟩ := info_parts ht.1
  refine wpList_make_own w hgd l c s ho w.heap.size e i0 (.int k 0) 1 ht.2 hi hz0 hz1 kl kc C n hl hc hC (by rw [hz2]; exact hb) hm (Nat.le_refl _) ?_
  intro w' h1 h2
  refine h w' h1 (Below.grown (Below.refl _ _) h2 (Nat.le_refl _) ?_)
  intro j hj
  cases hj
theorem fit_num {e s : TypeId} {k : IntKind} {by' : Nat} (ht : NumT s e k by') (w : World) {ops : Array Oper} {rest : List Oper} {o : Oper} {a : Act} {Q : Exit → Act → World → Prop} (hgd : o.guard = none) (sl x : Operand)
    (ho : o.op = .call { callee := .builtin .append, args := #[sl, x], argTypes := #[s, s] })
    (base g n cap : Nat) (xs : List Nat) (hs : a.eval sl = .slice (some ⟨g, 0, none⟩) n cap) (hn : xs.length = n) (hown : OwnL e k w base (.slice (some ⟨g, 0, none⟩) n cap) xs) (c : Nat) (C : Value) (hC : C = encV k c) (N : Nat) (hx : a.eval x = .slice (some ⟨N, 0, none⟩) 1 1) (hN : N = w.heap.size)
    (hl : n + 1 ≤ cap) (hb : base ≤ w.heap.size)
    (h : ∀ w', OwnL e k w' base (.slice (some ⟨g, 0, none⟩) (n + 1) cap) (xs ++ [c]) → Below base w w' → wpList Tryd.prog ops Q rest (a.put o.dst (.slice (some ⟨g, 0, none⟩) (n + 1) cap)) w') :
    wpList Tryd.prog ops Q (o :: rest) a (w.alloc (.cells #[C] e)) := by
  subst hN hC hn
  obtain ⟨i0, hi, hz0, hz1, hz2⟩ := info_parts ht.1
  refine wpList_append_fits _ hgd sl x s ho base e i0 1 ht.2 hi hz1 g xs.length cap (xs.map (encV k)) hs (hown.alloc _) ⟨w.heap.size, 0, none⟩ 1 1 [encV k c] hx rfl ?_ ?_ hl ?_
  · intro j u hj
    match j, hj with
    | 0, hj => simp at hj; subst hj; simp [Addr.add, go_sem]
  · intro u hu; simp at hu; subst hu; rfl
  · intro w' h1 h2
    refine h w' ?_ ?_
    · unfold OwnL; simpa using h1
    · refine Below.grown (w := w.alloc (.cells #[encV k c] e)) ((Below.refl _ _).alloc hb _) h2 (by simp; omega) ?_
      intro j hj
      exact (hown.lt j hj).1
end Go.Proofs.YtbfgkogmojnilaaDoor
