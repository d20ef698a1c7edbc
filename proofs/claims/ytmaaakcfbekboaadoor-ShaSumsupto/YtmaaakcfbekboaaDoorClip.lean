/-
  'append' onto a slice of bytes whose room is cut off: what it makes is new, or nothing was appended.
-/
import Derived.Test.YtmaaakcfbekboaaDoorShaAll
import Derived.ArgAppend
namespace Go.Proofs.YtmaaakcfbekboaaDoor
open Go.ChangeShapes Go.WideShapes Go.ChangeAt Go.RowKit
set_option linter.unusedVariables false
set_option linter.unusedSimpArgs false
theorem RowL.vals {w : World} {k : IntKind} {b : Addr} {n : Nat} {xs : List Nat} (h : RowL k w (some b) n xs) : ∀ j u, (xs.map (encV k))[j]? = some u → w.cell? (b.add j) = some u := by
  intro j u hj
  have hj' : j < xs.length := by have := (List.getElem?_eq_some_iff.1 hj).1; simpa using this
  rcases h.2 with h0 | ⟨b', off, hae, -, hcell⟩
  · have := h.1; omega
  · cases hae
    have hp : (⟨b', off, none⟩ : Addr).add j = ⟨b', off + j, none⟩ := by unfold Addr.add; split <;> simp_all
    rw [hp, hcell j (by have := h.1; omega)]
    rw [List.getElem?_map, List.getElem?_eq_getElem hj'] at hj
    simp at hj
    rw [← hj]
    simp [hj', encV]
theorem clip_append {w : World} (n m c : Nat) (ao ax : Option Addr) (xs ys : List Nat) (ty : TypeId) (hx : RowL .u8 w ao n xs) (hn : ao = none → n = 0) (hy : RowL .u8 w ax m ys) (hny : ax = none → m = 0 ∧ c = 0) (hb : n + m ≤ 140737488355328) :
    ∃ v' w', (Builtin.append_ #[28, 28] ty #[.slice ao n n, .slice ax m c]).run Tryd.prog w = .ok v' w' ∧ Below w.heap.size w w' ∧
      ((m = 0 ∧ v' = .slice ao n n ∧ w' = w) ∨ (0 < m ∧ OwnL 5 .u8 w' w.heap.size v' (xs ++ ys))) := by
  obtain ⟨i0, hi, hz0, hz1, hz2⟩ := info_parts numB.1
  by_cases hm : m = 0
  · subst hm
    refine ⟨.slice ao n n, w, ?_, Below.refl _ _, .inl ⟨rfl, rfl, rfl⟩⟩
    cases ao <;> cases ax <;> simp [Builtin.append_, run_underlying numB.2, sizeOf, typeInfo, hi, Builtin.lenOf, Builtin.firstCells, loadCells, storeCells]
    all_goals rfl
  · cases ax with
    | none => have := (hny rfl).1; omega
    | some ad =>
      have hlen : xs.length = n := hx.1
      have hleny : ys.length = m := hy.1
      cases ao with
      | some b =>
        obtain ⟨v', w', hrun, r1, r2⟩ := run_append_arg_grows (P := Tryd.prog) w 28 ty 5 i0 (.int .u8 0) 1 1 numB.2 hi hz0 hz1 hz2 rfl (by decide) b n n (xs.map (encV .u8)) (by simp; omega) hx.vals ad m c (ys.map (encV .u8)) (by simp; omega) hy.vals (by omega) (by unfold maxLen; omega) (by omega)
        refine ⟨v', w', hrun, Below.grown (Below.refl _ _) r2 (Nat.le_refl _) (fun k hk => by cases hk), .inr ⟨by omega, ?_⟩⟩
        unfold OwnL
        have e : (xs ++ ys).length = n + m := by simp; omega
        rw [e, List.map_append]
        exact r1
      | none =>
        have hn0 := hn rfl
        subst hn0
        have hxs : xs = [] := List.eq_nil_of_length_eq_zero hlen
        subst hxs
        obtain ⟨v', w', hrun, r1, r2, -⟩ := run_append_own (P := Tryd.prog) w w.heap.size 28 ty 5 i0 (.int .u8 0) 1 1 numB.2 hi hz0 hz1 hz2 rfl (by decide) (.slice none 0 0) 0 [] (World.ownsRow_nil w _ _ _) ad m c (ys.map (encV .u8)) (by simp; omega) hy.vals (fun u hu => by obtain ⟨z, _, rfl⟩ := List.mem_map.1 hu; rfl) (by unfold maxLen; omega) (by omega) (Nat.le_refl _)
        refine ⟨v', w', hrun, Below.grown (Below.refl _ _) r2 (Nat.le_refl _) (fun k hk => by cases hk), .inr ⟨by omega, ?_⟩⟩
        unfold OwnL
        have e : ([] ++ ys : List Nat).length = 0 + m := by simp; omega
        rw [e, List.map_append]
        exact r1
theorem held_append {P : Program} {o : Oper} {a : Act} {K : Act → World → Prop} {Q : Exit → Act → World → Prop} {w w' : World} (s x : Operand) (t : TypeId) (ho : o.op = .call { callee := .builtin .append, args := #[s, x], argTypes := #[t, t] })
    (vs vx v' : Value) (hs : a.eval s = vs) (hx : a.eval x = vx) (hr : (Builtin.append_ #[t, t] o.type #[vs, vx]).run P w = .ok v' w') (d : Option Tmp) (hd : o.dst = d) (h : K (a.put d v') w') : Oper.wp P o a w K Q := by
  subst hd
  unfold Oper.wp
  simp [execOp, ho, resolve, invoke, builtin, hs, hx, hr, Result.andThen]
  exact h
theorem append_op {P : Program} {ops : Array Oper} {rest : List Oper} {o : Oper} {a : Act} {Q : Exit → Act → World → Prop} {w w' : World} (hg : o.guard = none) (s x : Operand) (t : TypeId) (ho : o.op = .call { callee := .builtin .append, args := #[s, x], argTypes := #[t, t] })
    (vs vx v' : Value) (hs : a.eval s = vs) (hx : a.eval x = vx) (hr : (Builtin.append_ #[t, t] o.type #[vs, vx]).run P w = .ok v' w') (h : wpList P ops Q rest (a.put o.dst v') w') : wpList P ops Q (o :: rest) a w :=
  wpList_plain hg fun _ hK => held_append s x t ho vs vx v' hs hx hr o.dst rfl (hK _ _ h)
end Go.Proofs.YtmaaakcfbekboaaDoor
