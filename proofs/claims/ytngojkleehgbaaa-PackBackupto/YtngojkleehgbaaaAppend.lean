/-
  A slice of bytes that the call makes by appending one byte after the other: what it owns, what one more byte does to it, its last byte written anew.
-/
import Derived.Test.YtngojkleehgbaaaBytes
namespace Go.Proofs.Ytngojkleehgbaaa
open Go.ChangeShapes Go.WideShapes Go.ChangeAt Go.RowKit
set_option linter.unusedVariables false
def OwnB (w : World) (base : Nat) (v : Value) (xs : List Int) : Prop := w.ownsRow base 5 1 v xs.length (xs.map (Value.int .u8))
theorem OwnB.nil (w : World) (base : Nat) : OwnB w base (.slice none 0 0) [] := World.ownsRow_nil _ _ _ _
theorem OwnB.one (w : World) (base : Nat) (c : Int) (hb : base ≤ w.heap.size) : OwnB (w.alloc (.cells #[.int .u8 c] 5)) base (.slice (some ⟨w.heap.size, 0, none⟩) 1 1) [c] :=
  World.ownsRow_lit w #[.int .u8 c] 1 hb (by decide) rfl
theorem OwnB.made {w : World} {base : Nat} {v : Value} {xs : List Int} (h : OwnB w base v xs) : ∃ a cap, v = .slice a xs.length cap ∧ Made w a xs.length xs := by
  have h0 := h
  obtain ⟨h1, ⟨rfl, h2⟩ | ⟨g, cap, cur, rfl, hg, hb, hn, hm, hs, ht⟩⟩ := h
  · exact ⟨none, 0, by rw [h2], rfl, .inl ⟨rfl, h2⟩⟩
  · refine ⟨some ⟨g, 0, none⟩, cap, rfl, rfl, .inr ⟨g, 0, rfl, ?_, fun i hi => ?_⟩⟩
    · exact (h0.lt g rfl).2
    · have := World.ownsRow.cellAt h0 i (by omega)
      rw [Nat.zero_add, this]
      simp [hi]
theorem append_byte (w : World) {ops : Array Oper} {rest : List Oper} {o : Oper} {a : Act} {Q : Exit → Act → World → Prop} (hgd : o.guard = none) (s x : Operand)
    (ho : o.op = .call { callee := .builtin .append, args := #[s, x], argTypes := #[41, 41] })
    (base : Nat) (v : Value) (xs : List Int) (hs : a.eval s = v) (hown : OwnB w base v xs) (c : Int) (N : Nat) (hx : a.eval x = .slice (some ⟨N, 0, none⟩) 1 1) (hN : N = w.heap.size)
    (hl : xs.length + 1 ≤ 140737488351232) (hb : base ≤ w.heap.size)
    (h : ∀ v' w', OwnB w' base v' (xs ++ [c]) → Below base w w' → wpList Try.prog ops Q rest (a.put o.dst v') w') :
    wpList Try.prog ops Q (o :: rest) a (w.alloc (.cells #[.int .u8 c] 5)) := by
  subst hN
  obtain ⟨i0, hi, hz0, hz1, hz2⟩ := info_parts info_u8
  refine wpList_append_own _ hgd s x 41 ho base 5 i0 (.int .u8 0) 1 1 Try.underlying41 hi hz0 hz1 hz2 rfl (by decide) v xs.length (xs.map (Value.int .u8)) hs (hown.alloc _) ⟨w.heap.size, 0, none⟩ 1 1 [.int .u8 c] hx rfl ?_ ?_ ?_ ?_ ?_ ?_
  · intro j u hj
    match j, hj with
    | 0, hj => simp at hj; subst hj; simp [Addr.add, go_sem]
  · intro u hu; simp at hu; subst hu; rfl
  · unfold maxLen; omega
  · omega
  · simp; omega
  · intro v' w' h1 h2 _
    refine h v' w' ?_ ?_
    · unfold OwnB; simpa using h1
    · refine Below.grown (w := w.alloc (.cells #[.int .u8 c] 5)) ((Below.refl _ _).alloc hb _) h2 (by simp; omega) ?_
      intro k hk
      exact (hown.lt k hk).1
theorem OwnB.last {w : World} {base : Nat} {v : Value} {xs : List Int} {x : Int} (h : OwnB w base v (xs ++ [x])) :
    ∃ g cap, v = .slice (some ⟨g, 0, none⟩) (xs.length + 1) cap ∧ base ≤ g ∧ g < w.heap.size ∧ w.cell? ⟨g, xs.length, none⟩ = some (.int .u8 x) ∧ w.frozen? ⟨g, xs.length, none⟩ = false ∧
      ∀ y, OwnB (w.setCell ⟨g, xs.length, none⟩ (.int .u8 y)) base v (xs ++ [y]) := by
  have h0 := h
  obtain ⟨h1, ⟨rfl, h2⟩ | ⟨g, cap, cur, rfl, hg, hb, hn, hm, hs, ht⟩⟩ := h
  · simp at h2
  · have hlt := (h0.lt g rfl).2
    refine ⟨g, cap, by simp, hg, hlt, ?_, World.ownsRow.frozenAt h0 _, fun y => ?_⟩
    · have := World.ownsRow.cellAt h0 xs.length (by simp)
      rw [this]; simp
    · have := (World.ownsRow.stored h0 xs.length (.int .u8 y)).1
      unfold OwnB
      simpa using this
end Go.Proofs.Ytngojkleehgbaaa
