/-
  Tags in memory that the call makes by appending.
-/
import Derived.Test.YtbfgkogmojnilaaDoorTagSame
import Derived.Test.YtbfgkogmojnilaaDoorHeld
namespace Go.Proofs.YtbfgkogmojnilaaDoor
open Go.ChangeShapes Go.WideShapes Go.ChangeAt Go.RowKit
set_option linter.unusedVariables false
set_option linter.unusedSimpArgs false
theorem tagT : (Tryd.prog.info? 40).map (fun i => (i.zero, i.size, i.bytes)) = some (some (.agg #[.string ByteArray.empty, .string ByteArray.empty]), 2, 32) := by kernel_rfl
def OwnT (w : World) (base : Nat) (v : Value) (ts : List (ByteArray × ByteArray)) : Prop := w.ownsRow base 40 2 v ts.length (encTs ts)
theorem OwnT.empty (w : World) (base : Nat) (hb : base ≤ w.heap.size) : OwnT (w.alloc (.cells #[] 40)) base (.slice (some ⟨w.heap.size, 0, none⟩) 0 0) [] :=
  World.ownsRow_lit w #[] 0 hb (by decide) rfl
theorem OwnT.alloc {w : World} {base : Nat} {v : Value} {ts : List (ByteArray × ByteArray)} (h : OwnT w base v ts) (o : Obj) : OwnT (w.alloc o) base v ts := World.ownsRow.alloc h o
theorem OwnT.row {w : World} {base : Nat} {v : Value} {ts : List (ByteArray × ByteArray)} (h : OwnT w base v ts) : ∃ a cap, v = .slice a ts.length cap ∧ RowT w a ts ∧ ts.length ≤ cap ∧ cap ≤ maxLen ∧ (ts ≠ [] → ∃ g, a = some ⟨g, 0, none⟩ ∧ base ≤ g ∧ g < w.heap.size) := by
  have h0 := h
  obtain ⟨h1, ⟨rfl, h2⟩ | ⟨g, cap, cur, rfl, hg, hbk, hn, hmm, hs, ht⟩⟩ := h
  · exact ⟨none, 0, by rw [h2], .inl h2, by omega, Nat.zero_le _, fun h => absurd (List.eq_nil_of_length_eq_zero h2) h⟩
  · refine ⟨some ⟨g, 0, none⟩, cap, rfl, .inr ⟨g, 0, rfl, (h0.lt g rfl).2, fun i hi => ?_⟩, hn, hmm, fun _ => ⟨g, rfl, hg, (h0.lt g rfl).2⟩⟩
    obtain ⟨e1, e2⟩ := encTs_at ts i hi
    have hl := encTs_length ts
    have c1 := World.ownsRow.cellAt h0 (i * 2) (by omega)
    have c2 := World.ownsRow.cellAt h0 (i * 2 + 1) (by omega)
    rw [Nat.zero_add]
    exact ⟨c1.trans e1, c2.trans e2⟩
theorem RowT.grown {w w' : World} {row : Option Nat} {a : Option Addr} {ts : List (ByteArray × ByteArray)} (h : RowT w a ts) (hg : w.grownBy w' row) (hs : w.heap.size ≤ w'.heap.size) (hne : ∀ g off, a = some ⟨g, off, none⟩ → some g ≠ row) : RowT w' a ts := by
  rcases h with h | ⟨b, off, ha, hlt, hc⟩
  · exact .inl h
  · exact .inr ⟨b, off, ha, by omega, fun i hi => ⟨hg.cell (hc i hi).1 (hne b off ha), hg.cell (hc i hi).2 (hne b off ha)⟩⟩
theorem RowT.keep {w w' : World} {B g off : Nat} {ts : List (ByteArray × ByteArray)} (h : RowT w (some ⟨g, off, none⟩) ts) (hb : Below B w w') (hlt : ts.length = 0 ∨ g < B) (hs : w.heap.size ≤ w'.heap.size) : RowT w' (some ⟨g, off, none⟩) ts := by
  rcases h with h | ⟨b, o, ha, hl, hc⟩
  · exact .inl h
  · cases ha
    rcases hlt with h0 | h0
    · exact .inl h0
    · exact .inr ⟨g, off, rfl, by omega, fun i hi => ⟨(hb.cell (p := ⟨g, off + i * 2, none⟩) h0).trans (hc i hi).1, (hb.cell (p := ⟨g, off + i * 2 + 1, none⟩) h0).trans (hc i hi).2⟩⟩
theorem rowT_cells {w : World} {ad : Addr} {us : List (ByteArray × ByteArray)} (h : RowT w (some ad) us) : ∀ j u, (encTs us)[j]? = some u → w.cell? (ad.add j) = some u := by
  intro j u hj
  have hj' : j < (encTs us).length := (List.getElem?_eq_some_iff.1 hj).1
  rw [encTs_length] at hj'
  rcases h with h0 | ⟨b, off, ha, -, hc⟩
  · omega
  · cases ha
    have hp : (⟨b, off, none⟩ : Addr).add j = ⟨b, off + j, none⟩ := by unfold Addr.add; split <;> simp_all
    rw [hp]
    obtain ⟨i, hi⟩ : ∃ i, j = i * 2 ∨ j = i * 2 + 1 := ⟨j / 2, by omega⟩
    rcases hi with rfl | rfl
    · rw [(hc i (by omega)).1, ← hj, (encTs_at us i (by omega)).1]
    · rw [show off + (i * 2 + 1) = off + i * 2 + 1 by omega, (hc i (by omega)).2, ← hj, (encTs_at us i (by omega)).2]
theorem encTs_one (us : List (ByteArray × ByteArray)) : ∀ u ∈ encTs us, u.oneCell' = true := by
  intro u hu
  obtain ⟨t, _, ht⟩ := List.mem_flatMap.1 hu
  simp [encT] at ht
  rcases ht with rfl | rfl <;> rfl
theorem appendT_at (w : World) {o : Oper} {a : Act} {K : Act → World → Prop} {Q : Exit → Act → World → Prop} (sl x : Operand)
    (ho : o.op = .call { callee := .builtin .append, args := #[sl, x], argTypes := #[22, 22] })
    (base : Nat) (v : Value) (ts us : List (ByteArray × ByteArray)) (hs : a.eval sl = v) (hown : OwnT w base v ts) (ad : Addr) (m c : Nat) (hx : a.eval x = .slice (some ad) m c) (hrow : RowT w (some ad) us) (hm : us.length = m)
    (hl : ts.length + m ≤ 4398046511104) (hb : base ≤ w.heap.size) (d : Option Tmp) (hd : o.dst = d)
    (h : ∀ v' w', OwnT w' base v' (ts ++ us) → Below base w w' → w.grownBy w' v.ownBlock → K (a.put d v') w') : Oper.wp Tryd.prog o a w K Q := by
  subst hd hm
  obtain ⟨i0, hi, hz0, hz1, hz2⟩ := info_parts tagT
  refine wp_append_own w sl x 22 ho base 40 i0 (.agg #[.string ByteArray.empty, .string ByteArray.empty]) 2 32 Tryd.underlying22 hi hz0 hz1 hz2 rfl (by decide) v ts.length (encTs ts) hs hown ad us.length c (encTs us) hx (encTs_length us) (rowT_cells hrow) (encTs_one us) (by unfold maxLen; omega) (by omega) hb ?_
  intro v' w' h1 h2 _
  refine h v' w' ?_ (Below.grown (Below.refl _ _) h2 hb (fun j hj => (hown.lt j hj).1)) h2
  unfold OwnT
  rw [List.length_append, encTs_app]
  exact h1
theorem appendT {ops : Array Oper} {rest : List Oper} (w : World) {o : Oper} {a : Act} {Q : Exit → Act → World → Prop} (hgd : o.guard = none) (sl x : Operand)
    (ho : o.op = .call { callee := .builtin .append, args := #[sl, x], argTypes := #[22, 22] })
    (base : Nat) (v : Value) (ts us : List (ByteArray × ByteArray)) (hs : a.eval sl = v) (hown : OwnT w base v ts) (ax : Option Addr) (m c : Nat) (hx : a.eval x = .slice ax m c) (hrow : RowT w ax us) (hm : us.length = m) (hnil : ax = none → m = 0 ∧ c = 0)
    (hl : ts.length + m ≤ 4398046511104) (hb : base ≤ w.heap.size)
    (h : ∀ v' w', OwnT w' base v' (ts ++ us) → Below base w w' → wpList Tryd.prog ops Q rest (a.put o.dst v') w') : wpList Tryd.prog ops Q (o :: rest) a w := by
  cases ax with
  | none =>
    obtain ⟨rfl, rfl⟩ := hnil rfl
    have hus : us = [] := List.eq_nil_of_length_eq_zero hm
    subst hus
    obtain ⟨i0, hi, hz0, hz1, hz2⟩ := info_parts tagT
    refine wpList_append_own_none hgd sl x 22 ho base 40 i0 2 Tryd.underlying22 hi v ts.length (encTs ts) hs hown hx ?_
    exact h v w (by rw [List.append_nil]; exact hown) (Below.refl _ _)
  | some ad => exact wpList_plain hgd fun K hK => appendT_at w sl x ho base v ts us hs hown ad m c hx hrow hm hl hb o.dst rfl (fun v' w' h1 h2 _ => hK _ _ (h v' w' h1 h2))
/-- One tag that was just laid. -/
theorem rowT_new (w : World) (t : ByteArray × ByteArray) : RowT (w.alloc (.cells #[.string t.1, .string t.2] 40)) (some ⟨w.heap.size, 0, none⟩) [t] := by
  refine .inr ⟨w.heap.size, 0, rfl, by simp, fun i hi => ?_⟩
  have h0 : i = 0 := by simpa using hi
  subst h0
  constructor
  · rw [cell_of_row _ w.heap.size _ _ _ _ (heap_alloc_last w _)]; rfl
  · rw [cell_of_row _ w.heap.size _ _ _ _ (heap_alloc_last w _)]; rfl
theorem tagAt_take (ts : List (ByteArray × ByteArray)) (k i : Nat) (h : i < k) : tagAt (ts.take k) i = tagAt ts i := by
  unfold tagAt
  rw [List.getD_eq_getElem?_getD, List.getD_eq_getElem?_getD, List.getElem?_take, if_pos h]
theorem tagAt_drop (ts : List (ByteArray × ByteArray)) (k i : Nat) : tagAt (ts.drop k) i = tagAt ts (k + i) := by
  unfold tagAt
  rw [List.getD_eq_getElem?_getD, List.getD_eq_getElem?_getD, List.getElem?_drop]
/-- The first ones, and those from a place on. -/
theorem RowT.take {w : World} {a : Option Addr} {ts : List (ByteArray × ByteArray)} (h : RowT w a ts) (k : Nat) : RowT w a (ts.take k) := by
  rcases h with h | ⟨b, off, ha, hlt, hc⟩
  · exact .inl (by rw [List.length_take]; omega)
  · refine .inr ⟨b, off, ha, hlt, fun i hi => ?_⟩
    rw [List.length_take] at hi
    rw [tagAt_take ts k i (by omega)]
    exact hc i (by omega)
theorem RowT.drop {w : World} {g off : Nat} {ts : List (ByteArray × ByteArray)} (h : RowT w (some ⟨g, off, none⟩) ts) (k : Nat) : RowT w (some ⟨g, off + k * 2, none⟩) (ts.drop k) := by
  rcases h with h | ⟨b, off', ha, hlt, hc⟩
  · exact .inl (by rw [List.length_drop]; omega)
  · cases ha
    refine .inr ⟨g, off + k * 2, rfl, hlt, fun i hi => ?_⟩
    rw [List.length_drop] at hi
    rw [tagAt_drop]
    have := hc (k + i) (by omega)
    rw [show off + k * 2 + i * 2 = off + (k + i) * 2 by omega]
    exact this
end Go.Proofs.YtbfgkogmojnilaaDoor
