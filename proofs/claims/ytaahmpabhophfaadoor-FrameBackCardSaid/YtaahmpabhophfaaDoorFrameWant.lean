/-
  What FrameBack gathers: all frames, one behind the other, and a list of slices that came in; what an append to one of them leaves of the other.
-/
import Derived.Test.YtaahmpabhophfaaDoorFrameAwake
import Derived.Deep.DeepAppendWide
namespace Go.Proofs.YtaahmpabhophfaaDoor
open Go.ChangeShapes Go.WideShapes Go.ChangeAt Go.RowKit
set_option linter.unusedVariables false
set_option linter.unusedSimpArgs false
/-- The call's own list of slices of bytes that came in (they lie in W). -/
def OwnW (W w : World) (base : Nat) (v : Value) (bs : List (List Nat)) : Prop :=
  ∃ vs : List Value, vs.length = bs.length ∧ w.ownsRow base 22 1 v vs.length vs ∧ ∀ i, i < bs.length → ∃ ai ci, vs.getD i undef = .slice ai (bs.getD i []).length ci ∧ BytL W ai (bs.getD i []).length ci (bs.getD i [])
theorem OwnW.nil (W w : World) (base : Nat) : OwnW W w base (.slice none 0 0) [] := ⟨[], rfl, World.ownsRow_nil _ _ _ _, fun i hi => by simp at hi⟩
theorem ownsRow_below {w w' : World} {base : Nat} {e : TypeId} {size : Nat} {v : Value} {n : Nat} {xs : List Value} (h : w.ownsRow base e size v n xs) (hb : Below w.heap.size w w') : w'.ownsRow base e size v n xs := by
  obtain ⟨h1, h2⟩ := h
  refine ⟨h1, ?_⟩
  rcases h2 with h2 | ⟨g, cap, cur, hv, hg, hh, hr⟩
  · exact .inl h2
  · exact .inr ⟨g, cap, cur, hv, hg, (hb.block g (Array.getElem?_eq_some_iff.1 hh).1).trans hh, hr⟩
theorem OwnW.below2 {W w w' : World} {base : Nat} {v : Value} {bs : List (List Nat)} (h : OwnW W w base v bs) (hb : Below w.heap.size w w') : OwnW W w' base v bs := by
  obtain ⟨vs, hl, ho, hi⟩ := h
  exact ⟨vs, hl, ownsRow_below ho hb, hi⟩
theorem own_apart2 {w : World} {base base' : Nat} {v u : Value} {n : Nat} {vs : List Value} {xs : List Nat} (h : w.ownsRow base 22 1 v n vs) (k : OwnL 5 .u8 w base' u xs) : v.ownBlock = none ∨ v.ownBlock ≠ u.ownBlock := by
  rcases own_apart h k with h1 | h1
  · by_cases hv : v.ownBlock = none
    · exact .inl hv
    · exact .inr (by rw [h1]; exact hv)
  · exact .inr (fun e => h1 e.symm)
theorem append_all (W w : World) {ops : Array Oper} {rest : List Oper} {o : Oper} {a : Act} {Q : Exit → Act → World → Prop} (hgd : o.guard = none) (sl x : Operand)
    (ho : o.op = .call { callee := .builtin .append, args := #[sl, x], argTypes := #[22, 22] })
    (base : Nat) (v : Value) (xs ys : List Nat) (hs : a.eval sl = v) (hown : OwnL 5 .u8 w base v xs) (vw : Value) (bs : List (List Nat)) (hw : OwnW W w base vw bs) (ax : Option Addr) (m c : Nat) (hx : a.eval x = .slice ax m c)
    (hrow : RowL .u8 w ax m ys) (hnil : ax = none → m = 0 ∧ c = 0)
    (hl : xs.length + m ≤ 140737490000000) (hb : base ≤ w.heap.size)
    (h : ∀ v' w', OwnL 5 .u8 w' base v' (xs ++ ys) → OwnW W w' base vw bs → Below base w w' → wpList Tryd.prog ops Q rest (a.put o.dst v') w') :
    wpList Tryd.prog ops Q (o :: rest) a w := by
  obtain ⟨i0, hi, hz0, hz1, hz2⟩ := info_parts info_byte
  obtain ⟨hyl, hrow⟩ := hrow
  cases ax with
  | none =>
    obtain ⟨rfl, rfl⟩ := hnil rfl
    have hys : ys = [] := List.eq_nil_of_length_eq_zero hyl
    subst hys
    refine wpList_append_own_none hgd sl x 22 ho base 5 i0 1 Tryd.underlying22 hi v xs.length (xs.map (encV .u8)) hs hown hx ?_
    exact h v w (by rw [List.append_nil]; exact hown) hw (Below.refl _ _)
  | some ad =>
    refine wpList_append_own_wide _ hgd sl x 22 ho base 5 i0 (.int .u8 0) 1 1 Tryd.underlying22 hi hz0 hz1 hz2 rfl (by decide) v xs.length (xs.map (encV .u8)) hs hown ad m c (ys.map (encV .u8)) hx (by simp; omega) ?_ ?_ (by unfold maxLen; omega) (by omega) hb ?_
    · intro j u hj
      have hj' : j < ys.length := by have := (List.getElem?_eq_some_iff.1 hj).1; simpa using this
      rcases hrow with h0 | ⟨b, off, hae, -, hcell⟩
      · omega
      · cases hae
        have hp : (⟨b, off, none⟩ : Addr).add j = ⟨b, off + j, none⟩ := by unfold Addr.add; split <;> simp_all
        rw [hp, hcell j (by omega)]
        rw [List.getElem?_map, List.getElem?_eq_getElem hj'] at hj
        simp at hj
        rw [← hj]
        simp [hj', encV]
    · intro u hu
      obtain ⟨z, _, rfl⟩ := List.mem_map.1 hu
      rfl
    · intro v' w' h1 h2 _
      refine h v' w' ?_ ?_ (Below.grown (Below.refl _ _) h2 hb (fun j hj => (hown.lt j hj).1))
      · unfold OwnL
        have e : (xs ++ ys).length = xs.length + m := by simp; omega
        rw [e, List.map_append]
        exact h1
      · obtain ⟨vs, hvl, hov, hit⟩ := hw
        exact ⟨vs, hvl, World.ownsRow.kept hov h2 (own_apart2 hov hown), hit⟩
theorem append_want (W w : World) {ops : Array Oper} {rest : List Oper} {o : Oper} {a : Act} {Q : Exit → Act → World → Prop} (hgd : o.guard = none) (s x : Operand)
    (ho : o.op = .call { callee := .builtin .append, args := #[s, x], argTypes := #[34, 34] })
    (base : Nat) (v : Value) (bs : List (List Nat)) (hs : a.eval s = v) (hown : OwnW W w base v bs) (va : Value) (al : List Nat) (hal : OwnL 5 .u8 w base va al)
    (ai : Option Addr) (li ci : Nat) (ys : List Nat) (hy : BytL W ai li ci ys) (N : Nat) (hx : a.eval x = .slice (some ⟨N, 0, none⟩) 1 1) (hN : N = w.heap.size)
    (hl : bs.length ≤ 1048576) (hb : base ≤ w.heap.size)
    (h : ∀ v' w', OwnW W w' base v' (bs ++ [ys]) → OwnL 5 .u8 w' base va al → Below base w w' → wpList Tryd.prog ops Q rest (a.put o.dst v') w') :
    wpList Tryd.prog ops Q (o :: rest) a (w.alloc (.cells #[.slice ai li ci] 22)) := by
  subst hN
  obtain ⟨i0, hi, hz0, hz1, hz2⟩ := info_parts info_sl
  obtain ⟨vs, hvl, hov, hit⟩ := hown
  have hbn := below_new w (.cells #[.slice ai li ci] 22)
  refine wpList_append_own _ hgd s x 34 ho base 22 i0 (.slice none 0 0) 1 24 Tryd.underlying34 hi hz0 hz1 hz2 rfl (by decide) v vs.length vs hs (hov.alloc _) ⟨w.heap.size, 0, none⟩ 1 1 [.slice ai li ci] hx rfl ?_ ?_ (by unfold maxLen; omega) (by omega) (by simp; omega) ?_
  · intro j u hj
    match j, hj with
    | 0, hj => simp at hj; subst hj; simp [Addr.add, go_sem]
  · intro u' hu'
    simp at hu'
    subst hu'
    rfl
  · intro v' w' h1 h2 _
    have hov2 := hov.alloc (.cells #[.slice ai li ci] 22)
    refine h v' w' ⟨vs ++ [.slice ai li ci], by simp [hvl], ?_, fun i hi' => ?_⟩ (World.ownsRow.kept (hal.below2 hbn) h2 (own_apart hov2 (hal.below2 hbn))) ?_
    · have e : (vs ++ [Value.slice ai li ci]).length = vs.length + 1 := by simp
      rw [e]
      exact h1
    · by_cases hlt : i < bs.length
      · have := hit i hlt
        simpa [List.getD, List.getElem?_append_left hlt, List.getElem?_append_left (show i < vs.length by omega)] using this
      · have hie : i = bs.length := by simp at hi'; omega
        subst hie
        have e1 : (vs ++ [Value.slice ai li ci]).getD bs.length undef = .slice ai li ci := by rw [← hvl]; simp [List.getD]
        have e2 : (bs ++ [ys]).getD bs.length [] = ys := by simp [List.getD]
        rw [e1, e2]
        exact ⟨ai, ci, by rw [hy.1.1], by rw [hy.1.1]; exact hy⟩
    · refine Below.grown (w := w.alloc (.cells #[.slice ai li ci] 22)) ((Below.refl _ _).alloc hb _) h2 (by simp; omega) ?_
      intro j hj
      exact (hov.lt j hj).1
/-- What may be put into frames, of some bytes. -/
def goodN (ps : List (List Nat)) : List (List Nat) := ps.filter fun b => decide (b.length ≤ 16384)
def allN (ps : List (List Nat)) : List Nat := ((goodN ps).map (frN crcN)).flatten
theorem good_small (ps : List (List Nat)) : ∀ b ∈ goodN ps, b.length ≤ 16384 := by
  intro b hb
  have := (List.mem_filter.1 hb).2
  simpa using this
theorem good_snoc (ps : List (List Nat)) (b : List Nat) : goodN (ps ++ [b]) = if b.length ≤ 16384 then goodN ps ++ [b] else goodN ps := by
  unfold goodN
  rw [List.filter_append]
  by_cases h : b.length ≤ 16384
  · simp [h]
  · simp [h]
theorem all_snoc (ps : List (List Nat)) (b : List Nat) : allN (ps ++ [b]) = if b.length ≤ 16384 then allN ps ++ frN crcN b else allN ps := by
  unfold allN
  rw [good_snoc]
  split
  · simp
  · rfl
theorem good_len (ps : List (List Nat)) : (goodN ps).length ≤ ps.length := List.length_filter_le _ _
theorem all_len : ∀ ps : List (List Nat), (allN ps).length ≤ 16392 * ps.length
  | [] => by simp [allN, goodN]
  | b :: ps => by
    have ih := all_len ps
    have e : allN (b :: ps) = (if b.length ≤ 16384 then frN crcN b else []) ++ allN ps := by
      unfold allN goodN
      by_cases h : b.length ≤ 16384 <;> simp [h]
    rw [e, List.length_append, List.length_cons]
    split
    · rw [frN_len]; omega
    · simp; omega
theorem all_byt (ps : List (List Nat)) (h : ∀ b ∈ ps, ∀ c ∈ b, c < 256) : ∀ c ∈ allN ps, c < 256 := by
  intro c hc
  unfold allN at hc
  obtain ⟨l, hl, hcl⟩ := List.mem_flatten.1 hc
  obtain ⟨b, hb, rfl⟩ := List.mem_map.1 hl
  exact frN_byt b (h b (List.mem_filter.1 hb).1) c hcl
/-- That list as what can be read of it. -/
def RowW (W w : World) (a : Option Addr) (bs : List (List Nat)) : Prop :=
  bs.length = 0 ∨ ∃ g, a = some ⟨g, 0, none⟩ ∧ g < w.heap.size ∧ ∀ i, i < bs.length → ∃ ai ci, w.cell? ⟨g, i, none⟩ = some (.slice ai (bs.getD i []).length ci) ∧ BytL W ai (bs.getD i []).length ci (bs.getD i [])
theorem RowW.below {W w w' : World} {a : Option Addr} {bs : List (List Nat)} (h : RowW W w a bs) (hb : Below w.heap.size w w') : RowW W w' a bs := by
  rcases h with h | ⟨g, ha, hlt, hc⟩
  · exact .inl h
  · refine .inr ⟨g, ha, Nat.lt_of_lt_of_le hlt hb.size, fun i hi => ?_⟩
    obtain ⟨ai, ci, h1, h2⟩ := hc i hi
    exact ⟨ai, ci, (hb.cell (p := ⟨g, i, none⟩) hlt).trans h1, h2⟩
theorem OwnW.rows {W w : World} {base : Nat} {v : Value} {bs : List (List Nat)} (h : OwnW W w base v bs) : ∃ a cap, v = .slice a bs.length cap ∧ RowW W w a bs := by
  obtain ⟨vs, hvl, hov, hit⟩ := h
  have h0 := hov
  obtain ⟨h1, ⟨rfl, h2⟩ | ⟨g, cap, cur, rfl, hg, hbk, hn, hmm, hs, ht⟩⟩ := hov
  · exact ⟨none, 0, by rw [← hvl, h2], .inl (by omega)⟩
  · refine ⟨some ⟨g, 0, none⟩, cap, by rw [hvl], .inr ⟨g, rfl, (h0.lt g rfl).2, fun i hi => ?_⟩⟩
    have hc := World.ownsRow.cellAt h0 i (by omega)
    obtain ⟨ai, ci, hv, hB⟩ := hit i hi
    refine ⟨ai, ci, ?_, hB⟩
    rw [hc]
    have : vs[i]? = some (vs.getD i undef) := by simp [List.getD, show i < vs.length by omega]
    rw [this, hv]
end Go.Proofs.YtaahmpabhophfaaDoor
