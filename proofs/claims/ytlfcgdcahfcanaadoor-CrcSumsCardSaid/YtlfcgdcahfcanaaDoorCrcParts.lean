/-
  Slices of slices of bytes: what comes in as lists of lists; a slice of parts that the call makes by appending.
-/
import Derived.Test.YtlfcgdcahfcanaaDoorCrcArg
import Derived.Laws.AppendOwnNone
import Derived.Deep.Matrix
namespace Go.Proofs.YtlfcgdcahfcanaaDoor
open Go.ChangeShapes Go.WideShapes Go.ChangeAt Go.RowKit
set_option linter.unusedVariables false
theorem info_sl : (Tryd.prog.info? 23).map (fun i => (i.zero, i.size, i.bytes)) = some (some (.slice none 0 0), 1, 24) := by kernel_rfl
def OwnS (w : World) (base : Nat) (v : Value) (vs : List Value) : Prop := w.ownsRow base 23 1 v vs.length vs
theorem wpList_wanted {P : Program} {ops : Array Oper} {rest : List Oper} {o : Oper} {a : Act} {Q : Exit → Act → World → Prop} {w : World} (hw : Region.wanted o (yielded ops a.tmps) = true)
    (h : ∀ K : Act → World → Prop, (∀ a w, wpList P ops Q rest a w → K a w) → o.wp P a w K Q) : wpList P ops Q (o :: rest) a w :=
  wpList_step fun K hK => by rw [if_pos hw]; exact h K hK
theorem append_parts (w : World) {ops : Array Oper} {rest : List Oper} {o : Oper} {a : Act} {Q : Exit → Act → World → Prop} (hw : Region.wanted o (yielded ops a.tmps) = true) (s x : Operand)
    (ho : o.op = .call { callee := .builtin .append, args := #[s, x], argTypes := #[22, 22] })
    (base : Nat) (v : Value) (vs news : List Value) (hs : a.eval s = v) (hown : OwnS w base v vs) (ax : Option Addr) (m c : Nat) (hx : a.eval x = .slice ax m c)
    (hm : news.length = m) (hnil : ax = none → m = 0 ∧ c = 0) (hcell : ∀ ad, ax = some ad → ∀ (j : Nat) (u : Value), news[j]? = some u → w.cell? (ad.add j) = some u) (h1 : ∀ u ∈ news, u.oneCell' = true)
    (hl : (vs.length + m) * 24 ≤ 140737488355328) (hb : base ≤ w.heap.size)
    (h : ∀ v' w', OwnS w' base v' (vs ++ news) → Below base w w' → wpList Tryd.prog ops Q rest (a.put o.dst v') w') :
    wpList Tryd.prog ops Q (o :: rest) a w := by
  obtain ⟨i0, hi, hz0, hz1, hz2⟩ := info_parts info_sl
  cases ax with
  | none =>
    obtain ⟨rfl, rfl⟩ := hnil rfl
    have hys : news = [] := List.eq_nil_of_length_eq_zero hm
    subst hys
    refine wpList_wanted hw fun K hK => ?_
    have hrun := run_append_owned_none (P := Tryd.prog) (w := w) base 22 o.type 23 i0 1 Tryd.underlying22 hi v vs.length vs hown
    unfold Oper.wp
    simp [execOp, ho, resolve, invoke, builtin, hs, hx, hrun, Result.andThen]
    exact hK _ _ (h v w (by rw [List.append_nil]; exact hown) (Below.refl _ _))
  | some ad =>
    refine wpList_wanted hw fun K hK => wp_append_own w s x 22 ho base 23 i0 (.slice none 0 0) 1 24 Tryd.underlying22 hi hz0 hz1 hz2 rfl (by decide) v vs.length vs hs hown ad m c news hx (by omega) (hcell ad rfl) h1 ?_ hl hb ?_
    · unfold maxLen; omega
    · intro v' w' q1 q2 _
      refine hK _ _ (h v' w' ?_ ?_)
      · unfold OwnS
        have e : (vs ++ news).length = vs.length + m := by simp; omega
        rw [e]
        exact q1
      · exact Below.grown (Below.refl _ _) q2 hb (fun k hk => (hown.lt k hk).1)
theorem OwnS.parts {w : World} {base : Nat} {v : Value} {vs : List Value} {ps : List (List Nat)} (h : OwnS w base v vs) (hm : vs.length ≤ maxLen) (hl : ps.length = vs.length)
    (hr : ∀ i, i < vs.length → ∃ ai li ci, vs[i]? = some (.slice ai li ci) ∧ Row w ai li (ps.getD i [])) : ∃ a cap, v = .slice a vs.length cap ∧ Parts w a vs.length ps := by
  have h0 := h
  obtain ⟨h1, ⟨rfl, h2⟩ | ⟨g, cap, cur, rfl, hg, hbk, hn, hmm, hs, ht⟩⟩ := h
  · exact ⟨none, 0, by rw [h2], hl, hm, .inl h2⟩
  · refine ⟨some ⟨g, 0, none⟩, cap, rfl, hl, hm, .inr ⟨g, 0, rfl, (h0.lt g rfl).2, fun i hi => ?_⟩⟩
    obtain ⟨ai, li, ci, q1, q2⟩ := hr i hi
    refine ⟨ai, li, ci, ?_, q2⟩
    have := World.ownsRow.cellAt h0 i (by omega)
    rw [Nat.zero_add, this]
    exact q1
/-- What a walk is told of parts that came in. -/
def PArg (w : World) (a : Option Addr) (len cap : Nat) (ps : List (List Nat)) (vs : List Value) : Prop :=
  Parts w a len ps ∧ vs.length = len ∧ (∀ i, i < len → ∃ ai li ci, vs[i]? = some (.slice ai li ci) ∧ Row w ai li (ps.getD i [])) ∧ (a = none → len = 0 ∧ cap = 0) ∧
  (∀ ad, a = some ad → ∀ (j : Nat) (u : Value), vs[j]? = some u → w.cell? (ad.add j) = some u) ∧ len ≤ cap
theorem parg_nil (w : World) : PArg w none 0 0 [] [] :=
  ⟨Parts.nil w none, rfl, fun i hi => absurd hi (Nat.not_lt_zero i), fun _ => ⟨rfl, rfl⟩, (fun ad h => by cases h), Nat.le_refl _⟩
theorem parg_of {w : World} {a : Addr} {len cap : Nat} {A : Nat → Option Addr} {L C : Nat → Nat} {Z : Nat → List Int} (hl : len ≤ cap) (hm : cap ≤ maxLen)
    (h : ∀ r, r < cap → w.cell? (a.add r) = some (.slice (A r) (L r) (C r)) ∧ L r ≤ C r ∧ C r ≤ maxLen ∧ (Z r).length = C r ∧ (∀ n ∈ Z r, (Lit.int .u8 n).wf = true) ∧ (A r = none → C r = 0) ∧
        ∀ a', A r = some a' → 0 ≤ a'.block ∧ ∀ c, c < C r → w.cell? (a'.add c) = some (.int .u8 ((Z r).getD c 0))) :
    ∃ ps vs, PArg w (some a) len cap ps vs := by
  have hrow : ∀ r, r < len → ∃ xs, Row w (A r) (L r) xs := by
    intro r hr
    obtain ⟨-, q2, q3, q4, q5, q6, q7⟩ := h r (by omega)
    have : IsRow .u8 w (A r) (L r) (C r) (Z r) := by
      cases hA : A r with
      | none =>
        have hc := q6 hA
        exact .inl ⟨rfl, by omega, hc, List.eq_nil_of_length_eq_zero (by omega)⟩
      | some a' => exact .inr ⟨a', rfl, q2, q3, q4, fun i hi => (q7 a' hA).2 i (by omega), q5⟩
    obtain ⟨xs, hx⟩ := arg_of this
    exact ⟨xs, hx.1⟩
  obtain ⟨X, hX⟩ := Deep.choose_lt hrow
  refine ⟨(List.range len).map X, (List.range len).map fun r => .slice (A r) (L r) (C r), ?_⟩
  have hg : ∀ i, i < len → ((List.range len).map X).getD i [] = X i := by intro i hi; simp [List.getD, hi]
  have hcell : ∀ i, i < len → w.cell? (a.add i) = some (.slice (A i) (L i) (C i)) := fun i hi => (h i (by omega)).1
  refine ⟨⟨by simp, Nat.le_trans hl hm, ?_⟩, by simp, fun i hi => ⟨A i, L i, C i, by simp [hi], by rw [hg i hi]; exact hX i hi⟩, (fun h => by cases h), ?_, hl⟩
  · by_cases h0 : len = 0
    · exact .inl h0
    · obtain ⟨b, off, spot⟩ := a
      have c0 := hcell 0 (by omega)
      have hspot : spot = none := by simpa [Addr.add] using World.cell?_spot c0
      subst hspot
      refine .inr ⟨b, off, rfl, ?_, fun i hi => ⟨A i, L i, C i, ?_, by rw [hg i hi]; exact hX i hi⟩⟩
      · simpa [Addr.add] using World.block_lt_of_cell? w _ c0
      · have := hcell i hi
        have hp : (⟨b, off, none⟩ : Addr).add i = ⟨b, off + i, none⟩ := by unfold Addr.add; split <;> simp_all
        rw [hp] at this
        exact this
  · intro ad had j u hj
    cases had
    have hjl : j < len := by have := (List.getElem?_eq_some_iff.1 hj).1; simpa using this
    rw [hcell j hjl]
    rw [List.getElem?_map, List.getElem?_range hjl] at hj
    simpa using hj
end Go.Proofs.YtlfcgdcahfcanaaDoor
