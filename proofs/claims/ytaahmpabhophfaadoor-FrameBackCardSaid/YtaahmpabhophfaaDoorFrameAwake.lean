/-
  The law's 'awake' returns true.
-/
import Derived.Test.YtaahmpabhophfaaDoorFrameArgs
import Derived.Test.YtaahmpabhophfaaDoorFrameRScan
import Derived.Lib.SlBytesConst
import Derived.ArgAppend
namespace Go.Proofs.YtaahmpabhophfaaDoor
open Go.ChangeShapes Go.WideShapes Go.ChangeAt Go.RowKit
set_option linter.unusedVariables false
set_option linter.unusedSimpArgs false
theorem conv_const (w : World) (C : Array Value) (n c g : Nat) (hg : g = w.heap.size) :
    Sem.run Tryd.prog (convert 22 22 (Value.slice (some ⟨g, 0, none⟩) n c)) (w.alloc (.cells C 5)) = .ok (.slice (some ⟨g, 0, none⟩) n c) (w.alloc (.cells C 5 (C.size, C.size + 1))) := by
  subst hg
  exact Lib.run_convert_bytes_const w 22 5 C n c Tryd.underlying22 Tryd.underlying5
theorem row_const (w : World) (l : List Nat) (fr : Nat × Nat) : RowL .u8 (w.alloc (.cells (encL .u8 l) 5 fr)) (some ⟨w.heap.size, 0, none⟩) l.length l := by
  refine ⟨rfl, .inr ⟨w.heap.size, 0, rfl, by simp, fun i hi => ?_⟩⟩
  have hg : (w.alloc (.cells (encL .u8 l) 5 fr)).heap[w.heap.size]? = some (.cells (encL .u8 l) 5 fr) := heap_alloc_last w _
  rw [cell_of_row _ _ (0 + i) _ _ _ hg, Nat.zero_add, encL_get .u8 l i hi]
theorem RowL.head {k : IntKind} {w : World} {a : Option Addr} {n m : Nat} {xs ys : List Nat} (h : RowL k w a m ys) (hn : xs.length = n) (hy : ∃ zs, ys = xs ++ zs) : RowL k w a n xs := by
  obtain ⟨zs, rfl⟩ := hy
  have hl := h.1
  rw [List.length_append] at hl
  refine ⟨hn, ?_⟩
  rcases h.2 with h0 | ⟨b, off, ha, hlt, hc⟩
  · exact .inl (by omega)
  · refine .inr ⟨b, off, ha, hlt, fun i hi => ?_⟩
    rw [hc i (by omega)]
    congr 3
    have : i < xs.length := by omega
    simp [List.getD, List.getElem?_append_left this]
/-- One number appended: what the old slice has stays as it was. -/
theorem append_keep (w : World) {ops : Array Oper} {rest : List Oper} {o : Oper} {a : Act} {Q : Exit → Act → World → Prop} (hgd : o.guard = none) (sl x : Operand)
    (ho : o.op = .call { callee := .builtin .append, args := #[sl, x], argTypes := #[22, 22] })
    (base : Nat) (ab : Option Addr) (n cb : Nat) (xs : List Nat) (hs : a.eval sl = .slice ab n cb) (hown : OwnL 5 .u8 w base (.slice ab n cb) xs) (hn : n = xs.length) (c : Nat) (C : Value) (hC : C = encV .u8 c) (N : Nat) (hx : a.eval x = .slice (some ⟨N, 0, none⟩) 1 1) (hN : N = w.heap.size)
    (hl : xs.length + 1 ≤ 1048576) (hb : base ≤ w.heap.size)
    (h : ∀ v' w', OwnL 5 .u8 w' base v' (xs ++ [c]) → RowL .u8 w' ab n xs → Below base w w' → wpList Tryd.prog ops Q rest (a.put o.dst v') w') :
    wpList Tryd.prog ops Q (o :: rest) a (w.alloc (.cells #[C] 5)) := by
  subst hN hC hn
  obtain ⟨i0, hi, hz0, hz1, hz2⟩ := info_parts info_byte
  have hrow0 : RowL .u8 (w.alloc (.cells #[encV .u8 c] 5)) ab xs.length xs := by
    obtain ⟨a1, c1, e1, hr, -⟩ := OwnL.row hown
    cases e1
    exact hr.below (below_new w _)
  have hown1 : OwnL 5 .u8 (w.alloc (.cells #[encV .u8 c] 5)) base (.slice ab xs.length cb) xs := hown.alloc _
  have key : ∀ ty, ∃ v' w', (Builtin.append_ #[22, 22] ty #[.slice ab xs.length cb, .slice (some ⟨w.heap.size, 0, none⟩) 1 1]).run Tryd.prog (w.alloc (.cells #[encV .u8 c] 5)) = .ok v' w' ∧
      OwnL 5 .u8 w' base v' (xs ++ [c]) ∧ RowL .u8 w' ab xs.length xs ∧ Below base w w' := by
    intro ty
    have hnews : ∀ (j : Nat) (u : Value), [encV .u8 c][j]? = some u → (w.alloc (.cells #[encV .u8 c] 5)).cell? ((⟨w.heap.size, 0, none⟩ : Addr).add j) = some u := by
      intro j u hj; match j, hj with | 0, hj => simp at hj; subst hj; simp [Addr.add, go_sem]
    have hone : ∀ u ∈ [encV .u8 c], u.oneCell' = true := by intro u hu; simp at hu; subst hu; rfl
    have h0 := hown1
    obtain ⟨hxl, ⟨hv, hz⟩ | ⟨g, cap, cur, hv, hbg, hg, hnc, hcm, hcs, htake⟩⟩ := hown1
    · obtain ⟨v', w', hr, h1, h2, h3⟩ := run_append_own (P := Tryd.prog) (w.alloc (.cells #[encV .u8 c] 5)) base 22 ty 5 i0 (.int .u8 0) 1 1 Tryd.underlying22 hi hz0 hz1 hz2 rfl (by decide) (.slice ab xs.length cb) xs.length (xs.map (encV .u8)) h0 ⟨w.heap.size, 0, none⟩ 1 1 [encV .u8 c] rfl hnews hone (by unfold maxLen; omega) (by omega) (by simp; omega)
      have hOW : OwnL 5 .u8 w' base v' (xs ++ [c]) := by unfold OwnL; simpa using h1
      exact ⟨v', w', hr, hOW, ⟨rfl, .inl hz⟩, Below.grown (w := w.alloc (.cells #[encV .u8 c] 5)) ((Below.refl _ _).alloc hb _) h2 (by simp; omega) (fun j hj => (hown.lt j hj).1)⟩
    · injection hv with e1 e2 e3
      subst e1 e3
      by_cases hroom : xs.length + 1 ≤ cb
      · obtain ⟨w', hr, r1, r2⟩ := run_append_fits (P := Tryd.prog) (w.alloc (.cells #[encV .u8 c] 5)) base 22 ty 5 i0 1 Tryd.underlying22 hi hz1 g xs.length cb (xs.map (encV .u8)) h0 ⟨w.heap.size, 0, none⟩ 1 1 [encV .u8 c] rfl hnews hone hroom
        have hOW : OwnL 5 .u8 w' base (.slice (some ⟨g, 0, none⟩) (xs.length + 1) cb) (xs ++ [c]) := by unfold OwnL; simpa using r1
        refine ⟨_, w', hr, hOW, ?_, Below.grown (w := w.alloc (.cells #[encV .u8 c] 5)) ((Below.refl _ _).alloc hb _) r2 (by simp; omega) (fun j hj => (hown.lt j hj).1)⟩
        obtain ⟨a1, c1, ev, hrr, -⟩ := OwnL.row hOW
        injection ev with e1 e2 e3
        subst e1
        exact hrr.head rfl ⟨[c], rfl⟩
      · obtain ⟨v', w', hr, r1, r2⟩ := run_append_arg_grows (P := Tryd.prog) (w.alloc (.cells #[encV .u8 c] 5)) 22 ty 5 i0 (.int .u8 0) 1 1 Tryd.underlying22 hi hz0 hz1 hz2 rfl (by decide) ⟨g, 0, none⟩ xs.length cb (xs.map (encV .u8)) (by simp) (World.ownsRow.cells h0 (g := g) rfl) ⟨w.heap.size, 0, none⟩ 1 1 [encV .u8 c] rfl hnews (by omega) (by unfold maxLen; omega) (by omega)
        have hOW : OwnL 5 .u8 w' (w.alloc (.cells #[encV .u8 c] 5)).heap.size v' (xs ++ [c]) := by unfold OwnL; simpa using r1
        have hBB : Below (w.alloc (.cells #[encV .u8 c] 5)).heap.size (w.alloc (.cells #[encV .u8 c] 5)) w' := Below.grown (Below.refl _ _) r2 (Nat.le_refl _) (fun j hj => by cases hj)
        exact ⟨v', w', hr, own_mono hOW (by simp; omega), hrow0.below hBB, ((Below.refl _ _).alloc hb _).trans (hBB.mono (by simp; omega))⟩
  obtain ⟨v', w', hr, h1, h2, h3⟩ := key o.type
  exact Lib.wpList_append_run _ hgd sl x 22 22 ho _ _ hs hx v' w' hr (h v' w' h1 h2 h3)
/-- Slices of bytes in memory, and texts in memory, as what can be read of them. -/
def RowB (w : World) (a : Option Addr) (bs : List (List Nat)) : Prop :=
  bs.length = 0 ∨ ∃ g, a = some ⟨g, 0, none⟩ ∧ g < w.heap.size ∧ ∀ i, i < bs.length → ∃ ai ci, w.cell? ⟨g, i, none⟩ = some (.slice ai (bs.getD i []).length ci) ∧ RowL .u8 w ai (bs.getD i []).length (bs.getD i []) ∧ (ai = none → (bs.getD i []).length = 0)
def RowX (w : World) (a : Option Addr) (bs : List (List Nat)) : Prop :=
  bs.length = 0 ∨ ∃ g, a = some ⟨g, 0, none⟩ ∧ g < w.heap.size ∧ ∀ i, i < bs.length → w.cell? ⟨g, i, none⟩ = some (.string (strN (bs.getD i [])))
theorem RowB.below {w w' : World} {a : Option Addr} {bs : List (List Nat)} (h : RowB w a bs) (hb : Below w.heap.size w w') : RowB w' a bs := by
  rcases h with h | ⟨g, ha, hlt, hc⟩
  · exact .inl h
  · refine .inr ⟨g, ha, Nat.lt_of_lt_of_le hlt hb.size, fun i hi => ?_⟩
    obtain ⟨ai, ci, h1, h2, h3⟩ := hc i hi
    exact ⟨ai, ci, (hb.cell (p := ⟨g, i, none⟩) hlt).trans h1, h2.below hb, h3⟩
theorem RowX.below {w w' : World} {a : Option Addr} {bs : List (List Nat)} (h : RowX w a bs) (hb : Below w.heap.size w w') : RowX w' a bs := by
  rcases h with h | ⟨g, ha, hlt, hc⟩
  · exact .inl h
  · exact .inr ⟨g, ha, Nat.lt_of_lt_of_le hlt hb.size, fun i hi => (hb.cell (p := ⟨g, i, none⟩) hlt).trans (hc i hi)⟩
theorem OwnB.rows {w : World} {base : Nat} {v : Value} {bs : List (List Nat)} (h : OwnB w base v bs) : ∃ a cap, v = .slice a bs.length cap ∧ RowB w a bs ∧ bs.length ≤ cap ∧ cap ≤ maxLen := by
  obtain ⟨vs, hvl, hov, hit⟩ := h
  have h0 := hov
  obtain ⟨h1, ⟨rfl, h2⟩ | ⟨g, cap, cur, rfl, hg, hbk, hn, hmm, hs, ht⟩⟩ := hov
  · exact ⟨none, 0, by rw [← hvl, h2], .inl (by omega), by omega, Nat.zero_le _⟩
  · refine ⟨some ⟨g, 0, none⟩, cap, by rw [hvl], .inr ⟨g, rfl, (h0.lt g rfl).2, fun i hi => ?_⟩, by omega, hmm⟩
    have hc := World.ownsRow.cellAt h0 i (by omega)
    obtain ⟨ai, ci, hv, hr, -, hat⟩ := OwnL.row (hit i hi)
    have hz := (hit i hi)
    refine ⟨ai, ci, ?_, hr, ?_⟩
    · rw [hc]
      have : vs[i]? = some (vs.getD i undef) := by simp [List.getD, show i < vs.length by omega]
      rw [this, hv]
    · intro hn'
      subst hn'
      rcases hr.2 with h | ⟨b, off, e, -⟩
      · exact h
      · cases e
theorem OwnX.rows {w : World} {base : Nat} {v : Value} {bs : List (List Nat)} (h : OwnX w base v bs) : ∃ a cap, v = .slice a bs.length cap ∧ RowX w a bs := by
  have h0 := h
  obtain ⟨h1, ⟨rfl, h2⟩ | ⟨g, cap, cur, rfl, hg, hbk, hn, hmm, hs, ht⟩⟩ := h
  · exact ⟨none, 0, by rw [h2], .inl h2⟩
  · refine ⟨some ⟨g, 0, none⟩, cap, rfl, .inr ⟨g, rfl, (h0.lt g rfl).2, fun i hi => ?_⟩⟩
    have hc := World.ownsRow.cellAt h0 i (by omega)
    rw [hc]
    simp [encS, List.getD, hi]
def nine : List Nat := [49, 50, 51, 52, 53, 54, 55, 56, 57]
def frame9 : List Nat := [0, 0, 0, 9, 227, 6, 146, 131, 49, 50, 51, 52, 53, 54, 55, 56, 57]
theorem put9 : putN nine = (frame9, 0) := by decide +kernel
theorem frame9_is : frN crcN nine = frame9 := by decide +kernel
theorem first9 : firstN crcN (frame9 ++ [5]) = (nine, 17, 0) := by
  have := first_put crcN nine [5] (by decide)
  rw [frame9_is] at this
  exact this
theorem scan9 : scanN crcN 35 (frame9 ++ frame9) = ([nine, nine], 34) := by
  have := scan_frames crcN [nine, nine] [] (by intro b hb; simp at hb; subst hb; decide) (by decide) 35 (by rw [show ([nine, nine].map (frN crcN)).flatten = frN crcN nine ++ (frN crcN nine ++ []) from rfl, frame9_is]; decide)
  rw [show ([nine, nine].map (frN crcN)).flatten = frN crcN nine ++ (frN crcN nine ++ []) from rfl, frame9_is, List.append_nil, List.append_nil] at this
  exact this
theorem awake_true (w : World) (hT : HalfTab w) : Calls Tryd.prog 12 #[] w fun e w' => e = .returned (.bool true) ∧ Below w.heap.size w w' := by
  have HT : Hid (HalfTab w) := hT
  have HRC : Hid (BytL (w.alloc (.cells (encL .u8 nine) 5 (9, 10))) (some ⟨w.heap.size, 0, none⟩) 9 9 nine) :=
    ⟨row_const w nine (9, 10), (fun h => by cases h), by decide, Nat.le_refl _, by decide⟩
  have HB0 : Hid (Below w.heap.size w (w.alloc (.cells (encL .u8 nine) 5 (9, 10)))) := below_new w _
  clear hT
  go_enter Tryd.func12, Tryd.ntmps12
  go_wp2_with fail
  rw [conv_const w #[.int .u8 49, .int .u8 50, .int .u8 51, .int .u8 52, .int .u8 53, .int .u8 54, .int .u8 55, .int .u8 56, .int .u8 57] 9 9 w.heap.size rfl]
  show Oper.upon _ _ _ _ _ ((Result.ok _ (w.alloc (.cells (encL .u8 nine) 5 (9, 10)))).andThen _)
  generalize hw3 : w.alloc (.cells (encL .u8 nine) 5 (9, 10)) = w0 at *
  clear hw3
  go_wp2_with fail
  refine Calls.mono (put_any (some ⟨w.heap.size, 0, none⟩) 9 9 nine w0 HRC.out (HT.out.below HB0.out)) ?_
  rw [put9]
  rintro e w1 ⟨v, rfl, hown, hb1⟩
  obtain ⟨a1, c1, rfl, hB1, hat1⟩ := hown.byt (by decide)
  obtain ⟨b1, o1, rfl, hlt1, -⟩ := hB1.1.at 0 (by decide)
  have HO1 : Hid (OwnL 5 .u8 w1 w.heap.size (.slice (some ⟨b1, o1, none⟩) 17 c1) frame9 ∧ Below w.heap.size w w1) := ⟨own_mono hown HB0.out.size, HB0.out.trans (hb1.mono HB0.out.size)⟩
  have hsz1 := HO1.out.2.size
  clear hown hb1 hB1 hat1 hlt1 HB0 HRC
  rw [show frame9.length = 17 from rfl]
  go_wp2_with (at_builtin; (refine append_keep w1 rfl _ _ rfl w.heap.size (some ⟨b1, o1, none⟩) 17 c1 frame9 rfl HO1.out.1 rfl 5 _ rfl w1.heap.size rfl rfl (by decide) hsz1 ?_; intro v2 w2 hown2 hrow2 hb2))
  obtain ⟨a2, c2, rfl, hB2, -⟩ := hown2.byt (by decide)
  have HB2 : Hid (Below w.heap.size w w2) := HO1.out.2.trans hb2
  have HROW2 : Hid (RowL .u8 w2 (some ⟨b1, o1, none⟩) 17 frame9) := hrow2
  have HBY2 : Hid (BytL w2 a2 18 c2 (frame9 ++ [5])) := hB2
  clear hown2 hrow2 hb2 hB2 hsz1 HO1
  rw [show (frame9 ++ [5] : List Nat).length = 18 from rfl]
  refine Calls.mono (first_any a2 18 c2 (frame9 ++ [5]) w2 HBY2.out (HT.out.below HB2.out)) ?_
  rw [first9]
  rintro e w3 ⟨v3, rfl, hown3, hb3⟩
  obtain ⟨a3, c3, rfl, hB3, -⟩ := hown3.byt (by decide)
  have HB3 : Hid (Below w.heap.size w w3) := HB2.out.trans (hb3.mono HB2.out.size)
  have HROW3 : Hid (RowL .u8 w3 (some ⟨b1, o1, none⟩) 17 frame9) := HROW2.out.below hb3
  have HBY3 : Hid (BytL w3 a3 9 c3 nine) := hB3
  have hsz3 := HB3.out.size
  clear hown3 hb3 hB3 HB2 HROW2 HBY2
  rw [show nine.length = 9 from rfl]
  have HE : Hid (OwnL 5 .u8 (w3.alloc (.cells #[] 5)) w3.heap.size (.slice (some ⟨w3.heap.size, 0, none⟩) 0 0) []) := OwnL.empty _ _ w3 w3.heap.size (Nat.le_refl _)
  have hE3 : w3.heap.size ≤ (w3.alloc (.cells #[] 5)).heap.size := by simp
  have HR4 : Hid (RowL .u8 (w3.alloc (.cells #[] 5)) (some ⟨b1, o1, none⟩) 17 frame9) := HROW3.out.below (below_new w3 _)
  go_wp2_with (at_builtin; first
    | (refine append_nums byteT _ rfl _ _ rfl w3.heap.size (.slice (some ⟨w3.heap.size, 0, none⟩) 0 0) [] frame9 rfl HE.out (some ⟨b1, o1, none⟩) 17 c1 rfl HR4.out (fun h => by cases h) (by decide) (by decide) hE3 ?_; intro v5 w5 hown5 hb5)
    | (refine append_nums byteT w5 rfl _ _ rfl w3.heap.size v5 frame9 frame9 rfl hown5 (some ⟨b1, o1, none⟩) 17 c1 rfl (HROW3.out.below ((below_new w3 _).trans hb5)) (fun h => by cases h) (by decide) (by decide) (Nat.le_trans hE3 hb5.size) ?_; intro v6 w6 hown6 hb6))
  obtain ⟨a6, c6, rfl, hB6, -⟩ := hown6.byt (by decide)
  have hb36 : Below w3.heap.size w3 w6 := ((below_new w3 _).trans hb5).trans hb6
  have HB6 : Hid (Below w.heap.size w w6) := HB3.out.trans (hb36.mono hsz3)
  have HROW6 : Hid (RowL .u8 w6 (some ⟨b1, o1, none⟩) 17 frame9) := HROW3.out.below hb36
  have HBY36 : Hid (BytL w6 a3 9 c3 nine) := HBY3.out.below hb36
  have HBY6 : Hid (BytL w6 a6 34 c6 (frame9 ++ frame9)) := hB6
  clear hown5 hown6 hb5 hb6 hB6 hb36 HB3 HROW3 HBY3 HE HR4 hE3 hsz3
  rw [show (frame9 ++ frame9 : List Nat).length = 34 from rfl]
  have HS : Hid (scanN crcN (34 + 1) (frame9 ++ frame9) = ([nine, nine], 34)) := scan9
  have HSC : Hid _ := scan_any a6 34 c6 (frame9 ++ frame9) w6 HBY6.out (HT.out.below HB6.out) (by rw [HS.out]; decide)
  rw [HS.out] at HSC
  refine Calls.mono HSC.out ?_
  rintro e w7 ⟨v7, rfl, hown7, hb7⟩
  obtain ⟨a7, c7, rfl, -, -⟩ := hown7.rows
  rw [show ([nine, nine] : List (List Nat)).length = 2 from rfl]
  have HB7 : Hid (Below w.heap.size w w7) := HB6.out.trans (hb7.mono HB6.out.size)
  obtain ⟨b', o', e, -, hc⟩ := (HROW6.out.below hb7).at 0 (by decide)
  cases e
  have k3 : w7.cell? ⟨b1, o1 + 3, none⟩ = some (.int .u8 9) := hc 3 (by decide)
  have k4 : w7.cell? ⟨b1, o1 + 4, none⟩ = some (.int .u8 227) := hc 4 (by decide)
  have hcv := conv_any (HBY36.out.1.below hb7) (fun h => (HBY36.out.2.1 h).1) c3
  have hsm : (strN nine).toList = [49, 50, 51, 52, 53, 54, 55, 56, 57] := by decide +kernel
  clear hown7 hb7 HB6 HROW6 HBY36 HBY6 HS HSC hc
  generalize strN nine = t at *
  go_wp2
  go_ret
  exact ⟨rfl, HB7.out⟩
end Go.Proofs.YtaahmpabhophfaaDoor
