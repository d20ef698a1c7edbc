/-
  Write of a Hash: more bytes behind the text.
-/
import Derived.Test.YtmaaakcfbekboaaDoorShaHash
namespace Go.Proofs.YtmaaakcfbekboaaDoor
open Go.ChangeShapes Go.WideShapes Go.ChangeAt Go.RowKit
set_option linter.unusedVariables false
set_option linter.unusedSimpArgs false
/-- The ten cells of a Hash. -/
def HCells (w : World) (p : Nat) (M : List Nat) (sl : Value) (ln : Nat) : Prop :=
  (p < w.heap.size) ∧
  (∀ j, j < 8 → w.cell? ⟨p, j, none⟩ = some (.int .u32 (M.getD j 0 : Nat))) ∧
  (w.cell? ⟨p, 8, none⟩ = some sl) ∧
  (w.cell? ⟨p, 9, none⟩ = some (.int .i64 (ln : Nat))) ∧
  (∀ j, j < 10 → w.frozen? ⟨p, j, none⟩ = false)
theorem HCells.lt {w : World} {p : Nat} {M : List Nat} {sl : Value} {ln : Nat} (h : HCells w p M sl ln) : p < w.heap.size := h.1
theorem HCells.words {w : World} {p : Nat} {M : List Nat} {sl : Value} {ln : Nat} (h : HCells w p M sl ln) : ∀ j, j < 8 → w.cell? ⟨p, j, none⟩ = some (.int .u32 (M.getD j 0 : Nat)) := h.2.1
theorem HCells.rest {w : World} {p : Nat} {M : List Nat} {sl : Value} {ln : Nat} (h : HCells w p M sl ln) : w.cell? ⟨p, 8, none⟩ = some sl := h.2.2.1
theorem HCells.len {w : World} {p : Nat} {M : List Nat} {sl : Value} {ln : Nat} (h : HCells w p M sl ln) : w.cell? ⟨p, 9, none⟩ = some (.int .i64 (ln : Nat)) := h.2.2.2.1
theorem HCells.free {w : World} {p : Nat} {M : List Nat} {sl : Value} {ln : Nat} (h : HCells w p M sl ln) : ∀ j, j < 10 → w.frozen? ⟨p, j, none⟩ = false := h.2.2.2.2
theorem HCells.below {w w' : World} {p : Nat} {M : List Nat} {sl : Value} {ln : Nat} (h : HCells w p M sl ln) (hb : Below w.heap.size w w') : HCells w' p M sl ln := by
  have hc : ∀ j, w'.cell? ⟨p, j, none⟩ = w.cell? ⟨p, j, none⟩ := fun j => hb.cell (p := ⟨p, j, none⟩) h.lt
  exact ⟨Nat.lt_of_lt_of_le h.lt hb.size, fun j hj => (hc j).trans (h.words j hj), (hc 8).trans h.rest, (hc 9).trans h.len, fun j hj => (hb.frozen (p := ⟨p, j, none⟩) h.lt).trans (h.free j hj)⟩
theorem setCells_size (b : Nat) : ∀ (vs : List Value) (o : Nat) (w : World), (w.setCells b o vs).heap.size = w.heap.size
  | [], _, _ => rfl
  | v :: vs, o, w => by rw [World.setCells, setCells_size b vs]; simp [World.setCell]
theorem HCells.setWords {w : World} {p : Nat} {M : List Nat} {sl : Value} {ln : Nat} (h : HCells w p M sl ln) (M2 : List Nat) (hl : M2.length = 8) :
    (storeVar 48 ⟨p, 0, none⟩ (.agg (encL .u32 M2))).run Tryd.prog w = .ok () (w.setCells p 0 (encL .u32 M2).toList) ∧ HCells (w.setCells p 0 (encL .u32 M2).toList) p M2 sl ln := by
  have hs : (encL .u32 M2).toList.length = 8 := by rw [Array.length_toList, encL_size, hl]
  constructor
  · refine run_storeVar_mid w p 0 48 _ (fun j hj => ?_) (by rw [encL_size, hl]; exact wordsT.1) (encL_one _ _)
    rw [encL_size, hl] at hj
    rw [Nat.zero_add, h.words j hj]
    exact ⟨rfl, h.free j (by omega)⟩
  · refine ⟨by rw [setCells_size]; exact h.lt, fun j hj => ?_, ?_, ?_, fun j hj => by rw [World.frozen?_setCells]; exact h.free j hj⟩
    · have := World.cell?_setCells_in p (encL .u32 M2).toList 0 w (fun j hj => by rw [hs] at hj; rw [Nat.zero_add, h.words j hj]; rfl) j (by rw [hs]; exact hj)
      rw [Nat.zero_add] at this
      rw [this, Array.getElem_toList]
      have hg := encL_get .u32 M2 j (by omega)
      rw [Array.getElem?_eq_some_iff] at hg
      obtain ⟨_, hg⟩ := hg
      rw [hg]
    · rw [World.cell?_setCells_out p _ 0 w _ (fun _ _ => .inr (by rw [hs]; show 0 + 8 ≤ 8; omega))]; exact h.rest
    · rw [World.cell?_setCells_out p _ 0 w _ (fun _ _ => .inr (by rw [hs]; show 0 + 8 ≤ 9; omega))]; exact h.len
theorem HCells.setRest {w : World} {p : Nat} {M : List Nat} {sl : Value} {ln : Nat} (h : HCells w p M sl ln) (v : Value) : HCells (w.setCell ⟨p, 8, none⟩ v) p M v ln := by
  refine ⟨by simp [World.setCell]; exact h.lt, fun j hj => ?_, World.cell?_setCell_same _ _ _ h.rest, ?_, fun j hj => by rw [World.frozen?_setCell]; exact h.free j hj⟩
  · rw [World.cell?_setCell_other _ _ _ _ (fun e => by injection e with _ e; omega)]; exact h.words j hj
  · rw [World.cell?_setCell_other _ _ _ _ (fun e => by injection e with _ e; omega)]; exact h.len
theorem HCells.setLen {w : World} {p : Nat} {M : List Nat} {sl : Value} {ln : Nat} (h : HCells w p M sl ln) (n : Nat) : HCells (w.setCell ⟨p, 9, none⟩ (.int .i64 (n : Nat))) p M sl n := by
  refine ⟨by simp [World.setCell]; exact h.lt, fun j hj => ?_, ?_, World.cell?_setCell_same _ _ _ h.len, fun j hj => by rw [World.frozen?_setCell]; exact h.free j hj⟩
  · rw [World.cell?_setCell_other _ _ _ _ (fun e => by injection e with _ e; omega)]; exact h.words j hj
  · rw [World.cell?_setCell_other _ _ _ _ (fun e => by injection e with _ e; omega)]; exact h.rest
theorem HashAt.cells {w : World} {p lo : Nat} {t m : List Nat} {a : Option Addr} {c : Nat} (h : HashAt w p lo t m a c) : HCells w p m (.slice a (rsN t).length c) t.length := ⟨h.lt, h.words, h.rest, h.len, h.free⟩
theorem bytes_append {t ys : List Nat} (ht : ∀ j, t.getD j 0 < 256) (hy : ∀ j, ys.getD j 0 < 256) : ∀ j, (t ++ ys).getD j 0 < 256 := by
  intro j
  by_cases hj : j < t.length
  · rw [List.getD_eq_getElem?_getD, List.getElem?_append_left hj, ← List.getD_eq_getElem?_getD]; exact ht j
  · rw [List.getD_eq_getElem?_getD, List.getElem?_append_right (by omega), ← List.getD_eq_getElem?_getD]; exact hy _
theorem bytes_rest {t : List Nat} (ht : ∀ j, t.getD j 0 < 256) : ∀ j, (rsN t).getD j 0 < 256 := by
  intro j
  unfold rsN
  rw [getD_drop]
  exact ht _
theorem RowL.aside {k : IntKind} {w w' : World} {a : Option Addr} {len p : Nat} {xs : List Nat} (h : RowL k w a len xs) (hb : Aside p w w') (hne : len = 0 ∨ ∃ b o, a = some ⟨b, o, none⟩ ∧ b ≠ p) : RowL k w' a len xs := by
  refine ⟨h.1, ?_⟩
  rcases h.2 with h0 | ⟨b, off, ha, hlt, hcs⟩
  · exact .inl h0
  · rcases hne with h0 | ⟨b', o', ha', hb'⟩
    · exact .inl h0
    · rw [ha] at ha'
      cases ha'
      exact .inr ⟨b, off, ha, Nat.lt_of_lt_of_le hlt hb.size, fun i hi => (hb.cell (q := ⟨b, off + i, none⟩) hlt hb').trans (hcs i hi)⟩
/-- Bytes in memory are no words: words that are written leave them. -/
theorem RowL.overWords {w : World} {a : Option Addr} {n p : Nat} {xs M : List Nat} {sl : Value} {ln : Nat} (h : RowL .u8 w a n xs) (hc : HCells w p M sl ln) (vs : List Value) (hv : vs.length = 8) : RowL .u8 (w.setCells p 0 vs) a n xs := by
  refine ⟨h.1, ?_⟩
  rcases h.2 with h0 | ⟨b, off, ha, hlt, hcs⟩
  · exact .inl h0
  · refine .inr ⟨b, off, ha, by rw [setCells_size]; exact hlt, fun i hi => ?_⟩
    rw [World.cell?_setCells_out p vs 0 w _ ?_]
    · exact hcs i hi
    · intro hb _
      right
      rw [hv]
      show 0 + 8 ≤ off + i
      by_cases h8 : off + i < 8
      · exfalso
        have h1 := hcs i hi
        have h2 := hc.words (off + i) h8
        have hb' : b = p := hb
        rw [hb', h2] at h1
        simp at h1
      · omega
set_option maxRecDepth 100000 in
set_option maxHeartbeats 8000000 in
theorem write_any (w : World) (p lo : Nat) (t : List Nat) (h : Hash w p lo t) (hT : Tab w) (hp : 0 < p) (hlo : lo ≤ w.heap.size) (a : Option Addr) (l c : Nat) (ys : List Nat) (hy : RowL .u8 w a l ys) (by' : ∀ j, ys.getD j 0 < 256) (hny : a = none → l = 0 ∧ c = 0) (hb : l ≤ 140737488355000) (htl : t.length + l ≤ 4611686018427387904) :
    Calls Tryd.prog 14 #[.pointer (some ⟨p, 0, none⟩), .slice a l c] w fun e w' => e = .returned (.tuple #[]) ∧ Hash w' p lo (t ++ ys) ∧ Aside p w w' := by
  have HH : Hid (Hash w p lo t) := h
  have HT : Hid (Tab w) := hT
  have HY : Hid (RowL .u8 w a l ys ∧ (∀ j, ys.getD j 0 < 256) ∧ (a = none → l = 0 ∧ c = 0)) := ⟨hy, by', hny⟩
  clear h hT hy by' hny
  go_enter Tryd.func14, Tryd.ntmps14
  go_wp2_with fail
  obtain ⟨F, hF⟩ : ∃ F, F = rsN t ++ ys := ⟨_, rfl⟩
  obtain ⟨n2, hn2⟩ : ∃ n, n = F.length := ⟨_, rfl⟩
  obtain ⟨S, hS⟩ : ∃ S, S = stN t := ⟨_, rfl⟩
  have HF : Hid (F = rsN t ++ ys) := hF
  have HN2 : Hid (n2 = F.length) := hn2
  have HS : Hid (S = stN t) := hS
  refine (sofar_any w p lo t HH.out (by omega)).mono ?_
  rintro e w1 ⟨rfl, hb1⟩
  have HH1 : Hid (Hash w1 p lo t) := HH.out.below hb1
  have HT1 : Hid (Tab w1) := HT.out.below hb1 HT.out.1
  have HE1 : Hid (Below w.heap.size w w1) := hb1
  have HFOL : Hid _ := followed_any w1 p lo t HH1.out a l c ys (HY.out.1.below hb1) HY.out.2.2 hb
  rw [← hF, ← hn2] at HFOL
  rw [← hS]
  clear hb1 hF hn2 hS
  go_wp2_with fail
  refine Calls.mono HFOL.out ?_
  rintro e w2 ⟨a2, c2, rfl, hb2, hrow2, hnil2, hcap2, hcm2, -⟩
  have HH2 : Hid (Hash w2 p lo t) := HH1.out.below hb2
  have HT2 : Hid (Tab w2) := HT1.out.below hb2 HT1.out.1
  have HE2 : Hid (Below w.heap.size w w2) := HE1.out.trans (hb2.mono HE1.out.size)
  have HBR : Hid (∀ j, F.getD j 0 < 256) := by
    obtain ⟨_, _, _, hh⟩ := HH.out
    rw [HF.out]
    exact bytes_append (bytes_rest hh.bytes) HY.out.2.1
  have HMIX : Hid _ := mixAll_any S a2 n2 c2 F w2 HT2.out (by rw [HS.out]; exact stN_length t) (by rw [HS.out]; exact stN_lt t) hrow2 HBR.out hnil2 hcap2 hcm2
  obtain ⟨S3, hS3⟩ : ∃ S3, S3 = blks factorsN S F (n2 / 64) := ⟨_, rfl⟩
  obtain ⟨R3, hR3⟩ : ∃ R3, R3 = F.drop (64 * (n2 / 64)) := ⟨_, rfl⟩
  obtain ⟨n3, hn3⟩ : ∃ n3, n3 = n2 % 64 := ⟨_, rfl⟩
  rw [← hS3, ← hR3, ← hn3] at HMIX
  have HS3 : Hid (S3 = stN (t ++ ys)) := by unfold Hid; rw [hS3, HN2.out, HS.out, HF.out, stN_write]
  have HR3 : Hid (R3 = rsN (t ++ ys)) := by unfold Hid; rw [hR3, HN2.out, HF.out, rsN_write]
  have HN3 : Hid (n3 = (rsN (t ++ ys)).length) := by
    unfold Hid
    rw [← HR3.out, hR3, List.length_drop, hn3, HN2.out]
    omega
  have hn3b : n3 < 64 := by omega
  clear hb2 hrow2 hnil2 hcap2 hcm2 HH1 HT1 HFOL hS3 hR3 hn3 HBR
  go_wp2_with fail
  refine Calls.mono HMIX.out ?_
  rintro e w3 ⟨a3, c3, rfl, hrow3, hnil3, hcap3, hcm3, hb3⟩
  clear HMIX
  obtain ⟨m0, ar0, cr0, hA2⟩ := HH2.out
  obtain ⟨n0, hn0⟩ : ∃ n, n = (rsN t).length := ⟨_, rfl⟩
  have hC3 : HCells w3 p m0 (.slice ar0 n0 cr0) t.length := by rw [hn0]; exact hA2.cells.below hb3
  have HBY : Hid (∀ j, (t ++ ys).getD j 0 < 256) := bytes_append hA2.bytes HY.out.2.1
  have HSL : Hid (S3.length = 8) := by rw [HS3.out]; exact stN_length _
  have hE3 : Below w.heap.size w w3 := HE2.out.trans (hb3.mono HE2.out.size)
  -- a new array for the words
  have bG : Blk (w3.alloc (.cells (encL .u32 nil8) 48)) w3.heap.size 48 .u32 nil8 := Blk.new w3 _ _ _
  have HAL : Hid _ := alloc8 w3
  have HST4 : Hid ((storeVar 48 ⟨w3.heap.size, 0, none⟩ (.agg (encL .u32 S3))).run Tryd.prog (w3.alloc (.cells (encL .u32 nil8) 48)) = .ok () ((w3.alloc (.cells (encL .u32 nil8) 48)).setRow w3.heap.size (encL .u32 S3))) := bG.store wordsT rfl HSL.out
  have b34 : Below w3.heap.size w3 ((w3.alloc (.cells (encL .u32 nil8) 48)).setRow w3.heap.size (encL .u32 S3)) := below_setRow (below_new w3 _) (Nat.le_refl _) _
  have bG4 : Blk ((w3.alloc (.cells (encL .u32 nil8) 48)).setRow w3.heap.size (encL .u32 S3)) w3.heap.size 48 .u32 S3 := bG.setRow S3
  obtain ⟨w4, hw4⟩ : ∃ w4, w4 = (w3.alloc (.cells (encL .u32 nil8) 48)).setRow w3.heap.size (encL .u32 S3) := ⟨_, rfl⟩
  rw [← hw4] at HST4 b34 bG4
  clear hw4
  have HLD4 : Hid ((loadVar 48 ⟨w3.heap.size, 0, none⟩).run Tryd.prog w4 = .ok (.agg (encL .u32 S3)) w4) := bG4.load wordsT HSL.out
  -- the words
  obtain ⟨hst5, hC5⟩ := (hC3.below b34).setWords S3 HSL.out
  have a5 : Aside p w4 (w4.setCells p 0 (encL .u32 S3).toList) := Aside.sets _ 0 (aside_of (Below.refl _ _) p)
  obtain ⟨w5, hw5⟩ : ∃ w5, w5 = w4.setCells p 0 (encL .u32 S3).toList := ⟨_, rfl⟩
  rw [← hw5] at hst5 hC5 a5
  have HST5 : Hid ((storeVar 48 ⟨p, 0, none⟩ (.agg (encL .u32 S3))).run Tryd.prog w4 = .ok () w5) := hst5
  have A5 : Aside p w w5 := ((aside_of hE3 p).trans (aside_of b34 p)).trans a5
  -- what is left over
  have hrow5 : RowL .u8 w5 a3 n3 R3 := by rw [hw5]; exact (hrow3.below b34).overWords (hC3.below b34) _ (by rw [Array.length_toList, encL_size, HSL.out])
  clear hw5
  obtain ⟨v6, w6, hrun6, hb6, hres6⟩ := clip_append (w := w5) 0 n3 c3 a3 a3 [] R3 28 ⟨rfl, .inl rfl⟩ (fun _ => rfl) hrow5 hnil3 (by omega)
  have hform : ∃ a6 c6, v6 = .slice a6 n3 c6 ∧ RowL .u8 w6 a6 n3 R3 ∧ (a6 = none → n3 = 0 ∧ c6 = 0) ∧ n3 ≤ c6 ∧ c6 ≤ maxLen ∧ (n3 = 0 ∨ ∃ b o, a6 = some ⟨b, o, none⟩ ∧ w5.heap.size ≤ b) := by
    rcases hres6 with ⟨h0, rfl, rfl⟩ | ⟨hpos, hown⟩
    · subst h0
      exact ⟨a3, 0, rfl, ⟨hrow5.1, .inl rfl⟩, (fun _ => ⟨rfl, rfl⟩), Nat.le_refl _, Nat.zero_le _, .inl rfl⟩
    · obtain ⟨a6, c6, rfl, q1, q2, q3, q4, q5⟩ := hown.form2
      rw [List.nil_append] at *
      rw [hrow5.1] at *
      exact ⟨a6, c6, rfl, q1, q2, q3, q4, q5.imp id (fun ⟨b, h1, h2⟩ => ⟨b, 0, h1, h2⟩)⟩
  obtain ⟨a6, c6, rfl, hrow6, hnil6, hcap6, hcm6, hhome6⟩ := hform
  have HRUN6 : Hid ((Builtin.append_ #[28, 28] 28 #[.slice a3 0 0, .slice a3 n3 c3]).run Tryd.prog w5 = .ok (.slice a6 n3 c6) w6) := hrun6
  have hC6 : HCells w6 p S3 (.slice ar0 n0 cr0) t.length := hC5.below hb6
  have A6 : Aside p w w6 := A5.trans (aside_of hb6 p)
  have hC8 : HCells ((w6.setCell ⟨p, 8, none⟩ (.slice a6 n3 c6)).setCell ⟨p, 9, none⟩ (.int .i64 ((t.length + l : Nat) : Nat))) p S3 (.slice a6 n3 c6) (t.length + l) := (hC6.setRest _).setLen _
  have A8 : Aside p w6 ((w6.setCell ⟨p, 8, none⟩ (.slice a6 n3 c6)).setCell ⟨p, 9, none⟩ (.int .i64 ((t.length + l : Nat) : Nat))) := ((aside_of (Below.refl w6.heap.size w6) p).set 8 _).set 9 _
  have HFIN : Hid (Hash ((w6.setCell ⟨p, 8, none⟩ (.slice a6 n3 c6)).setCell ⟨p, 9, none⟩ (.int .i64 ((t.length + l : Nat) : Nat))) p lo (t ++ ys) ∧ Aside p w ((w6.setCell ⟨p, 8, none⟩ (.slice a6 n3 c6)).setCell ⟨p, 9, none⟩ (.int .i64 ((t.length + l : Nat) : Nat)))) := by
    have hpl : p < w.heap.size := by obtain ⟨_, _, _, hh⟩ := HH.out; exact hh.lt
    have hs5 : w.heap.size ≤ w5.heap.size := A5.size
    refine ⟨⟨S3, a6, c6, hC8.lt, hC8.words, by rw [← HN3.out]; exact hC8.rest, ?_, hC8.free, HSL.out, fun _ => HS3.out, ?_, by rw [← HN3.out]; exact hnil6, by rw [← HN3.out]; exact hcap6, hcm6, ?_, HBY.out⟩, A6.trans A8⟩
    · rw [List.length_append, HY.out.1.1]; exact hC8.len
    · rw [← HN3.out, ← HR3.out]
      exact hrow6.aside A8 (hhome6.imp id (fun ⟨b, o, h1, h2⟩ => ⟨b, o, h1, by omega⟩))
    · rw [← HN3.out]
      exact hhome6.imp id (fun ⟨b, o, h1, h2⟩ => ⟨b, o, h1, by omega⟩)
  have c68 := hC6.rest
  have f68 := hC6.free 8 (by decide)
  have c69 := hC6.len
  have f69 := hC6.free 9 (by decide)
  clear hC8 A8 hC6 A6 hC5 A5 a5 hC3 hrun6 hb6 hres6 hrow6 hnil6 hcap6 hcm6 hhome6 hrow5 hst5 bG bG4 b34 hrow3 hnil3 hA2 hn0 hE3 hb3 HH HH2 HT HT2 HY HE1 HE2 HF HN2 HS HN3 HR3 HS3 HBY
  unfold maxLen at hcm3
  go_wp2_with (first
    | (refine alloc_op rfl 48 rfl _ HAL.out ?_)
    | (refine store_op rfl 48 (.tmp 4) (.tmp 15) rfl ⟨w3.heap.size, 0, none⟩ rfl _ rfl HST4.out ?_)
    | (refine load_op rfl 48 (.tmp 4) rfl ⟨w3.heap.size, 0, none⟩ rfl _ HLD4.out ?_)
    | (refine store_op rfl 48 (.tmp 20) (.tmp 18) rfl ⟨p, 0, none⟩ rfl _ rfl HST5.out ?_)
    | (refine append_op rfl (.tmp 23) (.tmp 24) 28 rfl _ _ _ rfl rfl HRUN6.out ?_))
  go_end0
  have hfin := HFIN.out
  simp only [Int.natCast_add] at hfin
  exact ⟨rfl, hfin⟩
end Go.Proofs.YtmaaakcfbekboaaDoor
