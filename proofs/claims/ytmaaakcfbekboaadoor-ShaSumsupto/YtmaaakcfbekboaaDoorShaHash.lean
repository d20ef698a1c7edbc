/-
  A Hash in memory: what it holds of a text; New, Len, the words so far, and what follows what is left over.
-/
import Derived.Test.YtmaaakcfbekboaaDoorShaMixAll
import Derived.Test.YtmaaakcfbekboaaDoorClip
import Derived.Deep.MidRow
namespace Go.Proofs.YtmaaakcfbekboaaDoor
open Go.ChangeShapes Go.WideShapes Go.ChangeAt Go.RowKit
set_option linter.unusedVariables false
set_option linter.unusedSimpArgs false
/-- But for one block (and new ones) the world is as it was. -/
def Aside (p : Nat) (w w' : World) : Prop :=
  (w'.os = w.os) ∧
  (w'.tape = w.tape) ∧
  (w'.output = w.output) ∧
  (w.heap.size ≤ w'.heap.size) ∧
  (∀ k, k < w.heap.size → k ≠ p → w'.heap[k]? = w.heap[k]?)
theorem Aside.os {p : Nat} {w w' : World} (h : Aside p w w') : w'.os = w.os := h.1
theorem Aside.tape {p : Nat} {w w' : World} (h : Aside p w w') : w'.tape = w.tape := h.2.1
theorem Aside.output {p : Nat} {w w' : World} (h : Aside p w w') : w'.output = w.output := h.2.2.1
theorem Aside.size {p : Nat} {w w' : World} (h : Aside p w w') : w.heap.size ≤ w'.heap.size := h.2.2.2.1
theorem Aside.block {p : Nat} {w w' : World} (h : Aside p w w') : ∀ k, k < w.heap.size → k ≠ p → w'.heap[k]? = w.heap[k]? := h.2.2.2.2
theorem Aside.below {p B : Nat} {w w' : World} (h : Aside p w w') (hB : B ≤ p) (hs : B ≤ w.heap.size) : Below B w w' :=
  ⟨h.os, h.tape, h.output, h.size, fun k hk => h.block k (by omega) (by omega)⟩
theorem aside_of {w w' : World} (h : Below w.heap.size w w') (p : Nat) : Aside p w w' := ⟨h.os, h.tape, h.output, h.size, fun k hk _ => h.block k hk⟩
theorem Aside.trans {p : Nat} {a b c : World} (h : Aside p a b) (k : Aside p b c) : Aside p a c :=
  ⟨k.os.trans h.os, k.tape.trans h.tape, k.output.trans h.output, Nat.le_trans h.size k.size, fun i hi hne => (k.block i (Nat.lt_of_lt_of_le hi h.size) hne).trans (h.block i hi hne)⟩
theorem Aside.set {p : Nat} {a b : World} (h : Aside p a b) (o : Nat) (v : Value) : Aside p a (b.setCell ⟨p, o, none⟩ v) :=
  h.trans ⟨rfl, rfl, rfl, by simp [World.setCell], fun i hi hne => Below.heap_setCell b ⟨p, o, none⟩ v i hne⟩
theorem Aside.sets {p : Nat} {a : World} (vs : List Value) : ∀ (o : Nat) {b : World}, Aside p a b → Aside p a (b.setCells p o vs) := by
  induction vs with
  | nil => intro o b h; exact h
  | cons v vs ih => intro o b h; exact ih (o + 1) (h.set o v)
theorem Aside.cell {p : Nat} {w w' : World} (h : Aside p w w') {q : Addr} (hq : q.block < w.heap.size) (hne : q.block ≠ p) : w'.cell? q = w.cell? q := World.cell?_of_block (w := w) (h.block q.block hq hne)
theorem Aside.frozen {p : Nat} {w w' : World} (h : Aside p w w') {q : Addr} (hq : q.block < w.heap.size) (hne : q.block ≠ p) : w'.frozen? q = w.frozen? q := World.frozen?_of_block (w := w) (h.block q.block hq hne)
/-- The Hash at block p is one of text t; what is left over lies in a block from lo on. -/
def HashAt (w : World) (p lo : Nat) (t m : List Nat) (a : Option Addr) (c : Nat) : Prop :=
  (p < w.heap.size) ∧
  (∀ j, j < 8 → w.cell? ⟨p, j, none⟩ = some (.int .u32 (m.getD j 0 : Nat))) ∧
  (w.cell? ⟨p, 8, none⟩ = some (.slice a (rsN t).length c)) ∧
  (w.cell? ⟨p, 9, none⟩ = some (.int .i64 (t.length : Nat))) ∧
  (∀ j, j < 10 → w.frozen? ⟨p, j, none⟩ = false) ∧
  (m.length = 8) ∧
  (64 ≤ t.length → m = stN t) ∧
  (RowL .u8 w a (rsN t).length (rsN t)) ∧
  (a = none → (rsN t).length = 0 ∧ c = 0) ∧
  ((rsN t).length ≤ c) ∧
  (c ≤ maxLen) ∧
  ((rsN t).length = 0 ∨ ∃ b o, a = some ⟨b, o, none⟩ ∧ lo ≤ b) ∧
  (∀ j, t.getD j 0 < 256)
theorem HashAt.lt {w : World} {p lo : Nat} {t m : List Nat} {a : Option Addr} {c : Nat} (h : HashAt w p lo t m a c) : p < w.heap.size := h.1
theorem HashAt.words {w : World} {p lo : Nat} {t m : List Nat} {a : Option Addr} {c : Nat} (h : HashAt w p lo t m a c) : ∀ j, j < 8 → w.cell? ⟨p, j, none⟩ = some (.int .u32 (m.getD j 0 : Nat)) := h.2.1
theorem HashAt.rest {w : World} {p lo : Nat} {t m : List Nat} {a : Option Addr} {c : Nat} (h : HashAt w p lo t m a c) : w.cell? ⟨p, 8, none⟩ = some (.slice a (rsN t).length c) := h.2.2.1
theorem HashAt.len {w : World} {p lo : Nat} {t m : List Nat} {a : Option Addr} {c : Nat} (h : HashAt w p lo t m a c) : w.cell? ⟨p, 9, none⟩ = some (.int .i64 (t.length : Nat)) := h.2.2.2.1
theorem HashAt.free {w : World} {p lo : Nat} {t m : List Nat} {a : Option Addr} {c : Nat} (h : HashAt w p lo t m a c) : ∀ j, j < 10 → w.frozen? ⟨p, j, none⟩ = false := h.2.2.2.2.1
theorem HashAt.mlen {w : World} {p lo : Nat} {t m : List Nat} {a : Option Addr} {c : Nat} (h : HashAt w p lo t m a c) : m.length = 8 := h.2.2.2.2.2.1
theorem HashAt.mst {w : World} {p lo : Nat} {t m : List Nat} {a : Option Addr} {c : Nat} (h : HashAt w p lo t m a c) : 64 ≤ t.length → m = stN t := h.2.2.2.2.2.2.1
theorem HashAt.row {w : World} {p lo : Nat} {t m : List Nat} {a : Option Addr} {c : Nat} (h : HashAt w p lo t m a c) : RowL .u8 w a (rsN t).length (rsN t) := h.2.2.2.2.2.2.2.1
theorem HashAt.nil {w : World} {p lo : Nat} {t m : List Nat} {a : Option Addr} {c : Nat} (h : HashAt w p lo t m a c) : a = none → (rsN t).length = 0 ∧ c = 0 := h.2.2.2.2.2.2.2.2.1
theorem HashAt.cap {w : World} {p lo : Nat} {t m : List Nat} {a : Option Addr} {c : Nat} (h : HashAt w p lo t m a c) : (rsN t).length ≤ c := h.2.2.2.2.2.2.2.2.2.1
theorem HashAt.capm {w : World} {p lo : Nat} {t m : List Nat} {a : Option Addr} {c : Nat} (h : HashAt w p lo t m a c) : c ≤ maxLen := h.2.2.2.2.2.2.2.2.2.2.1
theorem HashAt.home {w : World} {p lo : Nat} {t m : List Nat} {a : Option Addr} {c : Nat} (h : HashAt w p lo t m a c) : (rsN t).length = 0 ∨ ∃ b o, a = some ⟨b, o, none⟩ ∧ lo ≤ b := h.2.2.2.2.2.2.2.2.2.2.2.1
theorem HashAt.bytes {w : World} {p lo : Nat} {t m : List Nat} {a : Option Addr} {c : Nat} (h : HashAt w p lo t m a c) : ∀ j, t.getD j 0 < 256 := h.2.2.2.2.2.2.2.2.2.2.2.2
def Hash (w : World) (p lo : Nat) (t : List Nat) : Prop := ∃ m a c, HashAt w p lo t m a c
theorem HashAt.aside {w w' : World} {p lo : Nat} {t m : List Nat} {a : Option Addr} {c q : Nat} (h : HashAt w p lo t m a c) (hq : p ≠ q) (hlo : q < lo) (hb : Aside q w w') : HashAt w' p lo t m a c := by
  have hc : ∀ j, w'.cell? ⟨p, j, none⟩ = w.cell? ⟨p, j, none⟩ := fun j => hb.cell (q := ⟨p, j, none⟩) h.lt hq
  refine ⟨Nat.lt_of_lt_of_le h.lt hb.size, fun j hj => (hc j).trans (h.words j hj), (hc 8).trans h.rest, (hc 9).trans h.len, fun j hj => (hb.frozen (q := ⟨p, j, none⟩) h.lt hq).trans (h.free j hj), h.mlen, h.mst, ?_, h.nil, h.cap, h.capm, h.home, h.bytes⟩
  refine ⟨h.row.1, ?_⟩
  rcases h.row.2 with h0 | ⟨b, off, ha, hlt, hcs⟩
  · exact .inl h0
  · by_cases h0 : (rsN t).length = 0
    · exact .inl h0
    · refine .inr ⟨b, off, ha, Nat.lt_of_lt_of_le hlt hb.size, fun i hi => ?_⟩
      have hbq : b ≠ q := by
        rcases h.home with h1 | ⟨b', o', ha', hl'⟩
        · exact absurd h1 h0
        · rw [ha] at ha'
          cases ha'
          omega
      exact (hb.cell (q := ⟨b, off + i, none⟩) hlt hbq).trans (hcs i hi)
theorem HashAt.below {w w' : World} {p lo : Nat} {t m : List Nat} {a : Option Addr} {c : Nat} (h : HashAt w p lo t m a c) (hb : Below w.heap.size w w') : HashAt w' p lo t m a c := by
  have hc : ∀ j, w'.cell? ⟨p, j, none⟩ = w.cell? ⟨p, j, none⟩ := fun j => hb.cell (p := ⟨p, j, none⟩) h.lt
  exact ⟨Nat.lt_of_lt_of_le h.lt hb.size, fun j hj => (hc j).trans (h.words j hj), (hc 8).trans h.rest, (hc 9).trans h.len, fun j hj => (hb.frozen (p := ⟨p, j, none⟩) h.lt).trans (h.free j hj), h.mlen, h.mst, h.row.below hb, h.nil, h.cap, h.capm, h.home, h.bytes⟩
theorem Hash.below {w w' : World} {p lo : Nat} {t : List Nat} (h : Hash w p lo t) (hb : Below w.heap.size w w') : Hash w' p lo t := by
  obtain ⟨m, a, c, h⟩ := h
  exact ⟨m, a, c, h.below hb⟩
theorem Hash.aside {w w' : World} {p lo : Nat} {t : List Nat} {q : Nat} (h : Hash w p lo t) (hq : p ≠ q) (hlo : q < lo) (hb : Aside q w w') : Hash w' p lo t := by
  obtain ⟨m, a, c, h⟩ := h
  exact ⟨m, a, c, h.aside hq hlo hb⟩
/-- The block of a Hash of nothing. -/
def hash0 : Array Value := #[.int .u32 0, .int .u32 0, .int .u32 0, .int .u32 0, .int .u32 0, .int .u32 0, .int .u32 0, .int .u32 0, .slice none 0 0, .int .i64 0]
theorem hash_new (w : World) (lo : Nat) : Hash (w.alloc (.cells hash0 50)) w.heap.size lo [] := by
  have hb : (w.alloc (.cells hash0 50)).heap[w.heap.size]? = some (.cells hash0 50 (0, 0)) := heap_alloc_last w _
  have hc : ∀ j, (w.alloc (.cells hash0 50)).cell? ⟨w.heap.size, j, none⟩ = hash0[j]? := fun j => cell_of_row _ _ _ _ _ _ hb
  refine ⟨nil8, none, 0, by simp, fun j hj => ?_, hc 8, hc 9, fun j hj => frozen_of_row _ _ _ _ _ hb, rfl, (fun h => by simp at h), ⟨rfl, .inl rfl⟩, (fun _ => ⟨rfl, rfl⟩), Nat.le_refl _, Nat.zero_le _, .inl rfl, (fun j => by simp)⟩
  rw [hc j]
  match j, hj with
  | 0, _ | 1, _ | 2, _ | 3, _ | 4, _ | 5, _ | 6, _ | 7, _ => rfl
theorem new_any (w : World) : Calls Tryd.prog 11 #[] w fun e w' => e = .returned (.pointer (some ⟨w.heap.size, 0, none⟩)) ∧ w' = w.alloc (.cells hash0 50) := by
  go_enter Tryd.func11, Tryd.ntmps11
  go_wp2
  go_ret
  exact ⟨rfl, rfl⟩
theorem start_any (w : World) : Calls Tryd.prog 24 #[] w fun e w' => e = .returned (.agg (encL .u32 startN)) ∧ Below w.heap.size w w' := by
  go_enter Tryd.func24, Tryd.ntmps24
  go_wp2
  refine bodyPost_ret (v := .agg (encL .u32 [1779033703, 3144134277, 1013904242, 2773480762, 1359893119, 2600822924, 528734635, 1541459225])) ?_ rfl ⟨by rw [start_is], below_new w _⟩
  rw [results_cell rfl]
  exact (Blk.new w 48 .u32 [1779033703, 3144134277, 1013904242, 2773480762, 1359893119, 2600822924, 528734635, 1541459225]).load wordsT rfl
theorem len_any (w : World) (p lo : Nat) (t : List Nat) (h : Hash w p lo t) : Calls Tryd.prog 13 #[.pointer (some ⟨p, 0, none⟩)] w fun e w' => e = .returned (.int .i64 (t.length : Nat)) ∧ w' = w := by
  obtain ⟨m, a, c, h⟩ := h
  have c9 := h.len
  clear h
  go_enter Tryd.func13, Tryd.ntmps13
  go_wp2
  go_ret
  exact ⟨rfl, rfl⟩
theorem len_nil (w : World) : Calls Tryd.prog 13 #[.pointer none] w fun e w' => e = .returned (.int .i64 0) ∧ w' = w := by
  go_enter Tryd.func13, Tryd.ntmps13
  go_wp2
  go_ret
  exact ⟨rfl, rfl⟩
theorem results_nil {fn : Func} (h : fn.results = #[]) (tmps : Array Value) (P : Program) (w : World) : (results fn tmps).run P w = .ok (.tuple #[]) w := by simp [results, h]
theorem write_nil (w : World) (a : Option Addr) (l c : Nat) : Calls Tryd.prog 14 #[.pointer none, .slice a l c] w fun e w' => e = .returned (.tuple #[]) ∧ w' = w := by
  go_enter Tryd.func14, Tryd.ntmps14
  go_wp2
  exact bodyPost_ret (v := .tuple #[]) (results_nil rfl _ _ _) rfl ⟨rfl, rfl⟩
theorem stN_small (t : List Nat) (h : t.length < 64) : stN t = startN := by
  unfold stN
  rw [show t.length / 64 = 0 by omega]
  rfl
theorem HashAt.range {w : World} {p lo : Nat} {t m : List Nat} {a : Option Addr} {c : Nat} (h : HashAt w p lo t m a c) : (loadVar 48 ⟨p, 0, none⟩).run Tryd.prog w = .ok (.agg (encL .u32 m)) w := by
  refine run_loadVar_mid w p 0 48 (m.map fun c => Value.int .u32 (c : Nat)) _ (fun j v hj => ?_) Tryd.underlying48 rfl (by rw [List.length_map, h.mlen]; exact wordsT.1)
  have hj8 : j < 8 := by have := (List.getElem?_eq_some_iff.1 hj).1; rw [List.length_map, h.mlen] at this; exact this
  rw [Nat.zero_add, h.words j hj8]
  rw [List.getElem?_map] at hj
  cases hm : m[j]? with
  | none => rw [hm] at hj; cases hj
  | some x => rw [hm] at hj; simp at hj; rw [← hj]; simp [List.getD, hm]
set_option maxHeartbeats 2000000 in
theorem sofar_any (w : World) (p lo : Nat) (t : List Nat) (h : Hash w p lo t) (hl : t.length ≤ 4611686018427387904) :
    Calls Tryd.prog 20 #[.pointer (some ⟨p, 0, none⟩)] w fun e w' => e = .returned (.agg (encL .u32 (stN t))) ∧ Below w.heap.size w w' := by
  obtain ⟨m, a, c, h⟩ := h
  have HA : Hid (HashAt w p lo t m a c) := h
  have c9 : (w.alloc (.cells (encL .u32 nil8) 48)).cell? ⟨p, 9, none⟩ = some (.int .i64 (t.length : Nat)) := (h.below (below_new w _)).len
  have HR : Hid (Blk (w.alloc (.cells (encL .u32 nil8) 48)) w.heap.size 48 .u32 nil8) := Blk.new w _ _ _
  have HN : Hid (Below w.heap.size w (w.alloc (.cells (encL .u32 nil8) 48))) := below_new w _
  have HLD : Hid ((loadVar 48 ⟨p, 0, none⟩).run Tryd.prog (w.alloc (.cells (encL .u32 nil8) 48)) = .ok (.agg (encL .u32 m)) (w.alloc (.cells (encL .u32 nil8) 48))) := (h.below (below_new w _)).range
  have HST : Hid ((storeVar 48 ⟨w.heap.size, 0, none⟩ (.agg (encL .u32 m))).run Tryd.prog (w.alloc (.cells (encL .u32 nil8) 48)) = .ok () ((w.alloc (.cells (encL .u32 nil8) 48)).setRow w.heap.size (encL .u32 m))) := HR.out.store wordsT rfl h.mlen
  have HAL : Hid _ := alloc8 w
  clear h
  by_cases hs : t.length < 64
  · have hsi : (t.length : Int) < 64 := by omega
    go_enter Tryd.func20, Tryd.ntmps20
    go_wp2_with (first
      | (refine alloc_op rfl 48 rfl _ HAL.out ?_))
    refine (start_any _).mono ?_
    rintro e w1 ⟨rfl, hb1⟩
    have HR1 : Hid (Blk w1 w.heap.size 48 .u32 nil8) := HR.out.below hb1
    have HN1 : Hid (Below w.heap.size w w1) := HN.out.trans (hb1.mono HN.out.size)
    have HST1 : Hid ((storeVar 48 ⟨w.heap.size, 0, none⟩ (.agg (encL .u32 startN))).run Tryd.prog w1 = .ok () (w1.setRow w.heap.size (encL .u32 startN))) := HR1.out.store wordsT rfl start_length
    have HSN : Hid (stN t = startN) := stN_small t hs
    have HSL : Hid (startN.length = 8) := start_length
    clear hb1 HST HLD HR HN HAL
    generalize startN = S at *
    go_wp2_with (first
      | (refine store_op rfl 48 (.tmp 2) (.tmp 8) rfl ⟨w.heap.size, 0, none⟩ rfl _ rfl HST1.out ?_))
    refine bodyPost_ret (v := .agg (encL .u32 S)) ?_ rfl ⟨by rw [HSN.out], below_setRow HN1.out (Nat.le_refl _) _⟩
    rw [results_cell rfl]
    exact (HR1.out.setRow S).load wordsT HSL.out
  · have hsi : ¬ (t.length : Int) < 64 := by omega
    have HM : Hid (m = stN t) := HA.out.mst (by omega)
    have HML : Hid (m.length = 8) := HA.out.mlen
    go_enter Tryd.func20, Tryd.ntmps20
    go_wp2_with (first
      | (refine alloc_op rfl 48 rfl _ HAL.out ?_)
      | (refine load_op rfl 48 (.tmp 11) rfl ⟨p, 0, none⟩ rfl _ HLD.out ?_)
      | (refine store_op rfl 48 (.tmp 2) (.tmp 12) rfl ⟨w.heap.size, 0, none⟩ rfl _ rfl HST.out ?_))
    refine bodyPost_ret (v := .agg (encL .u32 m)) ?_ rfl ⟨by rw [HM.out], below_setRow HN.out (Nat.le_refl _) _⟩
    rw [results_cell rfl]
    exact (HR.out.setRow m).load wordsT HML.out
theorem OwnL.form2 {e : TypeId} {k : IntKind} {w : World} {base : Nat} {v : Value} {xs : List Nat} (h : OwnL e k w base v xs) : ∃ a cap, v = .slice a xs.length cap ∧ RowL k w a xs.length xs ∧ (a = none → xs.length = 0 ∧ cap = 0) ∧ xs.length ≤ cap ∧ cap ≤ maxLen ∧ (xs.length = 0 ∨ ∃ b, a = some ⟨b, 0, none⟩ ∧ base ≤ b) := by
  have h0 := h
  obtain ⟨h1, ⟨rfl, h2⟩ | ⟨g, cap, cur, rfl, hg, hbk, hn, hmm, hs, ht⟩⟩ := h
  · exact ⟨none, 0, by rw [h2], ⟨rfl, .inl h2⟩, fun _ => ⟨h2, rfl⟩, by omega, Nat.zero_le _, .inl h2⟩
  · refine ⟨some ⟨g, 0, none⟩, cap, rfl, ⟨rfl, .inr ⟨g, 0, rfl, (h0.lt g rfl).2, fun i hi => ?_⟩⟩, (fun h => by cases h), hn, hmm, .inr ⟨g, rfl, hg⟩⟩
    have := World.ownsRow.cellAt h0 i (by omega)
    rw [Nat.zero_add, this]
    simp [encV, hi]
set_option maxHeartbeats 2000000 in
theorem followed_any (w : World) (p lo : Nat) (t : List Nat) (h : Hash w p lo t) (a : Option Addr) (l c : Nat) (ys : List Nat) (hy : RowL .u8 w a l ys) (hny : a = none → l = 0 ∧ c = 0) (hb : l ≤ 140737488355000) :
    Calls Tryd.prog 18 #[.pointer (some ⟨p, 0, none⟩), .slice a l c] w fun e w' => ∃ a' c', e = .returned (.slice a' (rsN t ++ ys).length c') ∧ Below w.heap.size w w' ∧
      RowL .u8 w' a' (rsN t ++ ys).length (rsN t ++ ys) ∧ (a' = none → (rsN t ++ ys).length = 0 ∧ c' = 0) ∧ (rsN t ++ ys).length ≤ c' ∧ c' ≤ maxLen ∧ (0 < l → OwnL 5 .u8 w' w.heap.size (.slice a' (rsN t ++ ys).length c') (rsN t ++ ys)) := by
  obtain ⟨m, ar, cr, h⟩ := h
  have c8 := h.rest
  have hrl : (rsN t).length < 64 := by rw [rsN_length]; omega
  have hcap := h.cap
  have hcm := h.capm
  unfold maxLen at hcm
  obtain ⟨v', w', hrun, hbel, hres⟩ := clip_append (w := w.drew) (rsN t).length l c ar a (rsN t) ys 28 (h.row.below ((Below.refl _ w).drew)) (fun hn => (h.nil hn).1) (hy.below ((Below.refl _ w).drew)) hny (by omega)
  have HRUN : Hid ((Builtin.append_ #[28, 28] 28 #[.slice ar (rsN t).length (rsN t).length, .slice a l c]).run Tryd.prog w.drew = .ok v' w') := hrun
  have HBEL : Hid (Below w.heap.size w w') := ((Below.refl w.heap.size w).drew).trans hbel
  have HRES : Hid (∃ a' c', v' = .slice a' (rsN t ++ ys).length c' ∧ RowL .u8 w' a' (rsN t ++ ys).length (rsN t ++ ys) ∧ (a' = none → (rsN t ++ ys).length = 0 ∧ c' = 0) ∧ (rsN t ++ ys).length ≤ c' ∧ c' ≤ maxLen ∧ (0 < l → OwnL 5 .u8 w' w.heap.size (.slice a' (rsN t ++ ys).length c') (rsN t ++ ys))) := by
    rcases hres with ⟨rfl, rfl, rfl⟩ | ⟨hl, hown⟩
    · have hys : ys = [] := List.eq_nil_of_length_eq_zero hy.1
      subst hys
      rw [List.append_nil]
      exact ⟨ar, _, rfl, h.row.below ((Below.refl _ w).drew), (fun hn => ⟨(h.nil hn).1, (h.nil hn).1⟩), Nat.le_refl _, by unfold maxLen; omega, (fun h => by omega)⟩
    · obtain ⟨a', c', rfl, q1, q2, q3, q4, -⟩ := hown.form2
      exact ⟨a', c', rfl, q1, q2, q3, q4, fun _ => hown⟩
  clear hrun hres hbel h hy hny
  obtain ⟨n, hn⟩ : ∃ n, n = (rsN t).length := ⟨_, rfl⟩
  rw [← hn] at c8 hrl hcap HRUN
  clear hn
  have i1 : (n : Int) ≤ (cr : Int) := by omega
  go_enter Tryd.func18, Tryd.ntmps18
  go_wp2
  refine wp_region_held_drew (S := fun w' => w'.cell? ⟨p, 8, none⟩ = some (.slice ar n cr)) (by kernel_rfl) c8 (fun hHeld => ?_)
  refine held_take 0 (some 5) (.pointer (some ⟨p, 0, none⟩)) rfl rfl (by kernel_rfl) (by kernel_rfl) (by kernel_rfl) (fun _ _ _ h => h) rfl (fun w' hS => ?_) hHeld ?_
  · (try dsimp only at hS); go_simp
  simp only [Act.put, List.setIfInBounds_toArray, List.set_cons_zero, List.set_cons_succ]
  refine held_take 1 (some 6) (.pointer (some ⟨p, 0, none⟩)) rfl rfl (by kernel_rfl) (by kernel_rfl) (by kernel_rfl) (fun _ _ _ h => h) rfl (fun w' hS => ?_) hHeld ?_
  · (try dsimp only at hS); go_simp
  simp only [Act.put, List.setIfInBounds_toArray, List.set_cons_zero, List.set_cons_succ]
  refine held_take 2 (some 7) (.pointer (some ⟨p, 8, none⟩)) rfl rfl (by kernel_rfl) (by kernel_rfl) (by kernel_rfl) (fun _ _ _ h => h) rfl (fun w' hS => ?_) hHeld ?_
  · (try dsimp only at hS); go_simp
  simp only [Act.put, List.setIfInBounds_toArray, List.set_cons_zero, List.set_cons_succ]
  refine held_take 3 (some 8) (.slice ar n cr) rfl rfl (by kernel_rfl) (by kernel_rfl) (by kernel_rfl) (fun _ _ _ h => h) rfl (fun w' hS => ?_) hHeld ?_
  · (try dsimp only at hS); go_simp
  simp only [Act.put, List.setIfInBounds_toArray, List.set_cons_zero, List.set_cons_succ]
  refine held_take 4 (some 9) (.pointer (some ⟨p, 0, none⟩)) rfl rfl (by kernel_rfl) (by kernel_rfl) (by kernel_rfl) (fun _ _ _ h => h) rfl (fun w' hS => ?_) hHeld ?_
  · (try dsimp only at hS); go_simp
  simp only [Act.put, List.setIfInBounds_toArray, List.set_cons_zero, List.set_cons_succ]
  refine held_take 5 (some 10) (.pointer (some ⟨p, 0, none⟩)) rfl rfl (by kernel_rfl) (by kernel_rfl) (by kernel_rfl) (fun _ _ _ h => h) rfl (fun w' hS => ?_) hHeld ?_
  · (try dsimp only at hS); go_simp
  simp only [Act.put, List.setIfInBounds_toArray, List.set_cons_zero, List.set_cons_succ]
  refine held_take 6 (some 11) (.pointer (some ⟨p, 8, none⟩)) rfl rfl (by kernel_rfl) (by kernel_rfl) (by kernel_rfl) (fun _ _ _ h => h) rfl (fun w' hS => ?_) hHeld ?_
  · (try dsimp only at hS); go_simp
  simp only [Act.put, List.setIfInBounds_toArray, List.set_cons_zero, List.set_cons_succ]
  refine held_take 7 (some 12) (.slice ar n cr) rfl rfl (by kernel_rfl) (by kernel_rfl) (by kernel_rfl) (fun _ _ _ h => h) rfl (fun w' hS => ?_) hHeld ?_
  · (try dsimp only at hS); go_simp
  simp only [Act.put, List.setIfInBounds_toArray, List.set_cons_zero, List.set_cons_succ]
  refine held_take 8 (some 13) (.int .i64 n) rfl rfl (by kernel_rfl) (by kernel_rfl) (by kernel_rfl) (fun _ _ _ h => h) rfl (fun w' hS => ?_) hHeld ?_
  · (try dsimp only at hS); go_simp
  simp only [Act.put, List.setIfInBounds_toArray, List.set_cons_zero, List.set_cons_succ]
  refine held_take 9 (some 14) (.pointer (some ⟨p, 0, none⟩)) rfl rfl (by kernel_rfl) (by kernel_rfl) (by kernel_rfl) (fun _ _ _ h => h) rfl (fun w' hS => ?_) hHeld ?_
  · (try dsimp only at hS); go_simp
  simp only [Act.put, List.setIfInBounds_toArray, List.set_cons_zero, List.set_cons_succ]
  refine held_take 10 (some 15) (.pointer (some ⟨p, 0, none⟩)) rfl rfl (by kernel_rfl) (by kernel_rfl) (by kernel_rfl) (fun _ _ _ h => h) rfl (fun w' hS => ?_) hHeld ?_
  · (try dsimp only at hS); go_simp
  simp only [Act.put, List.setIfInBounds_toArray, List.set_cons_zero, List.set_cons_succ]
  refine held_take 11 (some 16) (.pointer (some ⟨p, 8, none⟩)) rfl rfl (by kernel_rfl) (by kernel_rfl) (by kernel_rfl) (fun _ _ _ h => h) rfl (fun w' hS => ?_) hHeld ?_
  · (try dsimp only at hS); go_simp
  simp only [Act.put, List.setIfInBounds_toArray, List.set_cons_zero, List.set_cons_succ]
  refine held_take 12 (some 17) (.slice ar n cr) rfl rfl (by kernel_rfl) (by kernel_rfl) (by kernel_rfl) (fun _ _ _ h => h) rfl (fun w' hS => ?_) hHeld ?_
  · (try dsimp only at hS); go_simp
  simp only [Act.put, List.setIfInBounds_toArray, List.set_cons_zero, List.set_cons_succ]
  refine held_take 13 (some 18) (.int .i64 n) rfl rfl (by kernel_rfl) (by kernel_rfl) (by kernel_rfl) (fun _ _ _ h => h) rfl (fun w' hS => ?_) hHeld ?_
  · (try dsimp only at hS); go_simp
  simp only [Act.put, List.setIfInBounds_toArray, List.set_cons_zero, List.set_cons_succ]
  refine held_take 14 (some 19) (.slice ar n n) rfl rfl (by kernel_rfl) (by kernel_rfl) (by kernel_rfl) (fun _ _ _ h => h) rfl (fun w' hS => ?_) hHeld ?_
  · (try dsimp only at hS); go_simp
  simp only [Act.put, List.setIfInBounds_toArray, List.set_cons_zero, List.set_cons_succ]
  refine held_take 15 (some 20) (.slice a l c) rfl rfl (by kernel_rfl) (by kernel_rfl) (by kernel_rfl) (fun _ _ _ h => h) rfl (fun w' hS => ?_) hHeld ?_
  · (try dsimp only at hS); go_simp
  simp only [Act.put, List.setIfInBounds_toArray, List.set_cons_zero, List.set_cons_succ]
  refine held_one (i := 16) (by kernel_rfl) rfl rfl (fun K hK => ?_)
  refine held_append (.tmp 19) (.tmp 20) 28 rfl _ _ _ rfl rfl HRUN.out (some 21) rfl ?_
  refine hK.out _ _ ((HBEL.out.cell (p := ⟨p, 8, none⟩) (World.block_lt_of_cell? w _ c8)).trans c8) ?_
  clear hK K
  simp only [Act.put, List.setIfInBounds_toArray, List.set_cons_zero, List.set_cons_succ]
  have hHeld2 : w'.cell? ⟨p, 8, none⟩ = some (.slice ar n cr) := (HBEL.out.cell (p := ⟨p, 8, none⟩) (World.block_lt_of_cell? w _ c8)).trans c8
  refine held_take 17 (some 4) v' rfl rfl (by kernel_rfl) (by kernel_rfl) (by kernel_rfl) (fun _ _ _ h => h) rfl (fun w' hS => ?_) hHeld2 ?_
  · go_simp
  simp only [Act.put, List.setIfInBounds_toArray, List.set_cons_zero, List.set_cons_succ]
  refine wpAnyH_done (by kernel_rfl) ?_ _
  go_wp2
  go_ret
  obtain ⟨a', c', rfl, q⟩ := HRES.out
  exact ⟨a', c', rfl, HBEL.out, q⟩
end Go.Proofs.YtmaaakcfbekboaaDoor
