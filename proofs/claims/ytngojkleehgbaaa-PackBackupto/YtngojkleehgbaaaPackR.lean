/-
  The Reader in memory, and what each of its calls makes of it.
-/
import Derived.Test.YtngojkleehgbaaaPackW2
namespace Go.Proofs.Ytngojkleehgbaaa
open Go.ChangeShapes Go.WideShapes Go.ChangeAt Go.RowKit
set_option linter.unusedVariables false
set_option linter.unusedSimpArgs false
/-- But for one block (and new ones) the world is as it was. -/
structure Only (g : Nat) (w w' : World) : Prop where
  os : w'.os = w.os
  tape : w'.tape = w.tape
  output : w'.output = w.output
  size : w.heap.size ≤ w'.heap.size
  block : ∀ k, k < w.heap.size → k ≠ g → w'.heap[k]? = w.heap[k]?
theorem Only.refl (g : Nat) (w : World) : Only g w w := ⟨rfl, rfl, rfl, Nat.le_refl _, fun _ _ _ => rfl⟩
theorem Only.trans {g : Nat} {a b c : World} (h : Only g a b) (k : Only g b c) : Only g a c :=
  ⟨k.os.trans h.os, k.tape.trans h.tape, k.output.trans h.output, Nat.le_trans h.size k.size, fun i hi hn => (k.block i (Nat.lt_of_lt_of_le hi h.size) hn).trans (h.block i hi hn)⟩
theorem Only.of {w w' : World} (h : Below w.heap.size w w') (g : Nat) : Only g w w' := ⟨h.os, h.tape, h.output, h.size, fun k hk _ => h.block k hk⟩
theorem Only.set (w : World) (g i : Nat) (v : Value) : Only g w (w.setCell ⟨g, i, none⟩ v) :=
  ⟨rfl, rfl, rfl, by simp [World.setCell], fun k _ hn => Below.heap_setCell w ⟨g, i, none⟩ v k hn⟩
theorem Only.below {g : Nat} {w w' : World} (h : Only g w w') {B : Nat} (hB : B ≤ g) (hw : B ≤ w.heap.size) : Below B w w' :=
  ⟨h.os, h.tape, h.output, h.size, fun k hk => h.block k (by omega) (by omega)⟩
/-- Bytes that lie elsewhere. -/
def Off (g : Nat) (a : Option Addr) : Prop := ∀ ad, a = some ad → ad.block ≠ g
theorem RowL.only {k : IntKind} {g : Nat} {w w' : World} {a : Option Addr} {n : Nat} {xs : List Nat} (h : RowL k w a n xs) (ho : Off g a) (hb : Only g w w') : RowL k w' a n xs := by
  obtain ⟨h1, h4⟩ := h
  refine ⟨h1, ?_⟩
  rcases h4 with h4 | ⟨b, off, ha, hlt, hc⟩
  · exact .inl h4
  · refine .inr ⟨b, off, ha, Nat.lt_of_lt_of_le hlt hb.size, fun i hi => ?_⟩
    rw [← hc i hi]
    exact World.cell?_of_block (hb.block b hlt (ho _ ha))
theorem In.off {r g : Nat} {a : Option Addr} (h : In r a) (hn : r ≠ g) : Off g a := fun ad ha => by rw [h ad ha]; exact hn
/-- A Reader at block g, what is left of its bytes in block r. -/
def RdAt (w : World) (g r : Nat) (s : RSt) : Prop := ∃ a cap, w.heap[g]? = some (.cells #[.slice a s.1.length cap, .int .i64 s.2] 68 (0, 0)) ∧ RowL .u8 w a s.1.length s.1 ∧ s.1.length ≤ cap ∧ cap ≤ maxLen ∧ (In r a ∧ r ≠ g ∧ r < w.heap.size) ∧ (a = none → cap = 0) ∧ Byt s.1
theorem RdAt.only {w w' : World} {g r : Nat} {s : RSt} (h : RdAt w g r s) (hb : w'.heap[g]? = w.heap[g]?) (ho : Only g w w') : RdAt w' g r s := by
  obtain ⟨a, cap, h1, h2, h3, h4, h5, h6, h7⟩ := h
  exact ⟨a, cap, hb.trans h1, h2.only (h5.1.off h5.2.1) ho, h3, h4, ⟨h5.1, h5.2.1, Nat.lt_of_lt_of_le h5.2.2 ho.size⟩, h6, h7⟩
theorem RdAt.lt {w : World} {g r : Nat} {s : RSt} (h : RdAt w g r s) : g < w.heap.size := by obtain ⟨a, cap, h, -⟩ := h; exact (Array.getElem?_eq_some_iff.1 h).1
theorem RdAt.below {w w' : World} {g r : Nat} {s : RSt} (h : RdAt w g r s) (hb : Below w.heap.size w w') : RdAt w' g r s := h.only (hb.block g h.lt) (Only.of hb g)
theorem RdAt.byt {w : World} {g r : Nat} {s : RSt} (h : RdAt w g r s) : OkS s := by obtain ⟨a, cap, -, -, -, -, -, -, h⟩ := h; exact h
theorem read_any (w : World) (a : Option Addr) (cap : Nat) (xs : List Nat) (hr : RowL .u8 w a xs.length xs) (hc : xs.length ≤ cap) (hm : cap ≤ maxLen) (hn : a = none → cap = 0) (r : Nat) (hi : In r a) (hlt : r < w.heap.size) (hb : Byt xs) :
    Calls Try.prog 21 #[.slice a xs.length cap] w fun e w' => e = .returned (.pointer (some ⟨w.heap.size, 0, none⟩)) ∧ RdAt w' w.heap.size r (xs, 0) ∧ Below w.heap.size w w' := by
  go_enter Try.func21, Try.ntmps21
  go_wp2
  go_ret
  refine ⟨rfl, ⟨a, cap, heap_alloc_last w _, hr.below (below_new w _), hc, hm, ⟨hi, by omega, by simp; omega⟩, hn, hb⟩, below_new w _⟩
theorem err_nil (w : World) : Calls Try.prog 33 #[.pointer none] w fun e w' => e = .returned (.int .i64 1) ∧ w' = w := by
  go_enter Try.func33, Try.ntmps33
  go_wp2
  go_ret
  exact ⟨rfl, rfl⟩
theorem err_any (w : World) (g r : Nat) (s : RSt) (hR : RdAt w g r s) : Calls Try.prog 33 #[.pointer (some ⟨g, 0, none⟩)] w fun e w' => e = .returned (.int .i64 s.2) ∧ w' = w := by
  obtain ⟨a, cap, h1, -⟩ := hR
  have hc : w.cell? ⟨g, 1, none⟩ = some (.int .i64 s.2) := by rw [cell_of_row w g 1 _ _ _ h1]; rfl
  go_enter Try.func33, Try.ntmps33
  go_wp2
  go_ret
  exact ⟨rfl, rfl⟩
/-- The reader with what is wrong written anew. -/
theorem RdAt.setErr {w : World} {g r : Nat} {s : RSt} (h : RdAt w g r s) (e : Int) : RdAt (w.setCell ⟨g, 1, none⟩ (.int .i64 e)) g r (s.1, e) := by
  obtain ⟨a, cap, h1, h2, h3, h4, h5, h6, h7⟩ := h
  exact ⟨a, cap, by simp [World.setCell, Array.getElem?_modify, h1], h2.only (h5.1.off h5.2.1) (Only.set w g 1 _), h3, h4, ⟨h5.1, h5.2.1, by simpa [World.setCell] using h5.2.2⟩, h6, h7⟩
theorem fail_any (w : World) (g r : Nat) (s : RSt) (hR : RdAt w g r s) (e' : Int) :
    Calls Try.prog 42 #[.pointer (some ⟨g, 0, none⟩), .int .i64 e'] w fun e w' => e = .returned (.tuple #[]) ∧ RdAt w' g r (s.1, if s.2 = 0 then e' else s.2) ∧ Only g w w' := by
  have HR := hR
  obtain ⟨a, cap, h1, -⟩ := hR
  have hc : w.cell? ⟨g, 1, none⟩ = some (.int .i64 s.2) := by rw [cell_of_row w g 1 _ _ _ h1]; rfl
  have hf : w.frozen? ⟨g, 1, none⟩ = false := frozen_of_row w g 1 _ _ h1
  by_cases h0 : s.2 = 0
  · rw [if_pos h0]
    have HE := err_any w g r s HR
    rw [h0] at HE hc
    have HS := HR.setErr e'
    clear h1
    go_enter Try.func42, Try.ntmps42
    go_wp2_with fail
    refine HE.mono ?_
    rintro e w1 ⟨rfl, rfl⟩
    go_wp2_with fail
    refine bodyPost_end (results_none rfl _ _ _) rfl ?_
    exact ⟨rfl, HS, Only.set _ g 1 _⟩
  · rw [if_neg h0]
    have HE := err_any w g r s HR
    go_enter Try.func42, Try.ntmps42
    go_wp2_with fail
    refine HE.mono ?_
    rintro e w1 ⟨rfl, rfl⟩
    go_wp2_with fail
    refine bodyPost_end (results_none rfl _ _ _) rfl ?_
    exact ⟨rfl, HR, Only.refl _ _⟩
theorem RowL.take {k : IntKind} {w : World} {a : Option Addr} {n : Nat} {xs : List Nat} (h : RowL k w a n xs) (m : Nat) (hm : m ≤ n) : RowL k w a m (xs.take m) := by
  obtain ⟨h1, h4⟩ := h
  refine ⟨by rw [List.length_take]; omega, ?_⟩
  rcases h4 with h4 | ⟨b, off, ha, hlt, hc⟩
  · exact .inl (by omega)
  · refine .inr ⟨b, off, ha, hlt, fun i hi => ?_⟩
    rw [hc i (by omega), List.getD_eq_getElem?_getD, List.getD_eq_getElem?_getD, List.getElem?_take, if_pos hi]
theorem addr_add (b off m : Nat) : (⟨b, off, none⟩ : Addr).add m = ⟨b, off + m, none⟩ := by unfold Addr.add; split <;> simp_all
theorem RowL.drop {k : IntKind} {w : World} {a : Option Addr} {n : Nat} {xs : List Nat} (h : RowL k w a n xs) (m : Nat) (hm : m ≤ n) : RowL k w (a.map fun x => x.add m) (n - m) (xs.drop m) := by
  obtain ⟨h1, h4⟩ := h
  refine ⟨by rw [List.length_drop]; omega, ?_⟩
  rcases h4 with h4 | ⟨b, off, ha, hlt, hc⟩
  · exact .inl (by omega)
  · refine .inr ⟨b, off + m, by rw [ha]; exact congrArg some (addr_add b off m), hlt, fun i hi => ?_⟩
    rw [Nat.add_assoc, hc (m + i) (by omega), List.getD_eq_getElem?_getD, List.getD_eq_getElem?_getD, List.getElem?_drop]
theorem In.map {r : Nat} {a : Option Addr} (h : In r a) (m : Nat) : In r (a.map fun x => x.add m) := by
  intro ad ha
  cases a with
  | none => cases ha
  | some x =>
    cases ha
    have := h x rfl
    unfold Addr.add
    split <;> exact this
/-- The reader with the first bytes behind it. -/
theorem RdAt.cut {w : World} {g r : Nat} {s : RSt} {a : Option Addr} {cap : Nat} (h1 : w.heap[g]? = some (.cells #[.slice a s.1.length cap, .int .i64 s.2] 68 (0, 0))) (h2 : RowL .u8 w a s.1.length s.1) (h3 : s.1.length ≤ cap) (h4 : cap ≤ maxLen) (h5 : In r a ∧ r ≠ g ∧ r < w.heap.size) (h6 : a = none → cap = 0) (h7 : Byt s.1) (m : Nat) (hm : m ≤ s.1.length) :
    (cap = m → RdAt (w.setCell ⟨g, 0, none⟩ (.slice a (s.1.length - m) 0)) g r (s.1.drop m, s.2)) ∧
    RdAt (w.setCell ⟨g, 0, none⟩ (.slice (a.map fun x => x.add m) (s.1.length - m) (cap - m))) g r (s.1.drop m, s.2) := by
  have hl : (s.1.drop m).length = s.1.length - m := List.length_drop
  have h5' : ∀ v, r < (w.setCell ⟨g, 0, none⟩ v).heap.size := fun v => by simpa [World.setCell] using h5.2.2
  constructor
  · intro hc
    have e : (s.1.drop m).length = 0 := by omega
    refine ⟨a, 0, ?_, ⟨rfl, .inl e⟩, by simp only []; omega, by omega, ⟨h5.1, h5.2.1, h5' _⟩, fun _ => rfl, Byt.drop h7 m⟩
    rw [hl]
    simp [World.setCell, Array.getElem?_modify, h1]
  · refine ⟨a.map fun x => x.add m, cap - m, ?_, ?_, by simp only []; omega, by omega, ⟨h5.1.map m, h5.2.1, h5' _⟩, fun hn => ?_, Byt.drop h7 m⟩
    · rw [hl]
      simp [World.setCell, Array.getElem?_modify, h1]
    · have := (h2.drop m hm).only ((h5.1.map m).off h5.2.1) (Only.set w g 0 (.slice (a.map fun x => x.add m) (s.1.length - m) (cap - m)))
      rw [← hl] at this ⊢
      exact this
    · cases a with
      | none => rw [h6 rfl]; omega
      | some x => cases hn
/-- What 'take' answers. -/
def TakeR (w : World) (g r : Nat) (T : List Nat × RSt) (e : Ending) (w' : World) : Prop := ∃ a cap, e = .returned (.slice a T.1.length cap) ∧ RowL .u8 w' a T.1.length T.1 ∧ (a = none → T.1.length = 0) ∧ In r a ∧ RdAt w' g r T.2 ∧ Only g w w'
theorem take_any (w : World) (g r : Nat) (s : RSt) (hR : RdAt w g r s) (k : Nat) (hk : k ≤ 4611686018427387904) :
    Calls Try.prog 45 #[.pointer (some ⟨g, 0, none⟩), .int .i64 (k : Nat)] w (TakeR w g r (takeS k s)) := by
  have HR := hR
  have HE := err_any w g r s HR
  obtain ⟨a, cap, h1, h2, h3, h4, h5, h6, h7⟩ := hR
  have hc : w.cell? ⟨g, 1, none⟩ = some (.int .i64 s.2) := by rw [cell_of_row w g 1 _ _ _ h1]; rfl
  have hc0 : w.cell? ⟨g, 0, none⟩ = some (.slice a s.1.length cap) := by rw [cell_of_row w g 0 _ _ _ h1]; rfl
  have hf : w.frozen? ⟨g, 0, none⟩ = false := frozen_of_row w g 0 _ _ h1
  by_cases h0 : s.2 = 0
  · rw [h0] at HE
    by_cases hl : s.1.length < k
    · have HT : Hid (takeS k s = ([], s.1, 3)) := by unfold Hid takeS; rw [if_pos h0, if_pos hl]
      have HF := fail_any w g r s HR 3
      rw [if_pos h0] at HF
      generalize takeS k s = T at *
      clear h1
      go_enter Try.func45, Try.ntmps45
      go_wp2_with fail
      refine HE.mono ?_
      rintro e w1 ⟨rfl, rfl⟩
      go_wp2_with fail
      refine HF.mono ?_
      rintro e w2 ⟨rfl, hR2, ho⟩
      go_wp2_with fail
      go_ret
      have := HT.out
      subst this
      exact ⟨none, 0, rfl, ⟨rfl, .inl rfl⟩, fun _ => rfl, fun _ h => (by cases h), hR2, ho⟩
    · have HT : Hid (takeS k s = (s.1.take k, s.1.drop k, 0)) := by unfold Hid takeS; rw [if_pos h0, if_neg hl]
      have hlt : (s.1.take k).length = k := by rw [List.length_take]; omega
      generalize takeS k s = T at *
      obtain ⟨k1, k2⟩ := RdAt.cut h1 h2 h3 h4 h5 h6 h7 k (by omega)
      have HA : Hid (∀ v, RowL .u8 (w.setCell ⟨g, 0, none⟩ v) a k (s.1.take k)) := fun v => (h2.take k (by omega)).only (h5.1.off h5.2.1) (Only.set w g 0 v)
      have HN : Hid (a = none → k = 0) := fun hn => by have := h6 hn; omega
      have HK1 : Hid (cap = k → RdAt (w.setCell ⟨g, 0, none⟩ (.slice a (s.1.length - k) 0)) g r (s.1.drop k, s.2)) := k1
      have HO : Hid (In r a) := h5.1
      have HL : Hid ((s.1.take k).length = k) := hlt
      have HZ : Hid (s.2 = 0) := h0
      clear h1 k1 hlt h5 h6
      go_enter Try.func45, Try.ntmps45
      go_wp2_with fail
      refine HE.mono ?_
      rintro e w1 ⟨rfl, rfl⟩
      go_wp2_with fail
      · go_ret
        have := HT.out
        subst this
        have := HK1.out ‹_›
        rw [HZ.out] at this
        refine ⟨a, _, by show _ = Ending.returned (.slice a (s.1.take k).length _); rw [HL.out]; rfl, by show RowL _ _ _ (s.1.take k).length _; rw [HL.out]; exact HA.out _, fun hn => by show (s.1.take k).length = 0; rw [HL.out]; exact HN.out hn, HO.out, this, Only.set _ g 0 _⟩
      · go_ret
        have := HT.out
        subst this
        rw [HZ.out] at k2
        refine ⟨a, _, by show _ = Ending.returned (.slice a (s.1.take k).length _); rw [HL.out]; rfl, by show RowL _ _ _ (s.1.take k).length _; rw [HL.out]; exact HA.out _, fun hn => by show (s.1.take k).length = 0; rw [HL.out]; exact HN.out hn, HO.out, k2, Only.set _ g 0 _⟩
  · have HT : Hid (takeS k s = ([], s)) := by unfold Hid takeS; rw [if_neg h0]
    generalize takeS k s = T at *
    clear h1
    go_enter Try.func45, Try.ntmps45
    go_wp2_with fail
    refine HE.mono ?_
    rintro e w1 ⟨rfl, rfl⟩
    go_wp2_with fail
    go_ret
    have := HT.out
    subst this
    exact ⟨none, 0, rfl, ⟨rfl, .inl rfl⟩, fun _ => rfl, fun _ h => (by cases h), HR, Only.refl _ _⟩
end Go.Proofs.Ytngojkleehgbaaa
