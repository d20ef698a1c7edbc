/-
  The document's Reader.
-/
import Derived.Test.YtngojkleehgbaaaPackRef
import Derived.Test.YtngojkleehgbaaaPackR3
namespace Go.Proofs.Ytngojkleehgbaaa
open Go.ChangeShapes Go.WideShapes Go.ChangeAt Go.RowKit
set_option linter.unusedVariables false
set_option linter.unusedSimpArgs false
def RfAt (w : World) (g : Nat) (s : RSt) : Prop := w.heap[g]? = some (.cells #[.string (strN s.1), .int .i64 s.2] 50 (0, 0)) ∧ Byt s.1 ∧ s.1.length ≤ 140737488355328
theorem RfAt.lt {w : World} {g : Nat} {s : RSt} (h : RfAt w g s) : g < w.heap.size := (Array.getElem?_eq_some_iff.1 h.1).1
theorem RfAt.byt {w : World} {g : Nat} {s : RSt} (h : RfAt w g s) : OkS s := h.2.1
theorem RfAt.keep {w w' : World} {g : Nat} {s : RSt} (h : RfAt w g s) (hb : w'.heap[g]? = w.heap[g]?) : RfAt w' g s := ⟨hb.trans h.1, h.2⟩
theorem RfAt.cells {w : World} {g : Nat} {s : RSt} (h : RfAt w g s) : w.cell? ⟨g, 0, none⟩ = some (.string (strN s.1)) ∧ w.cell? ⟨g, 1, none⟩ = some (.int .i64 s.2) ∧ w.frozen? ⟨g, 0, none⟩ = false ∧ w.frozen? ⟨g, 1, none⟩ = false :=
  ⟨by rw [cell_of_row w g 0 _ _ _ h.1]; rfl, by rw [cell_of_row w g 1 _ _ _ h.1]; rfl, frozen_of_row w g 0 _ _ h.1, frozen_of_row w g 1 _ _ h.1⟩
theorem RfAt.setE {w : World} {g : Nat} {s : RSt} (h : RfAt w g s) (e : Int) : RfAt (w.setCell ⟨g, 1, none⟩ (.int .i64 e)) g (s.1, e) := ⟨by simp [World.setCell, Array.getElem?_modify, h.1], h.2⟩
theorem RfAt.setS {w : World} {g : Nat} {s : RSt} (h : RfAt w g s) (k : Nat) : RfAt (w.setCell ⟨g, 0, none⟩ (.string (strN (s.1.drop k)))) g (s.1.drop k, s.2) := ⟨by simp [World.setCell, Array.getElem?_modify, h.1], Byt.drop h.2.1 k, by have := h.2.2; simp only [List.length_drop]; omega⟩
def RfR (w : World) (g : Nat) (v : Value) (s : RSt) (e : Ending) (w' : World) : Prop := e = .returned v ∧ RfAt w' g s ∧ Only g w w'
theorem strN_to (xs : List Nat) (k : Nat) : (strN xs).extract 0 k = strN (xs.take k) := by
  apply ByteArray.ext
  simp [strN, ByteArray.extract, ByteArray.copySlice, List.map_take]
theorem strN_from (xs : List Nat) (k : Nat) : (strN xs).extract k xs.length = strN (xs.drop k) := by
  apply ByteArray.ext
  simp [strN, ByteArray.extract, ByteArray.copySlice, List.map_drop]
  exact List.take_of_length_le (by simp)
theorem cut_to (xs : List Nat) (k : Nat) (h : k ≤ xs.length) (W : World) : (Instr.slice 9 (.string (strN xs)) none (some (.int .i64 (k : Nat))) none).run Try.prog W = .ok (.string (strN (xs.take k))) W := by
  have hs := strN_size xs
  rw [run_slice_string_h W _ _ Try.underlying9 .i64 (k : Nat) (by omega) (by omega), Int.toNat_natCast, strN_to]
theorem cut_from (xs : List Nat) (k : Nat) (h : k ≤ xs.length) (W : World) : (Instr.slice 9 (.string (strN xs)) (some (.int .i64 (k : Nat))) none none).run Try.prog W = .ok (.string (strN (xs.drop k))) W := by
  have hs := strN_size xs
  rw [run_slice_string_l W _ _ Try.underlying9 .i64 (k : Nat) (by omega) (by omega), Int.toNat_natCast, hs, strN_from]
theorem runpackN_any (w : World) (a : Option Addr) (n cap : Nat) (xs : List Nat) (h : RowL .u8 w a n xs) (hm : n ≤ maxLen) (hb : Byt xs) :
    Calls Try.prog 43 #[.slice a n cap] w fun e w' => e = .returned (.tuple #[.int .u64 (unV xs : Nat), .int .i64 (unU xs : Nat), .int .i64 (unE xs)]) ∧ w' = w := by
  have := runpack_all a n cap (toI xs) w (h.toI hm hb)
  rw [(unV_le xs hb).2, (unU_le xs).2] at this
  exact this
theorem qnum_any (w : World) (g : Nat) (s : RSt) (hR : RfAt w g s) :
    Calls Try.prog 23 #[.pointer (some ⟨g, 0, none⟩)] w (RfR w g (.int .u64 ((numS s).1 : Nat)) (numS s).2) := by
  have HR := hR
  obtain ⟨c0, c1, f0, f1⟩ := hR.cells
  by_cases h0 : s.2 = 0
  · have HT : Hid (numS s = (unV s.1, s.1.drop (unU s.1), unE s.1)) := by unfold Hid numS; rw [if_pos h0]
    generalize numS s = T at *
    obtain ⟨cap, w2, hcv, hr, hb, hcap⟩ := conv_str w (strN s.1)
    rw [txt_strN s.1 HR.2.1, strN_size] at hr
    have hcl : s.1.length ≤ maxLen := by have := HR.2.2; unfold maxLen; omega
    have HU := runpackN_any w2 _ s.1.length cap s.1 hr hcl HR.2.1
    have hR2 : RfAt w2 g s := HR.keep (hb.block g HR.lt)
    have HV : Hid (RfAt ((w2.setCell ⟨g, 1, none⟩ (.int .i64 (unE s.1))).setCell ⟨g, 0, none⟩ (.string (strN (s.1.drop (unU s.1))))) g (s.1.drop (unU s.1), unE s.1)) := (hR2.setE (unE s.1)).setS (unU s.1)
    obtain ⟨d0, d1, k0, k1⟩ := hR2.cells
    obtain ⟨e0, e1, l0, l1⟩ := (hR2.setE (unE s.1)).cells
    have hcut := cut_from s.1 (unU s.1) (unU_le s.1).1
    have HO : Hid (Only g w w2) := Only.of hb g
    rw [strN_size] at hcv
    rw [h0] at c1
    clear hr hb hcap hcl
    generalize unU s.1 = U at *
    generalize unV s.1 = V at *
    generalize unE s.1 = E at *
    go_enter Try.func23, Try.ntmps23
    go_wp2_with fail
    refine HU.mono ?_
    rintro e w1 ⟨rfl, rfl⟩
    clear HU hcv
    go_wp2_with fail
    go_ret
    have := HT.out
    subst this
    exact ⟨rfl, HV.out, HO.out.trans ((Only.set _ g 1 _).trans (Only.set _ g 0 _))⟩
  · have HT : Hid (numS s = (0, s)) := (stay h0).1
    generalize numS s = T at *
    go_enter Try.func23, Try.ntmps23
    go_wp2_with fail
    go_ret
    have := HT.out
    subst this
    exact ⟨rfl, HR, Only.refl _ _⟩
theorem qcount_any (w : World) (g : Nat) (s : RSt) (hR : RfAt w g s) (most : Int) (m0 : -9223372036854775808 ≤ most) (m1 : most ≤ 9223372036854775807) :
    Calls Try.prog 32 #[.pointer (some ⟨g, 0, none⟩), .int .i64 most] w (RfR w g (.int .i64 ((countS most s).1 : Nat)) (countS most s).2) := by
  have HN := qnum_any w g s hR
  have hle := (numS_ok hR.byt).2
  have hbad := numS_bad (s := s)
  have HT : Hid (countS most s = if (numS s).2.2 = 0 ∧ (most < 0 ∨ most < (numS s).1) then (0, (numS s).2.1, 17) else numS s) := rfl
  generalize countS most s = C at *
  generalize numS s = T at *
  go_enter Try.func32, Try.ntmps32
  go_wp2_with fail
  refine HN.mono ?_
  rintro e w1 ⟨rfl, hR1, ho⟩
  have HO : Hid (Only g w w1 ∧ RfAt w1 g T.2 ∧ RfAt (w1.setCell ⟨g, 1, none⟩ (.int .i64 17)) g (T.2.1, 17)) := ⟨ho, hR1, hR1.setE 17⟩
  obtain ⟨c0, c1, f0, f1⟩ := hR1.cells
  clear HN hR ho hR1 c0 f0
  by_cases h0 : T.2.2 = 0
  · rw [h0] at c1
    clear hbad
    by_cases h1 : most < 0
    · have := HT.out
      rw [if_pos ⟨h0, .inl h1⟩] at this
      subst this
      clear HT h0
      generalize T.1 = t at *
      go_wp2_with fail
      go_ret
      exact ⟨rfl, HO.out.2.2, HO.out.1.trans (Only.set _ g 1 _)⟩
    · by_cases h2 : most < T.1
      · have := HT.out
        rw [if_pos ⟨h0, .inr h2⟩] at this
        subst this
        clear HT h0
        generalize T.1 = t at *
        go_wp2_with fail
        go_ret
        exact ⟨rfl, HO.out.2.2, HO.out.1.trans (Only.set _ g 1 _)⟩
      · have := HT.out
        rw [if_neg (fun h => by rcases h.2 with h | h; exact h1 h; exact h2 h)] at this
        subst this
        clear HT h0
        generalize C.1 = t at *
        go_wp2_with fail
        go_ret
        exact ⟨ret_int (by omega), HO.out.2.1, HO.out.1⟩
  · have := HT.out
    rw [if_neg (fun h => h0 h.1)] at this
    subst this
    have ht := hbad h0
    clear HT hbad
    generalize C.1 = t at *
    subst ht
    go_wp2_with fail
    go_ret
    exact ⟨rfl, HO.out.2.1, HO.out.1⟩
end Go.Proofs.Ytngojkleehgbaaa
