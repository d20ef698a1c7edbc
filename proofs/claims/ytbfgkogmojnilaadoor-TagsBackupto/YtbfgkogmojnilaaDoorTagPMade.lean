/-
  The program's Make, as the document's answer: the walk.
-/
import Derived.Test.YtbfgkogmojnilaaDoorTagPMake
namespace Go.Proofs.YtbfgkogmojnilaaDoor
open Go.ChangeShapes Go.WideShapes Go.ChangeAt Go.RowKit
set_option linter.unusedVariables false
set_option linter.unusedSimpArgs false
theorem holds_tags {w : World} {g : Nat} {ts : List (ByteArray × ByteArray)} (hb : w.heap[g]? = some (.cells (encTs ts).toArray 40 (0, 0))) : Go.Sort.HoldsK encT 2 w g 0 ts.toArray := by
  intro j hj
  rw [Go.Sort.size_flatK] at hj
  have hsz : ts.toArray.size = ts.length := by simp
  rw [Go.Sort.get_flatK _ _ _ _ hj]
  have hj2 : j / 2 < ts.length := by omega
  have e1 : ts.toArray[j / 2]! = tagAt ts (j / 2) := by rw [← tag_bang ts _ hj2]; simp
  obtain ⟨h1, h2⟩ := encTs_at ts (j / 2) hj2
  have hv : (encTs ts)[j]? = some (encT (tagAt ts (j / 2)))[j % 2]! := by
    rcases Nat.mod_two_eq_zero_or_one j with h | h
    · rw [h]
      rw [show j / 2 * 2 = j by omega] at h1
      exact h1
    · rw [h]
      rw [show j / 2 * 2 + 1 = j by omega] at h2
      exact h2
  constructor
  · rw [e1, cell_of_row w g _ _ _ _ hb, Nat.zero_add]
    simpa using hv
  · simp [World.frozen?, hb]
theorem below_sorted {w w' : World} {B g n : Nat} {d : Array (ByteArray × ByteArray)} {os : Array Obj} (h : Below B w w') (hB : B ≤ g) (hg : g < w'.heap.size) : Below B w (sortWorldK encT 2 w' g 0 n d os) := by
  refine h.trans ⟨rfl, rfl, rfl, ?_, fun k hk => ?_⟩
  · exact size_sortWorldK_c encT 2 w' g 0 n d os
  · unfold sortWorldK Go.Sort.putRowK
    rw [Go.Sort.heap_grow_old _ _ (by rw [Go.Sort.size_putRow]; show k < w'.heap.size; omega)]
    have : g ≠ k := by omega
    simp [Go.Sort.putRow, Go.Sort.mapBlock, Go.Sort.ahead, Array.getElem?_modify, this]
theorem row_sorted {w : World} {g n : Nat} {ts : List (ByteArray × ByteArray)} {d : Array (ByteArray × ByteArray)} {os : Array Obj} (hH : Go.Sort.HoldsK encT 2 w g 0 ts.toArray) (hg : g < w.heap.size) (hs : d.size = ts.toArray.size) : RowT (sortWorldK encT 2 w g 0 n d os) (some ⟨g, 0, none⟩) d.toList := by
  have hk := holdsK_sortWorldK_c encT 2 w g 0 ts.toArray d n os hH hg hs
  refine .inr ⟨g, 0, rfl, Nat.lt_of_lt_of_le hg (size_sortWorldK_c encT 2 w g 0 n d os), fun i hi => ?_⟩
  have hi' : i < d.size := by simpa using hi
  have e : d[i]! = tagAt d.toList i := by rw [← tag_bang _ _ hi]; simp [hi']
  have c0 := (hk.cell hi' (show 0 < 2 by omega)).1
  have c1 := (hk.cell hi' (show 1 < 2 by omega)).1
  rw [e] at c0 c1
  exact ⟨c0, c1⟩
set_option maxRecDepth 100000 in
set_option maxHeartbeats 2000000 in
theorem tmake_any (a : Option Addr) (len cap : Nat) (ts : List (ByteArray × ByteArray)) (w : World) (hT : Tab6 w) (ht : RowT w a ts) (hl : ts.length = len) (hlb : len ≤ 9223372036854775806) :
    Calls Tryd.prog 7 #[.slice a len cap] w fun e w' => TagsR (makeB ts) e w' ∧ Below w.heap.size w w' := by
  by_cases h8 : 8 < len
  · have i8 : (8 : Int) < (len : Int) := by omega
    have HS : Hid (makeB ts = .error 9) := by unfold Hid makeB; rw [if_pos (show 8 < ts.length by omega)]
    clear h8 ht hT
    go_enter Tryd.func7, Tryd.ntmps7
    go_wp2_with fail
    go_ret2
    exact ⟨by rw [HS.out]; exact rfl, Below.refl _ _⟩
  · have i8 : ¬ (8 : Int) < (len : Int) := by omega
    have hn8 : len ≤ 8 := by omega
    have HR : Hid (RowT w a ts) := ht
    have HT : Hid (Tab6 w) := hT
    have HL : Hid (ts.length = len) := hl
    have hsz : ts.toArray.size = len := by simp [hl]
    have HSORT : Hid (∀ W, Go.Sort.HoldsK encT 2 W w.heap.size 0 ts.toArray → w.heap.size < W.heap.size → Calls Tryd.prog 21 #[.slice (some ⟨w.heap.size, 0, none⟩) len len, .func (.func 22) #[] #[]] W fun e w' => e = .returned (.tuple #[]) ∧ ∃ d' n os, Go.Sort.PermIn 0 ts.toArray.size ts.toArray d' ∧ Go.Sort.SortedIn (ltOf cmpT) 0 ts.toArray.size d' ∧ w' = sortWorldK encT 2 W w.heap.size 0 n d' os) := fun W h1 h2 => by
      have := sort_any w.heap.size len ts.toArray W h1 h2 (by omega)
      rw [hsz] at this ⊢
      exact this
    clear ht hl hT h8 hsz
    go_enter Tryd.func7, Tryd.ntmps7
    go_wp2_with (refine make_tags w rfl _ _ rfl len rfl rfl hn8 ?_; intro cur hcur)
    have hb0 : (w.alloc (.cells cur 40)).heap[w.heap.size]? = some (.cells cur 40 (0, 0)) := heap_alloc_last w _
    have HB0 : Hid (Below w.heap.size w (w.alloc (.cells cur 40))) := below_new w _
    have hr0 := HR.out.below HB0.out
    have hs0 : w.heap.size < (w.alloc (.cells cur 40)).heap.size := by simp
    generalize w.alloc (.cells cur 40) = w0 at *
    obtain ⟨g, hg⟩ : ∃ g, g = w.heap.size := ⟨_, rfl⟩
    have HG : Hid (g = w.heap.size) := hg
    rw [← hg] at hb0 hs0 HSORT
    rw [← hg]
    clear hg
    have hcp := copy_tags w0 3 g len a cap cur hb0 hcur ts HL.out hr0
    have hb1 : (w0.setRow g (encTs ts).toArray).heap[g]? = some (.cells (encTs ts).toArray 40 (0, 0)) := setRow_heap w0 g cur _ 40 (0, 0) hb0
    have HB1 : Hid (Below g w (w0.setRow g (encTs ts).toArray)) := by
      unfold Hid
      exact Go.below_setRow (by rw [HG.out]; exact HB0.out) (Nat.le_refl _) _
    have hs1 : g < (w0.setRow g (encTs ts).toArray).heap.size := by simpa [World.setRow] using hs0
    generalize w0.setRow g (encTs ts).toArray = w1 at *
    have HH : Hid (Go.Sort.HoldsK encT 2 w1 g 0 ts.toArray) := holds_tags hb1
    have HS1 : Hid (g < w1.heap.size) := hs1
    have HSC : Hid _ := HSORT.out w1 HH.out hs1
    clear hb1 hr0 hs0 hs1 HB0 HSORT hcur hb0
    go_wp2_with fail
    refine Calls.mono HSC.out ?_
    rintro _ w2 ⟨rfl, d, n, os, hp, hsd, hw⟩
    have hds : d.size = ts.toArray.size := hp.1
    obtain ⟨q1, q2⟩ := sorted_parts hp hsd
    have hr2 : RowT w2 (some ⟨g, 0, none⟩) d.toList := by rw [hw]; exact row_sorted HH.out HS1.out hds
    have hb2 : Below g w w2 := by rw [hw]; exact below_sorted HB1.out (Nat.le_refl _) HS1.out
    have hdl : d.toList.length = len := by rw [q1.length_eq]; exact HL.out
    have hmk : makeB ts = if twiceB d.toList then .error 8 else if soundB d.toList then .ok d.toList else .error 2 := make_sorted (by rw [HL.out]; exact hn8) q1 q2
    generalize d.toList = l at *
    have HMK : Hid (makeB ts = if twiceB l then .error 8 else if soundB l then .ok l else .error 2) := hmk
    have HB2 : Hid (Below g w w2) := hb2
    have HR2 : Hid (RowT w2 (some ⟨g, 0, none⟩) l) := hr2
    have HDL : Hid (l.length = len) := hdl
    have HTW : Hid _ := istwice_any g 0 len len l w2 hr2 hdl hlb
    have HT2 : Hid (Tab6 w2) := HT.out.below (by rw [← HG.out]; exact hb2)
    clear hw hp hsd hds q1 q2 hr2 hb2 hdl hmk HSC HH HS1 HB1
    go_wp2_with fail
    refine Calls.mono HTW.out ?_
    rintro _ w3 ⟨rfl, hw⟩
    have hb := below_some hw
    have HB3 : Hid (Below g w w3) := HB2.out.trans (hb.mono (by have := HB2.out.size; rw [HG.out]; exact this))
    have HR3 : Hid (RowT w3 (some ⟨g, 0, none⟩) l) := HR2.out.below hb
    have HT3 : Hid (Tab6 w3) := HT2.out.below hb
    clear hw hb HTW HB2 HR2 HT2
    cases htw : twiceB l with
    | true =>
      have HS2 : Hid (makeB ts = .error 8) := by unfold Hid; rw [HMK.out, htw]; rfl
      clear htw HMK
      go_wp2_with fail
      go_ret2
      exact ⟨by rw [HS2.out]; exact rfl, by rw [← HG.out]; exact HB3.out⟩
    | false =>
      have HMK2 : Hid (makeB ts = if soundB l then .ok l else .error 2) := by unfold Hid; rw [HMK.out, htw]; rfl
      have HSN : Hid _ := tsound_any (some ⟨g, 0, none⟩) len len l w3 HT3.out HR3.out HDL.out hlb
      clear htw HMK
      go_wp2_with fail
      refine Calls.mono HSN.out ?_
      rintro _ w4 ⟨rfl, hb⟩
      have HB4 : Hid (Below g w w4) := HB3.out.trans (hb.mono (by have := HB3.out.size; rw [HG.out]; exact this))
      have HR4 : Hid (RowT w4 (some ⟨g, 0, none⟩) l) := HR3.out.below hb
      clear hb HSN HB3 HR3 HT3
      cases hsn : soundB l with
      | false =>
        have HS2 : Hid (makeB ts = .error 2) := by unfold Hid; rw [HMK2.out, hsn]; rfl
        clear hsn HMK2
        go_wp2_with fail
        go_ret2
        exact ⟨by rw [HS2.out]; exact rfl, by rw [← HG.out]; exact HB4.out⟩
      | true =>
        have HS2 : Hid (makeB ts = .ok l) := by unfold Hid; rw [HMK2.out, hsn]; rfl
        clear hsn HMK2
        go_wp2_with fail
        go_ret2
        refine ⟨?_, by rw [← HG.out]; exact HB4.out⟩
        rw [HS2.out]
        exact ⟨_, len, by rw [HDL.out]; rfl, HR4.out, by rw [HDL.out]; exact Nat.le_refl _⟩
end Go.Proofs.YtbfgkogmojnilaaDoor
