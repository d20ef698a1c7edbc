/-
  Sum of package sha: the digest of all parts, one behind the other.
-/
import Derived.Test.YtmaaakcfbekboaaDoorShaHSum
namespace Go.Proofs.YtmaaakcfbekboaaDoor
open Go.ChangeShapes Go.WideShapes Go.ChangeAt Go.RowKit
set_option linter.unusedVariables false
set_option linter.unusedSimpArgs false
theorem Blk.aside {w w' : World} {g p : Nat} {t : TypeId} {k : IntKind} {l : List Nat} (h : Blk w g t k l) (hb : Aside p w w') (hne : g ≠ p) : Blk w' g t k l := (hb.block g h.lt hne).trans h
set_option maxRecDepth 100000 in
set_option maxHeartbeats 4000000 in
theorem ssum_any (w : World) (a : Option Addr) (len cap : Nat) (ps : List (List Nat)) (hP : PartsL w a len ps) (hT : Tab w) (hb : ∀ xs ∈ ps, ∀ j, xs.getD j 0 < 256) (hl : ∀ xs ∈ ps, xs.length ≤ 140737488355000) (hm : len ≤ maxLen) (hfl : ps.flatten.length ≤ 1152921504606846976) :
    Calls Tryd.prog 8 #[.slice a len cap] w fun e w' => e = .returned (.agg (encL .u8 (shaN ps.flatten))) ∧ Below w.heap.size w w' := by
  have HP : Hid (PartsL w a len ps) := hP
  have HB : Hid ((∀ xs ∈ ps, ∀ j, xs.getD j 0 < 256) ∧ ∀ xs ∈ ps, xs.length ≤ 140737488355000) := ⟨hb, hl⟩
  have HFL : Hid (ps.flatten.length ≤ 1152921504606846976) := hfl
  have HT : Hid (Tab w) := hT
  have HPL : Hid (ps.length = len) := hP.1
  unfold maxLen at hm
  clear hP hT hb hl hfl
  have sA : (w.alloc (.cells (encL .u8 zeros32) 25)).heap.size = w.heap.size + 1 := by simp
  have HN0 : Hid (Hash ((w.alloc (.cells (encL .u8 zeros32) 25)).alloc (.cells hash0 50)) (w.heap.size + 1) w.heap.size []) := by
    have := hash_new (w.alloc (.cells (encL .u8 zeros32) 25)) w.heap.size
    rw [sA] at this
    exact this
  have HD0 : Hid (Blk ((w.alloc (.cells (encL .u8 zeros32) 25)).alloc (.cells hash0 50)) w.heap.size 25 .u8 zeros32) := (Blk.new w _ _ _).alloc _
  have HE0 : Hid (Below w.heap.size w ((w.alloc (.cells (encL .u8 zeros32) 25)).alloc (.cells hash0 50))) := Below.alloc (below_new w _) (by simp) _
  have HNEW : Hid _ := new_any (w.alloc (.cells (encL .u8 zeros32) 25))
  rw [sA] at HNEW
  clear sA
  go_enter Tryd.func8, Tryd.ntmps8
  go_wp2_with (first
    | (refine alloc_op rfl 25 rfl _ (digAlloc _) ?_))
  refine Calls.mono HNEW.out ?_
  rintro e w0 ⟨rfl, hw0⟩
  rw [← hw0] at HN0 HD0 HE0
  clear hw0 HNEW
  go_wp2_with fail
  go_loopw [9] (fun ix wr => ∃ (wz : World) (i : Nat), wz = wr ∧ i ≤ len ∧ ix = .int .i64 i ∧ Hash wz (w.heap.size + 1) w.heap.size (ps.take i).flatten ∧ Blk wz w.heap.size 25 .u8 zeros32 ∧ Below w.heap.size w wz) (fun ix _ => len - (intOf ix).toNat)
  case atStart => exact ⟨w0, 0, rfl, Nat.zero_le _, rfl, HN0.out, HD0.out, HE0.out⟩
  case round =>
    clear HN0 HD0 HE0
    obtain ⟨wr, i, hwr, hi, rfl, hH, hD, hE⟩ := hrel
    subst hwr
    have HH : Hid (Hash wr (w.heap.size + 1) w.heap.size (ps.take i).flatten) := hH
    have HD : Hid (Blk wr w.heap.size 25 .u8 zeros32) := hD
    have HE : Hid (Below w.heap.size w wr) := hE
    have HTR : Hid (Tab wr) := HT.out.below hE HT.out.1
    clear hH hD hE
    by_cases hlt : i < len
    · obtain ⟨-, h0 | ⟨b, off, hae, hbl, hcs⟩⟩ := HP.out
      · omega
      subst hae
      obtain ⟨ai, li, ci, hc, hrow, hnil⟩ := hcs i hlt
      have hcr : wr.cell? ⟨b, off + i, none⟩ = some (.slice ai li ci) := (HE.out.cell (p := ⟨b, off + i, none⟩) hbl).trans hc
      have hmem : ps.getD i [] ∈ ps := by
        have hil : i < ps.length := by rw [HPL.out]; exact hlt
        rw [List.getD_eq_getElem?_getD, List.getElem?_eq_getElem hil]
        exact List.getElem_mem _
      have hNX : (ps.take (i + 1)).flatten = (ps.take i).flatten ++ ps.getD i [] := flat_take ps i (by rw [HPL.out]; exact hlt)
      have hfl := flat_le ps (i + 1)
      rw [hNX, List.length_append] at hfl
      have hfl2 := HFL.out
      have hli : (ps.getD i []).length = li := hrow.1
      have hw := write_any wr (w.heap.size + 1) w.heap.size (ps.take i).flatten HH.out HTR.out (by omega) HE.out.size ai li ci (ps.getD i []) (hrow.below HE.out) (HB.out.1 _ hmem) hnil (by have := HB.out.2 _ hmem; omega) (by omega)
      rw [← hNX] at hw
      have HW : Hid _ := hw
      clear hcs hc hrow hnil hbl hmem hNX hfl hfl2 hli hw
      have hii : (i : Int) < (len : Int) := by omega
      go_wp2_with fail
      refine Calls.mono HW.out ?_
      rintro e w1 ⟨rfl, hH1, hA1⟩
      have HH1 : Hid (Hash w1 (w.heap.size + 1) w.heap.size (ps.take (i + 1)).flatten) := hH1
      have HD1 : Hid (Blk w1 w.heap.size 25 .u8 zeros32) := HD.out.aside hA1 (by omega)
      have HE1 : Hid (Below w.heap.size w w1) := HE.out.trans (hA1.below (by omega) HE.out.size)
      clear hH1 hA1 HW
      go_wp2_with fail
      go_roundw
      case rel => exact ⟨w1, i + 1, rfl, by omega, by go_num, HH1.out, HD1.out, HE1.out⟩
      case measure => simp [intOf]; omega
    · have hil : i = len := by omega
      have hge : ¬ (i : Int) < (len : Int) := by omega
      have hpt : ps.take i = ps := by rw [hil, ← HPL.out, List.take_length]
      rw [hpt] at HH
      clear hil hpt
      have HS : Hid _ := hsum_any wr (w.heap.size + 1) w.heap.size ps.flatten HH.out HTR.out HFL.out
      obtain ⟨D, hD⟩ : ∃ D, D = shaN ps.flatten := ⟨_, rfl⟩
      rw [← hD] at HS
      have HDL : Hid (D.length = 32) := by rw [hD]; exact shaN_length _
      have HDD : Hid (D = shaN ps.flatten) := hD
      clear hD
      go_wp2_with fail
      refine Calls.mono HS.out ?_
      rintro e w1 ⟨rfl, hb1⟩
      have HD1 : Hid (Blk w1 w.heap.size 25 .u8 zeros32) := HD.out.below hb1
      have HE1 : Hid (Below w.heap.size w w1) := HE.out.trans (hb1.mono HE.out.size)
      have HST : Hid ((storeVar 25 ⟨w.heap.size, 0, none⟩ (.agg (encL .u8 D))).run Tryd.prog w1 = .ok () (w1.setRow w.heap.size (encL .u8 D))) := HD1.out.store digT rfl HDL.out
      clear hb1 HS
      go_wp2_with (first
        | (refine store_op rfl 25 (.tmp 2) (.tmp 18) rfl ⟨w.heap.size, 0, none⟩ rfl _ rfl HST.out ?_))
      refine bodyPost_ret (v := .agg (encL .u8 D)) ?_ rfl ⟨by rw [HDD.out], below_setRow HE1.out (Nat.le_refl _) _⟩
      rw [results_cell rfl]
      exact (HD1.out.setRow D).load digT HDL.out
end Go.Proofs.YtmaaakcfbekboaaDoor
