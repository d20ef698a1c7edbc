/-
  'mix' of package sha: one block mixed in, over the table of factors.
-/
import Derived.Test.YtmaaakcfbekboaaDoorShaStep
import Derived.Test.YtmaaakcfbekboaaDoorShaSpread
import Derived.Test.YtmaaakcfbekboaaDoorAggVal
import Derived.Test.YtmaaakcfbekboaaDoorShaPrimes
import Derived.Test.YtmaaakcfbekboaaDoorHeld
namespace Go.Proofs.YtmaaakcfbekboaaDoor
open Go.ChangeShapes Go.WideShapes Go.ChangeAt Go.RowKit
set_option linter.unusedVariables false
set_option linter.unusedSimpArgs false
/-- The table of factors, as its text lays it. -/
def Tab (w : World) : Prop := 0 < w.heap.size ∧ ∀ i, i < 64 → w.cell? ⟨0, i, none⟩ = some (.int .u32 (factorsN.getD i 0 : Nat))
theorem Tab.below {w w' : World} {B : Nat} (h : Tab w) (hb : Below B w w') (hB : 0 < B) : Tab w' :=
  ⟨Nat.lt_of_lt_of_le h.1 hb.size, fun i hi => (hb.cell (p := ⟨0, i, none⟩) hB).trans (h.2 i hi)⟩
def nil8 : List Nat := [0, 0, 0, 0, 0, 0, 0, 0]
theorem alloc8 (w : World) : (Instr.alloc 48 true (.tuple #[])).run Tryd.prog w = .ok (.pointer (some ⟨w.heap.size, 0, none⟩)) (w.alloc (.cells (encL .u32 nil8) 48)) := by kernel_rfl
theorem factors_lt' (j : Nat) : factorsN.getD j 0 < 4294967296 := by
  by_cases h : j < 64
  · have : ∀ i : Fin 64, factorsN.getD i.val 0 < 4294967296 := by rw [factors_are]; decide +kernel
    exact this ⟨j, h⟩
  · rw [factors_are, List.getD_eq_getElem?_getD, List.getElem?_eq_none (by simp; omega)]; decide
theorem alloc8' (w : World) (n : Nat) (h : w.heap.size = n) : (Instr.alloc 48 true (.tuple #[])).run Tryd.prog w = .ok (.pointer (some ⟨n, 0, none⟩)) (w.alloc (.cells (encL .u32 nil8) 48)) := by
  subst h; exact alloc8 w
set_option maxRecDepth 100000 in
set_option maxHeartbeats 4000000 in
theorem mix_any (v : List Nat) (a : Option Addr) (len cap : Nat) (Bs : List Nat) (w : World) (hT : Tab w) (hv : v.length = 8) (bv : ∀ j, v.getD j 0 < 4294967296)
    (hB : RowL .u8 w a 64 Bs) (bB : ∀ j, Bs.getD j 0 < 256) (hl : 64 ≤ len) (hc : len ≤ cap) (hm : cap ≤ maxLen) :
    Calls Tryd.prog 25 #[.agg (encL .u32 v), .slice a len cap] w fun e w' => e = .returned (.agg (encL .u32 (blockN factorsN v Bs))) ∧ Below w.heap.size w w' := by
  obtain ⟨W3, hW3⟩ : ∃ W3, W3 = (((w.alloc (.cells (encL .u32 v) 48)).alloc (.cells (encL .u32 nil8) 48)).alloc (.cells (encL .u32 nil8) 48)).setRow (w.heap.size + 2) (encL .u32 v) := ⟨_, rfl⟩
  have sA : (w.alloc (.cells (encL .u32 v) 48)).heap.size = w.heap.size + 1 := by simp
  have sB : ((w.alloc (.cells (encL .u32 v) 48)).alloc (.cells (encL .u32 nil8) 48)).heap.size = w.heap.size + 2 := by simp
  have HBLD : Hid (Blk ((w.alloc (.cells (encL .u32 v) 48)).alloc (.cells (encL .u32 nil8) 48)) w.heap.size 48 .u32 v) := (Blk.new w _ _ _).alloc _
  have bR : Blk (((w.alloc (.cells (encL .u32 v) 48)).alloc (.cells (encL .u32 nil8) 48)).alloc (.cells (encL .u32 nil8) 48)) (w.heap.size + 1) 48 .u32 nil8 := by
    rw [← sA]
    exact (Blk.new (w.alloc (.cells (encL .u32 v) 48)) _ _ _).alloc _
  have bO : Blk (((w.alloc (.cells (encL .u32 v) 48)).alloc (.cells (encL .u32 nil8) 48)).alloc (.cells (encL .u32 nil8) 48)) (w.heap.size + 2) 48 .u32 nil8 := by
    rw [← sB]
    exact Blk.new _ _ _ _
  have HST : Hid ((storeVar 48 ⟨w.heap.size + 2, 0, none⟩ (.agg (encL .u32 v))).run Tryd.prog (((w.alloc (.cells (encL .u32 v) 48)).alloc (.cells (encL .u32 nil8) 48)).alloc (.cells (encL .u32 nil8) 48)) = .ok () W3) := by
    have := bO.store wordsT rfl hv
    rw [← hW3] at this
    exact this
  have HV3 : Hid (Blk W3 w.heap.size 48 .u32 v) := by rw [hW3]; exact (HBLD.out.alloc _).otherRow (by omega) _
  have HR3 : Hid (Blk W3 (w.heap.size + 1) 48 .u32 nil8) := by rw [hW3]; exact bR.otherRow (by omega) _
  have HO3 : Hid (Blk W3 (w.heap.size + 2) 48 .u32 v) := by rw [hW3]; exact bO.setRow v
  have HE3 : Hid (Below w.heap.size w W3) := by
    rw [hW3]
    exact below_setRow (Below.alloc (Below.alloc (below_new w _) (by simp) _) (by simp; omega) _) (by omega) _
  have HA1 : Hid _ := alloc8' _ _ sA
  have HA2 : Hid _ := alloc8' _ _ sB
  clear hW3 bR bO sA sB
  have HLD : Hid ((loadVar 48 ⟨w.heap.size, 0, none⟩).run Tryd.prog ((w.alloc (.cells (encL .u32 v) 48)).alloc (.cells (encL .u32 nil8) 48)) = .ok (.agg (encL .u32 v)) ((w.alloc (.cells (encL .u32 v) 48)).alloc (.cells (encL .u32 nil8) 48))) := HBLD.out.load wordsT hv
  have HT : Hid (Tab w) := hT
  have HB : Hid (RowL .u8 w a 64 Bs ∧ ∀ j, Bs.getD j 0 < 256) := ⟨hB, bB⟩
  have HVV : Hid (v.length = 8 ∧ ∀ j, v.getD j 0 < 4294967296) := ⟨hv, bv⟩
  clear hT hB bB hv bv HBLD
  go_enter Tryd.func25, Tryd.ntmps25
  go_wp2_with (first
    | (refine alloc_op rfl 48 rfl (.pointer (some ⟨w.heap.size + 1, 0, none⟩)) HA1.out ?_)
    | (refine alloc_op rfl 48 rfl (.pointer (some ⟨w.heap.size + 2, 0, none⟩)) HA2.out ?_)
    | (refine load_op rfl 48 (.tmp 2) rfl ⟨w.heap.size, 0, none⟩ rfl _ HLD.out ?_)
    | (refine store_op rfl 48 (.tmp 5) (.tmp 10) rfl ⟨w.heap.size + 2, 0, none⟩ rfl _ rfl HST.out ?_)
    | (go_at_call 27; refine (spread_any a len cap Bs W3 (HB.out.1.below HE3.out) HB.out.2 hl hc hm).mono ?_; rintro e w1 ⟨rfl, hb1⟩))
  have HT1 : Hid (Tab w1) := (HT.out.below HE3.out HT.out.1).below hb1 (Nat.lt_of_lt_of_le HT.out.1 HE3.out.size)
  have HV1 : Hid (Blk w1 w.heap.size 48 .u32 v) := HV3.out.below hb1
  have HR1 : Hid (Blk w1 (w.heap.size + 1) 48 .u32 nil8) := HR3.out.below hb1
  have HO1 : Hid (Blk w1 (w.heap.size + 2) 48 .u32 v) := HO3.out.below hb1
  have HE1 : Hid (Below w.heap.size w w1) := HE3.out.trans (hb1.mono HE3.out.size)
  have HSL : Hid (∀ j, (sch Bs 64).getD j 0 < 4294967296) := sch_lt Bs HB.out.2 64
  have HSN : Hid ((sch Bs 64).length = 64) := sch_length Bs 64
  obtain ⟨RES, hR0⟩ : ∃ R, R = blockN factorsN v Bs := ⟨_, rfl⟩
  have HRB : Hid (RES = blockN factorsN v Bs) := hR0
  have HRES : Hid (RES = addN (rnds factorsN (sch Bs 64) v 64) v 8) := hR0
  clear hR0
  clear hb1 HV3 HR3 HO3 HE3 HB HLD HST HA1 HA2
  generalize sch Bs 64 = S at *
  go_loopw [13] (fun ix wr => ∃ (wz : World) (i : Nat) (U : List Nat), wz = wr ∧ i ≤ 64 ∧ ix = .int .i64 i ∧ U = rnds factorsN S v i ∧ Blk wz (w.heap.size + 2) 48 .u32 U ∧ Blk wz (w.heap.size + 1) 48 .u32 nil8 ∧ Blk wz w.heap.size 48 .u32 v ∧ Tab wz ∧ Below w.heap.size w wz) (fun ix _ => 64 - (intOf ix).toNat)
  case atStart => exact ⟨w1, 0, v, rfl, by omega, rfl, rfl, HO1.out, HR1.out, HV1.out, HT1.out, HE1.out⟩
  case round =>
    clear HO1 HR1 HV1 HT1 HE1
    obtain ⟨wr, i, U, hwr, hi, rfl, hU, hO, hR, hV, hTb, hE⟩ := hrel
    subst hwr
    have HU : Hid (U = rnds factorsN S v i) := hU
    have HUL : Hid (U.length = 8) := by rw [hU]; exact rnds_length _ _ _ HVV.out.1 i
    have HUB : Hid (∀ j, U.getD j 0 < 4294967296) := by rw [hU]; exact rnds_lt _ _ _ HVV.out.2 i
    have HO : Hid (Blk wr (w.heap.size + 2) 48 .u32 U) := hO
    have HR : Hid (Blk wr (w.heap.size + 1) 48 .u32 nil8) := hR
    have HV : Hid (Blk wr w.heap.size 48 .u32 v) := hV
    have HTB : Hid (Tab wr) := hTb
    have HE : Hid (Below w.heap.size w wr) := hE
    clear hU hO hR hV hTb hE
    by_cases hlt : i < 64
    · have hix : ∀ W, Sem.run Tryd.prog (Instr.index 62 (.agg (encL .u32 S)) (.int .i64 (i : Nat))) W = .ok (.int .u32 (S.getD i 0 : Nat)) W := index_any nums64 .u32 S HSN.out i hlt
      have ck : wr.cell? ⟨0, i, none⟩ = some (.int .u32 (factorsN.getD i 0 : Nat)) := HTB.out.2 i hlt
      have bs := HSL.out i
      have bk := factors_lt' i
      have HNX : Hid (rnds factorsN S v (i + 1) = rnd U 0 ((S.getD i 0 + factorsN.getD i 0) % 4294967296)) := by
        unfold Hid
        rw [rnds, ← HU.out, rnd_sum]
      generalize S.getD i 0 = ww at *
      generalize factorsN.getD i 0 = kk at *
      obtain ⟨X, hX⟩ : ∃ X : Nat, X = (ww + kk) % 4294967296 := ⟨_, rfl⟩
      rw [← hX] at HNX
      have hXi : ((ww : Int) + (kk : Int)) % 4294967296 = (X : Int) := by rw [hX]; simp
      have hXb : X < 4294967296 := by rw [hX]; exact Nat.mod_lt _ (by decide)
      clear hX
      have i5 : (i : Int) < 64 := by omega
      go_wp2_with fail
      refine wp_region_held_drew (S := fun w' => w'.cell? ⟨0, i, none⟩ = some (.int .u32 (kk : Nat))) (by kernel_rfl) ck (fun hHeld => ?_)
      refine held_take 1 (some 18) (.int .u32 ww) rfl rfl (by kernel_rfl) (by kernel_rfl) (by kernel_rfl) (fun _ _ _ h => h) rfl (fun w' hS => ?_) hHeld ?_
      · (try dsimp only at hS); go_simp
      simp only [Act.put, List.setIfInBounds_toArray, List.set_cons_zero, List.set_cons_succ]
      refine held_take 2 (some 19) (.int .i64 i) rfl rfl (by kernel_rfl) (by kernel_rfl) (by kernel_rfl) (fun _ _ _ h => h) rfl (fun w' hS => ?_) hHeld ?_
      · (try dsimp only at hS); go_simp
      simp only [Act.put, List.setIfInBounds_toArray, List.set_cons_zero, List.set_cons_succ]
      refine held_take 3 (some 20) (.pointer (some ⟨0, i, none⟩)) rfl rfl (by kernel_rfl) (by kernel_rfl) (by kernel_rfl) (fun _ _ _ h => h) rfl (fun w' hS => ?_) hHeld ?_
      · (try dsimp only at hS); go_simp
      simp only [Act.put, List.setIfInBounds_toArray, List.set_cons_zero, List.set_cons_succ]
      refine held_take 4 (some 21) (.int .u32 kk) rfl rfl (by kernel_rfl) (by kernel_rfl) (by kernel_rfl) (fun _ _ _ h => h) rfl (fun w' hS => ?_) hHeld ?_
      · (try dsimp only at hS); go_simp
      simp only [Act.put, List.setIfInBounds_toArray, List.set_cons_zero, List.set_cons_succ]
      refine held_take 5 (some 22) (.int .u32 X) rfl rfl (by kernel_rfl) (by kernel_rfl) (by kernel_rfl) (fun _ _ _ h => h) rfl (fun w' hS => ?_) hHeld ?_
      · (try dsimp only at hS); go_simp; rw [IntKind.wrap_u32]; exact hXi
      simp only [Act.put, List.setIfInBounds_toArray, List.set_cons_zero, List.set_cons_succ]
      have HOd : Hid (Blk wr.drew (w.heap.size + 2) 48 .u32 U) := HO
      refine held_one (i := 0) (by kernel_rfl) rfl rfl (fun K hK => ?_)
      refine held_load 48 (.tmp 5) rfl ⟨w.heap.size + 2, 0, none⟩ rfl _ (HOd.out.load wordsT HUL.out) (some 17) rfl ?_
      refine hK.out _ _ hHeld ?_
      clear hK K
      simp only [Act.put, List.setIfInBounds_toArray, List.set_cons_zero, List.set_cons_succ]
      refine held_one (i := 6) (by kernel_rfl) rfl rfl (fun K hK => ?_)
      go_simp
      refine (step_any U X wr.drew HUL.out HUB.out hXb).mono ?_
      rintro e w2 ⟨rfl, hb2⟩
      have hb2' : Below wr.heap.size wr w2 := ((Below.refl wr.heap.size wr).drew).trans hb2
      have hHeld2 : w2.cell? ⟨0, i, none⟩ = some (.int .u32 (kk : Nat)) := (hb2'.cell (p := ⟨0, i, none⟩) HTB.out.1).trans ck
      dsimp only
      refine hK.out _ _ hHeld2 ?_
      clear hK K
      have HO2 : Hid (Blk w2 (w.heap.size + 2) 48 .u32 U) := HO.out.below hb2'
      have HR2 : Hid (Blk (w2.setRow (w.heap.size + 2) (encL .u32 (rnd U 0 X))) (w.heap.size + 1) 48 .u32 nil8) := (HR.out.below hb2').otherRow (by omega) _
      have HV2 : Hid (Blk (w2.setRow (w.heap.size + 2) (encL .u32 (rnd U 0 X))) w.heap.size 48 .u32 v) := (HV.out.below hb2').otherRow (by omega) _
      have HE2 : Hid (Below w.heap.size w (w2.setRow (w.heap.size + 2) (encL .u32 (rnd U 0 X)))) := below_setRow (HE.out.trans (hb2'.mono HE.out.size)) (by omega) _
      have HN2 : Hid (Blk (w2.setRow (w.heap.size + 2) (encL .u32 (rnd U 0 X))) (w.heap.size + 2) 48 .u32 (rnd U 0 X)) := HO2.out.setRow _
      have HT2 : Hid (Tab (w2.setRow (w.heap.size + 2) (encL .u32 (rnd U 0 X)))) := HT.out.below HE2.out HT.out.1
      have HS2 : Hid ((storeVar 48 ⟨w.heap.size + 2, 0, none⟩ (.agg (encL .u32 (rnd U 0 X)))).run Tryd.prog w2 = .ok () (w2.setRow (w.heap.size + 2) (encL .u32 (rnd U 0 X)))) := HO2.out.store wordsT HUL.out rfl
      generalize rnd U 0 X = U2 at *
      generalize w2.setRow (w.heap.size + 2) (encL .u32 U2) = w3 at *
      refine held_one (i := 7) (by kernel_rfl) rfl rfl (fun K hK => ?_)
      refine held_store 48 (.tmp 5) (.tmp 23) rfl ⟨w.heap.size + 2, 0, none⟩ rfl (.agg (encL .u32 U2)) rfl HS2.out none rfl ?_
      refine hK.out _ _ (HT2.out.2 i hlt |>.trans ?_) ?_
      · exact (HTB.out.2 i hlt).symm.trans ck
      clear hK K
      refine wpAnyH_done (by kernel_rfl) ?_ _
      go_wp2_with fail
      go_roundw
      case rel => exact ⟨w3, i + 1, U2, rfl, by omega, by go_num, HNX.out.symm, HN2.out, HR2.out, HV2.out, HT2.out, HE2.out⟩
      case measure => simp [intOf]; omega
    · have e64 : i = 64 := by omega
      have hge : ¬ (i : Int) < 64 := by omega
      have HU6 : Hid (U = rnds factorsN S v 64) := by rw [← e64]; exact HU.out
      have HRS : Hid (RES = addN U v 8) := by rw [HU6.out]; exact HRES.out
      have HLD : Hid ((loadVar 48 ⟨w.heap.size, 0, none⟩).run Tryd.prog wr = .ok (.agg (encL .u32 v)) wr) := HV.out.load wordsT HVV.out.1
      clear e64 HU HU6 HRES HTB HT
      go_wp2_with (first
        | (refine load_op rfl 48 (.tmp 2) rfl ⟨w.heap.size, 0, none⟩ rfl _ HLD.out ?_))
      go_loopw [26] (fun ix wq => ∃ (wz : World) (j : Nat) (M : List Nat), wz = wq ∧ j ≤ 8 ∧ ix = .int .i64 j ∧ M = addN U v j ∧ Blk wz (w.heap.size + 2) 48 .u32 M ∧ Blk wz (w.heap.size + 1) 48 .u32 nil8 ∧ Below w.heap.size w wz) (fun ix _ => 8 - (intOf ix).toNat)
      case atStart => exact ⟨wr, 0, U, rfl, by omega, rfl, rfl, HO.out, HR.out, HE.out⟩
      case round =>
        clear HO HR HE HV HLD
        obtain ⟨wr, j, M, hwr, hj, rfl, hM, hO, hR, hE⟩ := hrel
        subst hwr
        have HM : Hid (M = addN U v j) := hM
        have HML : Hid (M.length = 8) := by rw [hM, addN_length]; exact HUL.out
        have HMB : Hid (∀ i, M.getD i 0 < 4294967296) := by rw [hM]; exact addN_lt U v HUB.out j
        have HO : Hid (Blk wr (w.heap.size + 2) 48 .u32 M) := hO
        have HR : Hid (Blk wr (w.heap.size + 1) 48 .u32 nil8) := hR
        have HE : Hid (Below w.heap.size w wr) := hE
        clear hM hO hR hE
        by_cases hlt2 : j < 8
        · have hix : ∀ W, Sem.run Tryd.prog (Instr.index 48 (.agg (encL .u32 v)) (.int .i64 (j : Nat))) W = .ok (.int .u32 (v.getD j 0 : Nat)) W := index_any nums8 .u32 v HVV.out.1 j hlt2
          have co := HO.out.cell j (by rw [HML.out]; exact hlt2)
          have fo := HO.out.frozen j
          have bu := HMB.out j
          have bv := HVV.out.2 j
          have HNX : Hid (addN U v (j + 1) = M.set j ((M.getD j 0 + v.getD j 0) % 4294967296)) := by unfold Hid; rw [addN, ← HM.out]
          generalize M.getD j 0 = u at *
          generalize v.getD j 0 = hh at *
          obtain ⟨Z, hZ⟩ : ∃ Z, (u + hh) % 4294967296 = Z := ⟨_, rfl⟩
          rw [hZ] at HNX
          have hZi : ((u : Int) + (hh : Int)) % 4294967296 = (Z : Int) := by rw [← hZ]; simp
          have j8 : (j : Int) < 8 := by omega
          clear hZ
          go_wp2_with fail
          go_roundw
          case rel => exact ⟨_, j + 1, M.set j Z, rfl, by omega, by go_num, HNX.out.symm, HO.out.set j Z, HR.out.other (by omega) _ _, Below.setCell HE.out (by show w.heap.size ≤ w.heap.size + 2; omega) _⟩
          case measure => simp [intOf]; omega
        · have e8 : j = 8 := by omega
          have hge8 : ¬ (j : Int) < 8 := by omega
          have HM8 : Hid (M = RES) := by rw [HRS.out, ← e8]; exact HM.out
          have HLD : Hid ((loadVar 48 ⟨w.heap.size + 2, 0, none⟩).run Tryd.prog wr = .ok (.agg (encL .u32 M)) wr) := HO.out.load wordsT HML.out
          have HST : Hid ((storeVar 48 ⟨w.heap.size + 1, 0, none⟩ (.agg (encL .u32 M))).run Tryd.prog wr = .ok () (wr.setRow (w.heap.size + 1) (encL .u32 M))) := HR.out.store wordsT rfl HML.out
          clear e8 HM
          go_wp2_with (first
            | (refine load_op rfl 48 (.tmp 5) rfl ⟨w.heap.size + 2, 0, none⟩ rfl _ HLD.out ?_)
            | (refine store_op rfl 48 (.tmp 4) (.tmp 37) rfl ⟨w.heap.size + 1, 0, none⟩ rfl _ rfl HST.out ?_))
          refine bodyPost_ret (v := .agg (encL .u32 M)) ?_ rfl ⟨by rw [HM8.out, HRB.out], below_setRow HE.out (by omega) _⟩
          rw [results_cell rfl]
          exact (HR.out.setRow M).load wordsT HML.out
end Go.Proofs.YtmaaakcfbekboaaDoor
