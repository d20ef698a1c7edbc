/-
  'mixAll' of package sha: all whole blocks of a slice of bytes mixed in, and what is left over.
-/
import Derived.Test.YtmaaakcfbekboaaDoorShaMix
import Derived.Test.YtmaaakcfbekboaaDoorShaInc
namespace Go.Proofs.YtmaaakcfbekboaaDoor
open Go.ChangeShapes Go.WideShapes Go.ChangeAt Go.RowKit
set_option linter.unusedVariables false
set_option linter.unusedSimpArgs false
def slen : Value → Nat | .slice _ l _ => l | _ => 0
theorem results_cell_slot {fn : Func} {p q : Tmp} {ty : TypeId} (h : fn.results = #[.cell p ty, .tmp q]) (tmps : Array Value) (P : Program) (w : World) (c : Array Value) (ad : Addr) (ha : tmps.getD p undef = .pointer (some ad)) (hr : (loadVar ty ad).run P w = .ok (.agg c) w) (v : Value) (hv : tmps.getD q undef = v) :
    (results fn tmps).run P w = .ok (.tuple #[.agg c, v]) w := by
  simp only [results, h]
  simp at ha hv
  simp [Sem.run_bind, ha, hv, asAddr, hr, Result.andThen]
theorem getD_drop (l : List Nat) (i j : Nat) : (l.drop i).getD j 0 = l.getD (i + j) 0 := by
  rw [List.getD_eq_getElem?_getD, List.getElem?_drop, ← List.getD_eq_getElem?_getD]
set_option maxRecDepth 100000 in
set_option maxHeartbeats 4000000 in
theorem mixAll_any (v : List Nat) (a : Option Addr) (len cap : Nat) (xs : List Nat) (w : World) (hT : Tab w) (hv : v.length = 8) (bv : ∀ j, v.getD j 0 < 4294967296)
    (hB : RowL .u8 w a len xs) (bB : ∀ j, xs.getD j 0 < 256) (hn : a = none → len = 0 ∧ cap = 0) (hc : len ≤ cap) (hm : cap ≤ maxLen) :
    Calls Tryd.prog 21 #[.agg (encL .u32 v), .slice a len cap] w fun e w' => ∃ a' c', e = .returned (.tuple #[.agg (encL .u32 (blks factorsN v xs (len / 64))), .slice a' (len % 64) c']) ∧
      RowL .u8 w' a' (len % 64) (xs.drop (64 * (len / 64))) ∧ (a' = none → len % 64 = 0 ∧ c' = 0) ∧ len % 64 ≤ c' ∧ c' ≤ maxLen ∧ Below w.heap.size w w' := by
  have sA : (w.alloc (.cells (encL .u32 v) 48)).heap.size = w.heap.size + 1 := by simp
  have HV0 : Hid (Blk ((w.alloc (.cells (encL .u32 v) 48)).alloc (.cells (encL .u32 nil8) 48)) w.heap.size 48 .u32 v) := (Blk.new w _ _ _).alloc _
  have HR0 : Hid (Blk ((w.alloc (.cells (encL .u32 v) 48)).alloc (.cells (encL .u32 nil8) 48)) (w.heap.size + 1) 48 .u32 nil8) := by
    rw [← sA]
    exact Blk.new (w.alloc (.cells (encL .u32 v) 48)) _ _ _
  have HE0 : Hid (Below w.heap.size w ((w.alloc (.cells (encL .u32 v) 48)).alloc (.cells (encL .u32 nil8) 48))) := Below.alloc (below_new w _) (by simp) _
  have HA1 : Hid _ := alloc8' _ _ sA
  have HT : Hid (Tab w) := hT
  have HVV : Hid (v.length = 8 ∧ ∀ j, v.getD j 0 < 4294967296) := ⟨hv, bv⟩
  have HB : Hid (RowL .u8 w a len xs ∧ (∀ j, xs.getD j 0 < 256) ∧ (a = none → len = 0 ∧ cap = 0)) := ⟨hB, bB, hn⟩
  have hxl : xs.length = len := hB.1
  unfold maxLen at hm
  clear hT hv bv hB bB hn sA
  go_enter Tryd.func21, Tryd.ntmps21
  go_wp2_with (first
    | (refine alloc_op rfl 48 rfl (.pointer (some ⟨w.heap.size + 1, 0, none⟩)) HA1.out ?_))
  generalize (w.alloc (.cells (encL .u32 v) 48)).alloc (.cells (encL .u32 nil8) 48) = w0 at *
  clear HA1
  go_loopw [1] (fun bs wr => ∃ (wz : World) (n L : Nat) (a' : Option Addr) (c' : Nat) (U : List Nat), wz = wr ∧ L + 64 * n = len ∧ bs = .slice a' L c' ∧ RowL .u8 w a' L (xs.drop (64 * n)) ∧ (a' = none → L = 0 ∧ c' = 0) ∧ L ≤ c' ∧ c' ≤ maxLen ∧ U = blks factorsN v xs n ∧ Blk wz w.heap.size 48 .u32 U ∧ Blk wz (w.heap.size + 1) 48 .u32 nil8 ∧ Below w.heap.size w wz) (fun bs _ => slen bs)
  case atStart => exact ⟨w0, 0, len, a, cap, v, rfl, by omega, rfl, HB.out.1, HB.out.2.2, hc, hm, rfl, HV0.out, HR0.out, HE0.out⟩
  case round =>
    clear HV0 HR0 HE0
    obtain ⟨wr, n, L, a', c', U, hwr, hL, rfl, hrow, hnil, hLc, hcm, hU, hV, hR, hE⟩ := hrel
    subst hwr
    have HL : Hid (L + 64 * n = len) := hL
    have HROW : Hid (RowL .u8 w a' L (xs.drop (64 * n)) ∧ (a' = none → L = 0 ∧ c' = 0)) := ⟨hrow, hnil⟩
    have HU : Hid (U = blks factorsN v xs n) := hU
    have HUL : Hid (U.length = 8) := by rw [hU]; exact blks_length _ _ _ HVV.out.1 n
    have HUB : Hid (∀ j, U.getD j 0 < 4294967296) := by rw [hU]; exact blks_lt _ _ _ HVV.out.2 n
    have HV : Hid (Blk wr w.heap.size 48 .u32 U) := hV
    have HR : Hid (Blk wr (w.heap.size + 1) 48 .u32 nil8) := hR
    have HE : Hid (Below w.heap.size w wr) := hE
    unfold maxLen at hcm
    clear hL hrow hnil hU hV hR hE
    by_cases hlt : 64 ≤ L
    · have h64 : (64 : Int) ≤ (L : Int) := by omega
      have h64c : (64 : Int) ≤ (c' : Int) := by omega
      obtain ⟨b, off, rfl, hbl, hcs⟩ := RowL.at HROW.out.1 0 (by omega)
      have HCS : Hid (b < w.heap.size ∧ ∀ j, j < L → w.cell? ⟨b, off + j, none⟩ = some (.int .u8 ((xs.drop (64 * n)).getD j 0 : Nat))) := ⟨hbl, hcs⟩
      clear hbl hcs
      go_wp2_with fail
      refine wp_region_held_drew (S := fun w' => True) (by kernel_rfl) trivial (fun hHeld => ?_)
      refine held_take 1 (some 10) (.slice (some ⟨b, off, none⟩) L c') rfl rfl (by kernel_rfl) (by kernel_rfl) (by kernel_rfl) (fun _ _ _ h => h) rfl (fun w' hS => ?_) hHeld ?_
      · go_simp
      simp only [Act.put, List.setIfInBounds_toArray, List.set_cons_zero, List.set_cons_succ]
      refine held_take 3 (some 12) (.slice (some ⟨b, off, none⟩) L c') rfl rfl (by kernel_rfl) (by kernel_rfl) (by kernel_rfl) (fun _ _ _ h => h) rfl (fun w' hS => ?_) hHeld ?_
      · go_simp
      simp only [Act.put, List.setIfInBounds_toArray, List.set_cons_zero, List.set_cons_succ]
      obtain ⟨o2, ho2⟩ : ∃ o2, o2 = if c' = 64 then off else off + 64 := ⟨_, rfl⟩
      have HO2 : Hid (o2 = if c' = 64 then off else off + 64) := ho2
      clear ho2
      refine held_take 4 (some 13) (.slice (some ⟨b, o2, none⟩) (L - 64) (c' - 64)) rfl rfl (by kernel_rfl) (by kernel_rfl) (by kernel_rfl) (fun _ _ _ h => h) rfl (fun w' hS => ?_) hHeld ?_
      · by_cases hc64 : c' = 64
        · rw [HO2.out, if_pos hc64]
          subst hc64
          go_simp
        · rw [HO2.out, if_neg hc64]
          go_simp
      simp only [Act.put, List.setIfInBounds_toArray, List.set_cons_zero, List.set_cons_succ]
      have HVd : Hid (Blk wr.drew w.heap.size 48 .u32 U) := HV
      refine held_one (i := 0) (by kernel_rfl) rfl rfl (fun K hK => ?_)
      refine held_load 48 (.tmp 2) rfl ⟨w.heap.size, 0, none⟩ rfl _ (HVd.out.load wordsT HUL.out) (some 9) rfl ?_
      refine hK.out _ _ hHeld ?_
      clear hK K
      simp only [Act.put, List.setIfInBounds_toArray, List.set_cons_zero, List.set_cons_succ]
      refine held_one (i := 2) (by kernel_rfl) rfl rfl (fun K hK => ?_)
      go_simp
      have hTd : Tab wr.drew := HT.out.below HE.out.drew HT.out.1
      have hRd : RowL .u8 wr.drew (some ⟨b, off, none⟩) 64 ((xs.drop (64 * n)).take 64) := by
        refine ⟨by rw [List.length_take, HROW.out.1.1]; omega, .inr ⟨b, off, rfl, Nat.lt_of_lt_of_le HCS.out.1 HE.out.size, fun j hj => ?_⟩⟩
        rw [show ((xs.drop (64 * n)).take 64).getD j 0 = (xs.drop (64 * n)).getD j 0 from (getD_take _ 64 j hj).symm]
        exact (HE.out.drew.cell (p := ⟨b, off + j, none⟩) HCS.out.1).trans (HCS.out.2 j (by omega))
      have hRb : ∀ j, ((xs.drop (64 * n)).take 64).getD j 0 < 256 := fun j => by
        by_cases hj : j < 64
        · rw [← getD_take _ 64 j hj, getD_drop]; exact HB.out.2.1 _
        · rw [List.getD_eq_getElem?_getD, List.getElem?_eq_none (by rw [List.length_take]; omega)]; decide
      refine (mix_any U (some ⟨b, off, none⟩) L c' _ wr.drew hTd HUL.out HUB.out hRd hRb hlt hLc (by unfold maxLen; omega)).mono ?_
      rintro e w2 ⟨rfl, hb2⟩
      clear hTd hRd hRb
      have hb2' : Below wr.heap.size wr w2 := ((Below.refl wr.heap.size wr).drew).trans hb2
      dsimp only
      refine hK.out _ _ hHeld ?_
      clear hK K hb2
      have HNX : Hid (blks factorsN v xs (n + 1) = blockN factorsN U ((xs.drop (64 * n)).take 64)) := by unfold Hid; rw [blks, ← HU.out]
      have HNL : Hid ((blockN factorsN U ((xs.drop (64 * n)).take 64)).length = 8) := blockN_length _ _ _ HUL.out
      generalize blockN factorsN U ((xs.drop (64 * n)).take 64) = U2 at *
      have HV2 : Hid (Blk w2 w.heap.size 48 .u32 U) := HV.out.below hb2'
      have HR2 : Hid (Blk (w2.setRow w.heap.size (encL .u32 U2)) (w.heap.size + 1) 48 .u32 nil8) := (HR.out.below hb2').otherRow (by omega) _
      have HE2 : Hid (Below w.heap.size w (w2.setRow w.heap.size (encL .u32 U2))) := below_setRow (HE.out.trans (hb2'.mono HE.out.size)) (Nat.le_refl _) _
      have HN2 : Hid (Blk (w2.setRow w.heap.size (encL .u32 U2)) w.heap.size 48 .u32 U2) := HV2.out.setRow _
      have HS2 : Hid ((storeVar 48 ⟨w.heap.size, 0, none⟩ (.agg (encL .u32 U2))).run Tryd.prog w2 = .ok () (w2.setRow w.heap.size (encL .u32 U2))) := HV2.out.store wordsT HUL.out HNL.out
      have HROW2 : Hid (RowL .u8 w (some ⟨b, o2, none⟩) (L - 64) (xs.drop (64 * (n + 1)))) := by
        have hlen : (xs.drop (64 * (n + 1))).length = L - 64 := by rw [List.length_drop, hxl]; have := HL.out; omega
        refine ⟨hlen, ?_⟩
        by_cases h0 : L - 64 = 0
        · exact .inl h0
        · have hne : ¬ c' = 64 := by omega
          refine .inr ⟨b, o2, rfl, HCS.out.1, fun j hj => ?_⟩
          rw [HO2.out, if_neg hne, Nat.add_assoc, HCS.out.2 (64 + j) (by omega), getD_drop, getD_drop, show 64 * (n + 1) + j = 64 * n + (64 + j) by omega]
      generalize w2.setRow w.heap.size (encL .u32 U2) = w3 at *
      refine held_one (i := 5) (by kernel_rfl) rfl rfl (fun K hK => ?_)
      refine held_store 48 (.tmp 2) (.tmp 11) rfl ⟨w.heap.size, 0, none⟩ rfl (.agg (encL .u32 U2)) rfl HS2.out none rfl ?_
      refine hK.out _ _ hHeld ?_
      clear hK K
      try simp only [Act.put, List.setIfInBounds_toArray, List.set_cons_zero, List.set_cons_succ]
      refine held_take 6 (some 1) (.slice (some ⟨b, o2, none⟩) (L - 64) (c' - 64)) rfl rfl (by kernel_rfl) (by kernel_rfl) (by kernel_rfl) (fun _ _ _ h => h) rfl (fun w' hS => ?_) hHeld ?_
      · go_simp
      simp only [Act.put, List.setIfInBounds_toArray, List.set_cons_zero, List.set_cons_succ]
      refine wpAnyH_done (by kernel_rfl) ?_ _
      go_wp2_with fail
      go_roundw
      case rel => exact ⟨w3, n + 1, L - 64, some ⟨b, o2, none⟩, c' - 64, U2, rfl, by have := HL.out; omega, rfl, HROW2.out, (fun h => by cases h), by omega, by unfold maxLen; omega, HNX.out.symm, HN2.out, HR2.out, HE2.out⟩
      case measure => simp [slen]; omega
    · have hge : ¬ (64 : Int) ≤ (L : Int) := by omega
      have hL2 : L = len % 64 := by have := HL.out; omega
      have hn2 : n = len / 64 := by have := HL.out; omega
      have HLD : Hid ((loadVar 48 ⟨w.heap.size, 0, none⟩).run Tryd.prog wr = .ok (.agg (encL .u32 U)) wr) := HV.out.load wordsT HUL.out
      have HST : Hid ((storeVar 48 ⟨w.heap.size + 1, 0, none⟩ (.agg (encL .u32 U))).run Tryd.prog wr = .ok () (wr.setRow (w.heap.size + 1) (encL .u32 U))) := HR.out.store wordsT rfl HUL.out
      have HLN : Hid (L = len % 64 ∧ n = len / 64) := ⟨hL2, hn2⟩
      clear hL2 hn2
      go_wp2_with (first
        | (refine load_op rfl 48 (.tmp 2) rfl ⟨w.heap.size, 0, none⟩ rfl _ HLD.out ?_)
        | (refine store_op rfl 48 (.tmp 4) (.tmp 14) rfl ⟨w.heap.size + 1, 0, none⟩ rfl _ rfl HST.out ?_))
      refine bodyPost_ret (v := .tuple #[.agg (encL .u32 U), .slice a' L c']) ?_ rfl ⟨a', c', ?_, ?_, ?_, ?_, hcm, below_setRow HE.out (by omega) _⟩
      · exact results_cell_slot rfl _ _ _ _ ⟨w.heap.size + 1, 0, none⟩ rfl ((HR.out.setRow U).load wordsT HUL.out) _ rfl
      · rw [← HLN.out.1, ← HLN.out.2, HU.out]
      · rw [← HLN.out.1, ← HLN.out.2]; exact HROW.out.1.below (below_setRow HE.out (by omega) _)
      · rw [← HLN.out.1]; exact HROW.out.2
      · rw [← HLN.out.1]; exact hLc
end Go.Proofs.YtmaaakcfbekboaaDoor
