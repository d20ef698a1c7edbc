/-
  FrameBack returns true: frames, one behind the other, with something behind that is none, are told one by one (where the table of crc lies as its text lays it).
-/
import Derived.Test.YtaahmpabhophfaaDoorCards
import Derived.Test.YtaahmpabhophfaaDoorTie
import Derived.Test.YtaahmpabhophfaaDoorFrameArgs
import Derived.Test.YtaahmpabhophfaaDoorFrameAwake
import Derived.Test.YtaahmpabhophfaaDoorFrameWant
namespace Go.Proofs.YtaahmpabhophfaaDoor.frameBack
open Go.ChangeShapes Go.WideShapes Go.ChangeAt Go.RowKit
set_option linter.unusedVariables false
set_option linter.unusedSimpArgs false
set_option maxHeartbeats 8000000 in
theorem walk (W : World) (hT : HalfTab W) (a0 : Option Addr) (len0 cap0 : Nat) (ps0 : List (List Nat)) (w0 : PArgL W a0 len0 cap0 ps0) (re0 : cap0 * 24 ≤ 140737488351232) (a1 : Option Addr) (len1 cap1 : Nat) (x1 : List Nat) (w1 : ArgL W a1 len1 cap1 x1) (re1 : cap1 ≤ 140737488351232) :
    Calls Tryd.prog 5 #[.slice a0 len0 cap0, .slice a1 len1 cap1] W fun e W' => e = .returned (.bool true) ∧ Below W.heap.size W W' := by
  have HT : Hid (HalfTab W) := hT
  have HA1 : Hid (BytL W a1 len1 cap1 x1) := w1
  obtain ⟨hpl, hpr, hpn, hpc, hpm⟩ := w0
  have HPL : Hid (ps0.length = len0) := hpl
  have HPR : Hid (len0 = 0 ∨ ∃ b off, a0 = some ⟨b, off, none⟩ ∧ b < W.heap.size ∧ ∀ i, i < len0 → ∃ ai li ci, W.cell? ⟨b, off + i, none⟩ = some (.slice ai li ci) ∧ BytL W ai li ci (ps0.getD i [])) := hpr
  have hln : len0 ≤ 9223372036854775807 := by unfold maxLen at hpm; omega
  have hlen1 : len1 ≤ 140737488351232 := Nat.le_trans w1.2.2.2.1 re1
  have HBY : Hid (∀ b ∈ ps0, ∀ c ∈ b, c < 256) := by
    intro b hb
    obtain ⟨i, hi, rfl⟩ := List.getElem_of_mem hb
    rcases hpr with h0 | ⟨bb, off, -, -, hc⟩
    · omega
    · obtain ⟨ai, li, ci, -, hB⟩ := hc i (by omega)
      have := hB.2.2.1
      rwa [List.getD_eq_getElem?_getD, List.getElem?_eq_getElem hi] at this
  clear hT w1 hpl hpr hpn hpm
  go_enter Tryd.func5, Tryd.ntmps5
  go_wp2
  go_loopw [5, 6, 7] (fun av wv iv wr => ∃ (wz : World) (k : Nat) (va vw : Value), wz = wr ∧ av = va ∧ wv = vw ∧ iv = .int .i64 k ∧ k ≤ len0 ∧ k ≤ 20 ∧ OwnL 5 .u8 wz W.heap.size va (allN (ps0.take k)) ∧ OwnW W wz W.heap.size vw (goodN (ps0.take k)) ∧ Below W.heap.size W wz) (fun _ _ iv _ => 20 - (intOf iv).toNat)
  case atStart => exact ⟨_, 0, _, _, rfl, rfl, rfl, rfl, Nat.zero_le _, by omega, OwnL.empty _ _ W W.heap.size (Nat.le_refl _), OwnW.nil _ _ _, below_new W _⟩
  case round =>
    obtain ⟨wr, k, va, vw, hwr, hva, hvw, rfl, hk, hk20, hown, hwant, hbe⟩ := hrel
    subst hwr
    replace hva := hva.symm
    subst hva
    replace hvw := hvw.symm
    subst hvw
    have HOWN : Hid (OwnL 5 .u8 wr W.heap.size va (allN (ps0.take k)) ∧ OwnW W wr W.heap.size vw (goodN (ps0.take k)) ∧ Below W.heap.size W wr) := ⟨hown, hwant, hbe⟩
    clear hown hwant hbe
    by_cases hlt : k < len0
    · by_cases hlt20 : k < 20
      · obtain h0 | ⟨gb, go, rfl, hgb, hc⟩ := HPR.out
        · omega
        obtain ⟨ai, li, ci, hcW, hB⟩ := hc k hlt
        have HB : Hid (BytL W ai li ci (ps0.getD k [])) := hB
        have HCW : Hid (W.cell? ⟨gb, go + k, none⟩ = some (.slice ai li ci)) := hcW
        have hcell : wr.cell? ⟨gb, go + k, none⟩ = some (.slice ai li ci) := (HOWN.out.2.2.cell (p := ⟨gb, go + k, none⟩) hgb).trans hcW
        have hlim : li ≤ 9223372036854775807 := by have h1 := hB.2.2.2.1; have h2 := hB.2.2.2.2; unfold maxLen at h2; omega
        have HSNOC : Hid (ps0.take (k + 1) = ps0.take k ++ [ps0.getD k []]) := by
          have hk' : k < ps0.length := by rw [HPL.out]; exact hlt
          unfold Hid
          rw [List.take_succ_eq_append_getElem hk', List.getD_eq_getElem?_getD, List.getElem?_eq_getElem hk', Option.getD_some]
        have hyl : (ps0.getD k []).length = li := hB.1.1
        have HPUT : Hid _ := put_any ai li ci (ps0.getD k []) wr (HB.out.below HOWN.out.2.2) (HT.out.below HOWN.out.2.2)
        have HAL : Hid ((allN (ps0.take k)).length ≤ 327840 ∧ (goodN (ps0.take k)).length ≤ 20) := by
          have h1 := all_len (ps0.take k)
          have h2 := good_len (ps0.take k)
          rw [List.length_take] at h1 h2
          unfold Hid
          omega
        have hsz := HOWN.out.2.2.size
        clear hc hcW hB
        by_cases hsm : li ≤ 16384
        · have hsmi : (li : Int) ≤ 16384 := by omega
          have HP : putN (ps0.getD k []) = (frN crcN (ps0.getD k []), 0) := by unfold putN; rw [if_neg (by omega)]
          rw [HP] at HPUT
          have HS2 : Hid (allN (ps0.take (k + 1)) = allN (ps0.take k) ++ frN crcN (ps0.getD k []) ∧ goodN (ps0.take (k + 1)) = goodN (ps0.take k) ++ [ps0.getD k []]) := by
            rw [HSNOC.out]
            exact ⟨by rw [all_snoc, if_pos (by omega)], by rw [good_snoc, if_pos (by omega)]⟩
          have hfl : (frN crcN (ps0.getD k [])).length = 8 + li := by rw [frN_len, hyl]
          have HFB : Hid (∀ c ∈ frN crcN (ps0.getD k []), c < 256) := frN_byt _ HB.out.2.2.1
          have HFL : Hid ((frN crcN (ps0.getD k [])).length = 8 + li) := hfl
          clear hfl HP hyl
          go_wp2_with fail
          refine Calls.mono HPUT.out ?_
          rintro e w1 ⟨v1, rfl, hown1, hb1⟩
          obtain ⟨b1, c1, rfl, hB1, -⟩ := OwnL.byt hown1 HFB.out
          rw [HFL.out] at hB1 ⊢
          have HW1 : Hid (OwnL 5 .u8 w1 W.heap.size va (allN (ps0.take k)) ∧ OwnW W w1 W.heap.size vw (goodN (ps0.take k)) ∧ Below W.heap.size W w1) := ⟨HOWN.out.1.below2 hb1, HOWN.out.2.1.below2 hb1, HOWN.out.2.2.trans (hb1.mono hsz)⟩
          have HB1 : Hid (BytL w1 b1 (8 + li) c1 (frN crcN (ps0.getD k []))) := hB1
          have hcell1 : w1.cell? ⟨gb, go + k, none⟩ = some (.slice ai li ci) := (HW1.out.2.2.cell (p := ⟨gb, go + k, none⟩) hgb).trans HCW.out
          have hsz1 := HW1.out.2.2.size
          clear hown1 hb1 hB1 HPUT HOWN hcell
          show _
          go_wp2_with (at_builtin; first
            | (refine append_all W w1 rfl _ _ rfl W.heap.size va (allN (ps0.take k)) (frN crcN (ps0.getD k [])) rfl HW1.out.1 vw (goodN (ps0.take k)) HW1.out.2.1 b1 (8 + li) c1 rfl HB1.out.1 HB1.out.2.1 (by have := HAL.out.1; omega) hsz1 ?_; intro v5 w5 hown5 hwant5 hb5; have hb15 := HW1.out.2.2.trans hb5; have hcell5 : w5.cell? ⟨gb, go + k, none⟩ = some (.slice ai li ci) := (hb15.cell (p := ⟨gb, go + k, none⟩) hgb).trans HCW.out)
            | (refine append_want W w5 rfl _ _ rfl W.heap.size vw (goodN (ps0.take k)) rfl hwant5 v5 _ hown5 ai li ci (ps0.getD k []) HB.out w5.heap.size rfl rfl (by have := HAL.out.2; omega) hb15.size ?_; intro v6 w6 hwant6 hown6 hb6))
          go_roundw
          case rel => exact ⟨w6, k + 1, v5, v6, rfl, rfl, rfl, by go_num, by omega, by omega, by rw [HS2.out.1]; exact hown6, by rw [HS2.out.2]; exact hwant6, hb15.trans hb6⟩
          case measure => simp [intOf]; omega
        · have hsmi : ¬ (li : Int) ≤ 16384 := by omega
          have HP : putN (ps0.getD k []) = ([], 17) := by unfold putN; rw [if_pos (by omega)]
          rw [HP] at HPUT
          have HS2 : Hid (allN (ps0.take (k + 1)) = allN (ps0.take k) ∧ goodN (ps0.take (k + 1)) = goodN (ps0.take k)) := by
            rw [HSNOC.out]
            exact ⟨by rw [all_snoc, if_neg (by omega)], by rw [good_snoc, if_neg (by omega)]⟩
          clear HP hyl
          go_wp2_with fail
          refine Calls.mono HPUT.out ?_
          rintro e w1 ⟨v1, rfl, hown1, hb1⟩
          have HW1 : Hid (OwnL 5 .u8 w1 W.heap.size va (allN (ps0.take k)) ∧ OwnW W w1 W.heap.size vw (goodN (ps0.take k)) ∧ Below W.heap.size W w1) := ⟨HOWN.out.1.below2 hb1, HOWN.out.2.1.below2 hb1, HOWN.out.2.2.trans (hb1.mono hsz)⟩
          have hcell1 : w1.cell? ⟨gb, go + k, none⟩ = some (.slice ai li ci) := (HW1.out.2.2.cell (p := ⟨gb, go + k, none⟩) hgb).trans HCW.out
          clear hown1 hb1 HPUT HOWN hcell
          show _
          go_wp2_with fail
          go_roundw
          case rel => exact ⟨w1, k + 1, va, vw, rfl, rfl, rfl, by go_num, by omega, by omega, by rw [HS2.out.1]; exact HW1.out.1, by rw [HS2.out.2]; exact HW1.out.2.1, HW1.out.2.2⟩
          case measure => simp [intOf]; omega
      · have i1 : (k : Int) < (len0 : Int) := by omega
        have i2 : ¬ (k : Int) < 20 := by omega
        have HGS : Hid ((allN (ps0.take k)).length ≤ 327840 ∧ (goodN (ps0.take k)).length ≤ 20 ∧ (∀ b ∈ goodN (ps0.take k), b.length ≤ 16384) ∧ (∀ c ∈ allN (ps0.take k), c < 256) ∧ allN (ps0.take k) = ((goodN (ps0.take k)).map (frN crcN)).flatten) := by
          have h1 := all_len (ps0.take k)
          have h2 := good_len (ps0.take k)
          rw [List.length_take] at h1 h2
          exact ⟨by omega, by omega, good_small _, all_byt _ (fun b hb => HBY.out b (List.mem_of_mem_take hb)), rfl⟩
        generalize allN (ps0.take k) = al at *
        generalize goodN (ps0.take k) = gs at *
        obtain ⟨ba, ca, hva, -, -⟩ := OwnL.byt HOWN.out.1 HGS.out.2.2.2.1
        subst hva
        have HFI : Hid _ := first_any a1 len1 cap1 x1 wr (HA1.out.below HOWN.out.2.2) (HT.out.below HOWN.out.2.2)
        have hal := HGS.out.1
        have hgs := HGS.out.2.1
        by_cases h0 : (firstN crcN x1).2.2 = 0
        · rw [h0] at HFI
          clear h0
          go_wp2_with fail
          refine Calls.mono HFI.out ?_
          rintro e w1 ⟨v1, rfl, -, hb1⟩
          have HB1 : Hid (Below W.heap.size W w1) := HOWN.out.2.2.trans (hb1.mono HOWN.out.2.2.size)
          clear hb1 HFI HOWN
          show _
          go_wp2_with fail
          refine Calls.mono (awake_true w1 (HT.out.below HB1.out)) ?_
          rintro e w2 ⟨rfl, hb2⟩
          have HB2 : Hid (Below W.heap.size W w2) := HB1.out.trans (hb2.mono HB1.out.size)
          clear hb2 HB1
          go_wp2_with fail
          go_ret
          exact ⟨rfl, HB2.out⟩
        · have hsc := scan_frames crcN gs x1 HGS.out.2.2.1 h0
          rw [← HGS.out.2.2.2.2] at hsc
          have hle := first_err crcN x1
          obtain ⟨er, her⟩ : ∃ er, er = (firstN crcN x1).2.2 := ⟨_, rfl⟩
          rw [← her] at HFI h0 hle
          have hi : ((er : Int) == 0) = false := by rw [beq_eq_false_iff_ne]; omega
          have HSC : Hid (scanN crcN (al.length + len1 + 1) (al ++ x1) = (gs, al.length)) := hsc _ (by rw [List.length_append, HA1.out.1.1]; omega)
          have HXL : Hid ((al ++ x1).length = al.length + len1) := by unfold Hid; rw [List.length_append, HA1.out.1.1]
          have HXB : Hid (∀ c ∈ al ++ x1, c < 256) := by
            intro c hc
            rcases List.mem_append.1 hc with hc | hc
            · exact HGS.out.2.2.2.1 c hc
            · exact HA1.out.2.2.1 c hc
          clear her hsc
          go_wp2_with fail
          refine Calls.mono HFI.out ?_
          rintro e w1 ⟨v1, rfl, -, hb1⟩
          have HW1 : Hid (OwnL 5 .u8 w1 W.heap.size (.slice ba al.length ca) al ∧ OwnW W w1 W.heap.size vw gs ∧ Below W.heap.size W w1) := ⟨HOWN.out.1.below2 hb1, HOWN.out.2.1.below2 hb1, HOWN.out.2.2.trans (hb1.mono HOWN.out.2.2.size)⟩
          have hsz1 := HW1.out.2.2.size
          clear hb1 HFI HOWN
          show _
          go_wp2_with (at_builtin; (refine append_all W w1 rfl _ _ rfl W.heap.size (.slice ba al.length ca) al x1 rfl HW1.out.1 vw gs HW1.out.2.1 a1 len1 cap1 rfl (HA1.out.1.below HW1.out.2.2) HA1.out.2.1 (by omega) hsz1 ?_; intro v5 w5 hown5 hwant5 hb5; obtain ⟨b5, c5, rfl, hB5, -⟩ := OwnL.byt hown5 HXB.out; rw [HXL.out] at hB5 ⊢))
          have HW5 : Hid (BytL w5 b5 (al.length + len1) c5 (al ++ x1) ∧ OwnW W w5 W.heap.size vw gs ∧ Below W.heap.size W w5) := ⟨hB5, hwant5, HW1.out.2.2.trans hb5⟩
          have HSA : Hid _ := scan_any b5 (al.length + len1) c5 (al ++ x1) w5 HW5.out.1 (HT.out.below HW5.out.2.2) (by rw [HSC.out]; show gs.length ≤ _; omega)
          rw [HSC.out] at HSA
          clear hown5 hwant5 hb5 hB5 HW1 HSC
          refine Calls.mono HSA.out ?_
          rintro e w6 ⟨v6, rfl, hown6, hb6⟩
          obtain ⟨b6, c6, rfl, hB6, -, -⟩ := hown6.rows
          obtain ⟨bw, cw, rfl, hBw⟩ := (HW5.out.2.1.below2 hb6).rows
          have HW6 : Hid (RowB w6 b6 gs ∧ RowW W w6 bw gs ∧ Below W.heap.size W w6) := ⟨hB6, hBw, HW5.out.2.2.trans (hb6.mono HW5.out.2.2.size)⟩
          clear hown6 hb6 hB6 hBw HW5 HSA
          dsimp only
          show _
          go_wp2_with fail
          refine Calls.mono (awake_true w6 (HT.out.below HW6.out.2.2)) ?_
          rintro e w7 ⟨rfl, hb7⟩
          have HW7 : Hid (RowB w7 b6 gs ∧ RowW W w7 bw gs ∧ Below W.heap.size W w7) := ⟨HW6.out.1.below hb7, HW6.out.2.1.below hb7, HW6.out.2.2.trans (hb7.mono HW6.out.2.2.size)⟩
          clear hb7 HW6
          obtain ⟨n, hn⟩ : ∃ n, n = gs.length := ⟨_, rfl⟩
          rw [← hn] at hgs ⊢
          have HN : Hid (gs.length = n) := hn.symm
          clear hn
          go_wp2
          go_loopw [16] (fun ix wr => ∃ (wz : World) (j : Nat), wz = wr ∧ ix = .int .i64 j ∧ j ≤ n ∧ Below W.heap.size W wz ∧ RowB wz b6 gs ∧ RowW W wz bw gs) (fun ix _ => n - (intOf ix).toNat)
          case atStart => exact ⟨w7, 0, rfl, rfl, Nat.zero_le _, HW7.out.2.2, HW7.out.1, HW7.out.2.1⟩
          case round =>
            obtain ⟨wy, j, hwy, rfl, hj, hbe, hB, hX⟩ := hrel
            subst hwy
            have HALL : Hid (Below W.heap.size W wy ∧ RowB wy b6 gs ∧ RowW W wy bw gs) := ⟨hbe, hB, hX⟩
            by_cases hlj : j < n
            · rcases hB with h9 | ⟨g1, rfl, hg1, hc1⟩
              · have := HN.out; omega
              · rcases hX with h9 | ⟨g2, rfl, hg2, hc2⟩
                · have := HN.out; omega
                · obtain ⟨ai, ci, k1, k2, k3⟩ := hc1 j (by rw [HN.out]; exact hlj)
                  obtain ⟨aj, cj, q1, q2⟩ := hc2 j (by rw [HN.out]; exact hlj)
                  have hcv := conv_any (w := wy.drew) k2 k3 ci
                  have hcv2 := conv_any (w := wy.drew) (RowL.below q2.1 hbe.drew) (fun h => (q2.2.1 h).1) cj
                  have HDR : Hid (Below W.heap.size W wy.drew ∧ RowB wy.drew (some ⟨g1, 0, none⟩) gs ∧ RowW W wy.drew (some ⟨g2, 0, none⟩) gs) := ⟨HALL.out.1.drew, HALL.out.2⟩
                  clear hc1 hc2 hbe k2 k3 q2 HALL hg1 hg2
                  generalize strN (gs.getD j []) = t at *
                  generalize (gs.getD j []).length = m at *
                  go_wp2_with fail
                  go_region
                  go_wp2
                  go_roundw
                  case rel => exact ⟨_, j + 1, rfl, by go_num, by omega, HDR.out⟩
                  case measure => simp [intOf]; omega
            · have hjn : j = n := by omega
              subst hjn
              clear hB hX hbe
              go_wp2
              go_ret
              exact ⟨rfl, HALL.out.1⟩
    · have i1 : ¬ (k : Int) < (len0 : Int) := by omega
      have HGS : Hid ((allN (ps0.take k)).length ≤ 327840 ∧ (goodN (ps0.take k)).length ≤ 20 ∧ (∀ b ∈ goodN (ps0.take k), b.length ≤ 16384) ∧ (∀ c ∈ allN (ps0.take k), c < 256) ∧ allN (ps0.take k) = ((goodN (ps0.take k)).map (frN crcN)).flatten) := by
        have h1 := all_len (ps0.take k)
        have h2 := good_len (ps0.take k)
        rw [List.length_take] at h1 h2
        exact ⟨by omega, by omega, good_small _, all_byt _ (fun b hb => HBY.out b (List.mem_of_mem_take hb)), rfl⟩
      generalize allN (ps0.take k) = al at *
      generalize goodN (ps0.take k) = gs at *
      obtain ⟨ba, ca, hva, -, -⟩ := OwnL.byt HOWN.out.1 HGS.out.2.2.2.1
      subst hva
      have HFI : Hid _ := first_any a1 len1 cap1 x1 wr (HA1.out.below HOWN.out.2.2) (HT.out.below HOWN.out.2.2)
      have hal := HGS.out.1
      have hgs := HGS.out.2.1
      by_cases h0 : (firstN crcN x1).2.2 = 0
      · rw [h0] at HFI
        clear h0
        go_wp2_with fail
        refine Calls.mono HFI.out ?_
        rintro e w1 ⟨v1, rfl, -, hb1⟩
        have HB1 : Hid (Below W.heap.size W w1) := HOWN.out.2.2.trans (hb1.mono HOWN.out.2.2.size)
        clear hb1 HFI HOWN
        show _
        go_wp2_with fail
        refine Calls.mono (awake_true w1 (HT.out.below HB1.out)) ?_
        rintro e w2 ⟨rfl, hb2⟩
        have HB2 : Hid (Below W.heap.size W w2) := HB1.out.trans (hb2.mono HB1.out.size)
        clear hb2 HB1
        go_wp2_with fail
        go_ret
        exact ⟨rfl, HB2.out⟩
      · have hsc := scan_frames crcN gs x1 HGS.out.2.2.1 h0
        rw [← HGS.out.2.2.2.2] at hsc
        have hle := first_err crcN x1
        obtain ⟨er, her⟩ : ∃ er, er = (firstN crcN x1).2.2 := ⟨_, rfl⟩
        rw [← her] at HFI h0 hle
        have hi : ((er : Int) == 0) = false := by rw [beq_eq_false_iff_ne]; omega
        have HSC : Hid (scanN crcN (al.length + len1 + 1) (al ++ x1) = (gs, al.length)) := hsc _ (by rw [List.length_append, HA1.out.1.1]; omega)
        have HXL : Hid ((al ++ x1).length = al.length + len1) := by unfold Hid; rw [List.length_append, HA1.out.1.1]
        have HXB : Hid (∀ c ∈ al ++ x1, c < 256) := by
          intro c hc
          rcases List.mem_append.1 hc with hc | hc
          · exact HGS.out.2.2.2.1 c hc
          · exact HA1.out.2.2.1 c hc
        clear her hsc
        go_wp2_with fail
        refine Calls.mono HFI.out ?_
        rintro e w1 ⟨v1, rfl, -, hb1⟩
        have HW1 : Hid (OwnL 5 .u8 w1 W.heap.size (.slice ba al.length ca) al ∧ OwnW W w1 W.heap.size vw gs ∧ Below W.heap.size W w1) := ⟨HOWN.out.1.below2 hb1, HOWN.out.2.1.below2 hb1, HOWN.out.2.2.trans (hb1.mono HOWN.out.2.2.size)⟩
        have hsz1 := HW1.out.2.2.size
        clear hb1 HFI HOWN
        show _
        go_wp2_with (at_builtin; (refine append_all W w1 rfl _ _ rfl W.heap.size (.slice ba al.length ca) al x1 rfl HW1.out.1 vw gs HW1.out.2.1 a1 len1 cap1 rfl (HA1.out.1.below HW1.out.2.2) HA1.out.2.1 (by omega) hsz1 ?_; intro v5 w5 hown5 hwant5 hb5; obtain ⟨b5, c5, rfl, hB5, -⟩ := OwnL.byt hown5 HXB.out; rw [HXL.out] at hB5 ⊢))
        have HW5 : Hid (BytL w5 b5 (al.length + len1) c5 (al ++ x1) ∧ OwnW W w5 W.heap.size vw gs ∧ Below W.heap.size W w5) := ⟨hB5, hwant5, HW1.out.2.2.trans hb5⟩
        have HSA : Hid _ := scan_any b5 (al.length + len1) c5 (al ++ x1) w5 HW5.out.1 (HT.out.below HW5.out.2.2) (by rw [HSC.out]; show gs.length ≤ _; omega)
        rw [HSC.out] at HSA
        clear hown5 hwant5 hb5 hB5 HW1 HSC
        refine Calls.mono HSA.out ?_
        rintro e w6 ⟨v6, rfl, hown6, hb6⟩
        obtain ⟨b6, c6, rfl, hB6, -, -⟩ := hown6.rows
        obtain ⟨bw, cw, rfl, hBw⟩ := (HW5.out.2.1.below2 hb6).rows
        have HW6 : Hid (RowB w6 b6 gs ∧ RowW W w6 bw gs ∧ Below W.heap.size W w6) := ⟨hB6, hBw, HW5.out.2.2.trans (hb6.mono HW5.out.2.2.size)⟩
        clear hown6 hb6 hB6 hBw HW5 HSA
        dsimp only
        show _
        go_wp2_with fail
        refine Calls.mono (awake_true w6 (HT.out.below HW6.out.2.2)) ?_
        rintro e w7 ⟨rfl, hb7⟩
        have HW7 : Hid (RowB w7 b6 gs ∧ RowW W w7 bw gs ∧ Below W.heap.size W w7) := ⟨HW6.out.1.below hb7, HW6.out.2.1.below hb7, HW6.out.2.2.trans (hb7.mono HW6.out.2.2.size)⟩
        clear hb7 HW6
        obtain ⟨n, hn⟩ : ∃ n, n = gs.length := ⟨_, rfl⟩
        rw [← hn] at hgs ⊢
        have HN : Hid (gs.length = n) := hn.symm
        clear hn
        go_wp2
        go_loopw [16] (fun ix wr => ∃ (wz : World) (j : Nat), wz = wr ∧ ix = .int .i64 j ∧ j ≤ n ∧ Below W.heap.size W wz ∧ RowB wz b6 gs ∧ RowW W wz bw gs) (fun ix _ => n - (intOf ix).toNat)
        case atStart => exact ⟨w7, 0, rfl, rfl, Nat.zero_le _, HW7.out.2.2, HW7.out.1, HW7.out.2.1⟩
        case round =>
          obtain ⟨wy, j, hwy, rfl, hj, hbe, hB, hX⟩ := hrel
          subst hwy
          have HALL : Hid (Below W.heap.size W wy ∧ RowB wy b6 gs ∧ RowW W wy bw gs) := ⟨hbe, hB, hX⟩
          by_cases hlj : j < n
          · rcases hB with h9 | ⟨g1, rfl, hg1, hc1⟩
            · have := HN.out; omega
            · rcases hX with h9 | ⟨g2, rfl, hg2, hc2⟩
              · have := HN.out; omega
              · obtain ⟨ai, ci, k1, k2, k3⟩ := hc1 j (by rw [HN.out]; exact hlj)
                obtain ⟨aj, cj, q1, q2⟩ := hc2 j (by rw [HN.out]; exact hlj)
                have hcv := conv_any (w := wy.drew) k2 k3 ci
                have hcv2 := conv_any (w := wy.drew) (RowL.below q2.1 hbe.drew) (fun h => (q2.2.1 h).1) cj
                have HDR : Hid (Below W.heap.size W wy.drew ∧ RowB wy.drew (some ⟨g1, 0, none⟩) gs ∧ RowW W wy.drew (some ⟨g2, 0, none⟩) gs) := ⟨HALL.out.1.drew, HALL.out.2⟩
                clear hc1 hc2 hbe k2 k3 q2 HALL hg1 hg2
                generalize strN (gs.getD j []) = t at *
                generalize (gs.getD j []).length = m at *
                go_wp2_with fail
                go_region
                go_wp2
                go_roundw
                case rel => exact ⟨_, j + 1, rfl, by go_num, by omega, HDR.out⟩
                case measure => simp [intOf]; omega
          · have hjn : j = n := by omega
            subst hjn
            clear hB hX hbe
            go_wp2
            go_ret
            exact ⟨rfl, HALL.out.1⟩
theorem contract (H : Type) (enc : TypeId × Value → H) (W : World) (base : Nat) (args : Array Value) (ds gs : List (DataW H)) (before : List MemPlace)
    (hval : ∀ (j : Nat) t v, Tryd.f5.params[j]? = some t → args[j]? = some v → Value.okWide Tryd.prog W .any base t v)
    (hW : DataW.Whole enc Tryd.prog Tryd.f5.params.toList Rows.frameBackSpec.vars false W args.toList ds gs before)
    (hsz : (DataW.weightsEach Tryd.prog (Tryd.f5.params.toList ++ (OpenSpec.ofChange Rows.frameBackSpec).bare.plain.varTypes Tryd.prog) (ds ++ gs)).all (· ≤ reachBytes) = true) (hL : laidMetH Tryd.prog Rows.frameBackRow.laid W) :
    Calls Tryd.prog 5 args W fun e W' => ∃ v, e = .returned v ∧ Rows.frameBackSpec.post enc Tryd.prog Tryd.f5 false true false false W args v W' := by
  have hW' := hW
  obtain ⟨p, q, hA0, hV, rfl, hfz, hnd⟩ := hW
  have hA : DataW.TrodAll enc Tryd.prog W 0 (fun _ => true) true Tryd.f5.params.toList args.toList ds p := hA0
  rw [Tryd.params5] at hA hval hsz
  obtain ⟨v0, vs0, d0, ds0, p0, q0, hargs, rfl, rfl, h0, r0⟩ := trodAll_cons hA
  obtain ⟨v1, vs1, d1, ds1, p1, q1, rfl, rfl, rfl, h1, r1⟩ := trodAll_cons r0
  obtain ⟨rfl, rfl, rfl⟩ := trodAll_nil r1
  obtain rfl : args = #[v0, v1] := by cases args; simp_all
  obtain ⟨rfl, rfl⟩ := trodVars_none hV
  obtain ⟨a0, len0, cap0, rfl⟩ := okWide_slice Tryd.underlying34 (hval 0 34 v0 rfl rfl)
  have k0 := h0
  have lt0 : ∀ x ∈ p0, x.block < W.heap.size := by obtain ⟨m, hm⟩ := k0; exact DataW.trod_lt m _ _ _ hm
  obtain ⟨ps0, w0, re0⟩ : ∃ ps, PArgL W a0 len0 cap0 ps ∧ cap0 * 24 ≤ 140737488351232 := by
    obtain ⟨fuel, hf⟩ := h0
    rcases Deep.open_int_rows Tryd.underlying34 Tryd.underlying22 Tryd.underlying5 (by kernel_rfl) (by kernel_rfl) hf with ⟨hcs, _⟩ | ⟨x, l, c, A, L, C, Z, hcs, _, hl, hm, hx, hall⟩
    · simp [Value.cells] at hcs
      obtain ⟨rfl, rfl, rfl⟩ := hcs
      exact ⟨[], parg_nil W, by omega⟩
    · simp [Value.cells] at hcs
      obtain ⟨rfl, rfl, rfl⟩ := hcs
      have hd := congrArg Prod.fst hx
      simp only [] at hd
      have hb := sized_slice hsz (j := 0) (t := 34) (e := 22) rfl (by rw [hd]; rfl) Tryd.underlying34
      have hby : Tryd.prog.bytesOf 22 = 24 := by kernel_rfl
      rw [hby] at hb
      simp only [List.length_map, List.length_range, reachBytes] at hb
      exact ⟨_, parg_at hl hm hall, by omega⟩
  obtain ⟨a1, len1, cap1, rfl⟩ := okWide_slice Tryd.underlying22 (hval 1 22 v1 rfl rfl)
  have k1 := h1
  have lt1 : ∀ x ∈ p1, x.block < W.heap.size := by obtain ⟨m, hm⟩ := k1; exact DataW.trod_lt m _ _ _ hm
  obtain ⟨x1, w1, re1⟩ : ∃ xs, ArgL W a1 len1 cap1 xs ∧ cap1 ≤ 140737488351232 := by
    obtain ⟨fuel, hf⟩ := h1
    rcases open_ints Tryd.underlying22 Tryd.underlying5 (by kernel_rfl) hf with ⟨hcs, _⟩ | ⟨x, l, c, zs, hcs, _, hl, hm, hz, hx, hcell, hwz⟩
    · simp [Value.cells] at hcs
      obtain ⟨rfl, rfl, rfl⟩ := hcs
      exact ⟨_, arg_at (.inl ⟨rfl, rfl, rfl, rfl⟩), by omega⟩
    · simp [Value.cells] at hcs
      obtain ⟨rfl, rfl, rfl⟩ := hcs
      have hd := congrArg Prod.fst hx
      simp only [] at hd
      have hz' : zs.length = cap1 := by simpa using hz
      have hb := sized_slice hsz (j := 1) (t := 22) (e := 5) rfl (by rw [hd]; rfl) Tryd.underlying22
      have hby : Tryd.prog.bytesOf 5 = 1 := by kernel_rfl
      rw [hby] at hb
      simp only [lits, List.length_map, List.length_take, List.length_drop, reachBytes] at hb
      exact ⟨_, arg_at (.inr ⟨_, rfl, hl, hm, hz', hcell, hwz⟩), by omega⟩
  clear hA0 hsz
  refine (walk W (table hL) a0 len0 cap0 ps0 w0 re0 a1 len1 cap1 x1 w1 re1).mono fun e W' ⟨he, bel⟩ => ?_
  subst he
  exact ⟨_, rfl, _, _, _, [], _, [], hW', trodAll_mk1 (shut_bool Tryd.underlying4 _), (trodAll_cons_mk (Below.trod laidOut (by kernel_rfl) (of_decide_eq_true (by kernel_rfl)) k0 bel lt0) (trodAll_cons_mk (Below.trod laidOut (by kernel_rfl) (of_decide_eq_true (by kernel_rfl)) k1 bel lt1) trodAll_mk0)), rfl, bel.frame _, fun h => by cases h⟩
set_option maxRecDepth 100000 in
theorem lifted (os : Os) (started : os.Started) (H : Type) (enc : TypeId × Value → H) (I : Stop.Interp) :
    ReturnsInHanded {} Tryd.checked os 5 .any ((OpenSpec.ofChange Rows.frameBackSpec).preRow enc Tryd.prog Tryd.f5 Rows.frameBackRow.domain false Rows.frameBackRow.laid) (((OpenSpec.ofChange Rows.frameBackSpec).at I).post enc Tryd.prog Tryd.f5 false true false false) := by
  refine returnsInHanded_of_row (C := Tryd.checked) (s := (OpenSpec.ofChange Rows.frameBackSpec)) own started (by kernel_rfl) Tryd.func5
    (witness_row_at (enc := enc) (C := Tryd.checked) false { World.holding Tryd.prog os ⟨#[], #[], []⟩ with heap := (World.holding Tryd.prog os ⟨#[], #[], []⟩).heap.modify 0 fun
        | .cells _ t frozen => .cells #[.int .u32 0, .int .u32 274646895, .int .u32 549293790, .int .u32 820201905, .int .u32 1098587580, .int .u32 1361435347, .int .u32 1640403810, .int .u32 1905808397, .int .u32 2197175160, .int .u32 2460548119, .int .u32 2722870694, .int .u32 2987750089, .int .u32 3280807620, .int .u32 3553878443, .int .u32 3811616794, .int .u32 4084100981] t frozen
        | o => o } #[.slice none 0 0, .slice none 0 0] rfl (by kernel_rfl) (by kernel_rfl) (by kernel_rfl)
      (OpenSpec.preRow_of_cond 8 (x := ([.nil, .nil], [], [])) (by kernel_rfl) (by kernel_rfl) (fun k hk => by cases hk) (by kernel_rfl) (laidMet_of_run' 8 (by kernel_rfl) (by kernel_rfl)))) ?_
  intro W base args ds gs before hval hW _ hcond hsz hL _ _
  exact contract H enc W base args ds gs before hval hW hsz hL
theorem said : Rows.FrameBackSaid :=
  OpenClaim.holds_of_cond 5 Tryd.f5 rfl rfl rfl rfl rfl rfl rfl ⟨rfl, rfl, rfl, rfl, rfl⟩ rfl rfl rfl rfl rfl (by kernel_rfl) Tryd.func5 (by kernel_rfl)
    (of_decide_eq_true (by kernel_rfl)) (by unfold Func.isWrapper; first | (rw [if_pos (by decide +kernel)]; kernel_rfl) | (rw [if_neg (by decide +kernel)]; exact ⟨rfl, rfl⟩))
    (fun os started H enc _ I => by rw [OpenClaim.pre_eq_preRow]; exact lifted os started H enc I)
theorem plain (f : FuncId) (fn : Func) (hf : Tryd.pinned.checked.prog.funcNamed Rows.frameBackRow.func = some f) (hfn : Tryd.pinned.checked.prog.funcs[f]? = some fn) :
    false = Tryd.pinned.checked.prog.looks [] ∧ ∀ (j : Nat) t, fn.params[j]? = some t → Tryd.pinned.checked.prog.wantsStandIn t = false := by
  obtain rfl : f = 5 := Option.some.inj ((show Tryd.prog.funcNamed Rows.frameBackRow.func = some 5 by kernel_rfl).symm.trans hf) |>.symm
  obtain rfl : fn = Tryd.f5 := (Option.some.inj (Tryd.func5.symm.trans hfn)).symm
  refine ⟨by kernel_rfl, fun j t ht => ?_⟩
  rw [Tryd.params5] at ht
  have hm := Array.mem_of_getElem? ht
  simp only [List.mem_toArray, List.mem_cons, List.not_mem_nil, or_false] at hm
  rcases hm with rfl | rfl
  · exact (show Tryd.prog.wantsStandIn 34 = false by kernel_rfl)
  · exact (show Tryd.prog.wantsStandIn 22 = false by kernel_rfl)
theorem card : Rows.FrameBackCardSaid :=
  Claim7.holds_tied_plain_at .later [] _ _ _ _ said (fun _ h => by cases h) (by kernel_rfl) (fun _ h => by cases h) frameBack_row_tie rfl ⟨rfl, rfl⟩ (by kernel_rfl) rfl plain (by kernel_rfl)
#print axioms card
end Go.Proofs.YtaahmpabhophfaaDoor.frameBack
