/-
  FrameTurned returns true: a frame of which bits within 32 in a row of the sum, or of what is in it, are turned is told to be wrong (where the table of crc lies as its text lays it).
-/
import Derived.Test.YtaahmpabhophfaaDoorCards
import Derived.Test.YtaahmpabhophfaaDoorTie
import Derived.Test.YtaahmpabhophfaaDoorFrameArgs
import Derived.Test.YtaahmpabhophfaaDoorFrameAwake
import Derived.Test.YtaahmpabhophfaaDoorFrameTurnN
namespace Go.Proofs.YtaahmpabhophfaaDoor.frameTurned
open Go.ChangeShapes Go.WideShapes Go.ChangeAt Go.RowKit
set_option linter.unusedVariables false
set_option linter.unusedSimpArgs false
theorem bit_tmod2 (c j : Nat) : ((c : Int) / 2 ^ j).tmod 2 = ((c / 2 ^ j % 2 : Nat) : Int) := by
  have e : (c : Int) / 2 ^ j = ((c / 2 ^ j : Nat) : Int) := by simp
  rw [e, Int.tmod_eq_emod_of_nonneg (Int.natCast_nonneg _)]
  exact (Int.natCast_emod _ _).symm
set_option maxHeartbeats 4000000 in
theorem walk (W : World) (hT : HalfTab W) (a0 : Option Addr) (len0 cap0 : Nat) (x0 : List Nat) (w0 : ArgL W a0 len0 cap0 x0) (re0 : cap0 ≤ 140737488351232) (a1 : Int) (w1 : (Lit.int .u16 a1).wf = true) (a2 : Int) (w2 : (Lit.int .u32 a2).wf = true) :
    Calls Tryd.prog 7 #[.slice a0 len0 cap0, .int .u16 a1, .int .u32 a2] W fun e W' => e = .returned (.bool true) ∧ Below W.heap.size W W' := by
  obtain ⟨l1, h1⟩ := bounds_u16 w1
  obtain ⟨l2, h2⟩ := bounds_u32 w2
  obtain ⟨A, rfl⟩ := Int.eq_ofNat_of_zero_le l1
  obtain ⟨B, rfl⟩ := Int.eq_ofNat_of_zero_le l2
  have hA : A < 65536 := by omega
  have hB : B < 4294967296 := by omega
  have HT : Hid (HalfTab W) := hT
  have HA0 : Hid (BytL W a0 len0 cap0 x0) := w0
  have hl0 := w0.1.1
  have HPUT : Hid _ := put_any a0 len0 cap0 x0 W HA0.out HT.out
  clear hT w0 w1 w2 l1 l2 h1 h2
  by_cases hbig : 16384 < len0
  · have HP : putN x0 = ([], 17) := by unfold putN; rw [if_pos (by omega)]
    rw [HP] at HPUT
    go_enter Tryd.func7, Tryd.ntmps7
    go_wp2_with fail
    refine Calls.mono HPUT.out ?_
    rintro e w1 ⟨v1, rfl, hown1, hb1⟩
    have HB1 : Hid (Below W.heap.size W w1) := hb1
    clear hown1 hb1 HPUT
    show _
    go_wp2_with fail
    refine Calls.mono (awake_true w1 (HT.out.below HB1.out)) ?_
    rintro e w2 ⟨rfl, hb2⟩
    have HB2 : Hid (Below W.heap.size W w2) := HB1.out.trans (hb2.mono HB1.out.size)
    clear hb2
    go_wp2_with fail
    refine Calls.mono (awake_true w2 (HT.out.below HB2.out)) ?_
    rintro e w3 ⟨rfl, hb3⟩
    have HB3 : Hid (Below W.heap.size W w3) := HB2.out.trans (hb3.mono HB2.out.size)
    clear hb3
    go_wp2_with fail
    go_ret
    exact ⟨rfl, HB3.out⟩
  · have HP : putN x0 = (frN crcN x0, 0) := by unfold putN; rw [if_neg (by omega)]
    rw [HP] at HPUT
    obtain ⟨f, hf⟩ : ∃ f, f = frN crcN x0 := ⟨_, rfl⟩
    rw [← hf] at HPUT
    have hfl : f.length = 8 + len0 := by rw [hf, frN_len, hl0]
    have HFB : Hid (∀ c ∈ f, c < 256) := by rw [hf]; exact frN_byt x0 HA0.out.2.2.1
    have HFL : Hid (f.length = 8 + len0) := hfl
    have HF : Hid (f = frN crcN x0) := hf
    clear hf hfl
    by_cases hB0 : B = 0
    · subst hB0
      go_enter Tryd.func7, Tryd.ntmps7
      go_wp2_with fail
      refine Calls.mono HPUT.out ?_
      rintro e w1 ⟨v1, rfl, hown1, hb1⟩
      have HB1 : Hid (Below W.heap.size W w1) := hb1
      clear hown1 hb1 HPUT
      show _
      go_wp2_with fail
      refine Calls.mono (awake_true w1 (HT.out.below HB1.out)) ?_
      rintro e w2 ⟨rfl, hb2⟩
      have HB2 : Hid (Below W.heap.size W w2) := HB1.out.trans (hb2.mono HB1.out.size)
      clear hb2
      go_wp2_with fail
      refine Calls.mono (awake_true w2 (HT.out.below HB2.out)) ?_
      rintro e w3 ⟨rfl, hb3⟩
      have HB3 : Hid (Below W.heap.size W w3) := HB2.out.trans (hb3.mono HB2.out.size)
      clear hb3
      go_wp2_with fail
      go_ret
      exact ⟨rfl, HB3.out⟩
    · have hBi : ((B : Int) == 0) = false := by rw [beq_eq_false_iff_ne]; omega
      by_cases hq : 4 ≤ len0 ∧ A % 2 = 1
      · obtain ⟨h4, ho⟩ := hq
        have h4i : ¬ ((len0 : Int) < 4) := by omega
        have hoi : (A : Int) % 2 = 1 := by omega
        have hm0 : ¬ ((len0 : Int) * 8 - 31 = 0) := by omega
        have hKe : (A : Int) % ((len0 : Int) * 8 - 31) = ((A % (len0 * 8 - 31) : Nat) : Int) := by
          rw [show (len0 : Int) * 8 - 31 = ((len0 * 8 - 31 : Nat) : Int) by omega]
          exact (Int.natCast_emod _ _).symm
        have hKl := Nat.mod_lt A (show len0 * 8 - 31 > 0 by omega)
        have HFI : Hid (firstN crcN (turnN f (64 + A % (len0 * 8 - 31)) B 32) = ([], 0, 2)) := by rw [HF.out]; exact turn_body x0 _ B (by omega) HA0.out.2.2.1 (by omega) hB hB0
        obtain ⟨k0, hk0⟩ : ∃ k0, k0 = A % (len0 * 8 - 31) := ⟨_, rfl⟩
        rw [← hk0] at hKe hKl HFI
        obtain ⟨K, hKK⟩ : ∃ K, K = 64 + k0 := ⟨_, rfl⟩
        rw [← hKK] at HFI
        have hK2 : (64 : Int) + (k0 : Int) = (K : Int) := by omega
        have hK3 : K + 32 ≤ 8 * (8 + len0) := by omega
        clear hk0 hKK
        go_enter Tryd.func7, Tryd.ntmps7
        go_wp2_with fail
        refine Calls.mono HPUT.out ?_
        rintro e w1 ⟨v1, rfl, hown1, hb1⟩
        have HO1 : Hid (OwnL 5 .u8 w1 W.heap.size v1 f ∧ Below W.heap.size W w1) := ⟨hown1, hb1⟩
        obtain ⟨g, cg, rfl, hgb, -, -, -, -⟩ := OwnL.at hown1 0 (by have := HFL.out; omega)
        rw [HFL.out] at HO1 ⊢
        clear hown1 hb1 HPUT
        show _
        go_wp2_with fail
        refine Calls.mono (awake_true w1 (HT.out.below HO1.out.2)) ?_
        rintro e w2 ⟨rfl, hb2⟩
        have HO2 : Hid (OwnL 5 .u8 w2 W.heap.size (.slice (some ⟨g, 0, none⟩) (8 + len0) cg) f ∧ Below W.heap.size W w2) := ⟨HO1.out.1.below2 hb2, HO1.out.2.trans (hb2.mono HO1.out.2.size)⟩
        clear hb2 HO1
        go_wp2_with fail
        go_loopw [10] (fun i wr => ∃ j : Nat, j ≤ 32 ∧ i = .int .i64 j ∧ OwnL 5 .u8 wr W.heap.size (.slice (some ⟨g, 0, none⟩) (8 + len0) cg) (turnN f K B j) ∧ Below W.heap.size W wr) (fun i _ => 32 - (intOf i).toNat)
        case atStart => exact ⟨0, Nat.zero_le _, rfl, HO2.out.1, HO2.out.2⟩
        case round =>
          obtain ⟨j, hj, rfl, hown, hbe⟩ := hrel
          rename_i wr _
          have HOWN : Hid (OwnL 5 .u8 wr W.heap.size (.slice (some ⟨g, 0, none⟩) (8 + len0) cg) (turnN f K B j)) := hown
          have HBE : Hid (Below W.heap.size W wr) := hbe
          clear hown hbe HO2
          by_cases hlt : j < 32
          · have hd := bit_tmod2 B j
            have hd2 : B / 2 ^ j % 2 < 2 := Nat.mod_lt _ (by decide)
            have HS : Hid (turnN f K B (j + 1) = if B / 2 ^ j % 2 = 1 then (turnN f K B j).set ((K + j) / 8) ((turnN f K B j).getD ((K + j) / 8) 0 ^^^ 2 ^ ((K + j) % 8)) else turnN f K B j) := rfl
            have hlt8 : (K + j) / 8 < 8 + len0 := by omega
            have hTl : (turnN f K B j).length = 8 + len0 := by rw [turnN_length]; exact HFL.out
            have hTb := getD_lt _ (turnN_bytes f K B HFB.out j) ((K + j) / 8)
            generalize turnN f K B j = l at *
            generalize B / 2 ^ j % 2 = d at *
            obtain rfl | rfl : d = 0 ∨ d = 1 := by omega
            · have ht : (((0 : Nat) : Int) == 1) = false := by decide
              go_wp2_with fail
              go_roundw
              case rel => exact ⟨j + 1, by omega, by go_num, by rw [HS.out, if_neg (by decide)]; exact HOWN.out, HBE.out⟩
              case measure => simp [intOf]; omega
            · have ht : (((1 : Nat) : Int) == 1) = true := by decide
              obtain ⟨g', cg', heq, hg', -, hcell, hfr, hset⟩ := OwnL.at HOWN.out ((K + j) / 8) (by omega)
              obtain ⟨rfl, -⟩ : g = g' ∧ True := by
                simp only [Value.slice.injEq, Option.some.injEq, Addr.mk.injEq, and_true] at heq
                exact ⟨heq.1, trivial⟩
              replace hcell := hcell ((K + j) / 8) (by omega)
              have HSET : Hid (∀ y : Nat, OwnL 5 .u8 (wr.setCell ⟨g, (K + j) / 8, none⟩ (.int .u8 y)) W.heap.size (.slice (some ⟨g, 0, none⟩) (8 + len0) cg) (l.set ((K + j) / 8) y)) := hset
              clear hset heq
              generalize l.getD ((K + j) / 8) 0 = c at *
              go_wp2_with fail
              have hval : bits .xor .u8 (c : Int) (2 ^ ((K + j) % 8) % 256) = ((c ^^^ 2 ^ ((K + j) % 8) : Nat) : Int) := by
                have hp : 2 ^ ((K + j) % 8) < 256 := Nat.pow_lt_pow_right (n := 8) (by decide) (Nat.mod_lt _ (by decide))
                have e : (2 : Int) ^ ((K + j) % 8) % 256 = ((2 ^ ((K + j) % 8) : Nat) : Int) := by
                  have e1 : (2 : Int) ^ ((K + j) % 8) = ((2 ^ ((K + j) % 8) : Nat) : Int) := by simp
                  rw [e1]
                  exact Int.emod_eq_of_lt (Int.natCast_nonneg _) (Int.ofNat_lt.2 hp)
                rw [e]
                exact u8_xor_nat c _ hTb hp
              rw [hval]
              go_roundw
              case rel =>
                refine ⟨j + 1, by omega, by go_num, ?_, Below.setCell HBE.out hg' _⟩
                rw [HS.out, if_pos rfl]
                exact HSET.out _
              case measure => simp [intOf]; omega
          · obtain rfl : j = 32 := by omega
            have hTl : (turnN f K B 32).length = 8 + len0 := by rw [turnN_length]; exact HFL.out
            obtain ⟨ax, cx, heq, hby, -⟩ := OwnL.byt HOWN.out (turnN_bytes f K B HFB.out 32)
            rw [hTl] at hby heq
            injection heq with e1 e2 e3
            subst e1 e3
            have HBY : Hid (BytL wr (some ⟨g, 0, none⟩) (8 + len0) cg (turnN f K B 32)) := hby
            clear hby HOWN hTl
            go_wp2_with fail
            refine Calls.mono (first_any (some ⟨g, 0, none⟩) (8 + len0) cg _ wr HBY.out (HT.out.below HBE.out)) ?_
            rw [HFI.out]
            rintro e w9 ⟨v9, rfl, -, hb9⟩
            have HB9 : Hid (Below W.heap.size W w9) := HBE.out.trans (hb9.mono HBE.out.size)
            clear hb9 HBE HBY
            show _
            go_wp2
            go_ret
            exact ⟨rfl, HB9.out⟩
      · have HFI : Hid (firstN crcN (turnN f 32 B 32) = ([], 0, 2)) := by rw [HF.out]; exact turn_sum x0 B (by omega) HA0.out.2.2.1 hB hB0
        by_cases h4 : len0 < 4
        · have h4i : (len0 : Int) < 4 := by omega
          clear hq
          go_enter Tryd.func7, Tryd.ntmps7
          go_wp2_with fail
          refine Calls.mono HPUT.out ?_
          rintro e w1 ⟨v1, rfl, hown1, hb1⟩
          have HO1 : Hid (OwnL 5 .u8 w1 W.heap.size v1 f ∧ Below W.heap.size W w1) := ⟨hown1, hb1⟩
          obtain ⟨g, cg, rfl, hgb, -, -, -, -⟩ := OwnL.at hown1 0 (by have := HFL.out; omega)
          rw [HFL.out] at HO1 ⊢
          clear hown1 hb1 HPUT
          show _
          go_wp2_with fail
          refine Calls.mono (awake_true w1 (HT.out.below HO1.out.2)) ?_
          rintro e w2 ⟨rfl, hb2⟩
          have HO2 : Hid (OwnL 5 .u8 w2 W.heap.size (.slice (some ⟨g, 0, none⟩) (8 + len0) cg) f ∧ Below W.heap.size W w2) := ⟨HO1.out.1.below2 hb2, HO1.out.2.trans (hb2.mono HO1.out.2.size)⟩
          clear hb2 HO1
          go_wp2_with fail
          go_loopw [10] (fun i wr => ∃ j : Nat, j ≤ 32 ∧ i = .int .i64 j ∧ OwnL 5 .u8 wr W.heap.size (.slice (some ⟨g, 0, none⟩) (8 + len0) cg) (turnN f 32 B j) ∧ Below W.heap.size W wr) (fun i _ => 32 - (intOf i).toNat)
          case atStart => exact ⟨0, Nat.zero_le _, rfl, HO2.out.1, HO2.out.2⟩
          case round =>
            obtain ⟨j, hj, rfl, hown, hbe⟩ := hrel
            rename_i wr _
            have HOWN : Hid (OwnL 5 .u8 wr W.heap.size (.slice (some ⟨g, 0, none⟩) (8 + len0) cg) (turnN f 32 B j)) := hown
            have HBE : Hid (Below W.heap.size W wr) := hbe
            clear hown hbe HO2
            by_cases hlt : j < 32
            · have hd := bit_tmod2 B j
              have hd2 : B / 2 ^ j % 2 < 2 := Nat.mod_lt _ (by decide)
              have HS : Hid (turnN f 32 B (j + 1) = if B / 2 ^ j % 2 = 1 then (turnN f 32 B j).set ((32 + j) / 8) ((turnN f 32 B j).getD ((32 + j) / 8) 0 ^^^ 2 ^ ((32 + j) % 8)) else turnN f 32 B j) := rfl
              have hlt8 : (32 + j) / 8 < 8 + len0 := by omega
              have hTl : (turnN f 32 B j).length = 8 + len0 := by rw [turnN_length]; exact HFL.out
              have hTb := getD_lt _ (turnN_bytes f 32 B HFB.out j) ((32 + j) / 8)
              generalize turnN f 32 B j = l at *
              generalize B / 2 ^ j % 2 = d at *
              obtain rfl | rfl : d = 0 ∨ d = 1 := by omega
              · have ht : (((0 : Nat) : Int) == 1) = false := by decide
                go_wp2_with fail
                go_roundw
                case rel => exact ⟨j + 1, by omega, by go_num, by rw [HS.out, if_neg (by decide)]; exact HOWN.out, HBE.out⟩
                case measure => simp [intOf]; omega
              · have ht : (((1 : Nat) : Int) == 1) = true := by decide
                obtain ⟨g', cg', heq, hg', -, hcell, hfr, hset⟩ := OwnL.at HOWN.out ((32 + j) / 8) (by omega)
                obtain ⟨rfl, -⟩ : g = g' ∧ True := by
                  simp only [Value.slice.injEq, Option.some.injEq, Addr.mk.injEq, and_true] at heq
                  exact ⟨heq.1, trivial⟩
                replace hcell := hcell ((32 + j) / 8) (by omega)
                have HSET : Hid (∀ y : Nat, OwnL 5 .u8 (wr.setCell ⟨g, (32 + j) / 8, none⟩ (.int .u8 y)) W.heap.size (.slice (some ⟨g, 0, none⟩) (8 + len0) cg) (l.set ((32 + j) / 8) y)) := hset
                clear hset heq
                generalize l.getD ((32 + j) / 8) 0 = c at *
                go_wp2_with fail
                have hval : bits .xor .u8 (c : Int) (2 ^ ((32 + j) % 8) % 256) = ((c ^^^ 2 ^ ((32 + j) % 8) : Nat) : Int) := by
                  have hp : 2 ^ ((32 + j) % 8) < 256 := Nat.pow_lt_pow_right (n := 8) (by decide) (Nat.mod_lt _ (by decide))
                  have e : (2 : Int) ^ ((32 + j) % 8) % 256 = ((2 ^ ((32 + j) % 8) : Nat) : Int) := by
                    have e1 : (2 : Int) ^ ((32 + j) % 8) = ((2 ^ ((32 + j) % 8) : Nat) : Int) := by simp
                    rw [e1]
                    exact Int.emod_eq_of_lt (Int.natCast_nonneg _) (Int.ofNat_lt.2 hp)
                  rw [e]
                  exact u8_xor_nat c _ hTb hp
                rw [hval]
                go_roundw
                case rel =>
                  refine ⟨j + 1, by omega, by go_num, ?_, Below.setCell HBE.out hg' _⟩
                  rw [HS.out, if_pos rfl]
                  exact HSET.out _
                case measure => simp [intOf]; omega
            · obtain rfl : j = 32 := by omega
              have hTl : (turnN f 32 B 32).length = 8 + len0 := by rw [turnN_length]; exact HFL.out
              obtain ⟨ax, cx, heq, hby, -⟩ := OwnL.byt HOWN.out (turnN_bytes f 32 B HFB.out 32)
              rw [hTl] at hby heq
              injection heq with e1 e2 e3
              subst e1 e3
              have HBY : Hid (BytL wr (some ⟨g, 0, none⟩) (8 + len0) cg (turnN f 32 B 32)) := hby
              clear hby HOWN hTl
              go_wp2_with fail
              refine Calls.mono (first_any (some ⟨g, 0, none⟩) (8 + len0) cg _ wr HBY.out (HT.out.below HBE.out)) ?_
              rw [HFI.out]
              rintro e w9 ⟨v9, rfl, -, hb9⟩
              have HB9 : Hid (Below W.heap.size W w9) := HBE.out.trans (hb9.mono HBE.out.size)
              clear hb9 HBE HBY
              show _
              go_wp2
              go_ret
              exact ⟨rfl, HB9.out⟩
        · have h4i : ¬ ((len0 : Int) < 4) := by omega
          have hoi : ¬ ((A : Int) % 2 = 1) := by omega
          clear hq
          go_enter Tryd.func7, Tryd.ntmps7
          go_wp2_with fail
          refine Calls.mono HPUT.out ?_
          rintro e w1 ⟨v1, rfl, hown1, hb1⟩
          have HO1 : Hid (OwnL 5 .u8 w1 W.heap.size v1 f ∧ Below W.heap.size W w1) := ⟨hown1, hb1⟩
          obtain ⟨g, cg, rfl, hgb, -, -, -, -⟩ := OwnL.at hown1 0 (by have := HFL.out; omega)
          rw [HFL.out] at HO1 ⊢
          clear hown1 hb1 HPUT
          show _
          go_wp2_with fail
          refine Calls.mono (awake_true w1 (HT.out.below HO1.out.2)) ?_
          rintro e w2 ⟨rfl, hb2⟩
          have HO2 : Hid (OwnL 5 .u8 w2 W.heap.size (.slice (some ⟨g, 0, none⟩) (8 + len0) cg) f ∧ Below W.heap.size W w2) := ⟨HO1.out.1.below2 hb2, HO1.out.2.trans (hb2.mono HO1.out.2.size)⟩
          clear hb2 HO1
          go_wp2_with fail
          go_loopw [10] (fun i wr => ∃ j : Nat, j ≤ 32 ∧ i = .int .i64 j ∧ OwnL 5 .u8 wr W.heap.size (.slice (some ⟨g, 0, none⟩) (8 + len0) cg) (turnN f 32 B j) ∧ Below W.heap.size W wr) (fun i _ => 32 - (intOf i).toNat)
          case atStart => exact ⟨0, Nat.zero_le _, rfl, HO2.out.1, HO2.out.2⟩
          case round =>
            obtain ⟨j, hj, rfl, hown, hbe⟩ := hrel
            rename_i wr _
            have HOWN : Hid (OwnL 5 .u8 wr W.heap.size (.slice (some ⟨g, 0, none⟩) (8 + len0) cg) (turnN f 32 B j)) := hown
            have HBE : Hid (Below W.heap.size W wr) := hbe
            clear hown hbe HO2
            by_cases hlt : j < 32
            · have hd := bit_tmod2 B j
              have hd2 : B / 2 ^ j % 2 < 2 := Nat.mod_lt _ (by decide)
              have HS : Hid (turnN f 32 B (j + 1) = if B / 2 ^ j % 2 = 1 then (turnN f 32 B j).set ((32 + j) / 8) ((turnN f 32 B j).getD ((32 + j) / 8) 0 ^^^ 2 ^ ((32 + j) % 8)) else turnN f 32 B j) := rfl
              have hlt8 : (32 + j) / 8 < 8 + len0 := by omega
              have hTl : (turnN f 32 B j).length = 8 + len0 := by rw [turnN_length]; exact HFL.out
              have hTb := getD_lt _ (turnN_bytes f 32 B HFB.out j) ((32 + j) / 8)
              generalize turnN f 32 B j = l at *
              generalize B / 2 ^ j % 2 = d at *
              obtain rfl | rfl : d = 0 ∨ d = 1 := by omega
              · have ht : (((0 : Nat) : Int) == 1) = false := by decide
                go_wp2_with fail
                go_roundw
                case rel => exact ⟨j + 1, by omega, by go_num, by rw [HS.out, if_neg (by decide)]; exact HOWN.out, HBE.out⟩
                case measure => simp [intOf]; omega
              · have ht : (((1 : Nat) : Int) == 1) = true := by decide
                obtain ⟨g', cg', heq, hg', -, hcell, hfr, hset⟩ := OwnL.at HOWN.out ((32 + j) / 8) (by omega)
                obtain ⟨rfl, -⟩ : g = g' ∧ True := by
                  simp only [Value.slice.injEq, Option.some.injEq, Addr.mk.injEq, and_true] at heq
                  exact ⟨heq.1, trivial⟩
                replace hcell := hcell ((32 + j) / 8) (by omega)
                have HSET : Hid (∀ y : Nat, OwnL 5 .u8 (wr.setCell ⟨g, (32 + j) / 8, none⟩ (.int .u8 y)) W.heap.size (.slice (some ⟨g, 0, none⟩) (8 + len0) cg) (l.set ((32 + j) / 8) y)) := hset
                clear hset heq
                generalize l.getD ((32 + j) / 8) 0 = c at *
                go_wp2_with fail
                have hval : bits .xor .u8 (c : Int) (2 ^ ((32 + j) % 8) % 256) = ((c ^^^ 2 ^ ((32 + j) % 8) : Nat) : Int) := by
                  have hp : 2 ^ ((32 + j) % 8) < 256 := Nat.pow_lt_pow_right (n := 8) (by decide) (Nat.mod_lt _ (by decide))
                  have e : (2 : Int) ^ ((32 + j) % 8) % 256 = ((2 ^ ((32 + j) % 8) : Nat) : Int) := by
                    have e1 : (2 : Int) ^ ((32 + j) % 8) = ((2 ^ ((32 + j) % 8) : Nat) : Int) := by simp
                    rw [e1]
                    exact Int.emod_eq_of_lt (Int.natCast_nonneg _) (Int.ofNat_lt.2 hp)
                  rw [e]
                  exact u8_xor_nat c _ hTb hp
                rw [hval]
                go_roundw
                case rel =>
                  refine ⟨j + 1, by omega, by go_num, ?_, Below.setCell HBE.out hg' _⟩
                  rw [HS.out, if_pos rfl]
                  exact HSET.out _
                case measure => simp [intOf]; omega
            · obtain rfl : j = 32 := by omega
              have hTl : (turnN f 32 B 32).length = 8 + len0 := by rw [turnN_length]; exact HFL.out
              obtain ⟨ax, cx, heq, hby, -⟩ := OwnL.byt HOWN.out (turnN_bytes f 32 B HFB.out 32)
              rw [hTl] at hby heq
              injection heq with e1 e2 e3
              subst e1 e3
              have HBY : Hid (BytL wr (some ⟨g, 0, none⟩) (8 + len0) cg (turnN f 32 B 32)) := hby
              clear hby HOWN hTl
              go_wp2_with fail
              refine Calls.mono (first_any (some ⟨g, 0, none⟩) (8 + len0) cg _ wr HBY.out (HT.out.below HBE.out)) ?_
              rw [HFI.out]
              rintro e w9 ⟨v9, rfl, -, hb9⟩
              have HB9 : Hid (Below W.heap.size W w9) := HBE.out.trans (hb9.mono HBE.out.size)
              clear hb9 HBE HBY
              show _
              go_wp2
              go_ret
              exact ⟨rfl, HB9.out⟩
theorem contract (H : Type) (enc : TypeId × Value → H) (W : World) (base : Nat) (args : Array Value) (ds gs : List (DataW H)) (before : List MemPlace)
    (hval : ∀ (j : Nat) t v, Tryd.f7.params[j]? = some t → args[j]? = some v → Value.okWide Tryd.prog W .any base t v)
    (hW : DataW.Whole enc Tryd.prog Tryd.f7.params.toList Rows.frameTurnedSpec.vars false W args.toList ds gs before)
    (hsz : (DataW.weightsEach Tryd.prog (Tryd.f7.params.toList ++ (OpenSpec.ofChange Rows.frameTurnedSpec).bare.plain.varTypes Tryd.prog) (ds ++ gs)).all (· ≤ reachBytes) = true) (hL : laidMetH Tryd.prog Rows.frameTurnedRow.laid W) :
    Calls Tryd.prog 7 args W fun e W' => ∃ v, e = .returned v ∧ Rows.frameTurnedSpec.post enc Tryd.prog Tryd.f7 false true false false W args v W' := by
  have hW' := hW
  obtain ⟨p, q, hA0, hV, rfl, hfz, hnd⟩ := hW
  have hA : DataW.TrodAll enc Tryd.prog W 0 (fun _ => true) true Tryd.f7.params.toList args.toList ds p := hA0
  rw [Tryd.params7] at hA hval hsz
  obtain ⟨v0, vs0, d0, ds0, p0, q0, hargs, rfl, rfl, h0, r0⟩ := trodAll_cons hA
  obtain ⟨v1, vs1, d1, ds1, p1, q1, rfl, rfl, rfl, h1, r1⟩ := trodAll_cons r0
  obtain ⟨v2, vs2, d2, ds2, p2, q2, rfl, rfl, rfl, h2, r2⟩ := trodAll_cons r1
  obtain ⟨rfl, rfl, rfl⟩ := trodAll_nil r2
  obtain rfl : args = #[v0, v1, v2] := by cases args; simp_all
  obtain ⟨rfl, rfl⟩ := trodVars_none hV
  obtain ⟨a0, len0, cap0, rfl⟩ := okWide_slice Tryd.underlying22 (hval 0 22 v0 rfl rfl)
  have k0 := h0
  have lt0 : ∀ x ∈ p0, x.block < W.heap.size := by obtain ⟨m, hm⟩ := k0; exact DataW.trod_lt m _ _ _ hm
  obtain ⟨x0, w0, re0⟩ : ∃ xs, ArgL W a0 len0 cap0 xs ∧ cap0 ≤ 140737488351232 := by
    obtain ⟨fuel, hf⟩ := h0
    rcases open_ints Tryd.underlying22 Tryd.underlying5 (by kernel_rfl) hf with ⟨hcs, _⟩ | ⟨x, l, c, zs, hcs, _, hl, hm, hz, hx, hcell, hwz⟩
    · simp [Value.cells] at hcs
      obtain ⟨rfl, rfl, rfl⟩ := hcs
      exact ⟨_, arg_at (.inl ⟨rfl, rfl, rfl, rfl⟩), by omega⟩
    · simp [Value.cells] at hcs
      obtain ⟨rfl, rfl, rfl⟩ := hcs
      have hd := congrArg Prod.fst hx
      simp only [] at hd
      have hz' : zs.length = cap0 := by simpa using hz
      have hb := sized_slice hsz (j := 0) (t := 22) (e := 5) rfl (by rw [hd]; rfl) Tryd.underlying22
      have hby : Tryd.prog.bytesOf 5 = 1 := by kernel_rfl
      rw [hby] at hb
      simp only [lits, List.length_map, List.length_take, List.length_drop, reachBytes] at hb
      exact ⟨_, arg_at (.inr ⟨_, rfl, hl, hm, hz', hcell, hwz⟩), by omega⟩
  obtain ⟨a1, rfl, rfl, rfl, w1⟩ := open_int Tryd.underlying42 (hval 1 42 v1 rfl rfl) h1
  obtain ⟨a2, rfl, rfl, rfl, w2⟩ := open_int Tryd.underlying44 (hval 2 44 v2 rfl rfl) h2
  clear hA0 hsz
  refine (walk W (table hL) a0 len0 cap0 x0 w0 re0 a1 w1 a2 w2).mono fun e W' ⟨he, bel⟩ => ?_
  subst he
  exact ⟨_, rfl, _, _, _, [], _, [], hW', trodAll_mk1 (shut_bool Tryd.underlying4 _), (trodAll_cons_mk (Below.trod laidOut (by kernel_rfl) (of_decide_eq_true (by kernel_rfl)) k0 bel lt0) (trodAll_cons_mk (shut_int Tryd.underlying42 w1) (trodAll_cons_mk (shut_int Tryd.underlying44 w2) trodAll_mk0))), rfl, bel.frame _, fun h => by cases h⟩
set_option maxRecDepth 100000 in
theorem lifted (os : Os) (started : os.Started) (H : Type) (enc : TypeId × Value → H) (I : Stop.Interp) :
    ReturnsInHanded {} Tryd.checked os 7 .any ((OpenSpec.ofChange Rows.frameTurnedSpec).preRow enc Tryd.prog Tryd.f7 Rows.frameTurnedRow.domain false Rows.frameTurnedRow.laid) (((OpenSpec.ofChange Rows.frameTurnedSpec).at I).post enc Tryd.prog Tryd.f7 false true false false) := by
  refine returnsInHanded_of_row (C := Tryd.checked) (s := (OpenSpec.ofChange Rows.frameTurnedSpec)) own started (by kernel_rfl) Tryd.func7
    (witness_row_at (enc := enc) (C := Tryd.checked) false { World.holding Tryd.prog os ⟨#[], #[], []⟩ with heap := (World.holding Tryd.prog os ⟨#[], #[], []⟩).heap.modify 0 fun
        | .cells _ t frozen => .cells #[.int .u32 0, .int .u32 274646895, .int .u32 549293790, .int .u32 820201905, .int .u32 1098587580, .int .u32 1361435347, .int .u32 1640403810, .int .u32 1905808397, .int .u32 2197175160, .int .u32 2460548119, .int .u32 2722870694, .int .u32 2987750089, .int .u32 3280807620, .int .u32 3553878443, .int .u32 3811616794, .int .u32 4084100981] t frozen
        | o => o } #[.slice none 0 0, .int .u16 0, .int .u32 0] rfl (by kernel_rfl) (by kernel_rfl) (by kernel_rfl)
      (OpenSpec.preRow_of_cond 8 (x := ([.nil, .lit (.int .u16 0), .lit (.int .u32 0)], [], [])) (by kernel_rfl) (by kernel_rfl) (fun k hk => by cases hk) (by kernel_rfl) (laidMet_of_run' 8 (by kernel_rfl) (by kernel_rfl)))) ?_
  intro W base args ds gs before hval hW _ hcond hsz hL _ _
  exact contract H enc W base args ds gs before hval hW hsz hL
theorem said : Rows.FrameTurnedSaid :=
  OpenClaim.holds_of_cond 7 Tryd.f7 rfl rfl rfl rfl rfl rfl rfl ⟨rfl, rfl, rfl, rfl, rfl⟩ rfl rfl rfl rfl rfl (by kernel_rfl) Tryd.func7 (by kernel_rfl)
    (of_decide_eq_true (by kernel_rfl)) (by unfold Func.isWrapper; first | (rw [if_pos (by decide +kernel)]; kernel_rfl) | (rw [if_neg (by decide +kernel)]; exact ⟨rfl, rfl⟩))
    (fun os started H enc _ I => by rw [OpenClaim.pre_eq_preRow]; exact lifted os started H enc I)
theorem plain (f : FuncId) (fn : Func) (hf : Tryd.pinned.checked.prog.funcNamed Rows.frameTurnedRow.func = some f) (hfn : Tryd.pinned.checked.prog.funcs[f]? = some fn) :
    false = Tryd.pinned.checked.prog.looks [] ∧ ∀ (j : Nat) t, fn.params[j]? = some t → Tryd.pinned.checked.prog.wantsStandIn t = false := by
  obtain rfl : f = 7 := Option.some.inj ((show Tryd.prog.funcNamed Rows.frameTurnedRow.func = some 7 by kernel_rfl).symm.trans hf) |>.symm
  obtain rfl : fn = Tryd.f7 := (Option.some.inj (Tryd.func7.symm.trans hfn)).symm
  refine ⟨by kernel_rfl, fun j t ht => ?_⟩
  rw [Tryd.params7] at ht
  have hm := Array.mem_of_getElem? ht
  simp only [List.mem_toArray, List.mem_cons, List.not_mem_nil, or_false] at hm
  rcases hm with rfl | rfl | rfl
  · exact (show Tryd.prog.wantsStandIn 22 = false by kernel_rfl)
  · exact (show Tryd.prog.wantsStandIn 42 = false by kernel_rfl)
  · exact (show Tryd.prog.wantsStandIn 44 = false by kernel_rfl)
theorem card : Rows.FrameTurnedCardSaid :=
  Claim7.holds_tied_plain_at .later [] _ _ _ _ said (fun _ h => by cases h) (by kernel_rfl) (fun _ h => by cases h) frameTurned_row_tie rfl ⟨rfl, rfl⟩ (by kernel_rfl) rfl plain (by kernel_rfl)
#print axioms card
end Go.Proofs.YtaahmpabhophfaaDoor.frameTurned
