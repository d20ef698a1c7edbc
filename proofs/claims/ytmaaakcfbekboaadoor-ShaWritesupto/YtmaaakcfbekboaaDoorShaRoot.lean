/-
  'above' and 'root' of the document's answer: the first 32 bits behind the point of a root, found bit by bit, as a plain function of numbers.
-/
import Derived.Test.YtmaaakcfbekboaaDoorShaDigits
namespace Go.Proofs.YtmaaakcfbekboaaDoor
open Go.ChangeShapes Go.WideShapes Go.ChangeAt Go.RowKit
set_option linter.unusedVariables false
set_option linter.unusedSimpArgs false
theorem valN_tail (l : List Nat) (m : Nat) (hm : m ≤ l.length) (h : ∀ j, m ≤ j → j < l.length → l.getD j 0 = 0) : ∀ n, m ≤ n → n ≤ l.length → valN (l.take n) = valN (l.take m) := by
  intro n
  induction n with
  | zero => intro h1 _; rw [show m = 0 by omega]
  | succ n ih =>
    intro h1 h2
    by_cases he : m = n + 1
    · rw [he]
    · rw [valN_take l n (by omega), h n (by omega) (by omega), Nat.zero_mul, Nat.add_zero]
      exact ih (by omega) (by omega)
theorem valN_ge (l : List Nat) : ∀ i, i < l.length → l.getD i 0 * B32 ^ i ≤ valN l := by
  induction l with
  | nil => intro i h; simp at h
  | cons c l ih =>
    intro i h
    cases i with
    | zero => simp [valN]
    | succ i =>
      have := Nat.mul_le_mul_left B32 (ih i (by simpa using h))
      have e : ((c :: l).getD (i + 1) 0) * B32 ^ (i + 1) = B32 * (l.getD i 0 * B32 ^ i) := by
        show l.getD i 0 * B32 ^ (i + 1) = _
        rw [Nat.pow_succ, ← Nat.mul_assoc, Nat.mul_comm]
      rw [e, valN]
      omega
theorem valN_low (l : List Nat) (h : ∀ j, l.getD j 0 < B32) : ∀ m, m ≤ l.length → valN (l.take m) < B32 ^ m := by
  intro m
  induction m with
  | zero => intro _; simp [valN]
  | succ m ih =>
    intro hm
    rw [valN_take l m (by omega), Nat.pow_succ]
    have h1 := ih (by omega)
    have h2 : l.getD m 0 * B32 ^ m ≤ (B32 - 1) * B32 ^ m := Nat.mul_le_mul_right _ (by have := h m; omega)
    have h3 : B32 ^ m * B32 = (B32 - 1) * B32 ^ m + B32 ^ m := by
      rw [← Nat.succ_mul, Nat.mul_comm]
      rfl
    omega
theorem above_more (W p L P : Nat) (hL : L < P) (h : p < W) : p * P < L + W * P := by
  have := Nat.mul_le_mul_right P (show p + 1 ≤ W from h)
  rw [Nat.add_mul, Nat.one_mul] at this
  omega
theorem above_less (W p L P : Nat) (hL : L < P) (h : W < p) : ¬ p * P < L + W * P := by
  have := Nat.mul_le_mul_right P (show W + 1 ≤ p from h)
  rw [Nat.add_mul, Nat.one_mul] at this
  omega
def powN (third : Bool) (y : Nat) : Nat := if third then y * y * y else y * y
def plc (third : Bool) : Nat := if third then 3 else 2
def abN (third : Bool) (y p : Nat) : Bool := decide (p * B32 ^ plc third < powN third y)
theorem two_digits (y : Nat) : valN [y % B32, y / B32] = y := by
  simp [valN]
  exact Nat.mod_add_div y B32
/-- The loop over a number's digits. -/
def lateN (l : List Nat) (pl p : Nat) : Bool := decide (p * B32 ^ pl < valN l)
set_option maxHeartbeats 4000000 in
theorem above_any (Y P : Nat) (third : Bool) (w : World) (hY : Y < 1099511627776) (hP : P < B32) :
    Calls Tryd.prog 22 #[.int .u64 Y, .int .u64 P, .bool third] w fun e w' => e = .returned (.bool (abN third Y P)) ∧ Below w.heap.size w w' := by
  have hlow := low32 Y (by omega)
  have hhi : (Y : Int) / 4294967296 = ((Y / B32 : Nat) : Int) := by unfold B32; omega
  have hd0 : Y % B32 < B32 := Nat.mod_lt _ (by decide)
  have hd1 : Y / B32 < B32 := by unfold B32; omega
  have HV : Hid (valN [Y % B32, Y / B32] = Y) := two_digits Y
  have HDD : Hid (∀ j, [Y % B32, Y / B32].getD j 0 < B32) := by
    intro j
    match j with
    | 0 => exact hd0
    | 1 => exact hd1
    | (j + 2) => show 0 < B32; decide
  generalize Y % B32 = y0 at *
  generalize Y / B32 = y1 at *
  go_enter Tryd.func22, Tryd.ntmps22
  go_wp2_with fail
  have HB1 : Hid (Blk (w.alloc (.cells #[.int .u64 (y0 : Nat), .int .u64 (y1 : Nat)] 44)) w.heap.size 44 .u64 [y0, y1]) := Blk.new w _ _ [y0, y1]
  have HBE1 : Hid (Below w.heap.size w (w.alloc (.cells #[.int .u64 (y0 : Nat), .int .u64 (y1 : Nat)] 44))) := below_new w _
  generalize w.alloc (.cells #[.int .u64 (y0 : Nat), .int .u64 (y1 : Nat)] 44) = w1 at *
  refine (times_any (some ⟨w.heap.size, 0, none⟩) (some ⟨w.heap.size, 0, none⟩) 2 2 2 2 [y0, y1] [y0, y1] w1 HB1.out.row HB1.out.row (by decide) HDD.out HDD.out).mono ?_
  rintro e w2 ⟨N2, rfl, hbk2, hnl2, hdg2, hv2, hb2⟩
  rw [HV.out] at hv2
  have HBE2 : Hid (Below w.heap.size w w2) := HBE1.out.trans (hb2.mono HBE1.out.size)
  have HA2 : Hid (Blk w2 w.heap.size 44 .u64 [y0, y1]) := HB1.out.below hb2
  generalize w1.heap.size = g at *
  clear hb2 HBE1 HB1
  cases third with
  | false =>
    have HNL : Hid (N2.length = 4) := hnl2
    have HDG : Hid (∀ j, N2.getD j 0 < B32) := hdg2
    have HC : Hid (∀ i, i < 4 → w2.cell? ⟨g, i, none⟩ = some (.int .u64 (N2.getD i 0 : Nat))) := fun i hi => hbk2.cell i (by omega)
    have HRES : Hid (abN false Y P = lateN N2 2 P) := by unfold Hid abN lateN; rw [hv2]; rfl
    have HBE : Hid (Below w.heap.size w w2) := HBE2.out
    clear hnl2 hdg2 hbk2 hv2 HBE2 HA2 HV HDD
    generalize N2 = N at *
    go_wp2_with fail
    go_loop [10, 11, 12] (fun wh rs ix => ∃ (i W : Nat) (r : Bool), i ≤ 4 ∧ ix = .int .i64 i ∧ wh = .int .u64 W ∧ rs = .bool r ∧ (i ≤ 2 → W = 0) ∧ (2 < i → W = N.getD 2 0) ∧ (i ≤ 2 → r = decide (valN (N.take i) ≠ 0)) ∧ (2 < i → r = decide (valN (N.take 2) ≠ 0)) ∧ (∀ j, 2 < j → j < i → N.getD j 0 = 0)) (fun _ _ ix => 4 - (intOf ix).toNat)
    case atStart => exact ⟨0, 0, false, by omega, rfl, rfl, rfl, fun _ => rfl, (fun h => by omega), fun _ => rfl, (fun h => by omega), fun j h1 h2 => by omega⟩
    case round =>
      obtain ⟨i, W, r, hi, rfl, rfl, rfl, hW0, hW1, hr0, hr1, hz⟩ := hrel
      have HZ : Hid (∀ j, 2 < j → j < i → N.getD j 0 = 0) := hz
      have HW0 : Hid (i ≤ 2 → W = 0) := hW0
      have HW1 : Hid (2 < i → W = N.getD 2 0) := hW1
      have HR0 : Hid (i ≤ 2 → r = decide (valN (N.take i) ≠ 0)) := hr0
      have HR1 : Hid (2 < i → r = decide (valN (N.take 2) ≠ 0)) := hr1
      clear hz hW0 hW1 hr0 hr1
      by_cases hlt : i < 4
      · have hcell := HC.out i hlt
        have hdg := HDG.out i
        have HT : Hid (valN (N.take (i + 1)) = valN (N.take i) + N.getD i 0 * B32 ^ i) := valN_take N i (by have := HNL.out; omega)
        have hpw : Hid (0 < B32 ^ i) := Nat.pos_of_ne_zero (by intro h; have := Nat.pow_eq_zero.1 h; exact absurd this.1 (by decide))
        obtain ⟨d, hd⟩ : ∃ d, d = N.getD i 0 := ⟨_, rfl⟩
        have HD : Hid (d = N.getD i 0) := hd
        rw [← hd] at hcell hdg HT
        clear hd
        have hii : (i : Int) < 4 := by omega
        by_cases h1 : i < 2
        · have hi1 : (i : Int) < 2 := by omega
          cases r with
          | true =>
            go_wp2
            go_round
            case rel =>
              refine ⟨i + 1, W, true, by omega, by go_num, rfl, rfl, (fun _ => HW0.out (by omega)), (fun h => by omega), (fun _ => ?_), (fun h => by omega), fun j q1 q2 => by omega⟩
              have := HR0.out (by omega)
              rw [HT.out]
              have h2 : valN (N.take i) ≠ 0 := of_decide_eq_true this.symm
              exact (decide_eq_true (by omega)).symm
            case measure => simp [intOf]; omega
          | false =>
            have hv0 : valN (N.take i) = 0 := by
              have := HR0.out (by omega)
              have h2 := of_decide_eq_false this.symm
              omega
            by_cases hd0 : d = 0
            · subst hd0
              go_wp2
              go_round
              case rel =>
                refine ⟨i + 1, W, false, by omega, by go_num, rfl, by first | rfl | simp, (fun _ => HW0.out (by omega)), (fun h => by omega), (fun _ => ?_), (fun h => by omega), fun j q1 q2 => by omega⟩
                rw [HT.out, hv0, Nat.zero_mul]
                rfl
              case measure => simp [intOf]; omega
            · have hne : ((d : Int) != 0) = true := by simp; omega
              go_wp2
              go_round
              case rel =>
                refine ⟨i + 1, W, true, by omega, by go_num, rfl, by first | rfl | simp, (fun _ => HW0.out (by omega)), (fun h => by omega), (fun _ => ?_), (fun h => by omega), fun j q1 q2 => by omega⟩
                rw [HT.out, hv0]
                have : 0 < d * B32 ^ i := Nat.mul_pos (by omega) hpw.out
                exact (decide_eq_true (by omega)).symm
              case measure => simp [intOf]; omega
        · by_cases h2 : i = 2
          · subst h2
            go_wp2
            go_round
            case rel =>
              refine ⟨2 + 1, d, r, by omega, by go_num, rfl, rfl, (fun h => by omega), (fun _ => HD.out), (fun h => by omega), (fun _ => HR0.out (Nat.le_refl _)), fun j q1 q2 => by omega⟩
            case measure => simp [intOf]
          · have hi1 : ¬ (i : Int) < 2 := by omega
            have hi2 : ((i : Int) == 2) = false := by simp; omega
            by_cases hd0 : d = 0
            · subst hd0
              go_wp2
              go_round
              case rel =>
                refine ⟨i + 1, W, r, by omega, by go_num, rfl, rfl, (fun h => by omega), (fun _ => HW1.out (by omega)), (fun h => by omega), (fun _ => HR1.out (by omega)), fun j q1 q2 => ?_⟩
                by_cases hji : j = i
                · rw [hji]; exact HD.out.symm
                · exact HZ.out j q1 (by omega)
              case measure => simp [intOf]; omega
            · have hne : ((d : Int) != 0) = true := by simp; omega
              have hres : Hid (lateN N 2 P = true) := by
                refine decide_eq_true ?_
                have q1 := valN_ge N i (by have := HNL.out; omega)
                rw [← HD.out] at q1
                have q2 : B32 ^ (2 + 1) ≤ B32 ^ i := Nat.pow_le_pow_right (by decide) (by omega)
                have q3 : 1 * B32 ^ i ≤ d * B32 ^ i := Nat.mul_le_mul_right _ (by omega)
                have q4 : P * B32 ^ 2 < B32 * B32 ^ 2 := Nat.mul_lt_mul_of_pos_right hP (by decide)
                rw [Nat.pow_succ, Nat.mul_comm] at q2
                omega
              go_wp2
              go_ret
              exact ⟨by rw [HRES.out, hres.out]; rfl, HBE.out⟩
      · have hin : i = 4 := by omega
        subst hin
        have hW := HW1.out (by decide)
        have hR := HR1.out (by decide)
        have hval : valN N = valN (N.take 2) + W * B32 ^ 2 := by
          have q1 := valN_tail N (2 + 1) (by have := HNL.out; omega) (fun j q1 q2 => HZ.out j (by omega) (by have := HNL.out; omega)) N.length (by have := HNL.out; omega) (Nat.le_refl _)
          rw [List.take_length, valN_take N 2 (by have := HNL.out; omega), ← hW] at q1
          exact q1
        have hlow := valN_low N HDG.out 2 (by have := HNL.out; omega)
        have hWB : W < B32 := by rw [hW]; exact HDG.out 2
        have HLT : Hid (lateN N 2 P = decide (P * B32 ^ 2 < valN (N.take 2) + W * B32 ^ 2)) := by unfold Hid; rw [← hval]; rfl
        clear hW HW0 HW1 HR0 HR1 HZ
        by_cases hc1 : P < W
        · have hres : Hid (lateN N 2 P = true) := by unfold Hid; rw [HLT.out]; exact decide_eq_true (above_more W P _ _ hlow hc1)
          have hc1i : (P : Int) < (W : Int) := by omega
          clear hval hR
          go_wp2
          go_ret
          exact ⟨by rw [HRES.out, hres.out]; rfl, HBE.out⟩
        · by_cases hc2 : W = P
          · subst hc2
            have hres : Hid (lateN N 2 W = r) := by
              unfold Hid
              rw [HLT.out, hR]
              congr 1
              apply propext
              constructor <;> intro h <;> omega
            clear hval hR
            go_wp2
            go_ret
            exact ⟨by rw [HRES.out, hres.out]; cases r <;> rfl, HBE.out⟩
          · have hres : Hid (lateN N 2 P = false) := by unfold Hid; rw [HLT.out]; exact decide_eq_false (above_less W P _ _ hlow (by omega))
            have hc1i : ¬ (P : Int) < (W : Int) := by omega
            have hc2i : ((W : Int) == (P : Int)) = false := by simp; omega
            clear hval hR
            go_wp2
            go_ret
            exact ⟨by rw [HRES.out, hres.out]; rfl, HBE.out⟩
  | true =>
    have HNL2 : Hid (N2.length = 4) := hnl2
    have HB2 : Hid (Blk w2 g 44 .u64 N2) := hbk2
    have HDG2 : Hid (∀ j, N2.getD j 0 < B32) := hdg2
    have HV2 : Hid (valN N2 = Y * Y) := hv2
    clear hnl2 hdg2 hbk2 hv2
    go_wp2_with fail
    have hrow2 := HB2.out.row
    rw [HNL2.out] at hrow2
    refine (times_any (some ⟨g, 0, none⟩) (some ⟨w.heap.size, 0, none⟩) 4 2 4 2 N2 [y0, y1] w2 hrow2 HA2.out.row (by decide) HDG2.out HDD.out).mono ?_
    rintro e w3 ⟨N, rfl, hbk, hnl, hdg, hv, hb3⟩
    rw [HV.out, HV2.out] at hv
    have HBE : Hid (Below w.heap.size w w3) := HBE2.out.trans (hb3.mono HBE2.out.size)
    generalize w2.heap.size = g2 at *
    have HNL : Hid (N.length = 6) := hnl
    have HDG : Hid (∀ j, N.getD j 0 < B32) := hdg
    have HC : Hid (∀ i, i < 6 → w3.cell? ⟨g2, i, none⟩ = some (.int .u64 (N.getD i 0 : Nat))) := fun i hi => hbk.cell i (by omega)
    have HRES : Hid (abN true Y P = lateN N 3 P) := by unfold Hid abN lateN; rw [hv]; rfl
    clear hrow2 hb3 hnl hdg hbk hv HBE2 HA2 HV HDD HNL2 HB2 HDG2 HV2
    go_wp2_with fail
    go_loop [10, 11, 12] (fun wh rs ix => ∃ (i W : Nat) (r : Bool), i ≤ 6 ∧ ix = .int .i64 i ∧ wh = .int .u64 W ∧ rs = .bool r ∧ (i ≤ 3 → W = 0) ∧ (3 < i → W = N.getD 3 0) ∧ (i ≤ 3 → r = decide (valN (N.take i) ≠ 0)) ∧ (3 < i → r = decide (valN (N.take 3) ≠ 0)) ∧ (∀ j, 3 < j → j < i → N.getD j 0 = 0)) (fun _ _ ix => 6 - (intOf ix).toNat)
    case atStart => exact ⟨0, 0, false, by omega, rfl, rfl, rfl, fun _ => rfl, (fun h => by omega), fun _ => rfl, (fun h => by omega), fun j h1 h2 => by omega⟩
    case round =>
      obtain ⟨i, W, r, hi, rfl, rfl, rfl, hW0, hW1, hr0, hr1, hz⟩ := hrel
      have HZ : Hid (∀ j, 3 < j → j < i → N.getD j 0 = 0) := hz
      have HW0 : Hid (i ≤ 3 → W = 0) := hW0
      have HW1 : Hid (3 < i → W = N.getD 3 0) := hW1
      have HR0 : Hid (i ≤ 3 → r = decide (valN (N.take i) ≠ 0)) := hr0
      have HR1 : Hid (3 < i → r = decide (valN (N.take 3) ≠ 0)) := hr1
      clear hz hW0 hW1 hr0 hr1
      by_cases hlt : i < 6
      · have hcell := HC.out i hlt
        have hdg := HDG.out i
        have HT : Hid (valN (N.take (i + 1)) = valN (N.take i) + N.getD i 0 * B32 ^ i) := valN_take N i (by have := HNL.out; omega)
        have hpw : Hid (0 < B32 ^ i) := Nat.pos_of_ne_zero (by intro h; have := Nat.pow_eq_zero.1 h; exact absurd this.1 (by decide))
        obtain ⟨d, hd⟩ : ∃ d, d = N.getD i 0 := ⟨_, rfl⟩
        have HD : Hid (d = N.getD i 0) := hd
        rw [← hd] at hcell hdg HT
        clear hd
        have hii : (i : Int) < 6 := by omega
        by_cases h1 : i < 3
        · have hi1 : (i : Int) < 3 := by omega
          cases r with
          | true =>
            go_wp2
            go_round
            case rel =>
              refine ⟨i + 1, W, true, by omega, by go_num, rfl, rfl, (fun _ => HW0.out (by omega)), (fun h => by omega), (fun _ => ?_), (fun h => by omega), fun j q1 q2 => by omega⟩
              have := HR0.out (by omega)
              rw [HT.out]
              have h2 : valN (N.take i) ≠ 0 := of_decide_eq_true this.symm
              exact (decide_eq_true (by omega)).symm
            case measure => simp [intOf]; omega
          | false =>
            have hv0 : valN (N.take i) = 0 := by
              have := HR0.out (by omega)
              have h2 := of_decide_eq_false this.symm
              omega
            by_cases hd0 : d = 0
            · subst hd0
              go_wp2
              go_round
              case rel =>
                refine ⟨i + 1, W, false, by omega, by go_num, rfl, by first | rfl | simp, (fun _ => HW0.out (by omega)), (fun h => by omega), (fun _ => ?_), (fun h => by omega), fun j q1 q2 => by omega⟩
                rw [HT.out, hv0, Nat.zero_mul]
                rfl
              case measure => simp [intOf]; omega
            · have hne : ((d : Int) != 0) = true := by simp; omega
              go_wp2
              go_round
              case rel =>
                refine ⟨i + 1, W, true, by omega, by go_num, rfl, by first | rfl | simp, (fun _ => HW0.out (by omega)), (fun h => by omega), (fun _ => ?_), (fun h => by omega), fun j q1 q2 => by omega⟩
                rw [HT.out, hv0]
                have : 0 < d * B32 ^ i := Nat.mul_pos (by omega) hpw.out
                exact (decide_eq_true (by omega)).symm
              case measure => simp [intOf]; omega
        · by_cases h2 : i = 3
          · subst h2
            go_wp2
            go_round
            case rel =>
              refine ⟨3 + 1, d, r, by omega, by go_num, rfl, rfl, (fun h => by omega), (fun _ => HD.out), (fun h => by omega), (fun _ => HR0.out (Nat.le_refl _)), fun j q1 q2 => by omega⟩
            case measure => simp [intOf]
          · have hi1 : ¬ (i : Int) < 3 := by omega
            have hi2 : ((i : Int) == 3) = false := by simp; omega
            by_cases hd0 : d = 0
            · subst hd0
              go_wp2
              go_round
              case rel =>
                refine ⟨i + 1, W, r, by omega, by go_num, rfl, rfl, (fun h => by omega), (fun _ => HW1.out (by omega)), (fun h => by omega), (fun _ => HR1.out (by omega)), fun j q1 q2 => ?_⟩
                by_cases hji : j = i
                · rw [hji]; exact HD.out.symm
                · exact HZ.out j q1 (by omega)
              case measure => simp [intOf]; omega
            · have hne : ((d : Int) != 0) = true := by simp; omega
              have hres : Hid (lateN N 3 P = true) := by
                refine decide_eq_true ?_
                have q1 := valN_ge N i (by have := HNL.out; omega)
                rw [← HD.out] at q1
                have q2 : B32 ^ (3 + 1) ≤ B32 ^ i := Nat.pow_le_pow_right (by decide) (by omega)
                have q3 : 1 * B32 ^ i ≤ d * B32 ^ i := Nat.mul_le_mul_right _ (by omega)
                have q4 : P * B32 ^ 3 < B32 * B32 ^ 3 := Nat.mul_lt_mul_of_pos_right hP (by decide)
                rw [Nat.pow_succ, Nat.mul_comm] at q2
                omega
              go_wp2
              go_ret
              exact ⟨by rw [HRES.out, hres.out]; rfl, HBE.out⟩
      · have hin : i = 6 := by omega
        subst hin
        have hW := HW1.out (by decide)
        have hR := HR1.out (by decide)
        have hval : valN N = valN (N.take 3) + W * B32 ^ 3 := by
          have q1 := valN_tail N (3 + 1) (by have := HNL.out; omega) (fun j q1 q2 => HZ.out j (by omega) (by have := HNL.out; omega)) N.length (by have := HNL.out; omega) (Nat.le_refl _)
          rw [List.take_length, valN_take N 3 (by have := HNL.out; omega), ← hW] at q1
          exact q1
        have hlow := valN_low N HDG.out 3 (by have := HNL.out; omega)
        have hWB : W < B32 := by rw [hW]; exact HDG.out 3
        have HLT : Hid (lateN N 3 P = decide (P * B32 ^ 3 < valN (N.take 3) + W * B32 ^ 3)) := by unfold Hid; rw [← hval]; rfl
        clear hW HW0 HW1 HR0 HR1 HZ
        by_cases hc1 : P < W
        · have hres : Hid (lateN N 3 P = true) := by unfold Hid; rw [HLT.out]; exact decide_eq_true (above_more W P _ _ hlow hc1)
          have hc1i : (P : Int) < (W : Int) := by omega
          clear hval hR
          go_wp2
          go_ret
          exact ⟨by rw [HRES.out, hres.out]; rfl, HBE.out⟩
        · by_cases hc2 : W = P
          · subst hc2
            have hres : Hid (lateN N 3 W = r) := by
              unfold Hid
              rw [HLT.out, hR]
              congr 1
              apply propext
              constructor <;> intro h <;> omega
            clear hval hR
            go_wp2
            go_ret
            exact ⟨by rw [HRES.out, hres.out]; cases r <;> rfl, HBE.out⟩
          · have hres : Hid (lateN N 3 P = false) := by unfold Hid; rw [HLT.out]; exact decide_eq_false (above_less W P _ _ hlow (by omega))
            have hc1i : ¬ (P : Int) < (W : Int) := by omega
            have hc2i : ((W : Int) == (P : Int)) = false := by simp; omega
            clear hval hR
            go_wp2
            go_ret
            exact ⟨by rw [HRES.out, hres.out]; rfl, HBE.out⟩
/-- The root behind so many bits, from the highest on. -/
def rx (third : Bool) (p : Nat) : Nat → Nat
  | 0 => 0
  | m + 1 => if abN third (rx third p m + 2 ^ (39 - m)) p then rx third p m else rx third p m + 2 ^ (39 - m)
theorem rx_room (third : Bool) (p : Nat) : ∀ m, m ≤ 40 → rx third p m + 2 ^ (40 - m) ≤ 1099511627776
  | 0, _ => by show 0 + 2 ^ 40 ≤ 1099511627776; decide
  | m + 1, h => by
    have hpp := Nat.two_pow_pos (39 - m)
    have ih := rx_room third p m (by omega)
    have e : 2 ^ (40 - m) = 2 ^ (39 - m) + 2 ^ (39 - m) := by
      rw [show 40 - m = (39 - m) + 1 by omega, Nat.pow_succ]
      omega
    rw [rx, show 40 - (m + 1) = 39 - m by omega]
    split <;> omega
def rootN (third : Bool) (p : Nat) : Nat := rx third p 40 % 4294967296
theorem root_any (P : Nat) (third : Bool) (w : World) (hP : P < B32) :
    Calls Tryd.prog 16 #[.int .u64 P, .bool third] w fun e w' => e = .returned (.int .u32 (rootN third P : Nat)) ∧ Below w.heap.size w w' := by
  go_enter Tryd.func16, Tryd.ntmps16
  go_wp2
  go_loopw [5, 6] (fun xv iv wr => ∃ (wz : World) (m : Nat), wz = wr ∧ m ≤ 40 ∧ iv = .int .i64 (39 - (m : Int)) ∧ xv = .int .u64 (rx third P m : Nat) ∧ Below w.heap.size w wz) (fun _ iv _ => (intOf iv + 1).toNat)
  case atStart => exact ⟨w, 0, rfl, by omega, rfl, rfl, Below.refl _ _⟩
  case round =>
    obtain ⟨wr, m, hwr, hm, rfl, rfl, hbe⟩ := hrel
    subst hwr
    have HBE : Hid (Below w.heap.size w wr) := hbe
    have hroom := rx_room third P m hm
    clear hbe
    by_cases hlt : m < 40
    · have e : 2 ^ (40 - m) = 2 ^ (39 - m) + 2 ^ (39 - m) := by
        rw [show 40 - m = (39 - m) + 1 by omega, Nat.pow_succ]
        omega
      have HS : Hid (rx third P (m + 1) = if abN third (rx third P m + 2 ^ (39 - m)) P then rx third P m else rx third P m + 2 ^ (39 - m)) := rfl
      rw [e] at hroom
      clear e
      generalize rx third P m = X at *
      obtain ⟨b, hb⟩ : ∃ b : Nat, (39 : Int) - (m : Int) = (b : Int) ∧ b = 39 - m := ⟨39 - m, by omega, rfl⟩
      rw [← hb.2] at hroom HS
      have hpow : (2 : Int) ^ b = ((2 ^ b : Nat) : Int) := by simp
      have hpp : 0 < 2 ^ b := Nat.two_pow_pos b
      rw [hb.1]
      have hbm : Hid (b = 39 - m) := hb.2
      have hb40 : b < 40 := by omega
      clear hb
      generalize 2 ^ b = Q at *
      obtain ⟨Y, hY⟩ : ∃ Y, Y = X + Q := ⟨_, rfl⟩
      have hYi : (X : Int) + (Q : Int) = (Y : Int) := by omega
      have HY : Hid (X + Q = Y) := hY.symm
      rw [← hY] at HS
      clear hY
      go_wp2_with fail
      refine (above_any Y P third wr (by omega) hP).mono ?_
      rintro e w2 ⟨rfl, hb2⟩
      have HBE2 : Hid (Below w.heap.size w w2) := HBE.out.trans (hb2.mono HBE.out.size)
      clear HBE hb2
      cases hab : abN third Y P with
      | true =>
        have HS2 : Hid (rx third P (m + 1) = X) := by unfold Hid; rw [HS.out, hab]; rfl
        clear hab HS
        go_wp2_with fail
        go_roundw
        case rel => exact ⟨_, m + 1, rfl, by omega, by have := hbm.out; go_num, by rw [HS2.out], HBE2.out⟩
        case measure => simp [intOf]
      | false =>
        have HS2 : Hid (rx third P (m + 1) = Y) := by unfold Hid; rw [HS.out, hab]; rfl
        clear hab HS
        go_wp2_with fail
        go_roundw
        case rel => exact ⟨_, m + 1, rfl, by omega, by have := hbm.out; go_num, by rw [HS2.out], HBE2.out⟩
        case measure => simp [intOf]
    · obtain rfl : m = 40 := by omega
      have HR : Hid (rootN third P = rx third P 40 % 4294967296) := rfl
      generalize rx third P 40 = X at *
      go_wp2
      go_ret
      refine ⟨?_, HBE.out⟩
      rw [HR.out]
      simp
end Go.Proofs.YtmaaakcfbekboaaDoor
