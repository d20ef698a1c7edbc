/-
  The document's digits of a number, and its Span of any number of seconds.
-/
import Derived.Test.YtfgdfdjoidpejabDoorTexts
import Derived.Test.YtfgdfdjoidpejabDoorRows
import Derived.Deep.DeepCutAuto
import Derived.Deep.Cut
namespace Go.Proofs.YtfgdfdjoidpejabDoor
open Go.ChangeShapes Go.WideShapes Go.ChangeAt Go.RowKit
set_option linter.unusedVariables false
set_option linter.unusedSimpArgs false
/-- The last digits of a number; all of them. -/
def tlD (n : Nat) : Nat → List Nat
  | 0 => []
  | k + 1 => (48 + n / 10 ^ k % 10) :: tlD n k
def decF : Nat → Nat → List Nat
  | 0, n => [48 + n % 10]
  | k + 1, n => if n < 10 then [48 + n] else decF k (n / 10) ++ [48 + n % 10]
def decN (n : Nat) : List Nat := decF 20 n
theorem tlD_snoc (n : Nat) : ∀ k, tlD n (k + 1) = tlD (n / 10) k ++ [48 + n % 10]
  | 0 => by simp [tlD]
  | k + 1 => by rw [tlD, tlD_snoc n k, tlD, List.cons_append, Nat.div_div_eq_div_mul, Nat.mul_comm 10, ← Nat.pow_succ]
theorem tlD_length (n : Nat) : ∀ k, (tlD n k).length = k
  | 0 => rfl
  | k + 1 => by rw [tlD, List.length_cons, tlD_length n k]
theorem dec_tl : ∀ (i k N : Nat), N / 10 ^ i < 10 → (i = 0 ∨ 10 ^ i ≤ N) → i ≤ k → decF (k + 1) N = tlD N (i + 1)
  | 0, k, N, h, _, _ => by
    simp at h
    rw [decF, if_pos h]
    simp [tlD]
    omega
  | i + 1, k, N, h, hn, hk => by
    have h10 : 10 ^ (i + 1) ≤ N := by rcases hn with hn | hn; omega; exact hn
    have hN : ¬ N < 10 := by
      have : 10 ^ 1 ≤ 10 ^ (i + 1) := Nat.pow_le_pow_right (by decide) (by omega)
      omega
    obtain ⟨k', rfl⟩ : ∃ k', k = k' + 1 := ⟨k - 1, by omega⟩
    have h1 : N / 10 / 10 ^ i < 10 := by rw [Nat.div_div_eq_div_mul, Nat.mul_comm, ← Nat.pow_succ]; exact h
    have h2 : 10 ^ i ≤ N / 10 := by
      rw [Nat.le_div_iff_mul_le (by decide), ← Nat.pow_succ]
      exact h10
    rw [decF, if_neg hN, dec_tl i k' (N / 10) h1 (.inr h2) (by omega), tlD_snoc N (i + 1)]
theorem decF_len : ∀ k n, (decF k n).length ≤ k + 1
  | 0, n => by simp [decF]
  | k + 1, n => by
    rw [decF]
    split
    · simp
    · have := decF_len k (n / 10)
      rw [List.length_append]
      simp
      omega
theorem dec_len (n : Nat) : (decN n).length ≤ 21 := decF_len 20 n
theorem add_le {A B C : ByteArray} {n m : Nat} (hA : A.size ≤ n) (hB : B.size ≤ m) (h : n + m ≤ 1000) (hC : A ++ B = C) : (∀ W, (Op.stringOp .add A B).run Tryd.prog W = .ok (.string C) W) ∧ C.size ≤ n + m := by
  refine ⟨fun W => ?_, by rw [← hC, ByteArray.size_append]; omega⟩
  rw [run_string_add_sum W _ _ (by omega), hC]
set_option maxHeartbeats 4000000 in
theorem rdig_any (N : Nat) (w : World) (hN : N < 18446744073709551616) :
    Calls Tryd.prog 13 #[.int .u64 (N : Nat)] w fun e w' => e = .returned (.string (strN (decN N))) ∧ Below w.heap.size w w' := by
  have hone : ∀ (D : Nat) (W : World), D < 256 → Sem.run Tryd.prog (convert 47 9 (Value.slice (some ⟨W.heap.size, 0, none⟩) 1 1)) (W.alloc (.cells #[.int .u8 (D : Int)] 5)) = .ok (.string (strN [D])) (W.alloc (.cells #[.int .u8 (D : Int)] 5)) := fun D W _ => conv_row (Blk.new W 5 .u8 [D]).row 1
  have HONE : Hid _ := hone
  clear hone
  obtain ⟨D0, hD0⟩ : ∃ D, D = 48 + N % 10 := ⟨_, rfl⟩
  have hD0i : (48 : Int) + (N : Int) % 10 = (D0 : Int) := by omega
  have hD0b : D0 ≤ 57 := by omega
  have h1 := HONE.out D0 w (by omega)
  have HT0 : Hid (strN [D0] = strN (tlD N 1)) := by unfold Hid; rw [hD0]; simp [tlD]
  obtain ⟨s0, hs0⟩ : ∃ s, s = strN [D0] := ⟨_, rfl⟩
  rw [← hs0] at h1 HT0
  clear hs0 hD0
  go_enter Tryd.func13, Tryd.ntmps13
  go_wp2_with fail
  go_loopw [0, 3] (fun nv sv wr => ∃ (wz : World) (i M : Nat), wz = wr ∧ i ≤ 19 ∧ nv = .int .u64 M ∧ M = N / 10 ^ i ∧ sv = .string (strN (tlD N (i + 1))) ∧ (i = 0 ∨ 10 ^ i ≤ N) ∧ Below w.heap.size w wz) (fun nv _ _ => (intOf nv).toNat)
  case atStart => exact ⟨_, 0, N, rfl, by omega, rfl, by simp, by rw [HT0.out], .inl rfl, below_new w _⟩
  case round =>
    clear h1 HT0
    obtain ⟨wr, i, M, hwr, hi, rfl, hM, rfl, hp, hbe⟩ := hrel
    subst hwr
    have HM : Hid (M = N / 10 ^ i) := hM
    have HP : Hid (i = 0 ∨ 10 ^ i ≤ N) := hp
    have HBE : Hid (Below w.heap.size w wr) := hbe
    have hMb : M < 18446744073709551616 := by rw [hM]; exact Nat.lt_of_le_of_lt (Nat.div_le_self _ _) hN
    clear hM hp hbe
    by_cases hge : 10 ≤ M
    · have hgi : (10 : Int) ≤ (M : Int) := by omega
      obtain ⟨M2, hM2⟩ : ∃ M2, M2 = M / 10 := ⟨_, rfl⟩
      have hM2i : (M : Int) / 10 = (M2 : Int) := by omega
      obtain ⟨D, hD⟩ : ∃ D, D = 48 + M2 % 10 := ⟨_, rfl⟩
      have hDi : (48 : Int) + (M2 : Int) % 10 = (D : Int) := by omega
      have hDb : D ≤ 57 := by omega
      have hM2b : M2 < M := by omega
      have h10 : 10 ^ (i + 1) ≤ N := by
        have h := hge
        rw [HM.out, Nat.le_div_iff_mul_le (Nat.pos_of_ne_zero (by simp)), Nat.mul_comm, ← Nat.pow_succ] at h
        exact h
      have hi2 : i + 1 ≤ 19 := by
        rcases Nat.lt_or_ge 19 (i + 1) with h | h
        · have : 10 ^ 20 ≤ 10 ^ (i + 1) := Nat.pow_le_pow_right (by decide) h
          omega
        · exact h
      have HM2 : Hid (M2 = N / 10 ^ (i + 1)) := by unfold Hid; rw [hM2, HM.out, Nat.pow_succ, ← Nat.div_div_eq_div_mul]
      have HTN : Hid (tlD N (i + 1 + 1) = D :: tlD N (i + 1)) := by unfold Hid; rw [tlD, hD, HM2.out]
      have hcv := HONE.out D wr (by omega)
      obtain ⟨A, hA⟩ : ∃ A, A = strN [D] := ⟨_, rfl⟩
      obtain ⟨B, hB⟩ : ∃ B, B = strN (tlD N (i + 1)) := ⟨_, rfl⟩
      obtain ⟨C, hC⟩ : ∃ C, A ++ B = C := ⟨_, rfl⟩
      have hadd := (add_le (A := A) (B := B) (C := C) (n := 1) (m := 40) (by rw [hA, strN_size]; simp) (by rw [hB, strN_size, tlD_length]; omega) (by decide) hC).1
      have HC : Hid (C = strN (tlD N (i + 1 + 1))) := by unfold Hid; rw [← hC, hA, hB, ← strN_append, HTN.out]; rfl
      rw [← hA] at hcv
      rw [← hB]
      have H10 : Hid (10 ^ (i + 1) ≤ N) := h10
      have HBW : Hid (Below w.heap.size w (wr.alloc (.cells #[.int .u8 (D : Int)] 5))) := HBE.out.alloc HBE.out.size _
      clear hM2 hD h10 hA hB hC HTN
      go_wp2_with fail
      go_roundw
      case rel => exact ⟨_, i + 1, M2, rfl, hi2, by go_num, HM2.out, by rw [HC.out], .inr H10.out, HBW.out⟩
      case measure => simp [intOf]; omega
    · have hgi : ¬ (10 : Int) ≤ (M : Int) := by omega
      have HF : Hid (strN (tlD N (i + 1)) = strN (decN N)) := by unfold Hid decN; rw [dec_tl i 19 N (by rw [← HM.out]; omega) HP.out hi]
      go_wp2_with fail
      go_ret
      exact ⟨by rw [← HF.out]; rfl, HBE.out⟩
/-- So many seconds as text. -/
def partN (v c : Nat) : List Nat := if 0 < v then decN v ++ [c] else []
def headN (n : Int) : List Nat := if 0 ≤ n then [80] else [45, 80]
def markN (z : Nat) : List Nat := if 0 < z % 86400 ∨ z = 0 then [84] else []
def lastN (z : Nat) : List Nat := if 0 < z % 60 ∨ z = 0 then decN (z % 60) ++ [83] else []
def spanN (n : Int) : List Nat := headN n ++ partN (n.natAbs / 86400) 68 ++ markN n.natAbs ++ partN (n.natAbs % 86400 / 3600) 72 ++ partN (n.natAbs % 3600 / 60) 77 ++ lastN n.natAbs
theorem part_yes {v c : Nat} (h : 0 < v) : partN v c = decN v ++ [c] := if_pos h
theorem part_no {v c : Nat} (h : ¬ 0 < v) : partN v c = [] := if_neg h
theorem part_len (v c : Nat) : (partN v c).length ≤ 22 := by
  unfold partN
  split
  · have := dec_len v
    rw [List.length_append]
    simp
    omega
  · simp
theorem part_str {L P : List Nat} {v c : Nat} {G B : ByteArray} (hP : P = decN v ++ [c]) (hG : G = strN (decN v)) (hB : strN [c] = B) : strN L ++ (G ++ B) = strN (L ++ P) := by
  rw [strN_append L, hP, strN_append (decN v), hG, hB]
set_option maxRecDepth 100000 in
set_option maxHeartbeats 16000000 in
theorem rspan_any (n : Int) (w : World) (n0 : -9223372036854775808 ≤ n) (n1 : n ≤ 9223372036854775807) :
    Calls Tryd.prog 6 #[.int .i64 n] w fun e w' => e = .returned (.string (strN (spanN n))) ∧ Below w.heap.size w w' := by
  obtain ⟨z, hz⟩ : ∃ z, z = n.natAbs := ⟨_, rfl⟩
  obtain ⟨d, hd⟩ : ∃ d, d = z / 86400 := ⟨_, rfl⟩
  obtain ⟨r, hr⟩ : ∃ r, r = z % 86400 := ⟨_, rfl⟩
  obtain ⟨h, hh⟩ : ∃ h, h = r / 3600 := ⟨_, rfl⟩
  obtain ⟨q, hq⟩ : ∃ q, q = z % 3600 := ⟨_, rfl⟩
  obtain ⟨m, hm⟩ : ∃ m, m = q / 60 := ⟨_, rfl⟩
  obtain ⟨x, hx⟩ : ∃ x, x = z % 60 := ⟨_, rfl⟩
  have hdi : (z : Int) / 86400 = (d : Int) := by omega
  have hri : (z : Int) % 86400 = (r : Int) := by omega
  have hhi : (r : Int) / 3600 = (h : Int) := by omega
  have hqi : (z : Int) % 3600 = (q : Int) := by omega
  have hmi : (q : Int) / 60 = (m : Int) := by omega
  have hxi : (z : Int) % 60 = (x : Int) := by omega
  have hzb : z ≤ 9223372036854775808 := by omega
  have hrb : r < 86400 := by omega
  have hqb : q < 3600 := by omega
  have hhb : h < 24 := by omega
  have hmb : m < 60 := by omega
  have hxb : x < 60 := by omega
  have HREST : Hid (r = 0 ↔ h = 0 ∧ m = 0 ∧ x = 0) := by unfold Hid; omega
  have HX0 : Hid (z = 0 → r = 0 ∧ d = 0) := by unfold Hid; omega
  have HMK : Hid (markN z = if 0 < r ∨ z = 0 then [84] else []) := by unfold Hid markN; rw [hr]
  have HLS : Hid (lastN z = if 0 < x ∨ z = 0 then decN x ++ [83] else []) := by unfold Hid lastN; rw [hx]
  obtain ⟨L0, hL0⟩ : ∃ L, L = headN n := ⟨_, rfl⟩
  obtain ⟨L1, hL1⟩ : ∃ L, L = L0 ++ partN d 68 := ⟨_, rfl⟩
  obtain ⟨L2, hL2⟩ : ∃ L, L = L1 ++ markN z := ⟨_, rfl⟩
  obtain ⟨L3, hL3⟩ : ∃ L, L = L2 ++ partN h 72 := ⟨_, rfl⟩
  obtain ⟨L4, hL4⟩ : ∃ L, L = L3 ++ partN m 77 := ⟨_, rfl⟩
  obtain ⟨L5, hL5⟩ : ∃ L, L = L4 ++ lastN z := ⟨_, rfl⟩
  have HSP : Hid (strN (spanN n) = strN L5) := by unfold Hid spanN; rw [hL5, hL4, hL3, hL2, hL1, hL0, hd, hh, hr, hm, hq, hz]
  have b0 : (strN L0).size ≤ 2 := by rw [strN_size, hL0]; unfold headN; split <;> simp
  have b1 : (strN L1).size ≤ 24 := by rw [strN_size] at *; rw [hL1, List.length_append]; have := part_len d 68; omega
  have b2 : (strN L2).size ≤ 25 := by
    rw [strN_size] at *
    rw [hL2, List.length_append]
    have : (markN z).length ≤ 1 := by unfold markN; split <;> simp
    omega
  have b3 : (strN L3).size ≤ 47 := by rw [strN_size] at *; rw [hL3, List.length_append]; have := part_len h 72; omega
  have b4 : (strN L4).size ≤ 69 := by rw [strN_size] at *; rw [hL4, List.length_append]; have := part_len m 77; omega
  have HB : Hid ((strN L0).size ≤ 2 ∧ (strN L1).size ≤ 24 ∧ (strN L2).size ≤ 25 ∧ (strN L3).size ≤ 47 ∧ (strN L4).size ≤ 69) := ⟨b0, b1, b2, b3, b4⟩
  have HL0 : Hid (L0 = headN n) := hL0
  have HL1 : Hid (L1 = L0 ++ partN d 68) := hL1
  have HL2 : Hid (L2 = L1 ++ markN z) := hL2
  have HL3 : Hid (L3 = L2 ++ partN h 72) := hL3
  have HL4 : Hid (L4 = L3 ++ partN m 77) := hL4
  have HL5 : Hid (L5 = L4 ++ lastN z) := hL5
  have hdb : d < 18446744073709551616 := by omega
  have HZ : Hid (z = n.natAbs) := hz
  clear hd hr hh hq hm hx hL0 hL1 hL2 hL3 hL4 hL5 b0 b1 b2 b3 b4 hz
  obtain ⟨S0, hS0⟩ : ∃ S, S = strN L0 := ⟨_, rfl⟩
  obtain ⟨S1, hS1⟩ : ∃ S, S = strN L1 := ⟨_, rfl⟩
  obtain ⟨S2, hS2⟩ : ∃ S, S = strN L2 := ⟨_, rfl⟩
  obtain ⟨S3, hS3⟩ : ∃ S, S = strN L3 := ⟨_, rfl⟩
  obtain ⟨S4, hS4⟩ : ∃ S, S = strN L4 := ⟨_, rfl⟩
  obtain ⟨S5, hS5⟩ : ∃ S, S = strN L5 := ⟨_, rfl⟩
  have HS0 : Hid (S0 = strN L0) := hS0
  have HS1 : Hid (S1 = strN L1) := hS1
  have HS2 : Hid (S2 = strN L2) := hS2
  have HS3 : Hid (S3 = strN L3) := hS3
  have HS4 : Hid (S4 = strN L4) := hS4
  have HS5 : Hid (S5 = strN L5) := hS5
  clear hS0 hS1 hS2 hS3 hS4 hS5
  go_enter Tryd.func6, Tryd.ntmps6
  go_upto_if 10 with fail
  go_cut [3, 4] (fun s3 s4 wx => s3 = .int .u64 (z : Nat) ∧ s4 = .string S0 ∧ wx = w)
  case first =>
    by_cases hn : 0 ≤ n
    · have HH : Hid (S0 = ByteArray.mk #[80]) := by unfold Hid; rw [HS0.out, HL0.out]; unfold headN; rw [if_pos hn]; rfl
      have hzn : n = (z : Int) := by have := HZ.out; omega
      go_wp2_with fail
      go_meet
      exact ⟨by first | rfl | rw [hzn], by rw [HH.out], rfl⟩
    · have HH : Hid (S0 = ByteArray.mk #[45, 80]) := by unfold Hid; rw [HS0.out, HL0.out]; unfold headN; rw [if_neg hn]; rfl
      have hzn : -(n + 1) + 1 = (z : Int) := by have := HZ.out; omega
      have hw1 : IntKind.u64.wrap (-(n + 1) + 1) = (z : Int) := by rw [IntKind.wrap_u64]; omega
      go_wp2_with fail
      go_meet
      exact ⟨by first | rfl | (congr 1; done) | (congr 1; omega) | (congr 1; rw [IntKind.wrap_u64]; omega), by rw [HH.out], rfl⟩
  case rest =>
  obtain ⟨rfl, rfl, hwc⟩ := hcut
  replace hwc := hwc.symm
  subst hwc
  clear HZ HL0
  go_upto_region 7 with fail
  go_cut [5, 6, 7, 8] (fun s5 s6 s7 s8 wx => s5 = .int .u64 (d : Nat) ∧ s6 = .int .u64 (h : Nat) ∧ s7 = .int .u64 (m : Nat) ∧ s8 = .int .u64 (x : Nat) ∧ wx = w)
  case first =>
    go_wp2_with fail
    go_meet
    exact ⟨by first | rfl | (congr 1 <;> omega), by first | rfl | (congr 1 <;> omega), by first | rfl | (congr 1 <;> omega), by first | rfl | (congr 1 <;> omega), rfl⟩
  case rest =>
  obtain ⟨rfl, rfl, rfl, rfl, hwc⟩ := hcut
  replace hwc := hwc.symm
  subst hwc
  clear hdi hri hhi hqi hmi hxi
  go_upto_if 29 with fail
  go_cut [4] (fun s4 wx => s4 = .string S1 ∧ Below w.heap.size w wx)
  case first =>
    by_cases hv : 0 < d
    · have hvi : (0 : Int) < (d : Int) := by omega
      have HD : Hid _ := rdig_any d w (by omega)
      obtain ⟨G, hG⟩ : ∃ G, G = strN (decN d) := ⟨_, rfl⟩
      have zG : G.size ≤ 21 := by rw [hG, strN_size]; exact dec_len _
      obtain ⟨E, hE⟩ : ∃ E, G ++ ByteArray.mk #[68] = E := ⟨_, rfl⟩
      obtain ⟨f1, zE⟩ := add_le zG (B := ByteArray.mk #[68]) (m := 1) (by decide) (by decide) hE
      have hSE : S0 ++ E = S1 := by
        rw [← hE, HS0.out, HS1.out, HL1.out]
        exact part_str (part_yes hv) hG rfl
      obtain ⟨f2, -⟩ := add_le (n := 2) (by rw [HS0.out]; exact HB.out.1) zE (by decide) hSE
      rw [← hG] at HD
      clear hG zG hE zE hSE hv
      go_wp2_with fail
      refine Calls.mono HD.out ?_
      rintro _ wp ⟨rfl, hbp⟩
      have HBP : Hid (Below w.heap.size w wp) := hbp
      clear hbp HD
      go_wp2_with fail
      go_meet
      exact ⟨rfl, HBP.out⟩
    · have hvi : ¬ (0 : Int) < (d : Int) := by omega
      have HE : Hid (S0 = S1) := by unfold Hid; rw [HS0.out, HS1.out, HL1.out, part_no hv, List.append_nil]
      clear hv
      go_wp2_with fail
      go_meet
      exact ⟨by rw [HE.out], Below.refl _ _⟩
  case rest =>
  obtain ⟨rfl, hbw⟩ := hcut
  have HBW1 : Hid (Below w.heap.size w wc) := hbw
  clear hbw
  generalize wc = w1 at *
  go_upto_region 10 with fail
  go_cut [44] (fun s44 wx => s44 = .bool (decide (0 < r ∨ z = 0)) ∧ wx = w1)
  case first =>
    by_cases hrz : r = 0
    · obtain ⟨e1, e2, e3⟩ := HREST.out.1 hrz
      have t1 : ¬ (0 : Int) < (h : Int) + (m : Int) + (x : Int) := by omega
      have t1b : decide ((0 : Int) < (h : Int) + (m : Int) + (x : Int)) = false := decide_eq_false t1
      have HDC : Hid (decide (0 < r ∨ z = 0) = ((z : Int) == 0)) := by
        unfold Hid
        by_cases hz0 : z = 0
        · rw [decide_eq_true (.inr hz0), hz0]; rfl
        · rw [decide_eq_false (by omega)]
          symm
          rw [beq_eq_false_iff_ne]
          omega
      clear hrz e1 e2 e3
      go_wp2_with fail
      go_meet
      exact ⟨by rw [HDC.out], rfl⟩
    · have t1 : (0 : Int) < (h : Int) + (m : Int) + (x : Int) := by
        have := HREST.out
        omega
      have t1b : decide ((0 : Int) < (h : Int) + (m : Int) + (x : Int)) = true := decide_eq_true t1
      have HDC : Hid (decide (0 < r ∨ z = 0) = true) := decide_eq_true (.inl (by omega))
      clear hrz
      go_wp2_with fail
      go_meet
      exact ⟨by rw [HDC.out], rfl⟩
  case rest =>
  obtain ⟨rfl, hwc⟩ := hcut
  replace hwc := hwc.symm
  subst hwc
  go_upto_if 44 with fail
  go_cut [4] (fun s4 wx => s4 = .string S2 ∧ wx = w1)
  case first =>
    by_cases hT : 0 < r ∨ z = 0
    · have hTd : decide (0 < r ∨ z = 0) = true := decide_eq_true hT
      have hSE : S1 ++ ByteArray.mk #[84] = S2 := by rw [HS1.out, HS2.out, HL2.out, HMK.out, if_pos hT, strN_append]; rfl
      obtain ⟨f2, -⟩ := add_le (n := 24) (m := 1) (by rw [HS1.out]; exact HB.out.2.1) (B := ByteArray.mk #[84]) (by decide) (by decide) hSE
      rw [hTd]
      clear hSE hT hTd
      go_wp2_with fail
      go_meet
      exact ⟨rfl, rfl⟩
    · have hTd : decide (0 < r ∨ z = 0) = false := decide_eq_false hT
      have HE : Hid (S1 = S2) := by unfold Hid; rw [HS1.out, HS2.out, HL2.out, HMK.out, if_neg hT, List.append_nil]
      rw [hTd]
      clear hT hTd
      go_wp2_with fail
      go_meet
      exact ⟨by rw [HE.out], rfl⟩
  case rest =>
  obtain ⟨rfl, hwc⟩ := hcut
  replace hwc := hwc.symm
  subst hwc
  have HBW2 : Hid (Below w.heap.size w w1) := HBW1.out
  clear HBW1
  generalize w1 = w2 at *
  go_upto_if 48 with fail
  go_cut [4] (fun s4 wx => s4 = .string S3 ∧ Below w.heap.size w wx)
  case first =>
    by_cases hv : 0 < h
    · have hvi : (0 : Int) < (h : Int) := by omega
      have HD : Hid _ := rdig_any h w2 (by omega)
      obtain ⟨G, hG⟩ : ∃ G, G = strN (decN h) := ⟨_, rfl⟩
      have zG : G.size ≤ 21 := by rw [hG, strN_size]; exact dec_len _
      obtain ⟨E, hE⟩ : ∃ E, G ++ ByteArray.mk #[72] = E := ⟨_, rfl⟩
      obtain ⟨f1, zE⟩ := add_le zG (B := ByteArray.mk #[72]) (m := 1) (by decide) (by decide) hE
      have hSE : S2 ++ E = S3 := by
        rw [← hE, HS2.out, HS3.out, HL3.out]
        exact part_str (part_yes hv) hG rfl
      obtain ⟨f2, -⟩ := add_le (n := 25) (by rw [HS2.out]; exact HB.out.2.2.1) zE (by decide) hSE
      rw [← hG] at HD
      clear hG zG hE zE hSE hv
      go_wp2_with fail
      refine Calls.mono HD.out ?_
      rintro _ wp ⟨rfl, hbp⟩
      have HBP : Hid (Below w.heap.size w wp) := HBW2.out.trans (hbp.mono HBW2.out.size)
      clear hbp HD
      go_wp2_with fail
      go_meet
      exact ⟨rfl, HBP.out⟩
    · have hvi : ¬ (0 : Int) < (h : Int) := by omega
      have HE : Hid (S2 = S3) := by unfold Hid; rw [HS2.out, HS3.out, HL3.out, part_no hv, List.append_nil]
      clear hv
      go_wp2_with fail
      go_meet
      exact ⟨by rw [HE.out], HBW2.out⟩
  case rest =>
  obtain ⟨rfl, hbw⟩ := hcut
  have HBW3 : Hid (Below w.heap.size w wc) := hbw
  clear hbw HBW2
  generalize wc = w3 at *
  go_upto_if 55 with fail
  go_cut [4] (fun s4 wx => s4 = .string S4 ∧ Below w.heap.size w wx)
  case first =>
    by_cases hv : 0 < m
    · have hvi : (0 : Int) < (m : Int) := by omega
      have HD : Hid _ := rdig_any m w3 (by omega)
      obtain ⟨G, hG⟩ : ∃ G, G = strN (decN m) := ⟨_, rfl⟩
      have zG : G.size ≤ 21 := by rw [hG, strN_size]; exact dec_len _
      obtain ⟨E, hE⟩ : ∃ E, G ++ ByteArray.mk #[77] = E := ⟨_, rfl⟩
      obtain ⟨f1, zE⟩ := add_le zG (B := ByteArray.mk #[77]) (m := 1) (by decide) (by decide) hE
      have hSE : S3 ++ E = S4 := by
        rw [← hE, HS3.out, HS4.out, HL4.out]
        exact part_str (part_yes hv) hG rfl
      obtain ⟨f2, -⟩ := add_le (n := 47) (by rw [HS3.out]; exact HB.out.2.2.2.1) zE (by decide) hSE
      rw [← hG] at HD
      clear hG zG hE zE hSE hv
      go_wp2_with fail
      refine Calls.mono HD.out ?_
      rintro _ wp ⟨rfl, hbp⟩
      have HBP : Hid (Below w.heap.size w wp) := HBW3.out.trans (hbp.mono HBW3.out.size)
      clear hbp HD
      go_wp2_with fail
      go_meet
      exact ⟨rfl, HBP.out⟩
    · have hvi : ¬ (0 : Int) < (m : Int) := by omega
      have HE : Hid (S3 = S4) := by unfold Hid; rw [HS3.out, HS4.out, HL4.out, part_no hv, List.append_nil]
      clear hv
      go_wp2_with fail
      go_meet
      exact ⟨by rw [HE.out], HBW3.out⟩
  case rest =>
  obtain ⟨rfl, hbw⟩ := hcut
  have HBW4 : Hid (Below w.heap.size w wc) := hbw
  clear hbw HBW3
  generalize wc = w4 at *
  go_upto_region 16 with fail
  go_cut [66] (fun s66 wx => s66 = .bool (decide (0 < x ∨ z = 0)) ∧ wx = w4)
  case first =>
    by_cases hxz : x = 0
    · have t1 : ¬ (0 : Int) < (x : Int) := by omega
      have t1b : decide ((0 : Int) < (x : Int)) = false := decide_eq_false t1
      have t1c : decide (0 < x) = false := decide_eq_false (by omega)
      have HDC : Hid (decide (0 < x ∨ z = 0) = ((z : Int) == 0)) := by
        unfold Hid
        by_cases hz0 : z = 0
        · rw [decide_eq_true (.inr hz0), hz0]; rfl
        · rw [decide_eq_false (by omega)]
          symm
          rw [beq_eq_false_iff_ne]
          omega
      clear hxz
      go_wp2_with fail
      go_meet
      exact ⟨by rw [HDC.out], rfl⟩
    · have t1 : (0 : Int) < (x : Int) := by omega
      have t1b : decide ((0 : Int) < (x : Int)) = true := decide_eq_true t1
      have t1c : decide (0 < x) = true := decide_eq_true (by omega)
      have HDC : Hid (decide (0 < x ∨ z = 0) = true) := decide_eq_true (.inl (by omega))
      clear hxz
      go_wp2_with fail
      go_meet
      exact ⟨by rw [HDC.out], rfl⟩
  case rest =>
  obtain ⟨rfl, hwc⟩ := hcut
  replace hwc := hwc.symm
  subst hwc
  go_upto_if 66 with fail
  go_cut [4] (fun s4 wx => s4 = .string S5 ∧ Below w.heap.size w wx)
  case first =>
    by_cases hT : 0 < x ∨ z = 0
    · have hTd : decide (0 < x ∨ z = 0) = true := decide_eq_true hT
      have HD : Hid _ := rdig_any x w4 (by omega)
      obtain ⟨G, hG⟩ : ∃ G, G = strN (decN x) := ⟨_, rfl⟩
      have zG : G.size ≤ 21 := by rw [hG, strN_size]; exact dec_len _
      obtain ⟨E, hE⟩ : ∃ E, G ++ ByteArray.mk #[83] = E := ⟨_, rfl⟩
      obtain ⟨f1, zE⟩ := add_le zG (B := ByteArray.mk #[83]) (m := 1) (by decide) (by decide) hE
      have hSE : S4 ++ E = S5 := by
        rw [← hE, HS4.out, HS5.out, HL5.out]
        exact part_str (by rw [HLS.out, if_pos hT]) hG rfl
      obtain ⟨f2, -⟩ := add_le (n := 69) (by rw [HS4.out]; exact HB.out.2.2.2.2) zE (by decide) hSE
      rw [← hG] at HD
      rw [hTd]
      clear hG zG hE zE hSE hT hTd
      go_wp2_with fail
      refine Calls.mono HD.out ?_
      rintro _ wp ⟨rfl, hbp⟩
      have HBP : Hid (Below w.heap.size w wp) := HBW4.out.trans (hbp.mono HBW4.out.size)
      clear hbp HD
      go_wp2_with fail
      go_meet
      exact ⟨rfl, HBP.out⟩
    · have hTd : decide (0 < x ∨ z = 0) = false := decide_eq_false hT
      have HE : Hid (S4 = S5) := by unfold Hid; rw [HS4.out, HS5.out, HL5.out, HLS.out, if_neg hT, List.append_nil]
      rw [hTd]
      clear hT hTd
      go_wp2_with fail
      go_meet
      exact ⟨by rw [HE.out], HBW4.out⟩
  case rest =>
  obtain ⟨rfl, hbw⟩ := hcut
  have HBW5 : Hid (Below w.heap.size w wc) := hbw
  clear hbw HBW4
  go_wp2_with fail
  go_ret
  exact ⟨by rw [HSP.out, ← HS5.out]; rfl, HBW5.out⟩
end Go.Proofs.YtfgdfdjoidpejabDoor
