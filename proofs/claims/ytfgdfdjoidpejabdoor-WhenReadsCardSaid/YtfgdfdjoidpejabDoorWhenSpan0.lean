/-
  The program's part and Span.
-/
import Derived.Test.YtfgdfdjoidpejabDoorWhenNumer
namespace Go.Proofs.YtfgdfdjoidpejabDoor
open Go.ChangeShapes Go.WideShapes Go.ChangeAt Go.RowKit
set_option linter.unusedVariables false
set_option linter.unusedSimpArgs false
theorem part_any (v c : Nat) (L : ByteArray) (hL : L = strN [c]) (w : World) (hP : TabP w) (hv : v < 18446744073709551616) :
    Calls Tryd.prog 14 #[.int .u64 (v : Nat), .string L] w fun e w' => e = .returned (.string (strN (partN v c))) ∧ Below w.heap.size w w' := by
  by_cases h0 : 0 < v
  · have hb : ((v : Int) == 0) = false := by rw [beq_eq_false_iff_ne]; omega
    have HF : Hid _ := fmt_any v w hP hv
    obtain ⟨X, hX⟩ : ∃ X, strN (decN v) = X := ⟨_, rfl⟩
    rw [hX] at HF
    have hXs : X.size ≤ 21 := by rw [← hX, strN_size]; exact dec_len v
    have hLs : L.size ≤ 1 := by rw [hL, strN_size]; simp
    obtain ⟨C, hC⟩ : ∃ C, X ++ L = C := ⟨_, rfl⟩
    obtain ⟨hadd, hCs⟩ := add_le hXs hLs (by decide) hC
    have HR : Hid (strN (partN v c) = C) := by unfold Hid; rw [part_yes h0, strN_append, hX, ← hL, hC]
    clear hC hX hCs hXs hLs hL hP h0
    go_enter Tryd.func14, Tryd.ntmps14
    go_wp2_with fail
    refine Calls.mono HF.out ?_
    rintro _ w2 ⟨rfl, hbe⟩
    go_wp2_with fail
    go_ret
    exact ⟨by rw [HR.out]; rfl, hbe⟩
  · have hb : ((v : Int) == 0) = true := by rw [beq_iff_eq]; omega
    have HR : Hid (strN (partN v c) = ByteArray.mk #[]) := by unfold Hid; rw [part_no h0]; rfl
    clear h0 hP hL
    go_enter Tryd.func14, Tryd.ntmps14
    go_wp2_with fail
    go_ret
    exact ⟨by rw [HR.out]; rfl, Below.refl _ _⟩
theorem span_parts {z : Nat} (hz : 0 < z) (h : List Nat) :
    (0 < z % 86400 → h ++ partN (z / 86400) 68 ++ markN z ++ partN (z % 86400 / 3600) 72 ++ partN (z % 3600 / 60) 77 ++ lastN z = h ++ partN (z / 86400) 68 ++ ([84] ++ partN (z % 86400 / 3600) 72 ++ partN (z % 86400 % 3600 / 60) 77 ++ partN (z % 86400 % 60) 83)) ∧
    (z % 86400 = 0 → h ++ partN (z / 86400) 68 ++ markN z ++ partN (z % 86400 / 3600) 72 ++ partN (z % 3600 / 60) 77 ++ lastN z = h ++ partN (z / 86400) 68) := by
  have e1 : z % 86400 % 3600 = z % 3600 := by omega
  have e2 : z % 86400 % 60 = z % 60 := by omega
  have hl : lastN z = partN (z % 60) 83 := by
    unfold lastN partN
    by_cases h' : 0 < z % 60
    · rw [if_pos (.inl h'), if_pos h']
    · rw [if_neg (by omega), if_neg h']
  constructor
  · intro hr
    rw [e1, e2, hl, markN, if_pos (.inl hr)]
    simp only [List.append_assoc]
  · intro hr
    rw [hl, markN, if_neg (by omega), part_no (v := z % 86400 / 3600) (by omega), part_no (v := z % 3600 / 60) (by omega), part_no (v := z % 60) (by omega)]
    simp only [List.append_nil]
theorem part_size (v c : Nat) : (strN (partN v c)).size ≤ 22 := by rw [strN_size]; exact part_len v c
set_option maxHeartbeats 4000000 in
theorem span_pos_none (z : Nat) (n : Int) (w : World) (hP : TabP w) (hz : 0 < z) (hzb : z ≤ 9223372036854775808) (hn : n = (z : Int)) (hz1 : z ≤ 9223372036854775807) (hr : z % 86400 = 0) :
    Calls Tryd.prog 8 #[.int .i64 n] w fun e w' => e = .returned (.string (strN (spanN n))) ∧ Below w.heap.size w w' := by
  have hab : n.natAbs = z := by omega
  have hhd : headN n = [80] := by unfold headN; rw [if_pos (by omega)]
  have HE : Hid (spanN n = [80] ++ partN (z / 86400) 68) := by
    unfold Hid spanN
    rw [hab, hhd]
    exact (span_parts hz _).2 hr
  have n0 : (n == 0) = false := by rw [beq_eq_false_iff_ne]; omega
  obtain ⟨q, hq⟩ : ∃ q, q = z / 86400 := ⟨_, rfl⟩
  obtain ⟨r, hr0⟩ : ∃ r, r = z % 86400 := ⟨_, rfl⟩
  rw [← hq] at HE
  have hqi : (z : Int) / 86400 = (q : Int) := by omega
  have hri : (z : Int) % 86400 = (r : Int) := by omega
  have hrt : (z : Int).tmod 86400 = (r : Int) := by rw [Int.tmod_eq_emod_of_nonneg (by omega)]; exact hri
  have hqb : q < 18446744073709551616 := by omega
  have hrb : r < 86400 := by omega
  have ng : ¬ n < 0 := by omega
  have hy : IntKind.u64.wrap n = (z : Int) := by rw [hn, IntKind.wrap_u64]; omega
  have r0 : ((r : Int) == 0) = true := by rw [beq_iff_eq]; omega
  have r1 : ((r : Int) != 0) = false := by rw [bne, r0]; rfl
  have HP0 : Hid (∀ W, TabP W → Calls Tryd.prog 14 #[.int .u64 (q : Nat), .string (ByteArray.mk #[68])] W fun e w' => e = .returned (.string (strN (partN q 68))) ∧ Below W.heap.size W w') := fun W hW => part_any q 68 _ rfl W hW hqb
  obtain ⟨X0, hX0⟩ : ∃ X, strN (partN q 68) = X := ⟨_, rfl⟩
  have x0 : X0.size ≤ 22 := by rw [← hX0]; exact part_size _ _
  rw [hX0] at HP0
  obtain ⟨C0, hC0⟩ : ∃ C, (ByteArray.mk #[]) ++ (ByteArray.mk #[80]) = C := ⟨_, rfl⟩
  obtain ⟨a0, s0⟩ := add_le (n := 1) (m := 1) (by decide) (by decide) (by decide) hC0
  obtain ⟨C1, hC1⟩ : ∃ C, C0 ++ X0 = C := ⟨_, rfl⟩
  obtain ⟨a1, s1⟩ := add_le (n := 2) (m := 22) s0 x0 (by decide) hC1
  have HFIN : Hid (strN (spanN n) = C1) := by
    unfold Hid
    rw [HE.out, strN_append, show strN [80] = ByteArray.mk #[] ++ ByteArray.mk #[80] from rfl, hC0, hX0, hC1]
  clear hC0 hC1 hq hr0 HE hab hhd hn hr hz hzb hz1
  clear hX0 s0 s1
  go_enter Tryd.func8, Tryd.ntmps8
  go_wp2_with fail
  refine Calls.mono (HP0.out _ hP) ?_
  rintro _ w1 ⟨rfl, hb1⟩
  have hP1 := hP.below hb1
  go_wp2_with fail
  go_ret
  exact ⟨by rw [HFIN.out]; rfl, hb1⟩
set_option maxHeartbeats 4000000 in
theorem span_pos_rest (z : Nat) (n : Int) (w : World) (hP : TabP w) (hz : 0 < z) (hzb : z ≤ 9223372036854775808) (hn : n = (z : Int)) (hz1 : z ≤ 9223372036854775807) (hr : 0 < z % 86400) :
    Calls Tryd.prog 8 #[.int .i64 n] w fun e w' => e = .returned (.string (strN (spanN n))) ∧ Below w.heap.size w w' := by
  have hab : n.natAbs = z := by omega
  have hhd : headN n = [80] := by unfold headN; rw [if_pos (by omega)]
  have HE : Hid (spanN n = [80] ++ partN (z / 86400) 68 ++ ([84] ++ partN (z % 86400 / 3600) 72 ++ partN (z % 86400 % 3600 / 60) 77 ++ partN (z % 86400 % 60) 83)) := by
    unfold Hid spanN
    rw [hab, hhd]
    exact (span_parts hz _).1 hr
  have n0 : (n == 0) = false := by rw [beq_eq_false_iff_ne]; omega
  obtain ⟨q, hq⟩ : ∃ q, q = z / 86400 := ⟨_, rfl⟩
  obtain ⟨r, hr0⟩ : ∃ r, r = z % 86400 := ⟨_, rfl⟩
  rw [← hq] at HE
  rw [← hr0] at HE
  have hqi : (z : Int) / 86400 = (q : Int) := by omega
  have hri : (z : Int) % 86400 = (r : Int) := by omega
  have hrt : (z : Int).tmod 86400 = (r : Int) := by rw [Int.tmod_eq_emod_of_nonneg (by omega)]; exact hri
  have hqb : q < 18446744073709551616 := by omega
  have hrb : r < 86400 := by omega
  have ng : ¬ n < 0 := by omega
  have hy : IntKind.u64.wrap n = (z : Int) := by rw [hn, IntKind.wrap_u64]; omega
  have r0 : ((r : Int) == 0) = false := by rw [beq_eq_false_iff_ne]; omega
  have r1 : ((r : Int) != 0) = true := by rw [bne, r0]; rfl
  obtain ⟨h, hh⟩ : ∃ h, h = r / 3600 := ⟨_, rfl⟩
  obtain ⟨v, hv⟩ : ∃ v, v = r % 3600 := ⟨_, rfl⟩
  obtain ⟨m, hm⟩ : ∃ m, m = v / 60 := ⟨_, rfl⟩
  obtain ⟨s, hs⟩ : ∃ s, s = r % 60 := ⟨_, rfl⟩
  rw [← hv, ← hh, ← hm, ← hs] at HE
  have hhi : (r : Int) / 3600 = (h : Int) := by omega
  have hvi : (r : Int) % 3600 = (v : Int) := by omega
  have hvt : (r : Int).tmod 3600 = (v : Int) := by rw [Int.tmod_eq_emod_of_nonneg (by omega)]; exact hvi
  have hmi : (v : Int) / 60 = (m : Int) := by omega
  have hsi : (r : Int) % 60 = (s : Int) := by omega
  have hst : (r : Int).tmod 60 = (s : Int) := by rw [Int.tmod_eq_emod_of_nonneg (by omega)]; exact hsi
  have hhb : h < 18446744073709551616 := by omega
  have hmb : m < 18446744073709551616 := by omega
  have hsb : s < 18446744073709551616 := by omega
  have HP0 : Hid (∀ W, TabP W → Calls Tryd.prog 14 #[.int .u64 (q : Nat), .string (ByteArray.mk #[68])] W fun e w' => e = .returned (.string (strN (partN q 68))) ∧ Below W.heap.size W w') := fun W hW => part_any q 68 _ rfl W hW hqb
  obtain ⟨X0, hX0⟩ : ∃ X, strN (partN q 68) = X := ⟨_, rfl⟩
  have x0 : X0.size ≤ 22 := by rw [← hX0]; exact part_size _ _
  rw [hX0] at HP0
  have HP1 : Hid (∀ W, TabP W → Calls Tryd.prog 14 #[.int .u64 (h : Nat), .string (ByteArray.mk #[72])] W fun e w' => e = .returned (.string (strN (partN h 72))) ∧ Below W.heap.size W w') := fun W hW => part_any h 72 _ rfl W hW hhb
  obtain ⟨X1, hX1⟩ : ∃ X, strN (partN h 72) = X := ⟨_, rfl⟩
  have x1 : X1.size ≤ 22 := by rw [← hX1]; exact part_size _ _
  rw [hX1] at HP1
  have HP2 : Hid (∀ W, TabP W → Calls Tryd.prog 14 #[.int .u64 (m : Nat), .string (ByteArray.mk #[77])] W fun e w' => e = .returned (.string (strN (partN m 77))) ∧ Below W.heap.size W w') := fun W hW => part_any m 77 _ rfl W hW hmb
  obtain ⟨X2, hX2⟩ : ∃ X, strN (partN m 77) = X := ⟨_, rfl⟩
  have x2 : X2.size ≤ 22 := by rw [← hX2]; exact part_size _ _
  rw [hX2] at HP2
  have HP3 : Hid (∀ W, TabP W → Calls Tryd.prog 14 #[.int .u64 (s : Nat), .string (ByteArray.mk #[83])] W fun e w' => e = .returned (.string (strN (partN s 83))) ∧ Below W.heap.size W w') := fun W hW => part_any s 83 _ rfl W hW hsb
  obtain ⟨X3, hX3⟩ : ∃ X, strN (partN s 83) = X := ⟨_, rfl⟩
  have x3 : X3.size ≤ 22 := by rw [← hX3]; exact part_size _ _
  rw [hX3] at HP3
  obtain ⟨C0, hC0⟩ : ∃ C, (ByteArray.mk #[]) ++ (ByteArray.mk #[80]) = C := ⟨_, rfl⟩
  obtain ⟨a0, s0⟩ := add_le (n := 1) (m := 1) (by decide) (by decide) (by decide) hC0
  obtain ⟨C1, hC1⟩ : ∃ C, C0 ++ X0 = C := ⟨_, rfl⟩
  obtain ⟨a1, s1⟩ := add_le (n := 2) (m := 22) s0 x0 (by decide) hC1
  obtain ⟨C2, hC2⟩ : ∃ C, (ByteArray.mk #[84]) ++ X1 = C := ⟨_, rfl⟩
  obtain ⟨a2, s2⟩ := add_le (n := 1) (m := 22) (by decide) x1 (by decide) hC2
  obtain ⟨C3, hC3⟩ : ∃ C, C2 ++ X2 = C := ⟨_, rfl⟩
  obtain ⟨a3, s3⟩ := add_le (n := 23) (m := 22) s2 x2 (by decide) hC3
  obtain ⟨C4, hC4⟩ : ∃ C, C3 ++ X3 = C := ⟨_, rfl⟩
  obtain ⟨a4, s4⟩ := add_le (n := 45) (m := 22) s3 x3 (by decide) hC4
  obtain ⟨C5, hC5⟩ : ∃ C, C1 ++ C4 = C := ⟨_, rfl⟩
  obtain ⟨a5, s5⟩ := add_le (n := 24) (m := 67) s1 s4 (by decide) hC5
  have HFIN : Hid (strN (spanN n) = C5) := by
    unfold Hid
    rw [HE.out, strN_append, strN_append, strN_append, strN_append, strN_append, show strN [80] = ByteArray.mk #[] ++ ByteArray.mk #[80] from rfl, hC0, hX0, hC1, hX1, hX2, hX3, show strN [84] = ByteArray.mk #[84] from rfl, hC2, hC3, hC4, hC5]
  clear hC0 hC1 hC2 hC3 hC4 hC5 hq hr0 HE hab hhd hn hr hz hzb hh hv hm hs hz1
  clear hX0 hX1 hX2 hX3 s0 s1 s2 s3 s4 s5
  go_enter Tryd.func8, Tryd.ntmps8
  go_wp2_with fail
  refine Calls.mono (HP0.out _ hP) ?_
  rintro _ w1 ⟨rfl, hb1⟩
  have hP1 := hP.below hb1
  go_wp2_with fail
  refine Calls.mono (HP1.out _ hP1) ?_
  rintro _ w2 ⟨rfl, hb⟩
  have hP2 := hP1.below hb
  have hb2 := hb1.trans (hb.mono hb1.size)
  clear hb hP1 hb1
  go_wp2_with fail
  refine Calls.mono (HP2.out _ hP2) ?_
  rintro _ w3 ⟨rfl, hb⟩
  have hP3 := hP2.below hb
  have hb3 := hb2.trans (hb.mono hb2.size)
  clear hb hP2 hb2
  go_wp2_with fail
  refine Calls.mono (HP3.out _ hP3) ?_
  rintro _ w4 ⟨rfl, hb⟩
  have hP4 := hP3.below hb
  have hb4 := hb3.trans (hb.mono hb3.size)
  clear hb hP3 hb3
  go_wp2_with fail
  go_ret
  exact ⟨by rw [HFIN.out]; rfl, hb4⟩
set_option maxHeartbeats 4000000 in
theorem span_neg_none (z : Nat) (n : Int) (w : World) (hP : TabP w) (hz : 0 < z) (hzb : z ≤ 9223372036854775808) (hn : n = -(z : Int)) (hr : z % 86400 = 0) :
    Calls Tryd.prog 8 #[.int .i64 n] w fun e w' => e = .returned (.string (strN (spanN n))) ∧ Below w.heap.size w w' := by
  have hab : n.natAbs = z := by omega
  have hhd : headN n = [45, 80] := by unfold headN; rw [if_neg (by omega)]
  have HE : Hid (spanN n = [45, 80] ++ partN (z / 86400) 68) := by
    unfold Hid spanN
    rw [hab, hhd]
    exact (span_parts hz _).2 hr
  have n0 : (n == 0) = false := by rw [beq_eq_false_iff_ne]; omega
  obtain ⟨q, hq⟩ : ∃ q, q = z / 86400 := ⟨_, rfl⟩
  obtain ⟨r, hr0⟩ : ∃ r, r = z % 86400 := ⟨_, rfl⟩
  rw [← hq] at HE
  have hqi : (z : Int) / 86400 = (q : Int) := by omega
  have hri : (z : Int) % 86400 = (r : Int) := by omega
  have hrt : (z : Int).tmod 86400 = (r : Int) := by rw [Int.tmod_eq_emod_of_nonneg (by omega)]; exact hri
  have hqb : q < 18446744073709551616 := by omega
  have hrb : r < 86400 := by omega
  have ng : n < 0 := by omega
  obtain ⟨y, hy⟩ : ∃ y, IntKind.u64.wrap n = y := ⟨_, rfl⟩
  have hyn : IntKind.u64.wrap (-y) = (z : Int) := by rw [← hy, hn, IntKind.wrap_u64, IntKind.wrap_u64]; omega
  have r0 : ((r : Int) == 0) = true := by rw [beq_iff_eq]; omega
  have r1 : ((r : Int) != 0) = false := by rw [bne, r0]; rfl
  have HP0 : Hid (∀ W, TabP W → Calls Tryd.prog 14 #[.int .u64 (q : Nat), .string (ByteArray.mk #[68])] W fun e w' => e = .returned (.string (strN (partN q 68))) ∧ Below W.heap.size W w') := fun W hW => part_any q 68 _ rfl W hW hqb
  obtain ⟨X0, hX0⟩ : ∃ X, strN (partN q 68) = X := ⟨_, rfl⟩
  have x0 : X0.size ≤ 22 := by rw [← hX0]; exact part_size _ _
  rw [hX0] at HP0
  obtain ⟨C0, hC0⟩ : ∃ C, (ByteArray.mk #[45]) ++ (ByteArray.mk #[80]) = C := ⟨_, rfl⟩
  obtain ⟨a0, s0⟩ := add_le (n := 1) (m := 1) (by decide) (by decide) (by decide) hC0
  obtain ⟨C1, hC1⟩ : ∃ C, C0 ++ X0 = C := ⟨_, rfl⟩
  obtain ⟨a1, s1⟩ := add_le (n := 2) (m := 22) s0 x0 (by decide) hC1
  have HFIN : Hid (strN (spanN n) = C1) := by
    unfold Hid
    rw [HE.out, strN_append, show strN [45, 80] = ByteArray.mk #[45] ++ ByteArray.mk #[80] from rfl, hC0, hX0, hC1]
  clear hC0 hC1 hq hr0 HE hab hhd hn hr hz hzb
  clear hX0 s0 s1
  go_enter Tryd.func8, Tryd.ntmps8
  go_wp2_with fail
  refine Calls.mono (HP0.out _ hP) ?_
  rintro _ w1 ⟨rfl, hb1⟩
  have hP1 := hP.below hb1
  go_wp2_with fail
  go_ret
  exact ⟨by rw [HFIN.out]; rfl, hb1⟩
set_option maxHeartbeats 4000000 in
theorem span_neg_rest (z : Nat) (n : Int) (w : World) (hP : TabP w) (hz : 0 < z) (hzb : z ≤ 9223372036854775808) (hn : n = -(z : Int)) (hr : 0 < z % 86400) :
    Calls Tryd.prog 8 #[.int .i64 n] w fun e w' => e = .returned (.string (strN (spanN n))) ∧ Below w.heap.size w w' := by
  have hab : n.natAbs = z := by omega
  have hhd : headN n = [45, 80] := by unfold headN; rw [if_neg (by omega)]
  have HE : Hid (spanN n = [45, 80] ++ partN (z / 86400) 68 ++ ([84] ++ partN (z % 86400 / 3600) 72 ++ partN (z % 86400 % 3600 / 60) 77 ++ partN (z % 86400 % 60) 83)) := by
    unfold Hid spanN
    rw [hab, hhd]
    exact (span_parts hz _).1 hr
  have n0 : (n == 0) = false := by rw [beq_eq_false_iff_ne]; omega
  obtain ⟨q, hq⟩ : ∃ q, q = z / 86400 := ⟨_, rfl⟩
  obtain ⟨r, hr0⟩ : ∃ r, r = z % 86400 := ⟨_, rfl⟩
  rw [← hq] at HE
  rw [← hr0] at HE
  have hqi : (z : Int) / 86400 = (q : Int) := by omega
  have hri : (z : Int) % 86400 = (r : Int) := by omega
  have hrt : (z : Int).tmod 86400 = (r : Int) := by rw [Int.tmod_eq_emod_of_nonneg (by omega)]; exact hri
  have hqb : q < 18446744073709551616 := by omega
  have hrb : r < 86400 := by omega
  have ng : n < 0 := by omega
  obtain ⟨y, hy⟩ : ∃ y, IntKind.u64.wrap n = y := ⟨_, rfl⟩
  have hyn : IntKind.u64.wrap (-y) = (z : Int) := by rw [← hy, hn, IntKind.wrap_u64, IntKind.wrap_u64]; omega
  have r0 : ((r : Int) == 0) = false := by rw [beq_eq_false_iff_ne]; omega
  have r1 : ((r : Int) != 0) = true := by rw [bne, r0]; rfl
  obtain ⟨h, hh⟩ : ∃ h, h = r / 3600 := ⟨_, rfl⟩
  obtain ⟨v, hv⟩ : ∃ v, v = r % 3600 := ⟨_, rfl⟩
  obtain ⟨m, hm⟩ : ∃ m, m = v / 60 := ⟨_, rfl⟩
  obtain ⟨s, hs⟩ : ∃ s, s = r % 60 := ⟨_, rfl⟩
  rw [← hv, ← hh, ← hm, ← hs] at HE
  have hhi : (r : Int) / 3600 = (h : Int) := by omega
  have hvi : (r : Int) % 3600 = (v : Int) := by omega
  have hvt : (r : Int).tmod 3600 = (v : Int) := by rw [Int.tmod_eq_emod_of_nonneg (by omega)]; exact hvi
  have hmi : (v : Int) / 60 = (m : Int) := by omega
  have hsi : (r : Int) % 60 = (s : Int) := by omega
  have hst : (r : Int).tmod 60 = (s : Int) := by rw [Int.tmod_eq_emod_of_nonneg (by omega)]; exact hsi
  have hhb : h < 18446744073709551616 := by omega
  have hmb : m < 18446744073709551616 := by omega
  have hsb : s < 18446744073709551616 := by omega
  have HP0 : Hid (∀ W, TabP W → Calls Tryd.prog 14 #[.int .u64 (q : Nat), .string (ByteArray.mk #[68])] W fun e w' => e = .returned (.string (strN (partN q 68))) ∧ Below W.heap.size W w') := fun W hW => part_any q 68 _ rfl W hW hqb
  obtain ⟨X0, hX0⟩ : ∃ X, strN (partN q 68) = X := ⟨_, rfl⟩
  have x0 : X0.size ≤ 22 := by rw [← hX0]; exact part_size _ _
  rw [hX0] at HP0
  have HP1 : Hid (∀ W, TabP W → Calls Tryd.prog 14 #[.int .u64 (h : Nat), .string (ByteArray.mk #[72])] W fun e w' => e = .returned (.string (strN (partN h 72))) ∧ Below W.heap.size W w') := fun W hW => part_any h 72 _ rfl W hW hhb
  obtain ⟨X1, hX1⟩ : ∃ X, strN (partN h 72) = X := ⟨_, rfl⟩
  have x1 : X1.size ≤ 22 := by rw [← hX1]; exact part_size _ _
  rw [hX1] at HP1
  have HP2 : Hid (∀ W, TabP W → Calls Tryd.prog 14 #[.int .u64 (m : Nat), .string (ByteArray.mk #[77])] W fun e w' => e = .returned (.string (strN (partN m 77))) ∧ Below W.heap.size W w') := fun W hW => part_any m 77 _ rfl W hW hmb
  obtain ⟨X2, hX2⟩ : ∃ X, strN (partN m 77) = X := ⟨_, rfl⟩
  have x2 : X2.size ≤ 22 := by rw [← hX2]; exact part_size _ _
  rw [hX2] at HP2
  have HP3 : Hid (∀ W, TabP W → Calls Tryd.prog 14 #[.int .u64 (s : Nat), .string (ByteArray.mk #[83])] W fun e w' => e = .returned (.string (strN (partN s 83))) ∧ Below W.heap.size W w') := fun W hW => part_any s 83 _ rfl W hW hsb
  obtain ⟨X3, hX3⟩ : ∃ X, strN (partN s 83) = X := ⟨_, rfl⟩
  have x3 : X3.size ≤ 22 := by rw [← hX3]; exact part_size _ _
  rw [hX3] at HP3
  obtain ⟨C0, hC0⟩ : ∃ C, (ByteArray.mk #[45]) ++ (ByteArray.mk #[80]) = C := ⟨_, rfl⟩
  obtain ⟨a0, s0⟩ := add_le (n := 1) (m := 1) (by decide) (by decide) (by decide) hC0
  obtain ⟨C1, hC1⟩ : ∃ C, C0 ++ X0 = C := ⟨_, rfl⟩
  obtain ⟨a1, s1⟩ := add_le (n := 2) (m := 22) s0 x0 (by decide) hC1
  obtain ⟨C2, hC2⟩ : ∃ C, (ByteArray.mk #[84]) ++ X1 = C := ⟨_, rfl⟩
  obtain ⟨a2, s2⟩ := add_le (n := 1) (m := 22) (by decide) x1 (by decide) hC2
  obtain ⟨C3, hC3⟩ : ∃ C, C2 ++ X2 = C := ⟨_, rfl⟩
  obtain ⟨a3, s3⟩ := add_le (n := 23) (m := 22) s2 x2 (by decide) hC3
  obtain ⟨C4, hC4⟩ : ∃ C, C3 ++ X3 = C := ⟨_, rfl⟩
  obtain ⟨a4, s4⟩ := add_le (n := 45) (m := 22) s3 x3 (by decide) hC4
  obtain ⟨C5, hC5⟩ : ∃ C, C1 ++ C4 = C := ⟨_, rfl⟩
  obtain ⟨a5, s5⟩ := add_le (n := 24) (m := 67) s1 s4 (by decide) hC5
  have HFIN : Hid (strN (spanN n) = C5) := by
    unfold Hid
    rw [HE.out, strN_append, strN_append, strN_append, strN_append, strN_append, show strN [45, 80] = ByteArray.mk #[45] ++ ByteArray.mk #[80] from rfl, hC0, hX0, hC1, hX1, hX2, hX3, show strN [84] = ByteArray.mk #[84] from rfl, hC2, hC3, hC4, hC5]
  clear hC0 hC1 hC2 hC3 hC4 hC5 hq hr0 HE hab hhd hn hr hz hzb hh hv hm hs
  clear hX0 hX1 hX2 hX3 s0 s1 s2 s3 s4 s5
  go_enter Tryd.func8, Tryd.ntmps8
  go_wp2_with fail
  refine Calls.mono (HP0.out _ hP) ?_
  rintro _ w1 ⟨rfl, hb1⟩
  have hP1 := hP.below hb1
  go_wp2_with fail
  refine Calls.mono (HP1.out _ hP1) ?_
  rintro _ w2 ⟨rfl, hb⟩
  have hP2 := hP1.below hb
  have hb2 := hb1.trans (hb.mono hb1.size)
  clear hb hP1 hb1
  go_wp2_with fail
  refine Calls.mono (HP2.out _ hP2) ?_
  rintro _ w3 ⟨rfl, hb⟩
  have hP3 := hP2.below hb
  have hb3 := hb2.trans (hb.mono hb2.size)
  clear hb hP2 hb2
  go_wp2_with fail
  refine Calls.mono (HP3.out _ hP3) ?_
  rintro _ w4 ⟨rfl, hb⟩
  have hP4 := hP3.below hb
  have hb4 := hb3.trans (hb.mono hb3.size)
  clear hb hP3 hb3
  go_wp2_with fail
  go_ret
  exact ⟨by rw [HFIN.out]; rfl, hb4⟩
theorem span_any (n : Int) (w : World) (hP : TabP w) (n0 : -9223372036854775808 ≤ n) (n1 : n ≤ 9223372036854775807) :
    Calls Tryd.prog 8 #[.int .i64 n] w fun e w' => e = .returned (.string (strN (spanN n))) ∧ Below w.heap.size w w' := by
  rcases Int.lt_trichotomy n 0 with h | h | h
  · rcases Nat.eq_zero_or_pos (n.natAbs % 86400) with hr | hr
    · exact span_neg_none n.natAbs n w hP (by omega) (by omega) (by omega) hr
    · exact span_neg_rest n.natAbs n w hP (by omega) (by omega) (by omega) hr
  · subst h
    have HR : Hid (strN (spanN 0) = ByteArray.mk #[80, 84, 48, 83]) := rfl
    clear hP
    go_enter Tryd.func8, Tryd.ntmps8
    go_wp2_with fail
    go_ret
    exact ⟨by rw [HR.out]; rfl, Below.refl _ _⟩
  · rcases Nat.eq_zero_or_pos (n.natAbs % 86400) with hr | hr
    · exact span_pos_none n.natAbs n w hP (by omega) (by omega) (by omega) (by omega) hr
    · exact span_pos_rest n.natAbs n w hP (by omega) (by omega) (by omega) (by omega) hr
end Go.Proofs.YtfgdfdjoidpejabDoor
