/-
  Package crc's zeroBit, behindZeros, Zeros and Join: so many bytes 0 behind a register, by the digits of their number.
-/
import Derived.Test.YtlfcgdcahfcanaaDoorCrcMat
namespace Go.Proofs.YtlfcgdcahfcanaaDoor
open Go.ChangeShapes Go.WideShapes Go.ChangeAt Go.RowKit
set_option linter.unusedVariables false
set_option linter.unusedSimpArgs false
/-- The matrix that holds so many steps. -/
def zm (s i : Nat) : Nat := if i < 32 then zn s (2 ^ i) else 0
theorem pow_lt32 (i : Nat) (h : i < 32) : 2 ^ i < 4294967296 := Nat.pow_lt_pow_right (n := 32) (by decide) h
theorem zm_lt (s i : Nat) : zm s i < 4294967296 := by
  unfold zm
  split
  · exact zn_lt s _ (pow_lt32 i (by assumption))
  · decide
theorem zm_at (s i : Nat) (h : i < 32) : zm s i = zn s (2 ^ i) := if_pos h
theorem zm_app (s R : Nat) (hR : R < 4294967296) : app (zm s) R 32 = zn s R := app_zn (zm s) s R (zm_at s) hR
theorem zm_sq (s i : Nat) (h : i < 32) : sqN (zm s) i = zm (s + s) i := by
  rw [zm_at (s + s) i h]
  exact app_square (zm s) s (zm_at s) i h
theorem Mat.sq {d : Array Value} {s : Nat} (h : Mat d (sqN (zm s))) : Mat d (zm (s + s)) :=
  ⟨h.1, zm_lt (s + s), fun i hi => by rw [h.2.2 i hi, zm_sq s i hi]⟩
theorem applyZ (c : Array Value) (s R : Nat) (w : World) (hm : Mat c (zm s)) (hR : R < 4294967296) :
    Calls Tryd.prog 20 #[.agg c, .int .u32 R] w fun e w' => e = .returned (.int .u32 (zn s R : Nat)) ∧ w' = w.alloc (.cells c 42) := by
  have := apply_any c (zm s) R w hm hR
  rw [zm_app s R hR] at this
  exact this
theorem twiceZ (c : Array Value) (s : Nat) (w : World) (hm : Mat c (zm s)) :
    Calls Tryd.prog 19 #[.agg c] w fun e w' => ∃ d, e = .returned (.agg d) ∧ Mat d (zm (s + s)) ∧ Below w.heap.size w w' :=
  (twice_any c (zm s) w hm).mono fun e w' ⟨d, h1, h2, h3⟩ => ⟨d, h1, h2.sq, h3⟩
def polyMat : Array Value := zeroMat.setIfInBounds 0 (.int .u32 2197175160)
theorem polyMat_one : polyMat.all (·.oneCell') = true := by decide +kernel
theorem matBuild (w : World) : (Instr.build 42 #[(0, .int .u32 2197175160)]).run Tryd.prog w = .ok (.agg polyMat) w := by kernel_rfl
theorem build_mat {P : Program} {ops : Array Oper} {rest : List Oper} {o : Oper} {a : Act} {Q : Exit → Act → World → Prop} {w w' : World} (hg : o.guard = none) (t : TypeId) (parts : Array (Nat × Operand)) (ho : o.op = .build t parts)
    (ps : Array (Nat × Value)) (hp : (parts.map fun (i, x) => (i, a.eval x)) = ps)
    (v : Value) (hr : (Instr.build t ps).run P w = .ok v w') (h : wpList P ops Q rest (a.put o.dst v) w') : wpList P ops Q (o :: rest) a w :=
  wpList_plain hg fun _ hK => by
    unfold Oper.wp execOp
    simp only [ho, hp, Sem.run_bind, Sem.run_pure, Result.andThen_ok, hr]
    exact hK _ _ h
theorem zm_one_zero : zm 1 0 = 2197175160 := by decide
theorem zm_one_succ (i : Nat) (h : i < 31) : zm 1 (i + 1) = 2 ^ i := by
  rw [zm_at 1 (i + 1) (by omega), Nat.pow_succ, Nat.mul_comm]
  exact zst_even (2 ^ i)
theorem zeroBit_any (w : World) :
    Calls Tryd.prog 18 #[] w fun e w' => ∃ d, e = .returned (.agg d) ∧ Mat d (zm 1) ∧ Below w.heap.size w w' := by
  have HST : Hid ((storeVar 42 ⟨(w.alloc (.cells zeroMat 42)).heap.size, 0, none⟩ (.agg polyMat)).run Tryd.prog ((w.alloc (.cells zeroMat 42)).alloc (.cells zeroMat 42)) = .ok () ((w.alloc (.cells zeroMat 42)).alloc (.cells polyMat 42))) := by
    have := (Blk.new (w.alloc (.cells zeroMat 42)) zeroMat).store zeroMat_size (d := polyMat) rfl polyMat_one
    rw [World.setRow_alloc_new] at this
    exact this
  go_enter Tryd.func18, Tryd.ntmps18
  go_wp2_with (first
    | (refine alloc_mat rfl 42 rfl _ (matAlloc _) ?_)
    | (refine build_mat rfl 42 _ rfl #[(0, .int .u32 2197175160)] (by simp [go_sem]) _ (matBuild _) ?_)
    | (refine store_mat rfl 42 (.tmp 1) (.tmp 3) rfl ⟨(w.alloc (.cells zeroMat 42)).heap.size, 0, none⟩ rfl _ rfl HST.out ?_))
  try simp only [World.size_alloc]
  go_loopw [4] (fun i wr => ∃ (k : Nat) (d : Array Value), k ≤ 31 ∧ i = .int .i64 k ∧ d.size = 32 ∧ (∀ j, j ≤ k → d[j]? = some (.int .u32 (zm 1 j : Nat))) ∧ Blk wr w.heap.size zeroMat ∧ Blk wr (w.heap.size + 1) d ∧ Below w.heap.size w wr) (fun i _ => 31 - (intOf i).toNat)
  case atStart =>
    refine ⟨0, polyMat, Nat.zero_le _, rfl, rfl, fun j hj => ?_, (Blk.new w zeroMat).alloc _, ?_, ?_⟩
    · obtain rfl : j = 0 := by omega
      rw [zm_one_zero]
      rfl
    · have := Blk.new (w.alloc (.cells zeroMat 42)) polyMat
      simpa using this
    · exact Below.alloc (Below.alloc (Below.refl _ _) (Nat.le_refl _) _) (by simp) _
  case round =>
    obtain ⟨k, d, hk, rfl, hds, hdj, hb0, hb1, hbe⟩ := hrel
    rename_i wr _
    have HD : Hid (d.size = 32 ∧ ∀ j, j ≤ k → d[j]? = some (.int .u32 (zm 1 j : Nat))) := ⟨hds, hdj⟩
    have HB0 : Hid (Blk wr w.heap.size zeroMat) := hb0
    have HB1 : Hid (Blk wr (w.heap.size + 1) d) := hb1
    have HBE : Hid (Below w.heap.size w wr) := hbe
    clear hds hdj hb0 hb1 hbe
    by_cases hlt : k < 31
    · have hcell : wr.cell? ⟨w.heap.size + 1, k + 1, none⟩ = some (d.getD (k + 1) undef) := by
        rw [HB1.out.cell (k + 1)]
        have := HD.out.1
        simp [show k + 1 < d.size by omega]
      have hfr := HB1.out.frozen (k + 1)
      have hpw := pow_lt32 k (by omega)
      have hzm : Hid (zm 1 (k + 1) = 2 ^ k) := zm_one_succ k hlt
      go_wp2_with fail
      have hval : (2 : Int) ^ k % 4294967296 = ((zm 1 (k + 1) : Nat) : Int) := by
        have e : (2 : Int) ^ k = ((2 ^ k : Nat) : Int) := by simp
        rw [hzm.out, e]
        exact Int.emod_eq_of_lt (Int.natCast_nonneg _) (Int.ofNat_lt.2 hpw)
      rw [hval]
      go_roundw
      case rel =>
        refine ⟨k + 1, d.setIfInBounds (k + 1) (.int .u32 (zm 1 (k + 1) : Nat)), by omega, by go_num, by simp [HD.out.1], fun j hj => ?_, HB0.out.other (by omega) _ _, HB1.out.set _ _, ?_⟩
        · rw [Array.getElem?_setIfInBounds]
          have h1 := HD.out.1
          by_cases hjk : k + 1 = j
          · subst hjk; simp [show k + 1 < d.size by omega]
          · rw [if_neg hjk]; exact HD.out.2 j (by omega)
        · exact Below.setCell HBE.out (by show w.heap.size ≤ w.heap.size + 1; omega) _
      case measure => simp [intOf]; omega
    · obtain rfl : k = 31 := by omega
      have hmd : Mat d (zm 1) := ⟨HD.out.1, zm_lt 1, fun i hi => HD.out.2 i (by omega)⟩
      have HMD : Hid (Mat d (zm 1)) := hmd
      have HLD : Hid ((loadVar 42 ⟨w.heap.size + 1, 0, none⟩).run Tryd.prog wr = .ok (.agg d) wr) := HB1.out.load HD.out.1
      have HST2 : Hid ((storeVar 42 ⟨w.heap.size, 0, none⟩ (.agg d)).run Tryd.prog wr = .ok () (wr.setRow w.heap.size d)) := HB0.out.store zeroMat_size HD.out.1 hmd.one
      clear hmd
      go_wp2_with (first
        | (refine load_mat rfl 42 (.tmp 1) rfl ⟨w.heap.size + 1, 0, none⟩ rfl d HLD.out ?_)
        | (refine store_mat rfl 42 (.tmp 0) (.tmp 13) rfl ⟨w.heap.size, 0, none⟩ rfl _ rfl HST2.out ?_))
      refine bodyPost_ret (v := .agg d) ?_ rfl ⟨d, rfl, HMD.out, below_setRow HBE.out (Nat.le_refl _) d⟩
      rw [results_cell_one rfl]
      exact (HB0.out.row d).load HD.out.1
theorem odd_word (q : Nat) (hq : q ≤ 9223372036854775807) : bits .and .i64 (q : Int) 1 = ((q % 2 : Nat) : Int) := by
  show IntKind.i64.wrap ((BitVec.ofInt 64 (q : Int) &&& BitVec.ofInt 64 1).toNat : Int) = _
  rw [BitVec.toNat_and, ofInt_u64 q (by omega), show (BitVec.ofInt 64 1).toNat = 1 by decide, Nat.and_one_is_mod]
  simp [IntKind.wrap, IntKind.bits, IntKind.signed]
  omega
set_option maxHeartbeats 2000000 in
theorem behind_any (R : Nat) (n : Int) (w : World) (hR : R < 4294967296) (h0 : -9223372036854775808 ≤ n) (h1 : n ≤ 9223372036854775807) :
    Calls Tryd.prog 17 #[.int .u32 R, .int .i64 n] w fun e w' => e = .returned (.int .u32 (zn (8 * n.toNat) R : Nat)) ∧ Below w.heap.size w w' := by
  obtain ⟨G, hG⟩ : ∃ G, G = zn (8 * n.toNat) R := ⟨_, rfl⟩
  have HG : Hid (zn (8 * n.toNat) R = G) := hG.symm
  rw [← hG]
  clear hG
  go_enter Tryd.func17, Tryd.ntmps17
  go_wp2_with fail
  refine (zeroBit_any w).mono ?_
  rintro e w1 ⟨c1, rfl, hm1, hb1⟩
  have HM1 : Hid (Mat c1 (zm 1)) := hm1
  clear hm1
  go_wp2_with fail
  refine (twiceZ c1 1 w1 HM1.out).mono ?_
  rintro e w2 ⟨c2, rfl, hm2, hb2⟩
  have HM2 : Hid (Mat c2 (zm 2)) := hm2
  clear hm2
  go_wp2_with fail
  refine (twiceZ c2 2 w2 HM2.out).mono ?_
  rintro e w3 ⟨c3, rfl, hm3, hb3⟩
  have HM3 : Hid (Mat c3 (zm 4)) := hm3
  clear hm3
  go_wp2_with fail
  refine (twiceZ c3 4 w3 HM3.out).mono ?_
  rintro e w4 ⟨c4, rfl, hm4, hb4⟩
  have HBW : Hid (Below w.heap.size w w4) := ((hb1.trans (hb2.mono hb1.size)).trans (hb3.mono (Nat.le_trans hb1.size hb2.size))).trans (hb4.mono (Nat.le_trans hb1.size (Nat.le_trans hb2.size hb3.size)))
  have HM4 : Hid (Mat c4 (zm 8)) := hm4
  have HST : Hid ((storeVar 42 ⟨w4.heap.size, 0, none⟩ (.agg c4)).run Tryd.prog (w4.alloc (.cells zeroMat 42)) = .ok () (w4.alloc (.cells c4 42))) := by
    have := (Blk.new w4 zeroMat).store zeroMat_size hm4.1 hm4.one
    rw [World.setRow_alloc_new] at this
    exact this
  clear hm4 hb1 hb2 hb3 hb4 HM1 HM2 HM3
  go_wp2_with (first
    | (refine alloc_mat rfl 42 rfl _ (matAlloc _) ?_)
    | (refine store_mat rfl 42 (.tmp 5) (.tmp 9) rfl ⟨w4.heap.size, 0, none⟩ rfl _ rfl HST.out ?_))
  go_simp
  go_loopw [0, 1] (fun r z wr => ∃ (q : Int) (Y s : Nat) (c : Array Value), z = .int .i64 q ∧ q ≤ 9223372036854775807 ∧ -9223372036854775808 ≤ q ∧ r = .int .u32 (Y : Nat) ∧ Y < 4294967296 ∧ zn (s * q.toNat) Y = G ∧ Mat c (zm s) ∧ Blk wr w4.heap.size c ∧ Below w.heap.size w wr) (fun _ z _ => (intOf z).toNat)
  case atStart =>
    exact ⟨n, R, 8, c4, rfl, h1, h0, rfl, hR, HG.out, HM4.out, Blk.new w4 c4, Below.alloc HBW.out HBW.out.size _⟩
  case round =>
    obtain ⟨q, Y, s, c, rfl, hq1, hq0, rfl, hY, hz, hm, hb, hbe⟩ := hrel
    rename_i wr _
    have HZ : Hid (zn (s * q.toNat) Y = G) := hz
    have HM : Hid (Mat c (zm s)) := hm
    have HB : Hid (Blk wr w4.heap.size c) := hb
    have HBE : Hid (Below w.heap.size w wr) := hbe
    have HLD : Hid ((loadVar 42 ⟨w4.heap.size, 0, none⟩).run Tryd.prog wr = .ok (.agg c) wr) := hb.load hm.1
    clear hz hm hb hbe HST HG HM4
    by_cases hpos : 0 < q
    · obtain ⟨p, rfl⟩ := Int.eq_ofNat_of_zero_le (show 0 ≤ q by omega)
      have hod := odd_word p (by omega)
      have hD := zn_digits s p Y
      rw [Int.toNat_natCast] at HZ
      by_cases hev : p % 2 = 0
      · have HD : Hid (zn ((s + s) * (p / 2)) Y = G) := by
          rw [hev, Nat.mul_zero] at hD
          exact hD.symm.trans HZ.out
        rw [hev] at hod
        clear hD HZ
        go_wp2_with (refine load_mat rfl 42 (.tmp 5) rfl ⟨w4.heap.size, 0, none⟩ rfl c HLD.out ?_)
        refine (twiceZ c s _ HM.out).mono ?_
        rintro e w6 ⟨d, rfl, hmd, hb6⟩
        have HBE6 : Hid (Below w.heap.size w w6) := HBE.out.trans (hb6.mono HBE.out.size)
        have HB6 : Hid (Blk w6 w4.heap.size c) := Blk.below HB.out hb6
        have HMD : Hid (Mat d (zm (s + s))) := hmd
        have HST : Hid ((storeVar 42 ⟨w4.heap.size, 0, none⟩ (.agg d)).run Tryd.prog w6 = .ok () (w6.setRow w4.heap.size d)) := HB6.out.store HM.out.1 hmd.1 hmd.one
        clear hmd hb6
        go_wp2_with (refine store_mat rfl 42 (.tmp 5) (.tmp 21) rfl ⟨w4.heap.size, 0, none⟩ rfl _ rfl HST.out ?_)
        go_roundw
        case rel =>
          exact ⟨((p / 2 : Nat) : Int), Y, s + s, d, by go_num, by omega, by omega, rfl, hY, by rw [Int.toNat_natCast]; exact HD.out, HMD.out, HB6.out.row d, below_setRow HBE6.out HBW.out.size d⟩
        case measure => simp [intOf]; omega
      · have hod1 : p % 2 = 1 := by omega
        have HD : Hid (zn ((s + s) * (p / 2)) (zn s Y) = G) := by
          rw [hod1, Nat.mul_one] at hD
          exact hD.symm.trans HZ.out
        rw [hod1] at hod
        have hYz := zn_lt s Y hY
        clear hD HZ
        go_wp2_with (refine load_mat rfl 42 (.tmp 5) rfl ⟨w4.heap.size, 0, none⟩ rfl c HLD.out ?_)
        refine (applyZ c s Y _ HM.out hY).mono ?_
        rintro e w5 ⟨rfl, rfl⟩
        have HB5 : Hid (Blk (wr.alloc (.cells c 42)) w4.heap.size c) := HB.out.alloc _
        have HBE5 : Hid (Below w.heap.size w (wr.alloc (.cells c 42))) := Below.alloc HBE.out HBE.out.size _
        have HLD5 : Hid ((loadVar 42 ⟨w4.heap.size, 0, none⟩).run Tryd.prog (wr.alloc (.cells c 42)) = .ok (.agg c) (wr.alloc (.cells c 42))) := HB5.out.load HM.out.1
        generalize wr.alloc (.cells c 42) = w5 at *
        generalize zn s Y = Z at *
        clear HLD
        go_wp2_with (refine load_mat rfl 42 (.tmp 5) rfl ⟨w4.heap.size, 0, none⟩ rfl c HLD5.out ?_)
        refine (twiceZ c s _ HM.out).mono ?_
        rintro e w6 ⟨d, rfl, hmd, hb6⟩
        have HBE6 : Hid (Below w.heap.size w w6) := HBE5.out.trans (hb6.mono HBE5.out.size)
        have HB6 : Hid (Blk w6 w4.heap.size c) := Blk.below HB5.out hb6
        have HMD : Hid (Mat d (zm (s + s))) := hmd
        have HST : Hid ((storeVar 42 ⟨w4.heap.size, 0, none⟩ (.agg d)).run Tryd.prog w6 = .ok () (w6.setRow w4.heap.size d)) := HB6.out.store HM.out.1 hmd.1 hmd.one
        clear hmd hb6
        go_wp2_with (refine store_mat rfl 42 (.tmp 5) (.tmp 21) rfl ⟨w4.heap.size, 0, none⟩ rfl _ rfl HST.out ?_)
        go_roundw
        case rel =>
          exact ⟨((p / 2 : Nat) : Int), Z, s + s, d, by go_num, by omega, by omega, rfl, hYz, by rw [Int.toNat_natCast]; exact HD.out, HMD.out, HB6.out.row d, below_setRow HBE6.out HBW.out.size d⟩
        case measure => simp [intOf]; omega
    · have hq : q.toNat = 0 := by omega
      have e : Y = G := by have := HZ.out; rw [hq, Nat.mul_zero] at this; exact this
      clear HZ
      go_wp2_with fail
      go_ret
      exact ⟨by rw [← e]; rfl, HBE.out⟩
theorem zerosN_lt (S n : Nat) (h : S < 4294967296) : zerosN S n < 4294967296 := ones_lt _ (zn_lt _ _ (ones_lt S h))
theorem zeros_any (S : Nat) (n : Int) (w : World) (hS : S < 4294967296) (h0 : -9223372036854775808 ≤ n) (h1 : n ≤ 9223372036854775807) :
    Calls Tryd.prog 14 #[.int .u32 S, .int .i64 n] w fun e w' => e = .returned (.int .u32 (zerosN S n.toNat : Nat)) ∧ Below w.heap.size w w' := by
  have hu := u32_unsigned
  have hN := not_word S hS
  have hR := ones_lt S hS
  have HE : Hid (zerosN S n.toNat = zn (8 * n.toNat) (S ^^^ ones32) ^^^ ones32) := rfl
  generalize S ^^^ ones32 = R at *
  go_enter Tryd.func14, Tryd.ntmps14
  go_wp2_with fail
  refine (behind_any R n w hR h0 h1).mono ?_
  rintro e w1 ⟨rfl, hb⟩
  have hZ := zn_lt (8 * n.toNat) R hR
  have hN2 := not_word (zn (8 * n.toNat) R) hZ
  rw [← HE.out] at hN2
  generalize zn (8 * n.toNat) R = Z at *
  clear hN
  go_wp2_with fail
  go_ret
  exact ⟨rfl, hb⟩
theorem join_any (X Y : Nat) (n : Int) (w : World) (hX : X < 4294967296) (hY : Y < 4294967296) (h0 : -9223372036854775808 ≤ n) (h1 : n ≤ 9223372036854775807) :
    Calls Tryd.prog 15 #[.int .u32 X, .int .u32 Y, .int .i64 n] w fun e w' => e = .returned (.int .u32 (zn (8 * n.toNat) X ^^^ Y : Nat)) ∧ Below w.heap.size w w' := by
  go_enter Tryd.func15, Tryd.ntmps15
  go_wp2_with fail
  refine (behind_any X n w hX h0 h1).mono ?_
  rintro e w1 ⟨rfl, hb⟩
  have hZ := zn_lt (8 * n.toNat) X hX
  have hx := u32_xor_nat (zn (8 * n.toNat) X) Y hZ hY
  go_wp2_with fail
  go_ret
  exact ⟨rfl, hb⟩
end Go.Proofs.YtlfcgdcahfcanaaDoor
