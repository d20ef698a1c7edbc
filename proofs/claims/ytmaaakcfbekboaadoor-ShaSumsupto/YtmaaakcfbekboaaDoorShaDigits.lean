/-
  Numbers of many digits of 32 bits, the lowest first: what 'times' of the document's answer makes of two.
-/
import Derived.Test.YtmaaakcfbekboaaDoorWords
namespace Go.Proofs.YtmaaakcfbekboaaDoor
open Go.ChangeShapes Go.WideShapes Go.ChangeAt Go.RowKit
set_option linter.unusedVariables false
set_option linter.unusedSimpArgs false
def B32 : Nat := 4294967296
def valN : List Nat → Nat
  | [] => 0
  | c :: l => c + B32 * valN l
theorem valN_set (l : List Nat) : ∀ j x, j < l.length → valN (l.set j x) + l.getD j 0 * B32 ^ j = valN l + x * B32 ^ j := by
  induction l with
  | nil => intro j x h; simp at h
  | cons c l ih =>
    intro j x h
    cases j with
    | zero => simp [valN]; omega
    | succ j =>
      have := ih j x (by simpa using h)
      have e : ((c :: l).getD (j + 1) 0) = l.getD j 0 := rfl
      rw [List.set_cons_succ, valN, valN, e, Nat.pow_succ, ← Nat.mul_assoc, ← Nat.mul_assoc]
      have e2 : B32 * (valN (l.set j x) + l.getD j 0 * B32 ^ j) = B32 * (valN l + x * B32 ^ j) := by rw [this]
      rw [Nat.mul_add, Nat.mul_add] at e2
      have e3 : l.getD j 0 * B32 ^ j * B32 = B32 * (l.getD j 0 * B32 ^ j) := Nat.mul_comm _ _
      have e4 : x * B32 ^ j * B32 = B32 * (x * B32 ^ j) := Nat.mul_comm _ _
      omega
theorem valN_take (l : List Nat) : ∀ i, i < l.length → valN (l.take (i + 1)) = valN (l.take i) + l.getD i 0 * B32 ^ i := by
  induction l with
  | nil => intro i h; simp at h
  | cons c l ih =>
    intro i h
    cases i with
    | zero => simp [valN]
    | succ i =>
      have := ih i (by simpa using h)
      rw [List.take_succ_cons, List.take_succ_cons, valN, valN, this]
      have e : ((c :: l).getD (i + 1) 0) = l.getD i 0 := rfl
      have e4 : l.getD i 0 * (B32 ^ i * B32) = B32 * (l.getD i 0 * B32 ^ i) := by rw [← Nat.mul_assoc, Nat.mul_comm]
      rw [e, Nat.pow_succ, Nat.mul_add, e4]
      omega
theorem valN_zeros (n : Nat) : valN (List.replicate n 0) = 0 := by
  induction n with
  | zero => rfl
  | succ n ih => rw [List.replicate_succ, valN, ih, Nat.mul_zero]
theorem getD_set_other (l : List Nat) (i j x : Nat) (h : i ≠ j) : (l.set i x).getD j 0 = l.getD j 0 := by
  simp [List.getD, List.getElem?_set_ne h]
theorem all_set {l : List Nat} {i x b : Nat} (h : ∀ j, l.getD j 0 < b) (hx : x < b) : ∀ j, (l.set i x).getD j 0 < b := by
  intro j
  by_cases hij : i = j
  · subst hij
    by_cases hi : i < l.length
    · simp [List.getD, hi]; exact hx
    · rw [List.set_eq_of_length_le (by omega)]; exact h i
  · rw [getD_set_other l i j x hij]; exact h j
theorem info_u64 : (Tryd.prog.info? 44).map (fun i => (i.zero, i.size, i.bytes)) = some (some (.int .u64 0), 1, 8) := by kernel_rfl
theorem make_u64 (w : World) (n : Nat) (h : n ≤ 100) :
    Sem.run Tryd.prog (Instr.makeSlice 39 (Value.int IntKind.i64 n) (Value.int IntKind.i64 n)) w = .ok (.slice (some ⟨w.heap.size, 0, none⟩) n n) (w.alloc (.cells (encL .u64 (List.replicate n 0)) 44)) := by
  obtain ⟨i0, hi, hz0, hz1, hz2⟩ := info_parts info_u64
  have := run_make (P := Tryd.prog) w 39 44 i0 (.int .u64 0) Tryd.underlying39 hi hz0 .i64 .i64 n n (by omega) (by omega) (by rw [hz2]; omega) (by omega)
  rw [this, hz1]
  congr 3
  apply Array.toList_inj.1
  simp only [Int.toNat_natCast, Nat.mul_one]
  exact (toList_madeCells_one _ _).trans (by simp [encL])
/-- One digit of the product: what the register holds. -/
theorem digit_step (x y o c : Nat) (hx : x < B32) (hy : y < B32) (ho : o < B32) (hc : c < B32) :
    x * y + o + c < B32 * B32 ∧ (x * y + o + c) / B32 < B32 ∧ (x * y + o + c) % B32 < B32 := by
  have h1 : x * y ≤ (B32 - 1) * (B32 - 1) := Nat.mul_le_mul (by omega) (by omega)
  have h2 : x * y + o + c < B32 * B32 := by
    have : (B32 - 1) * (B32 - 1) + (B32 - 1) + (B32 - 1) < B32 * B32 := by decide
    omega
  refine ⟨h2, ?_, Nat.mod_lt _ (by decide)⟩
  exact Nat.div_lt_of_lt_mul h2
theorem low32 (t : Nat) (h : t < 18446744073709551616) : bits .and .u64 (t : Int) 4294967295 = ((t % B32 : Nat) : Int) := by
  have := u64_and_nat t 4294967295 h (by decide)
  rw [show t &&& 4294967295 = t % B32 from Nat.and_two_pow_sub_one_eq_mod t 32] at this
  exact this
theorem zeros_getD (n j : Nat) : (List.replicate n 0).getD j 0 = 0 := by
  rw [List.getD_eq_getElem?_getD, List.getElem?_replicate]
  split <;> rfl
theorem inner_step (vM vM' vL o t c x y P V Pp : Nat) (h1 : vM' + o * P = vM + (t % B32) * P) (h2 : vM + c * P = vL + x * V * Pp) (ht : t = x * y + o + c) :
    vM' + (t / B32) * (P * B32) = vL + x * V * Pp + x * y * P := by
  have e1 : t * P = (t / B32) * (P * B32) + (t % B32) * P := by
    conv => lhs; rw [← Nat.div_add_mod t B32]
    rw [Nat.add_mul, Nat.mul_comm B32 (t / B32), Nat.mul_assoc, Nat.mul_comm B32 P]
  have e2 : t * P = x * y * P + o * P + c * P := by rw [ht, Nat.add_mul, Nat.add_mul]
  omega
theorem outer_sum (x V y Q Pp : Nat) : x * (V + y * Q) * Pp = x * V * Pp + x * y * (Pp * Q) := by
  rw [Nat.mul_add, Nat.add_mul, Nat.mul_assoc x (y * Q), Nat.mul_assoc x y, Nat.mul_assoc y Q, Nat.mul_comm Q]
set_option maxHeartbeats 4000000 in
theorem times_any (a b : Option Addr) (la lb ca cb : Nat) (A B : List Nat) (w : World) (ha : RowL .u64 w a la A) (hb : RowL .u64 w b lb B) (hl : la + lb ≤ 100) (hA : ∀ j, A.getD j 0 < B32) (hB : ∀ j, B.getD j 0 < B32) :
    Calls Tryd.prog 26 #[.slice a la ca, .slice b lb cb] w fun e w' => ∃ L, e = .returned (.slice (some ⟨w.heap.size, 0, none⟩) (la + lb) (la + lb)) ∧ Blk w' w.heap.size 44 .u64 L ∧ L.length = la + lb ∧ (∀ j, L.getD j 0 < B32) ∧ valN L = valN A * valN B ∧ Below w.heap.size w w' := by
  have HRA : Hid (RowL .u64 w a la A) := ha
  have HRB : Hid (RowL .u64 w b lb B) := hb
  have HA : Hid (∀ j, A.getD j 0 < B32) := hA
  have HB : Hid (∀ j, B.getD j 0 < B32) := hB
  have hAl : A.length = la := ha.1
  have hBl : B.length = lb := hb.1
  have hmk := make_u64 w (la + lb) hl
  rw [show ((la + lb : Nat) : Int) = (la : Int) + (lb : Int) by omega] at hmk
  clear ha hb hA hB
  go_enter Tryd.func26, Tryd.ntmps26
  go_wp2
  clear hmk
  go_loopw [6] (fun i wr => ∃ (p : Nat) (L : List Nat), p ≤ la ∧ i = .int .i64 p ∧ L.length = la + lb ∧ (∀ j, L.getD j 0 < B32) ∧ (∀ j, p + lb ≤ j → L.getD j 0 = 0) ∧ valN L = valN (A.take p) * valN B ∧ Blk wr w.heap.size 44 .u64 L ∧ Below w.heap.size w wr) (fun i _ => la - (intOf i).toNat)
  case atStart =>
    refine ⟨0, List.replicate (la + lb) 0, Nat.zero_le _, rfl, List.length_replicate, ?_, ?_, ?_, Blk.new w _ _ _, below_new w _⟩
    · intro j; rw [zeros_getD]; decide
    · intro j _; exact zeros_getD _ j
    · rw [valN_zeros]; simp [valN]
  case round =>
    obtain ⟨p, L, hp, rfl, hLl, hLb, hLz, hLv, hblk, hbe⟩ := hrel
    rename_i wr _
    have HL : Hid (L.length = la + lb ∧ (∀ j, L.getD j 0 < B32) ∧ (∀ j, p + lb ≤ j → L.getD j 0 = 0) ∧ valN L = valN (A.take p) * valN B) := ⟨hLl, hLb, hLz, hLv⟩
    have HBK : Hid (Blk wr w.heap.size 44 .u64 L) := hblk
    have HBE : Hid (Below w.heap.size w wr) := hbe
    clear hLl hLb hLz hLv hblk hbe
    by_cases hlt : p < la
    · obtain ⟨ba, oa, hae, hba, hca⟩ := RowL.at HRA.out p hlt
      subst hae
      have hx := HA.out p
      obtain ⟨x, hxe⟩ : ∃ x, x = A.getD p 0 := ⟨_, rfl⟩
      have HX : Hid (x = A.getD p 0) := hxe
      have HCA : Hid (w.cell? ⟨ba, oa + p, none⟩ = some (.int .u64 (x : Nat)) ∧ ba < w.heap.size) := ⟨by rw [hxe]; exact hca p hlt, hba⟩
      rw [← hxe] at hx
      clear hca hxe hba
      go_wp2
      go_loopw [7, 8] (fun cr i wq => ∃ (wz : World) (q c : Nat) (M : List Nat), wz = wq ∧ q ≤ lb ∧ i = .int .i64 q ∧ cr = .int .u64 c ∧ c < B32 ∧ M.length = la + lb ∧ (∀ j, M.getD j 0 < B32) ∧ (∀ j, p + lb ≤ j → M.getD j 0 = 0) ∧ valN M + c * B32 ^ (p + q) = valN L + x * valN (B.take q) * B32 ^ p ∧ Blk wq w.heap.size 44 .u64 M ∧ Below w.heap.size w wq) (fun _ i _ => lb - (intOf i).toNat)
      case atStart =>
        exact ⟨wr, 0, 0, L, rfl, Nat.zero_le _, rfl, rfl, by decide, HL.out.1, HL.out.2.1, HL.out.2.2.1, by simp [valN], HBK.out, HBE.out⟩
      case round =>
        obtain ⟨wq, q, c, M, hwq, hq, rfl, rfl, hc, hMl, hMb, hMz, hMv, hblk, hbe⟩ := hrel
        subst hwq
        have HM : Hid (M.length = la + lb ∧ (∀ j, M.getD j 0 < B32) ∧ (∀ j, p + lb ≤ j → M.getD j 0 = 0) ∧ valN M + c * B32 ^ (p + q) = valN L + x * valN (B.take q) * B32 ^ p) := ⟨hMl, hMb, hMz, hMv⟩
        have HBK2 : Hid (Blk wq w.heap.size 44 .u64 M) := hblk
        have HBE2 : Hid (Below w.heap.size w wq) := hbe
        have hca : wq.cell? ⟨ba, oa + p, none⟩ = some (.int .u64 (x : Nat)) := (hbe.cell (p := ⟨ba, oa + p, none⟩) HCA.out.2).trans HCA.out.1
        clear hMl hMb hMz hMv hblk hbe HBK HBE
        by_cases hltq : q < lb
        · obtain ⟨bb, ob, hbe', hbb, hcb0⟩ := RowL.at HRB.out q hltq
          subst hbe'
          have hcb : wq.cell? ⟨bb, ob + q, none⟩ = some (.int .u64 (B.getD q 0 : Nat)) := (HBE2.out.cell (p := ⟨bb, ob + q, none⟩) hbb).trans (hcb0 q hltq)
          have hco : wq.cell? ⟨w.heap.size, p + q, none⟩ = some (.int .u64 (M.getD (p + q) 0 : Nat)) := HBK2.out.cell (p + q) (by have := HM.out.1; omega)
          have hfr := HBK2.out.frozen (p + q)
          have hy := HB.out q
          have ho := HM.out.2.1 (p + q)
          have hds := digit_step x (B.getD q 0) (M.getD (p + q) 0) c hx hy ho hc
          have HV1 : Hid (valN (B.take (q + 1)) = valN (B.take q) + B.getD q 0 * B32 ^ q) := valN_take B q (by omega)
          have HV2 : Hid (∀ d, valN (M.set (p + q) d) + M.getD (p + q) 0 * B32 ^ (p + q) = valN M + d * B32 ^ (p + q)) := fun d => valN_set M (p + q) d (by have := HM.out.1; omega)
          clear hcb0 hbb
          generalize B.getD q 0 = y at *
          generalize M.getD (p + q) 0 = o at *
          obtain ⟨z, hz⟩ : ∃ z, z = x * y := ⟨_, rfl⟩
          have hzi : (x : Int) * (y : Int) = (z : Int) := by rw [hz]; simp
          have HZ : Hid (z = x * y) := hz
          rw [← hz] at hds
          clear hz
          obtain ⟨t, htt⟩ : ∃ t, t = z + o + c := ⟨_, rfl⟩
          have hti : (z : Int) + (o : Int) + (c : Int) = (t : Int) := by omega
          have HTT : Hid (t = z + o + c) := htt
          rw [← htt] at hds
          have ht64 : t < 18446744073709551616 := hds.1
          have hz64 : z < 18446744073709551616 := by omega
          have hzo64 : z + o < 18446744073709551616 := by omega
          have hlow := low32 t ht64
          have hhi : (t : Int) / 4294967296 = ((t / B32 : Nat) : Int) := by unfold B32; omega
          have HD : Hid (t / B32 < B32 ∧ t % B32 < B32) := hds.2
          clear hds htt
          have hpi : (p : Int) < (la : Int) := by omega
          have hqi : (q : Int) < (lb : Int) := by omega
          have hpqi : (p : Int) + (q : Int) < (la : Int) + (lb : Int) := by omega
          go_wp2
          go_quiet (fail)
          go_wp2
          rw [← Int.natCast_emod, ← Int.natCast_ediv]
          go_roundw
          case rel =>
            refine ⟨_, q + 1, t / B32, M.set (p + q) (t % B32), rfl, by omega, by go_num, rfl, HD.out.1, by rw [List.length_set]; exact HM.out.1, all_set HM.out.2.1 HD.out.2, ?_, ?_, (HBK2.out.drewN nq).set _ _, Below.setCell (below_drew HBE2.out nq) (Nat.le_refl _) _⟩
            · intro j hj
              rw [getD_set_other _ _ _ _ (by omega)]
              exact HM.out.2.2.1 j hj
            · have hi := inner_step (valN M) (valN (M.set (p + q) (t % B32))) (valN L) o t c x y (B32 ^ (p + q)) (valN (B.take q)) (B32 ^ p) (HV2.out _) HM.out.2.2.2 (by rw [HTT.out, HZ.out])
              rw [HV1.out, outer_sum, ← Nat.pow_add, ← Nat.add_assoc p q 1, Nat.pow_succ B32 (p + q)]
              omega
          case measure => simp [intOf]; omega
        · obtain rfl : lb = q := by omega
          have hco : wq.cell? ⟨w.heap.size, p + lb, none⟩ = some (.int .u64 (M.getD (p + lb) 0 : Nat)) := HBK2.out.cell (p + lb) (by have := HM.out.1; omega)
          rw [HM.out.2.2.1 (p + lb) (Nat.le_refl _)] at hco
          have hfr := HBK2.out.frozen (p + lb)
          have hpqi : (p : Int) + (lb : Int) < (la : Int) + (lb : Int) := by omega
          have hc64 : c < 18446744073709551616 := by unfold B32 at hc; omega
          clear hca
          go_wp2
          go_roundw
          case rel =>
            have hM := HM.out
            have hset := valN_set M (p + lb) c (by have := HM.out.1; omega)
            rw [hM.2.2.1 (p + lb) (Nat.le_refl _), Nat.zero_mul, Nat.add_zero, hM.2.2.2, HL.out.2.2.2] at hset
            have hBt : B.take lb = B := by rw [← hBl, List.take_length]
            refine ⟨p + 1, M.set (p + lb) c, by omega, by go_num, by rw [List.length_set]; exact hM.1, all_set hM.2.1 hc, ?_, ?_, HBK2.out.set _ _, Below.setCell HBE2.out (Nat.le_refl _) _⟩
            · intro j hj
              rw [getD_set_other _ _ _ _ (by omega)]
              exact hM.2.2.1 j (by omega)
            · rw [hset, valN_take A p (by omega), ← HX.out, hBt, Nat.add_mul, Nat.mul_assoc x, Nat.mul_comm (valN B), Nat.mul_assoc x]
          case measure => simp [intOf]; omega
    · obtain rfl : la = p := by omega
      go_wp2
      go_ret
      have hAt : A.take la = A := by rw [← hAl, List.take_length]
      exact ⟨L, rfl, HBK.out, HL.out.1, HL.out.2.1, by rw [HL.out.2.2.2, hAt], HBE.out⟩
end Go.Proofs.YtmaaakcfbekboaaDoor
