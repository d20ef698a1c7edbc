/-
  The document's Fields of any moment.
-/
import Derived.Test.YtfgdfdjoidpejaaDoorWhenSec
import Derived.Test.YtfgdfdjoidpejaaDoorStructs
namespace Go.Proofs.YtfgdfdjoidpejaaDoor
open Go.ChangeShapes Go.WideShapes Go.ChangeAt Go.RowKit
set_option linter.unusedVariables false
set_option linter.unusedSimpArgs false
theorem dateT : AggT 28 6 := ⟨by kernel_rfl, _, Tryd.underlying28, rfl⟩
theorem date_enc (y mo d h mi s : Nat) : dateV y mo d h mi s = .agg (encL .i64 [y, mo, d, h, mi, s]) := rfl
theorem rfld_bad (t : Int) (w : World) (h : t < -62135596800 ∨ 253402300799 < t) :
    Calls Tryd.prog 12 #[.int .i64 t] w fun e w' => e = .returned (.tuple #[dateV 0 0 0 0 0 0, .int .i64 4]) ∧ Below w.heap.size w w' := by
  have HZ : Hid (Blk (w.alloc (.cells #[.int .i64 0, .int .i64 0, .int .i64 0, .int .i64 0, .int .i64 0, .int .i64 0] 28)) w.heap.size 28 .i64 [0, 0, 0, 0, 0, 0]) := Blk.new w _ .i64 [0, 0, 0, 0, 0, 0]
  have HST : Hid _ := agg_store HZ.out dateT rfl (m := [0, 0, 0, 0, 0, 0]) rfl
  have HE : Hid (Below w.heap.size w ((w.alloc (.cells #[.int .i64 0, .int .i64 0, .int .i64 0, .int .i64 0, .int .i64 0, .int .i64 0] 28)).setRow w.heap.size (encL .i64 [0, 0, 0, 0, 0, 0]))) := below_row (below_new w _) (Nat.le_refl _) _
  have HLD : Hid _ := agg_load (HZ.out.setRow [0, 0, 0, 0, 0, 0]) dateT rfl
  by_cases h1 : t < -62135596800
  · clear h
    go_enter Tryd.func12, Tryd.ntmps12
    go_wp2_with (refine store_op rfl 28 _ _ rfl ⟨w.heap.size, 0, none⟩ rfl _ rfl HST.out ?_)
    refine bodyPost_ret (v := .tuple #[dateV 0 0 0 0 0 0, .int .i64 4]) ?_ rfl ⟨rfl, HE.out⟩
    refine (results_ct (fn := Tryd.f12) rfl _ _ _ w.heap.size ?_ _ HLD.out).trans ?_ <;> rfl
  · have h2 : 253402300799 < t := by omega
    clear h
    go_enter Tryd.func12, Tryd.ntmps12
    go_wp2_with (refine store_op rfl 28 _ _ rfl ⟨w.heap.size, 0, none⟩ rfl _ rfl HST.out ?_)
    refine bodyPost_ret (v := .tuple #[dateV 0 0 0 0 0 0, .int .i64 4]) ?_ rfl ⟨rfl, HE.out⟩
    refine (results_ct (fn := Tryd.f12) rfl _ _ _ w.heap.size ?_ _ HLD.out).trans ?_ <;> rfl
set_option maxHeartbeats 4000000 in
theorem rfld_good (T : Nat) (t : Int) (w : World) (ht : t + 62135596800 = (T : Int)) (h9 : T < 315537897600) :
    Calls Tryd.prog 12 #[.int .i64 t] w fun e w' => (∃ y mo d h mi s : Nat, e = .returned (.tuple #[dateV y mo d h mi s, .int .i64 0]) ∧ OkD y mo d h mi s ∧ secN y mo d h mi s = T) ∧ Below w.heap.size w w' := by
  have h1 : ¬ t < -62135596800 := by omega
  have h2 : ¬ 253402300799 < t := by omega
  obtain ⟨Q, hQ⟩ : ∃ Q, Q = T / 86400 := ⟨_, rfl⟩
  obtain ⟨R, hR⟩ : ∃ R, R = T % 86400 := ⟨_, rfl⟩
  have hQi : (T : Int) / 86400 = (Q : Int) := by omega
  have hRi : (T : Int) % 86400 = (R : Int) := by omega
  have hRt : (T : Int).tmod 86400 = (R : Int) := by rw [Int.tmod_eq_emod_of_nonneg (by omega)]; exact hRi
  have HQ : Hid (Q = T / 86400) := hQ
  have HR : Hid (R = T % 86400) := hR
  have hQb : Q < 3652059 := by omega
  have hRb : R < 86400 := by omega
  clear hQ hR
  go_enter Tryd.func12, Tryd.ntmps12
  go_wp2
  have HB0 : Hid (Blk ((w.alloc (.cells #[.int .i64 0, .int .i64 0, .int .i64 0, .int .i64 0, .int .i64 0, .int .i64 0] 28)).alloc (.cells #[.int .i64 1, .int .i64 1, .int .i64 0, .int .i64 ((R : Int) / 3600), .int .i64 ((R : Int) % 3600 / 60), .int .i64 ((R : Int) % 60)] 28)) w.heap.size 28 .i64 [0, 0, 0, 0, 0, 0]) := (Blk.new w 28 .i64 [0, 0, 0, 0, 0, 0]).alloc _
  have HD0 : Hid (Blk ((w.alloc (.cells #[.int .i64 0, .int .i64 0, .int .i64 0, .int .i64 0, .int .i64 0, .int .i64 0] 28)).alloc (.cells #[.int .i64 1, .int .i64 1, .int .i64 0, .int .i64 ((R : Int) / 3600), .int .i64 ((R : Int) % 3600 / 60), .int .i64 ((R : Int) % 60)] 28)) (w.heap.size + 1) 28 .i64 [1, 1, 0, R / 3600, R % 3600 / 60, R % 60]) := by
    have := Blk.new (w.alloc (.cells #[.int .i64 0, .int .i64 0, .int .i64 0, .int .i64 0, .int .i64 0, .int .i64 0] 28)) 28 .i64 [1, 1, 0, R / 3600, R % 3600 / 60, R % 60]
    have e : (w.alloc (.cells #[.int .i64 0, .int .i64 0, .int .i64 0, .int .i64 0, .int .i64 0, .int .i64 0] 28)).heap.size = w.heap.size + 1 := by simp
    rw [e] at this
    exact this
  have HBE : Hid (Below w.heap.size w ((w.alloc (.cells #[.int .i64 0, .int .i64 0, .int .i64 0, .int .i64 0, .int .i64 0, .int .i64 0] 28)).alloc (.cells #[.int .i64 1, .int .i64 1, .int .i64 0, .int .i64 ((R : Int) / 3600), .int .i64 ((R : Int) % 3600 / 60), .int .i64 ((R : Int) % 60)] 28))) := Below.alloc (below_new w _) (by simp) _
  generalize ((w.alloc (.cells #[.int .i64 0, .int .i64 0, .int .i64 0, .int .i64 0, .int .i64 0, .int .i64 0] 28)).alloc (.cells #[.int .i64 1, .int .i64 1, .int .i64 0, .int .i64 ((R : Int) / 3600), .int .i64 ((R : Int) % 3600 / 60), .int .i64 ((R : Int) % 60)] 28)) = w1 at *
  clear h1 h2 hQi hRi hRt
  go_loopw [4] (fun nv wr => ∃ (wz : World) (k n : Nat), wz = wr ∧ nv = .int .i64 n ∧ Q = n + dbk k ∧ Blk wz w.heap.size 28 .i64 [0, 0, 0, 0, 0, 0] ∧ Blk wz (w.heap.size + 1) 28 .i64 [k + 1, 1, 0, R / 3600, R % 3600 / 60, R % 60] ∧ Below w.heap.size w wz) (fun nv _ => (intOf nv).toNat)
  case atStart => exact ⟨_, 0, Q, rfl, rfl, rfl, HB0.out, HD0.out, HBE.out⟩
  case round =>
    clear HB0 HD0 HBE
    obtain ⟨wr, k, n, hwr, rfl, hn, hb0, hd0, hbe⟩ := hrel
    subst hwr
    have HN : Hid (Q = n + dbk k) := hn
    have HB0 : Hid (Blk wr w.heap.size 28 .i64 [0, 0, 0, 0, 0, 0]) := hb0
    have HD0 : Hid (Blk wr (w.heap.size + 1) 28 .i64 [k + 1, 1, 0, R / 3600, R % 3600 / 60, R % 60]) := hd0
    have HBE : Hid (Below w.heap.size w wr) := hbe
    have c0 : wr.cell? ⟨w.heap.size + 1, 0, none⟩ = some (.int .i64 ((k + 1 : Nat) : Int)) := hd0.cell 0 (by simp)
    have hfr : wr.frozen? ⟨w.heap.size + 1, 0, none⟩ = false := hd0.frozen 0
    have hkb : k < 9999 := by
      rcases Nat.lt_or_ge k 9999 with h | h
      · exact h
      · have := dbk_mono h
        rw [last_day] at this
        omega
    have hnb : n < 3652059 := by omega
    clear hn hb0 hd0 hbe
    have HY : Hid _ := year_any (k + 1) wr (by omega)
    have hyb : 365 ≤ yearN (k + 1) ∧ yearN (k + 1) ≤ 366 := by rcases year_two (k + 1) with h' | h' <;> omega
    have HDB : Hid (dbk (k + 1) = dbk k + yearN (k + 1)) := rfl
    generalize yearN (k + 1) = yn at *
    by_cases hge : yn ≤ n
    · have hgi : (yn : Int) ≤ (n : Int) := by omega
      go_wp2_with fail
      refine Calls.mono HY.out ?_
      rintro _ w' ⟨rfl, hw⟩
      replace hw := hw.symm
      subst hw
      go_wp2_with fail
      refine Calls.mono HY.out ?_
      rintro _ w' ⟨rfl, hw⟩
      replace hw := hw.symm
      subst hw
      clear HY
      have HN2 : Hid (Q = n - yn + dbk (k + 1)) := by have := HN.out; have := HDB.out; unfold Hid; omega
      clear HN HDB
      go_wp2_with fail
      refine ⟨⟨_, k + 1, n - yn, rfl, by congr 1; omega, HN2.out, HB0.out.other (by omega) 0 _, HD0.out.set 0 (k + 1 + 1), Below.setCell HBE.out (by show w.heap.size ≤ w.heap.size + 1; omega) _⟩, by simp [intOf]; omega⟩
    · have hgi : ¬ (yn : Int) ≤ (n : Int) := by omega
      have HYR : Hid (dbk k ≤ Q ∧ Q < dbk (k + 1)) := by have := HN.out; have := HDB.out; refine ⟨by omega, by omega⟩
      have HYN : Hid (n < yearN (k + 1)) := by have := HYR.out.2; have := HN.out; rw [dbk] at *; unfold Hid; omega
      clear HDB
      go_wp2_with fail
      refine Calls.mono HY.out ?_
      rintro _ w' ⟨rfl, hw⟩
      replace hw := hw.symm
      subst hw
      clear HY
      go_wp2_with fail
      go_loopw [4] (fun nv wr => ∃ (wz : World) (j m : Nat), wz = wr ∧ nv = .int .i64 m ∧ n = m + dmk (k + 1) j ∧ Blk wz w.heap.size 28 .i64 [0, 0, 0, 0, 0, 0] ∧ Blk wz (w.heap.size + 1) 28 .i64 [k + 1, j + 1, 0, R / 3600, R % 3600 / 60, R % 60] ∧ Below w.heap.size w wz) (fun nv _ => (intOf nv).toNat)
      case atStart => exact ⟨_, 0, n, rfl, rfl, rfl, HB0.out, HD0.out, HBE.out⟩
      case round =>
        clear HB0 HD0 HBE c0 hfr
        obtain ⟨wr, j, m, hwr, rfl, hm, hb0, hd0, hbe⟩ := hrel
        subst hwr
        have HM : Hid (n = m + dmk (k + 1) j) := hm
        have HB0 : Hid (Blk wr w.heap.size 28 .i64 [0, 0, 0, 0, 0, 0]) := hb0
        have HD0 : Hid (Blk wr (w.heap.size + 1) 28 .i64 [k + 1, j + 1, 0, R / 3600, R % 3600 / 60, R % 60]) := hd0
        have HBE : Hid (Below w.heap.size w wr) := hbe
        have c0 : wr.cell? ⟨w.heap.size + 1, 0, none⟩ = some (.int .i64 ((k + 1 : Nat) : Int)) := hd0.cell 0 (by simp)
        have c1 : wr.cell? ⟨w.heap.size + 1, 1, none⟩ = some (.int .i64 ((j + 1 : Nat) : Int)) := hd0.cell 1 (by simp)
        have hfr : wr.frozen? ⟨w.heap.size + 1, 1, none⟩ = false := hd0.frozen 1
        have hfr2 : wr.frozen? ⟨w.heap.size + 1, 2, none⟩ = false := hd0.frozen 2
        have hjb : j < 12 := by
          rcases Nat.lt_or_ge j 12 with h | h
          · exact h
          · have := dmk_mono (k + 1) h
            rw [dmk_year] at this
            have := HYN.out
            omega
        have hmb : m < 3652059 := by omega
        clear hm hb0 hd0 hbe
        have HY : Hid _ := length_any (k + 1) (j + 1) wr (by omega) (by omega)
        have hlb := len_bound (k + 1) (j + 1)
        have HDB : Hid (dmk (k + 1) (j + 1) = dmk (k + 1) j + lenN (k + 1) (j + 1)) := rfl
        generalize lenN (k + 1) (j + 1) = ln at *
        by_cases hge2 : ln ≤ m
        · have hgi2 : (ln : Int) ≤ (m : Int) := by omega
          have HM2 : Hid (n = m - ln + dmk (k + 1) (j + 1)) := by have := HM.out; have := HDB.out; unfold Hid; omega
          clear HM HDB
          go_wp2_with fail
          refine Calls.mono HY.out ?_
          rintro _ w' ⟨rfl, hw⟩
          replace hw := hw.symm
          subst hw
          go_wp2_with fail
          refine Calls.mono HY.out ?_
          rintro _ w' ⟨rfl, hw⟩
          replace hw := hw.symm
          subst hw
          clear HY
          go_wp2_with fail
          refine ⟨⟨_, j + 1, m - ln, rfl, by congr 1; omega, HM2.out, HB0.out.other (by omega) 1 _, HD0.out.set 1 (j + 1 + 1), Below.setCell HBE.out (by show w.heap.size ≤ w.heap.size + 1; omega) _⟩, by simp [intOf]; omega⟩
        · have hgi2 : ¬ (ln : Int) ≤ (m : Int) := by omega
          have HMR : Hid (dmk (k + 1) j ≤ n ∧ n < dmk (k + 1) (j + 1)) := by have := HM.out; have := HDB.out; refine ⟨by omega, by omega⟩
          clear HDB
          go_wp2_with fail
          refine Calls.mono HY.out ?_
          rintro _ w' ⟨rfl, hw⟩
          replace hw := hw.symm
          subst hw
          clear HY
          have c2 : wr.cell? ⟨w.heap.size + 1, 2, none⟩ = some (.int .i64 0) := HD0.out.cell 2 (by simp)
          have HD2 : Hid (Blk (wr.setCell ⟨w.heap.size + 1, 2, none⟩ (.int .i64 ((m : Int) + 1))) (w.heap.size + 1) 28 .i64 [k + 1, j + 1, m + 1, R / 3600, R % 3600 / 60, R % 60]) := HD0.out.set 2 (m + 1)
          have HB2 : Hid (Blk (wr.setCell ⟨w.heap.size + 1, 2, none⟩ (.int .i64 ((m : Int) + 1))) w.heap.size 28 .i64 [0, 0, 0, 0, 0, 0]) := HB0.out.other (by omega) 2 _
          have HE2 : Hid (Below w.heap.size w (wr.setCell ⟨w.heap.size + 1, 2, none⟩ (.int .i64 ((m : Int) + 1)))) := Below.setCell HBE.out (by show w.heap.size ≤ w.heap.size + 1; omega) _
          have HLD : Hid _ := agg_load HD2.out dateT rfl
          have HST : Hid _ := agg_store HB2.out dateT rfl (m := [k + 1, j + 1, m + 1, R / 3600, R % 3600 / 60, R % 60]) rfl
          have HLR : Hid _ := agg_load (HB2.out.setRow [k + 1, j + 1, m + 1, R / 3600, R % 3600 / 60, R % 60]) dateT rfl
          have HE3 : Hid _ := below_row HE2.out (Nat.le_refl _) (encL .i64 [k + 1, j + 1, m + 1, R / 3600, R % 3600 / 60, R % 60])
          have HDT : Hid (OkD (k + 1) (j + 1) (m + 1) (R / 3600) (R % 3600 / 60) (R % 60) ∧ secN (k + 1) (j + 1) (m + 1) (R / 3600) (R % 3600 / 60) (R % 60) = T) := by
            have e1 := HYR.out
            have e2 := HMR.out
            have e3 := HN.out
            have e4 := HM.out
            have eQ := HQ.out
            have eR := HR.out
            have := date_of (T := T) (j := k) (i := j) (by omega) (by omega) h9 (by omega) (by omega)
            rw [show T / 86400 - dbk k - dmk (k + 1) j + 1 = m + 1 by omega, ← eR] at this
            exact this
          clear HYR HMR HN HM HQ HR HB0 HD0 HBE HD2 HB2 HE2
          go_wp2_with (first
            | (refine load_op rfl 28 _ rfl ⟨w.heap.size + 1, 0, none⟩ rfl _ HLD.out ?_)
            | (refine store_op rfl 28 _ _ rfl ⟨w.heap.size, 0, none⟩ rfl _ rfl HST.out ?_))
          refine bodyPost_ret (v := .tuple #[dateV (k + 1 : Nat) (j + 1 : Nat) (m + 1 : Nat) (R / 3600 : Nat) (R % 3600 / 60 : Nat) (R % 60 : Nat), .int .i64 0]) ?_ rfl ⟨⟨_, _, _, _, _, _, rfl, HDT.out⟩, HE3.out⟩
          refine (results_ct (fn := Tryd.f12) rfl _ _ _ w.heap.size ?_ _ HLR.out).trans ?_ <;> rfl
end Go.Proofs.YtfgdfdjoidpejaaDoor
