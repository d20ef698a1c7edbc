/-
  The program's dateOf and Fields.
-/
import Derived.Test.YtfgdfdjoidpejabDoorWhenAhead
import Derived.Test.YtfgdfdjoidpejabDoorWhenClamp
namespace Go.Proofs.YtfgdfdjoidpejabDoor
open Go.ChangeShapes Go.WideShapes Go.ChangeAt Go.RowKit
set_option linter.unusedVariables false
set_option linter.unusedSimpArgs false
theorem date_same (y mo d h mi s : Nat) : dateV y mo d h mi s = .agg (encL .i64 [y, mo, d, h, mi, s]) := rfl
theorem zero_cells : (#[.int .i64 0, .int .i64 0, .int .i64 0, .int .i64 0, .int .i64 0, .int .i64 0] : Array Value) = encL .i64 [0, 0, 0, 0, 0, 0] := rfl
/-- The month that lies in a block. -/
def moOf (w : World) (g : Nat) : Nat := match w.cell? ⟨g, 1, none⟩ with
  | some (.int _ z) => z.toNat
  | _ => 0
theorem moOf_blk {w : World} {g : Nat} {t : TypeId} {y m d h mi s : Nat} (k : Blk w g t .i64 [y, m, d, h, mi, s]) : moOf w g = m := by
  unfold moOf
  rw [k.cell 1 (by simp)]
  simp
set_option maxRecDepth 100000 in
set_option maxHeartbeats 8000000 in
theorem dateof_any (N : Nat) (w : World) (hT : Tab w) (hN : N < 3652059) :
    Calls Tryd.prog 26 #[.int .i64 (N : Nat)] w fun e w' => (∃ k j m : Nat, e = .returned (dateV (k + 1 : Nat) (j + 1 : Nat) (m + 1 : Nat) 0 0 0) ∧ dbk k ≤ N ∧ N < dbk (k + 1) ∧ dmk (k + 1) j ≤ N - dbk k ∧ N - dbk k < dmk (k + 1) (j + 1) ∧ m = N - dbk k - dmk (k + 1) j) ∧ Below w.heap.size w w' := by
  have HY : Hid (∀ W, Calls Tryd.prog 31 #[.int .i64 (N : Nat)] W fun e w' => (∃ k r : Nat, e = .returned (.tuple #[.int .i64 (k + 1 : Nat), .int .i64 (r : Nat)]) ∧ dbk k + r = N ∧ r < yearN (k + 1)) ∧ w' = W) := fun W => yearof_any N W hN
  go_enter Tryd.func26, Tryd.ntmps26
  go_wp2_with fail
  refine Calls.mono (HY.out _) ?_
  rintro _ w' ⟨⟨k, r, rfl, hkr, hry⟩, hw⟩
  replace hw := hw.symm
  subst hw
  have HK : Hid (dbk k + r = N) := hkr
  have HRY : Hid (r < yearN (k + 1)) := hry
  have hkb : k < 9999 := by
    rcases Nat.lt_or_ge k 9999 with h | h
    · exact h
    · have := dbk_mono h
      rw [last_day] at this
      omega
  have hrb : r < 366 := by rcases year_two (k + 1) with h' | h' <;> omega
  clear hkr hry HY
  obtain ⟨y, hy⟩ : ∃ y, y = k + 1 := ⟨_, rfl⟩
  have HYK : Hid (y = k + 1) := hy
  rw [← hy]
  have hyb : y ≤ 9999 := by omega
  clear hy
  go_wp2_with fail
  have HB0 : Hid (Blk ((w.alloc (.cells #[.int .i64 0, .int .i64 0, .int .i64 0, .int .i64 0, .int .i64 0, .int .i64 0] 40)).alloc (.cells #[.int .i64 (y : Int), .int .i64 1, .int .i64 0, .int .i64 0, .int .i64 0, .int .i64 0] 40)) w.heap.size 40 .i64 [0, 0, 0, 0, 0, 0]) := (Blk.new w 40 .i64 [0, 0, 0, 0, 0, 0]).alloc _
  have HD0 : Hid (Blk ((w.alloc (.cells #[.int .i64 0, .int .i64 0, .int .i64 0, .int .i64 0, .int .i64 0, .int .i64 0] 40)).alloc (.cells #[.int .i64 (y : Int), .int .i64 1, .int .i64 0, .int .i64 0, .int .i64 0, .int .i64 0] 40)) (w.heap.size + 1) 40 .i64 [y, 0 + 1, 0, 0, 0, 0]) := by
    have := Blk.new (w.alloc (.cells #[.int .i64 0, .int .i64 0, .int .i64 0, .int .i64 0, .int .i64 0, .int .i64 0] 40)) 40 .i64 [y, 1, 0, 0, 0, 0]
    have e : (w.alloc (.cells #[.int .i64 0, .int .i64 0, .int .i64 0, .int .i64 0, .int .i64 0, .int .i64 0] 40)).heap.size = w.heap.size + 1 := by simp
    rw [e] at this
    exact this
  have HBE : Hid (Below w.heap.size w ((w.alloc (.cells #[.int .i64 0, .int .i64 0, .int .i64 0, .int .i64 0, .int .i64 0, .int .i64 0] 40)).alloc (.cells #[.int .i64 (y : Int), .int .i64 1, .int .i64 0, .int .i64 0, .int .i64 0, .int .i64 0] 40))) := Below.alloc (below_new w _) (by simp) _
  have HTB : Hid _ := hT.own HBE.out
  have HT0 : Hid (0 < w.heap.size) := hT.1
  generalize ((w.alloc (.cells #[.int .i64 0, .int .i64 0, .int .i64 0, .int .i64 0, .int .i64 0, .int .i64 0] 40)).alloc (.cells #[.int .i64 (y : Int), .int .i64 1, .int .i64 0, .int .i64 0, .int .i64 0, .int .i64 0] 40)) = w1 at *
  clear hT
  go_loopw [] (fun wr => ∃ (wz : World) (j : Nat), wz = wr ∧ j < 12 ∧ dmk y j ≤ r ∧ Blk wz w.heap.size 40 .i64 [0, 0, 0, 0, 0, 0] ∧ Blk wz (w.heap.size + 1) 40 .i64 [y, j + 1, 0, 0, 0, 0] ∧ Below w.heap.size w wz ∧ Tab wz) (fun wr => 13 - moOf wr (w.heap.size + 1))
  case atStart => exact ⟨_, 0, rfl, by decide, Nat.zero_le _, HB0.out, HD0.out, HBE.out, HTB.out⟩
  case round =>
    clear HB0 HD0 HBE HTB
    obtain ⟨wr, j, hwr, hj, hdj, hb0, hd0, hbe, htb⟩ := hrel
    subst hwr
    have HM0 : Hid (moOf wr (w.heap.size + 1) = j + 1) := moOf_blk hd0
    have HB0 : Hid (Blk wr w.heap.size 40 .i64 [0, 0, 0, 0, 0, 0]) := hb0
    have HBE : Hid (Below w.heap.size w wr) := hbe
    have c1 : wr.cell? ⟨w.heap.size + 1, 1, none⟩ = some (.int .i64 ((j + 1 : Nat) : Int)) := hd0.cell 1 (by simp)
    have HLD : Hid _ := agg_load hd0 whenT rfl
    have HD0 : Hid (Blk wr (w.heap.size + 1) 40 .i64 [y, j + 1, 0, 0, 0, 0]) := hd0
    have HTB : Hid (Tab wr) := htb
    obtain ⟨m, hm⟩ : ∃ m, m = j + 1 := ⟨_, rfl⟩
    obtain ⟨m1, hm1⟩ : ∃ m1, m1 = m + 1 := ⟨_, rfl⟩
    have hm1i : (m : Int) + 1 = (m1 : Int) := by omega
    have hmb : m ≤ 12 := by omega
    rw [← hm] at c1 HLD HD0
    have HA1 : Hid (Calls Tryd.prog 30 #[.agg (encL .i64 [y, m, 0, 0, 0, 0]), .int .i64 (m1 : Nat)] wr fun e w' => e = .returned (.int .i64 (dmk y m : Nat)) ∧ Below wr.heap.size wr w') := by
      have := ahead_any y m 0 0 0 0 m1 wr htb (by omega) (by omega) (by omega)
      rw [show m1 - 1 = m by omega] at this
      exact this
    have HA0 : Hid (∀ W, Tab W → Calls Tryd.prog 30 #[.agg (encL .i64 [y, m, 0, 0, 0, 0]), .int .i64 (m : Nat)] W fun e w' => e = .returned (.int .i64 (dmk y (m - 1) : Nat)) ∧ Below W.heap.size W w') := fun W hW => ahead_any y m 0 0 0 0 m W hW (by omega) (by omega) (by omega)
    have HDM : Hid (dmk y (m - 1) ≤ r) := by unfold Hid; rw [hm]; exact hdj
    have hdb := dmk_mono y (a := m) (b := 12) (by omega)
    rw [dmk_year] at hdb
    have hyy : yearN y ≤ 366 := by rcases year_two y with h' | h' <;> omega
    have hdb' : dmk y m ≤ 366 := by omega
    have HDX : Hid (¬ dmk y m ≤ r → m < 12 ∨ m = 12) := fun _ => by omega
    have HRM : Hid (dmk y m ≤ r → m < 12) := fun h' => by
      rcases Nat.lt_or_ge m 12 with h | h
      · exact h
      · have e12 : m = 12 := by omega
        rw [e12, dmk_year, HYK.out] at h'
        have := HRY.out
        omega
    clear hb0 hd0 hbe htb hdb hyy hdj HDX hm1
    have HMJ : Hid (m = j + 1) := hm
    clear hm hj
    obtain ⟨D, hD⟩ : ∃ D, D = dmk y m := ⟨_, rfl⟩
    rw [← hD] at HA1 hdb'
    have HDD : Hid (D = dmk y m) := hD
    clear hD
    by_cases hge : D ≤ r
    · have hgi : (D : Int) ≤ (r : Int) := by omega
      have hm12 : m < 12 := HRM.out (by rw [← HDD.out]; exact hge)
      go_wp2_with (refine load_op rfl 40 _ rfl ⟨w.heap.size + 1, 0, none⟩ rfl _ HLD.out ?_)
      refine Calls.mono HA1.out ?_
      rintro _ w2 ⟨rfl, hb2⟩
      have hd2 := HD0.out.below hb2
      have hb02 := HB0.out.below hb2
      have HB02 : Hid (Blk w2 w.heap.size 40 .i64 [0, 0, 0, 0, 0, 0]) := hb02
      have HD2 : Hid (Blk w2 (w.heap.size + 1) 40 .i64 [y, m, 0, 0, 0, 0]) := hd2
      have HB2 : Hid (Below w.heap.size w w2) := HBE.out.trans (hb2.mono HBE.out.size)
      have HT2 : Hid (Tab w2) := HTB.out.own hb2
      have c12 : w2.cell? ⟨w.heap.size + 1, 1, none⟩ = some (.int .i64 (m : Int)) := hd2.cell 1 (by simp)
      have hfr : w2.frozen? ⟨w.heap.size + 1, 1, none⟩ = false := hd2.frozen 1
      clear hb2 hd2 hb02 HA1 HA0 HLD HD0 HB0 HBE HTB c1
      go_wp2_with fail
      have hset := HD2.out.set 1 m1
      refine ⟨⟨_, m, rfl, hm12, by rw [← HDD.out]; exact hge, HB02.out.other (by omega) 1 _, by rw [show m + 1 = m1 by omega]; exact hset, Below.setCell HB2.out (by show w.heap.size ≤ w.heap.size + 1; omega) _, (HT2.out.below (B := w.heap.size) (Below.setCell (Below.refl _ _) (by show w.heap.size ≤ w.heap.size + 1; omega) _) HT0.out)⟩, ?_⟩
      have e1 := moOf_blk hset
      have e2 := HM0.out
      have e3 := HMJ.out
      rw [e1, e2]
      omega
    · have hgi : ¬ (D : Int) ≤ (r : Int) := by omega
      go_wp2_with (refine load_op rfl 40 _ rfl ⟨w.heap.size + 1, 0, none⟩ rfl _ HLD.out ?_)
      refine Calls.mono HA1.out ?_
      rintro _ w2 ⟨rfl, hb2⟩
      have hd2 := HD0.out.below hb2
      have HB02 : Hid (Blk w2 w.heap.size 40 .i64 [0, 0, 0, 0, 0, 0]) := HB0.out.below hb2
      have HD2 : Hid (Blk w2 (w.heap.size + 1) 40 .i64 [y, m, 0, 0, 0, 0]) := hd2
      have HB2 : Hid (Below w.heap.size w w2) := HBE.out.trans (hb2.mono HBE.out.size)
      have HT2 : Hid (Tab w2) := HTB.out.own hb2
      have HLD2 : Hid _ := agg_load hd2 whenT rfl
      have c12 : w2.cell? ⟨w.heap.size + 1, 1, none⟩ = some (.int .i64 (m : Int)) := hd2.cell 1 (by simp)
      have HA2 : Hid _ := HA0.out w2 HT2.out
      obtain ⟨E, hE⟩ : ∃ E, E = dmk y (m - 1) := ⟨_, rfl⟩
      rw [← hE] at HA2
      have HEE : Hid (E = dmk y (m - 1)) := hE
      have hEr : E ≤ r := by rw [hE]; exact HDM.out
      obtain ⟨u, hu⟩ : ∃ u, u = r - E := ⟨_, rfl⟩
      have hui : (r : Int) - (E : Int) = (u : Int) := by omega
      have hub : u < 366 := by omega
      have HU : Hid (u = r - E) := hu
      clear hb2 hd2 HA1 HA0 HLD HD0 HB0 HBE HTB c1 hE hu
      go_wp2_with (refine load_op rfl 40 _ rfl ⟨w.heap.size + 1, 0, none⟩ rfl _ HLD2.out ?_)
      refine Calls.mono HA2.out ?_
      rintro _ w3 ⟨rfl, hb3⟩
      have hd3 := HD2.out.below hb3
      have HB03 : Hid (Blk w3 w.heap.size 40 .i64 [0, 0, 0, 0, 0, 0]) := HB02.out.below hb3
      have HB3 : Hid (Below w.heap.size w w3) := HB2.out.trans (hb3.mono HB2.out.size)
      have c2 : w3.cell? ⟨w.heap.size + 1, 2, none⟩ = some (.int .i64 0) := hd3.cell 2 (by simp)
      have hfr2 : w3.frozen? ⟨w.heap.size + 1, 2, none⟩ = false := hd3.frozen 2
      have HD4 : Hid (Blk (w3.setCell ⟨w.heap.size + 1, 2, none⟩ (.int .i64 ((u : Int) + 1))) (w.heap.size + 1) 40 .i64 [y, m, u + 1, 0, 0, 0]) := hd3.set 2 (u + 1)
      have HB4 : Hid (Blk (w3.setCell ⟨w.heap.size + 1, 2, none⟩ (.int .i64 ((u : Int) + 1))) w.heap.size 40 .i64 [0, 0, 0, 0, 0, 0]) := HB03.out.other (by omega) 2 _
      have HE4 : Hid (Below w.heap.size w (w3.setCell ⟨w.heap.size + 1, 2, none⟩ (.int .i64 ((u : Int) + 1)))) := Below.setCell HB3.out (by show w.heap.size ≤ w.heap.size + 1; omega) _
      have HLD4 : Hid _ := agg_load HD4.out whenT rfl
      have HST : Hid _ := agg_store HB4.out whenT rfl (m := [y, m, u + 1, 0, 0, 0]) rfl
      have HLR : Hid _ := agg_load (HB4.out.setRow [y, m, u + 1, 0, 0, 0]) whenT rfl
      have HE5 : Hid _ := below_row HE4.out (Nat.le_refl _) (encL .i64 [y, m, u + 1, 0, 0, 0])
      clear hb3 hd3 HA2 HLD2 HD2 HB02 HB2 HT2 HB03 HB3 c12 HD4 HB4 HE4
      have HFIN : Hid (dbk k ≤ N ∧ N < dbk (k + 1) ∧ dmk (k + 1) (m - 1) ≤ N - dbk k ∧ N - dbk k < dmk (k + 1) (m - 1 + 1) ∧ u = N - dbk k - dmk (k + 1) (m - 1)) := by
        have e1 := HK.out
        have e2 := HRY.out
        have e3 := HDD.out
        have e4 := HEE.out
        have e5 := HMJ.out
        have e6 := HU.out
        have e7 := HYK.out
        rw [← e7, ← e4, show m - 1 + 1 = m by omega, ← e3]
        have e8 : dbk y = dbk k + yearN y := by rw [e7, dbk]
        rw [← e7] at e2
        refine ⟨by omega, by omega, by omega, by omega, by omega⟩
      go_wp2_with (first
        | (refine load_op rfl 40 _ rfl ⟨w.heap.size + 1, 0, none⟩ rfl _ HLD4.out ?_)
        | (refine store_op rfl 40 _ _ rfl ⟨w.heap.size, 0, none⟩ rfl _ rfl HST.out ?_))
      have HV : Hid (dateV (y : Int) (m : Int) ((u : Int) + 1) 0 0 0 = dateV ((k + 1 : Nat) : Int) ((m - 1 + 1 : Nat) : Int) ((u + 1 : Nat) : Int) 0 0 0) := by
        unfold Hid
        rw [HYK.out, show m - 1 + 1 = m by have := HMJ.out; omega]
        rfl
      refine bodyPost_ret (v := dateV (y : Int) (m : Int) ((u : Int) + 1) 0 0 0) ?_ rfl ⟨⟨k, m - 1, u, by rw [HV.out], HFIN.out⟩, HE5.out⟩
      refine (results_cell (fn := Tryd.f26) rfl _ _ _).trans ?_
      exact HLR.out
theorem fld_bad (t : Int) (w : World) (h : t < -62135596800 ∨ 253402300799 < t) :
    Calls Tryd.prog 18 #[.int .i64 t] w fun e w' => e = .returned (.tuple #[dateV 0 0 0 0 0 0, .int .i64 4]) ∧ Below w.heap.size w w' := by
  have HZ : Hid (Blk (w.alloc (.cells #[.int .i64 0, .int .i64 0, .int .i64 0, .int .i64 0, .int .i64 0, .int .i64 0] 40)) w.heap.size 40 .i64 [0, 0, 0, 0, 0, 0]) := Blk.new w _ .i64 [0, 0, 0, 0, 0, 0]
  have HST : Hid _ := agg_store HZ.out whenT rfl (m := [0, 0, 0, 0, 0, 0]) rfl
  have HE : Hid (Below w.heap.size w ((w.alloc (.cells #[.int .i64 0, .int .i64 0, .int .i64 0, .int .i64 0, .int .i64 0, .int .i64 0] 40)).setRow w.heap.size (encL .i64 [0, 0, 0, 0, 0, 0]))) := below_row (below_new w _) (Nat.le_refl _) _
  have HLD : Hid _ := agg_load (HZ.out.setRow [0, 0, 0, 0, 0, 0]) whenT rfl
  have HS : Hid (∀ W, Calls Tryd.prog 20 #[.int .i64 t] W fun e w' => e = .returned (.tuple #[.int .i64 0, .int .i64 0, .int .i64 4]) ∧ w' = W) := fun W => split_bad t W h
  clear h
  go_enter Tryd.func18, Tryd.ntmps18
  go_wp2_with fail
  refine Calls.mono (HS.out _) ?_
  rintro _ w' ⟨rfl, hw⟩
  replace hw := hw.symm
  subst hw
  go_wp2_with (refine store_op rfl 40 _ _ rfl ⟨w.heap.size, 0, none⟩ rfl _ rfl HST.out ?_)
  refine bodyPost_ret (v := .tuple #[dateV 0 0 0 0 0 0, .int .i64 4]) ?_ rfl ⟨rfl, HE.out⟩
  refine (results_ct (fn := Tryd.f18) rfl _ _ _ w.heap.size ?_ _ HLD.out).trans ?_ <;> rfl
set_option maxRecDepth 100000 in
set_option maxHeartbeats 8000000 in
theorem fld_good (T : Nat) (t : Int) (w : World) (hT : Tab w) (ht : t + 62135596800 = (T : Int)) (h9 : T < 315537897600) :
    Calls Tryd.prog 18 #[.int .i64 t] w fun e w' => (∃ y mo d h mi s : Nat, e = .returned (.tuple #[dateV y mo d h mi s, .int .i64 0]) ∧ OkD y mo d h mi s ∧ secN y mo d h mi s = T) ∧ Below w.heap.size w w' := by
  have HS : Hid (∀ W, Calls Tryd.prog 20 #[.int .i64 t] W fun e w' => e = .returned (.tuple #[.int .i64 (T / 86400 : Nat), .int .i64 (T % 86400 : Nat), .int .i64 0]) ∧ w' = W) := fun W => split_good T t W ht h9
  obtain ⟨Q, hQ⟩ : ∃ Q, Q = T / 86400 := ⟨_, rfl⟩
  obtain ⟨R, hR⟩ : ∃ R, R = T % 86400 := ⟨_, rfl⟩
  rw [← hQ, ← hR] at HS
  have HQ : Hid (Q = T / 86400) := hQ
  have HR : Hid (R = T % 86400) := hR
  have hQb : Q < 3652059 := by omega
  have hRb : R < 86400 := by omega
  obtain ⟨h, hh⟩ : ∃ h, h = R / 3600 := ⟨_, rfl⟩
  obtain ⟨v, hv⟩ : ∃ v, v = R % 3600 := ⟨_, rfl⟩
  obtain ⟨mi, hmi⟩ : ∃ mi, mi = v / 60 := ⟨_, rfl⟩
  obtain ⟨s, hs⟩ : ∃ s, s = R % 60 := ⟨_, rfl⟩
  have HH : Hid (h = R / 3600 ∧ mi = R % 3600 / 60 ∧ s = R % 60) := ⟨hh, by rw [hmi, hv], hs⟩
  have hhi : (R : Int) / 3600 = (h : Int) := by omega
  have hvi : (R : Int) % 3600 = (v : Int) := by omega
  have hvt : (R : Int).tmod 3600 = (v : Int) := by rw [Int.tmod_eq_emod_of_nonneg (by omega)]; exact hvi
  have hmii : (v : Int) / 60 = (mi : Int) := by omega
  have hsi : (R : Int) % 60 = (s : Int) := by omega
  have hst : (R : Int).tmod 60 = (s : Int) := by rw [Int.tmod_eq_emod_of_nonneg (by omega)]; exact hsi
  have HT0 : Hid (Tab (w.alloc (.cells #[.int .i64 0, .int .i64 0, .int .i64 0, .int .i64 0, .int .i64 0, .int .i64 0] 40))) := hT.own (below_new w _)
  have HDO : Hid _ := dateof_any Q (w.alloc (.cells #[.int .i64 0, .int .i64 0, .int .i64 0, .int .i64 0, .int .i64 0, .int .i64 0] 40)) HT0.out hQb
  have HZ0 : Hid (Blk (w.alloc (.cells #[.int .i64 0, .int .i64 0, .int .i64 0, .int .i64 0, .int .i64 0, .int .i64 0] 40)) w.heap.size 40 .i64 [0, 0, 0, 0, 0, 0]) := Blk.new w _ .i64 [0, 0, 0, 0, 0, 0]
  have HB0 : Hid (Below w.heap.size w (w.alloc (.cells #[.int .i64 0, .int .i64 0, .int .i64 0, .int .i64 0, .int .i64 0, .int .i64 0] 40))) := below_new w _
  clear hQ hR hh hv hmi hs hT ht
  go_enter Tryd.func18, Tryd.ntmps18
  go_wp2_with fail
  refine Calls.mono (HS.out _) ?_
  rintro _ w' ⟨rfl, hw⟩
  replace hw := hw.symm
  subst hw
  go_wp2_with fail
  refine Calls.mono HDO.out ?_
  rintro _ w1 ⟨⟨k, j, m, rfl, hk1, hk2, hj1, hj2, hm⟩, hb1⟩
  have HZ1 : Hid (Blk w1 w.heap.size 40 .i64 [0, 0, 0, 0, 0, 0]) := HZ0.out.below hb1
  have HB1 : Hid (Below w.heap.size w w1) := HB0.out.trans (hb1.mono (by simp))
  have hg1 : w.heap.size < w1.heap.size := HZ1.out.lt
  have HFIN : Hid (OkD (k + 1) (j + 1) (m + 1) h mi s ∧ secN (k + 1) (j + 1) (m + 1) h mi s = T) := by
    obtain ⟨e1, e2, e3⟩ := HH.out
    have eQ := HQ.out
    have eR := HR.out
    rw [eQ] at hk1 hk2 hj1 hj2 hm
    have := date_of hk1 hk2 h9 hj1 hj2
    rw [← hm, ← eR, ← e1, ← e2, ← e3] at this
    exact this
  obtain ⟨y, hy⟩ : ∃ y, y = k + 1 := ⟨_, rfl⟩
  obtain ⟨mo, hmo⟩ : ∃ mo, mo = j + 1 := ⟨_, rfl⟩
  obtain ⟨d, hd⟩ : ∃ d, d = m + 1 := ⟨_, rfl⟩
  rw [← hy, ← hmo, ← hd] at HFIN
  rw [show dateV ((k + 1 : Nat) : Int) ((j + 1 : Nat) : Int) ((m + 1 : Nat) : Int) 0 0 0 = .agg (encL .i64 [y, mo, d, 0, 0, 0]) by rw [← hy, ← hmo, ← hd]; rfl]
  clear hb1 HZ0 HB0 HT0 HDO HS HH HQ HR hk1 hk2 hj1 hj2 hm hy hmo hd
  have HZ2 : Hid (Blk (w1.alloc (.cells #[.int .i64 0, .int .i64 0, .int .i64 0, .int .i64 0, .int .i64 0, .int .i64 0] 40)) w1.heap.size 40 .i64 [0, 0, 0, 0, 0, 0]) := Blk.new w1 _ .i64 [0, 0, 0, 0, 0, 0]
  have HST : Hid _ := agg_store HZ2.out whenT rfl (m := [y, mo, d, 0, 0, 0]) rfl
  have HD2 : Hid _ := HZ2.out.setRow [y, mo, d, 0, 0, 0]
  have HZR : Hid (Blk ((w1.alloc (.cells #[.int .i64 0, .int .i64 0, .int .i64 0, .int .i64 0, .int .i64 0, .int .i64 0] 40)).setRow w1.heap.size (encL .i64 [y, mo, d, 0, 0, 0])) w.heap.size 40 .i64 [0, 0, 0, 0, 0, 0]) := (HZ1.out.alloc _).otherRow (by omega) _
  have HB2 : Hid (Below w.heap.size w ((w1.alloc (.cells #[.int .i64 0, .int .i64 0, .int .i64 0, .int .i64 0, .int .i64 0, .int .i64 0] 40)).setRow w1.heap.size (encL .i64 [y, mo, d, 0, 0, 0]))) := below_row (Below.alloc HB1.out (by omega) _) (by omega) _
  clear HZ1 HB1 HZ2
  have HDV : Hid (Blk ((w1.alloc (.cells #[.int .i64 0, .int .i64 0, .int .i64 0, .int .i64 0, .int .i64 0, .int .i64 0] 40)).setRow w1.heap.size (encL .i64 [y, mo, d, 0, 0, 0])) w1.heap.size 40 .i64 [y, mo, d, 0, 0, 0]) := HD2.out
  clear HD2
  generalize hv0 : ((w1.alloc (.cells #[.int .i64 0, .int .i64 0, .int .i64 0, .int .i64 0, .int .i64 0, .int .i64 0] 40)).setRow w1.heap.size (encL .i64 [y, mo, d, 0, 0, 0])) = v0 at *
  have hd0 : Blk v0 w1.heap.size 40 .i64 [y, mo, d, 0, 0, 0] := HDV.out
  have f3 : v0.frozen? ⟨w1.heap.size, 3, none⟩ = false := hd0.frozen 3
  have c3 : v0.cell? ⟨w1.heap.size, 3, none⟩ = some (.int .i64 0) := hd0.cell 3 (by simp)
  have hd3 := hd0.set 3 h
  have hz3 := HZR.out.other (b := w1.heap.size) (by omega) 3 (.int .i64 (h : Int))
  have hb3 := Below.setCell (p := ⟨w1.heap.size, 3, none⟩) HB2.out (by show w.heap.size ≤ w1.heap.size; omega) (.int .i64 (h : Int))
  have f4 : (v0.setCell ⟨w1.heap.size, 3, none⟩ (.int .i64 (h : Int))).frozen? ⟨w1.heap.size, 4, none⟩ = false := hd3.frozen 4
  have c4 : (v0.setCell ⟨w1.heap.size, 3, none⟩ (.int .i64 (h : Int))).cell? ⟨w1.heap.size, 4, none⟩ = some (.int .i64 0) := hd3.cell 4 (by simp)
  have hd4 := hd3.set 4 mi
  have hz4 := hz3.other (b := w1.heap.size) (by omega) 4 (.int .i64 (mi : Int))
  have hb4 := Below.setCell (p := ⟨w1.heap.size, 4, none⟩) hb3 (by show w.heap.size ≤ w1.heap.size; omega) (.int .i64 (mi : Int))
  have f5 : ((v0.setCell ⟨w1.heap.size, 3, none⟩ (.int .i64 (h : Int))).setCell ⟨w1.heap.size, 4, none⟩ (.int .i64 (mi : Int))).frozen? ⟨w1.heap.size, 5, none⟩ = false := hd4.frozen 5
  have c5 : ((v0.setCell ⟨w1.heap.size, 3, none⟩ (.int .i64 (h : Int))).setCell ⟨w1.heap.size, 4, none⟩ (.int .i64 (mi : Int))).cell? ⟨w1.heap.size, 5, none⟩ = some (.int .i64 0) := hd4.cell 5 (by simp)
  have hd5 := hd4.set 5 s
  have hz5 := hz4.other (b := w1.heap.size) (by omega) 5 (.int .i64 (s : Int))
  have hb5 := Below.setCell (p := ⟨w1.heap.size, 5, none⟩) hb4 (by show w.heap.size ≤ w1.heap.size; omega) (.int .i64 (s : Int))
  have HLD5 : Hid _ := agg_load hd5 whenT rfl
  have HST5 : Hid _ := agg_store hz5 whenT rfl (m := [y, mo, d, h, mi, s]) rfl
  have HLR : Hid _ := agg_load (hz5.setRow [y, mo, d, h, mi, s]) whenT rfl
  have HE5 : Hid _ := below_row hb5 (Nat.le_refl _) (encL .i64 [y, mo, d, h, mi, s])
  clear hd0 hd3 hz3 hb3 hd4 hz4 hb4 hd5 hz5 hb5 HDV HZR HB2 hv0
  go_wp2_with (first
    | (refine store_op rfl 40 _ _ rfl ⟨w1.heap.size, 0, none⟩ rfl _ rfl HST.out ?_)
    | (refine load_op rfl 40 _ rfl ⟨w1.heap.size, 0, none⟩ rfl _ HLD5.out ?_)
    | (refine store_op rfl 40 _ _ rfl ⟨w.heap.size, 0, none⟩ rfl _ rfl HST5.out ?_))
  refine bodyPost_ret (v := .tuple #[dateV y mo d h mi s, .int .i64 0]) ?_ rfl ⟨⟨y, mo, d, h, mi, s, rfl, HFIN.out⟩, HE5.out⟩
  refine (results_ct (fn := Tryd.f18) rfl _ _ _ w.heap.size ?_ _ HLR.out).trans ?_ <;> rfl
end Go.Proofs.YtfgdfdjoidpejabDoor
