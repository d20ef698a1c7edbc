/-
  The document's Seconds of any date.
-/
import Derived.Test.YtfgdfdjoidpejaaDoorWhenRef
import Derived.Test.YtfgdfdjoidpejaaDoorWords
import Derived.Deep.QuietTactic
import Derived.BigQuiet
import Derived.Below
namespace Go.Proofs.YtfgdfdjoidpejaaDoor
open Go.ChangeShapes Go.WideShapes Go.ChangeAt Go.RowKit
set_option linter.unusedVariables false
set_option linter.unusedSimpArgs false
/-- A date as a value. -/
def dateV (y mo d h mi s : Int) : Value := .agg #[.int .i64 y, .int .i64 mo, .int .i64 d, .int .i64 h, .int .i64 mi, .int .i64 s]
theorem date_cells (w : World) (y mo d h mi s : Int) :
    (w.alloc (.cells #[.int .i64 y, .int .i64 mo, .int .i64 d, .int .i64 h, .int .i64 mi, .int .i64 s] 28)).cell? ⟨w.heap.size, 0, none⟩ = some (.int .i64 y) ∧
    (w.alloc (.cells #[.int .i64 y, .int .i64 mo, .int .i64 d, .int .i64 h, .int .i64 mi, .int .i64 s] 28)).cell? ⟨w.heap.size, 1, none⟩ = some (.int .i64 mo) ∧
    (w.alloc (.cells #[.int .i64 y, .int .i64 mo, .int .i64 d, .int .i64 h, .int .i64 mi, .int .i64 s] 28)).cell? ⟨w.heap.size, 2, none⟩ = some (.int .i64 d) ∧
    (w.alloc (.cells #[.int .i64 y, .int .i64 mo, .int .i64 d, .int .i64 h, .int .i64 mi, .int .i64 s] 28)).cell? ⟨w.heap.size, 3, none⟩ = some (.int .i64 h) ∧
    (w.alloc (.cells #[.int .i64 y, .int .i64 mo, .int .i64 d, .int .i64 h, .int .i64 mi, .int .i64 s] 28)).cell? ⟨w.heap.size, 4, none⟩ = some (.int .i64 mi) ∧
    (w.alloc (.cells #[.int .i64 y, .int .i64 mo, .int .i64 d, .int .i64 h, .int .i64 mi, .int .i64 s] 28)).cell? ⟨w.heap.size, 5, none⟩ = some (.int .i64 s) := by
  refine ⟨?_, ?_, ?_, ?_, ?_, ?_⟩ <;> simp [go_sem]
set_option maxRecDepth 100000 in
set_option maxHeartbeats 4000000 in
theorem rsec_good (y mo d h mi s : Nat) (w : World) (hk : OkD y mo d h mi s) :
    Calls Tryd.prog 10 #[dateV y mo d h mi s] w fun e w' => e = .returned (.tuple #[.int .i64 ((secN y mo d h mi s : Int) - 62135596800), .int .i64 0]) ∧ Below w.heap.size w w' := by
  have HK : Hid (OkD y mo d h mi s) := hk
  obtain ⟨y1, y2, m1, m2, d1, d2, h2, i2, s2⟩ := hk
  have HL : Hid (∀ W, Calls Tryd.prog 30 #[.int .i64 (y : Nat), .int .i64 (mo : Nat)] W fun e w' => e = .returned (.int .i64 (lenN y mo : Nat)) ∧ w' = W) := fun W => length_any y mo W (by omega) (by omega)
  have HLB := (len_bound y mo).2
  have HLN : Hid (lenN y mo = lenN y mo) := rfl
  generalize lenN y mo = ln at *
  have t1 : decide ((y : Int) < 1) = false := decide_eq_false (by omega)
  have t2 : decide ((9999 : Int) < (y : Int)) = false := decide_eq_false (by omega)
  have t3 : decide ((mo : Int) < 1) = false := decide_eq_false (by omega)
  have t4 : decide ((12 : Int) < (mo : Int)) = false := decide_eq_false (by omega)
  have t5 : decide ((d : Int) < 1) = false := decide_eq_false (by omega)
  have t6 : decide (ln < d) = false := decide_eq_false (by omega)
  have t6' : decide ((ln : Int) < (d : Int)) = false := decide_eq_false (by omega)
  have t7 : decide ((h : Int) < 0) = false := decide_eq_false (by omega)
  have t8 : decide ((23 : Int) < (h : Int)) = false := decide_eq_false (by omega)
  have t9 : decide ((mi : Int) < 0) = false := decide_eq_false (by omega)
  have t10 : decide ((59 : Int) < (mi : Int)) = false := decide_eq_false (by omega)
  have t11 : decide ((s : Int) < 0) = false := decide_eq_false (by omega)
  have t12 : decide ((59 : Int) < (s : Int)) = false := decide_eq_false (by omega)
  unfold dateV
  go_enter Tryd.func10, Tryd.ntmps10
  go_wp2
  obtain ⟨c0, c1, c2, c3, c4, c5⟩ := date_cells w (y : Int) (mo : Int) (d : Int) (h : Int) (mi : Int) (s : Int)
  have HB : Hid _ := below_new w (.cells #[.int .i64 (y : Int), .int .i64 (mo : Int), .int .i64 (d : Int), .int .i64 (h : Int), .int .i64 (mi : Int), .int .i64 (s : Int)] 28)
  generalize (w.alloc (.cells #[.int .i64 (y : Int), .int .i64 (mo : Int), .int .i64 (d : Int), .int .i64 (h : Int), .int .i64 (mi : Int), .int .i64 (s : Int)] 28)) = w1 at *
  generalize hg : w.heap.size = g at *
  have HG : Hid (w.heap.size = g) := hg
  clear hg
  go_quiet ((go_at_call 30; exact Calls.quiet_of_same (HL.out _)))
  replace c0 : (w1.drewN nq).cell? ⟨g, 0, none⟩ = some (.int .i64 (y : Int)) := c0
  replace c1 : (w1.drewN nq).cell? ⟨g, 1, none⟩ = some (.int .i64 (mo : Int)) := c1
  replace c2 : (w1.drewN nq).cell? ⟨g, 2, none⟩ = some (.int .i64 (d : Int)) := c2
  replace c3 : (w1.drewN nq).cell? ⟨g, 3, none⟩ = some (.int .i64 (h : Int)) := c3
  replace c4 : (w1.drewN nq).cell? ⟨g, 4, none⟩ = some (.int .i64 (mi : Int)) := c4
  replace c5 : (w1.drewN nq).cell? ⟨g, 5, none⟩ = some (.int .i64 (s : Int)) := c5
  replace HB : Hid (Below g w (w1.drewN nq)) := HB.out.trans ⟨rfl, rfl, rfl, Nat.le_refl _, fun _ _ => rfl⟩
  generalize w1.drewN nq = w2 at *
  clear t1 t2 t3 t4 t5 t6 t6' t7 t8 t9 t10 t11 t12
  obtain ⟨D, hD⟩ : ∃ D, D = d - 1 := ⟨_, rfl⟩
  have hDi : (d : Int) - 1 = (D : Int) := by omega
  have hDb : D ≤ 30 := by omega
  have HD : Hid (D = d - 1) := hD
  clear hD HL
  go_wp2
  go_loop [4, 5] (fun nv yv => ∃ k n : Nat, k + 1 ≤ y ∧ yv = .int .i64 ((k : Int) + 1) ∧ nv = .int .i64 n ∧ n = D + dbk k) (fun _ yv => y - (intOf yv).toNat)
  case atStart => exact ⟨0, D, by omega, rfl, rfl, rfl⟩
  case round =>
    obtain ⟨k, n, hk, rfl, rfl, hn⟩ := hrel
    have hmono := dbk_mono (a := k) (b := 9999) (by omega)
    rw [last_day] at hmono
    have hnb : n ≤ 4000000 := by omega
    have HN : Hid (n = D + dbk k) := hn
    clear hn hmono
    by_cases hlt : k + 1 < y
    · have hli : (k : Int) + 1 < (y : Int) := by omega
      have HY : Hid _ := year_any (k + 1) w2 (by omega)
      have hyb : yearN (k + 1) ≤ 366 := by rcases year_two (k + 1) with h' | h' <;> omega
      have HN2 : Hid (n + yearN (k + 1) = D + dbk (k + 1)) := by unfold Hid; rw [HN.out, dbk]; omega
      generalize yearN (k + 1) = yn at *
      go_wp2_with fail
      refine Calls.mono HY.out ?_
      rintro _ w' ⟨rfl, hw⟩
      replace hw := hw.symm
      subst hw
      clear HY
      go_wp2_with fail
      go_round
      case rel => exact ⟨k + 1, n + yn, by omega, by go_num, by go_num, HN2.out⟩
      case measure => simp [intOf]; omega
    · have hli : ¬ (k : Int) + 1 < (y : Int) := by omega
      have HNY : Hid (n = D + dbk (y - 1)) := by unfold Hid; rw [HN.out, show k = y - 1 by omega]
      clear HN
      go_wp2_with fail
      go_loop [4, 6] (fun nv mv => ∃ j n : Nat, j + 1 ≤ mo ∧ mv = .int .i64 ((j : Int) + 1) ∧ nv = .int .i64 n ∧ n = D + dbk (y - 1) + dmk y j) (fun _ mv => mo - (intOf mv).toNat)
      case atStart => exact ⟨0, n, by omega, rfl, rfl, HNY.out⟩
      case round =>
        clear HNY
        obtain ⟨j, n, hj, rfl, rfl, hn⟩ := hrel
        have hmono := dbk_mono (a := y - 1) (b := 9999) (by omega)
        rw [last_day] at hmono
        have hmm := dmk_mono y (a := j) (b := 12) (by omega)
        rw [dmk_year] at hmm
        have hyb : yearN y ≤ 366 := by rcases year_two y with h' | h' <;> omega
        have hnb : n ≤ 4000000 := by omega
        have HN : Hid (n = D + dbk (y - 1) + dmk y j) := hn
        clear hn hmono hmm hyb
        by_cases hlt : j + 1 < mo
        · have hli : (j : Int) + 1 < (mo : Int) := by omega
          have HY : Hid _ := length_any y (j + 1) w2 (by omega) (by omega)
          have hlb := (len_bound y (j + 1)).2
          have HN2 : Hid (n + lenN y (j + 1) = D + dbk (y - 1) + dmk y (j + 1)) := by unfold Hid; rw [HN.out, dmk]; omega
          generalize lenN y (j + 1) = yn at *
          go_wp2_with fail
          refine Calls.mono HY.out ?_
          rintro _ w' ⟨rfl, hw⟩
          replace hw := hw.symm
          subst hw
          clear HY
          go_wp2_with fail
          go_round
          case rel => exact ⟨j + 1, n + yn, by omega, by go_num, by go_num, HN2.out⟩
          case measure => simp [intOf]; omega
        · have hli : ¬ (j : Int) + 1 < (mo : Int) := by omega
          have HS : Hid (secN y mo d h mi s = n * 86400 + (h * 3600 + mi * 60 + s)) := by
            unfold Hid secN dayN
            rw [HN.out, show j = mo - 1 by omega, HD.out]
            omega
          have HS2 : Hid (((secN y mo d h mi s : Nat) : Int) = (n : Int) * 86400 + ((h : Int) * 3600 + (mi : Int) * 60 + (s : Int))) := by unfold Hid; rw [HS.out]; simp
          clear HN HS
          go_wp2_with fail
          go_ret2
          refine ⟨?_, ?_⟩
          · rw [HS2.out]
            rfl
          · rw [HG.out]
            exact HB.out
end Go.Proofs.YtfgdfdjoidpejaaDoor
