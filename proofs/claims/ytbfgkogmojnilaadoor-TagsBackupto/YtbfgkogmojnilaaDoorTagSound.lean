/-
  The document's Sound.
-/
import Derived.Test.YtbfgkogmojnilaaDoorTagSame
import Derived.Test.YtbfgkogmojnilaaDoorLabelClean
namespace Go.Proofs.YtbfgkogmojnilaaDoor
open Go.ChangeShapes Go.WideShapes Go.ChangeAt Go.RowKit
set_option linter.unusedVariables false
set_option linter.unusedSimpArgs false
def tagOK (t : ByteArray × ByteArray) : Bool := decide (1 ≤ t.1.size) && decide (t.1.size ≤ 64) && decide (t.2.size ≤ 64) && cleanN (txt t.1) && cleanN (txt t.2)
def leB (s t : ByteArray) : Bool := Op.bytesLess s.toList t.toList || (s.toList == t.toList)
def soundF : Option ByteArray → List (ByteArray × ByteArray) → Bool
  | _, [] => true
  | none, t :: ts => tagOK t && soundF (some t.1) ts
  | some q, t :: ts => tagOK t && !leB t.1 q && soundF (some t.1) ts
def soundB (ts : List (ByteArray × ByteArray)) : Bool := decide (ts.length ≤ 8) && soundF none ts
theorem str_leq (t : TypeId) (a b : ByteArray) : binOp .leq t (.string a) (.string b) = pure (.bool (leB a b)) := by
  unfold leB
  simp [binOp, Op.stringOp]
/-- The one ahead of a place. -/
def prevB (ts : List (ByteArray × ByteArray)) (i : Nat) : Option ByteArray := match i with | 0 => none | i + 1 => some (tagAt ts i).1
set_option maxRecDepth 100000 in
set_option maxHeartbeats 8000000 in
theorem rsound_any (a : Option Addr) (len cap : Nat) (ts : List (ByteArray × ByteArray)) (w : World) (ht : RowT w a ts) (hl : ts.length = len) (hlb : len ≤ 9223372036854775806) (hsh : Short ts) :
    Calls Tryd.prog 12 #[.slice a len cap] w fun e w' => e = .returned (.bool (soundB ts)) ∧ ∃ n, w' = w.drewN n := by
  by_cases h8 : 8 < len
  · have i8 : (8 : Int) < (len : Int) := by omega
    have HS : Hid (soundB ts = false) := by unfold Hid soundB; rw [decide_eq_false (by omega)]; rfl
    clear h8 ht hsh
    go_enter Tryd.func12, Tryd.ntmps12
    go_wp2_with fail
    go_ret
    exact ⟨by rw [HS.out]; rfl, 0, rfl⟩
  · have i8 : ¬ (8 : Int) < (len : Int) := by omega
    have HSB : Hid (soundB ts = soundF none ts) := by unfold Hid soundB; rw [decide_eq_true (by omega)]; rfl
    have HR : Hid (RowT w a ts) := ht
    have HL : Hid (ts.length = len) := hl
    have HSH : Hid (Short ts) := hsh
    clear ht hl hsh h8
    go_enter Tryd.func12, Tryd.ntmps12
    go_wp2_with fail
    go_loopw [3] (fun ix wr => ∃ (wz : World) (i m : Nat), wz = wr ∧ i ≤ len ∧ ix = .int .i64 i ∧ soundB ts = soundF (prevB ts i) (ts.drop i) ∧ wz = w.drewN m) (fun ix _ => len - (intOf ix).toNat)
    case atStart => exact ⟨_, 0, 0, rfl, Nat.zero_le _, rfl, HSB.out, rfl⟩
    case round =>
      clear HSB
      obtain ⟨wr, i, m, hwr, hi, rfl, hg, hwm⟩ := hrel
      subst hwr
      have HG : Hid (soundB ts = soundF (prevB ts i) (ts.drop i)) := hg
      have HWM : Hid (wr = w.drewN m) := hwm
      have hbw : Below w.heap.size w wr := below_some ⟨m, hwm⟩
      have HR2 := HR.out.below hbw
      clear hg hwm hbw
      by_cases hlt : i < len
      · have hii : (i : Int) < (len : Int) := by omega
        have hil : i < ts.length := by rw [HL.out]; exact hlt
        obtain ⟨z1, z2⟩ := HSH.out i hil
        rcases HR2 with h0 | ⟨g, off, ha, hblt, hc⟩
        · omega
        · subst ha
          obtain ⟨c0, c1⟩ := hc i hil
          have HDC : Hid (ts.drop i = tagAt ts i :: ts.drop (i + 1)) := dropT_cons ts i hil
          have HPV : Hid (prevB ts (i + 1) = some (tagAt ts i).1) := rfl
          have HNO : Hid (tagOK (tagAt ts i) = false → soundB ts = false) := fun h => by
            rw [HG.out, HDC.out]
            cases prevB ts i with
            | none => rw [soundF, h]; rfl
            | some q => rw [soundF, h]; rfl
          have HOK : Hid (tagOK (tagAt ts i) = (decide (1 ≤ (tagAt ts i).1.size) && decide ((tagAt ts i).1.size ≤ 64) && decide ((tagAt ts i).2.size ≤ 64) && cleanN (txt (tagAt ts i).1) && cleanN (txt (tagAt ts i).2))) := rfl
          have HCP : Hid (∀ k, i = k + 1 → wr.cell? ⟨g, off + k * 2, none⟩ = some (.string (tagAt ts k).1)) := fun k hk => (hc k (by omega)).1
          generalize ht : tagAt ts i = t at *
          have HC1 : Hid (t.1.size ≤ 64 → Calls Tryd.prog 25 #[.string t.1] wr fun e w' => e = .returned (.bool (cleanN (txt t.1))) ∧ w' = wr) := fun h => rclean_any t.1 wr (by omega)
          have HC2 : Hid (t.2.size ≤ 64 → Calls Tryd.prog 25 #[.string t.2] wr fun e w' => e = .returned (.bool (cleanN (txt t.2))) ∧ w' = wr) := fun h => rclean_any t.2 wr (by omega)
          clear hc
          by_cases q1 : 1 ≤ t.1.size
          · have j1 : ¬ (t.1.size : Int) < 1 := by omega
            by_cases q2 : t.1.size ≤ 64
            · have j2 : ¬ (64 : Int) < (t.1.size : Int) := by omega
              by_cases q3 : t.2.size ≤ 64
              · have j3 : ¬ (64 : Int) < (t.2.size : Int) := by omega
                rw [decide_eq_true q1, decide_eq_true q2, decide_eq_true q3] at HOK
                have HD1 : Hid _ := HC1.out q2
                have HD2 : Hid _ := HC2.out q3
                generalize cleanN (txt t.1) = y1 at *
                generalize cleanN (txt t.2) = y2 at *
                clear HC1 HC2 q1 q2 q3
                cases y1 with
                | false =>
                  have HS2 : Hid (soundB ts = false) := HNO.out (by rw [HOK.out]; rfl)
                  clear HNO HOK HG HDC HCP
                  go_wp2_with fail
                  refine Calls.mono HD1.out ?_
                  rintro _ w' ⟨rfl, hw⟩
                  replace hw := hw.symm
                  subst hw
                  clear HD1 HD2
                  go_wp2_with fail
                  go_ret
                  exact ⟨by rw [HS2.out]; rfl, m, HWM.out⟩
                | true =>
                  cases y2 with
                  | false =>
                    have HS2 : Hid (soundB ts = false) := HNO.out (by rw [HOK.out]; rfl)
                    clear HNO HOK HG HDC HCP
                    go_wp2_with fail
                    refine Calls.mono HD1.out ?_
                    rintro _ w' ⟨rfl, hw⟩
                    replace hw := hw.symm
                    subst hw
                    clear HD1
                    go_wp2_with fail
                    refine Calls.mono HD2.out ?_
                    rintro _ w' ⟨rfl, hw⟩
                    replace hw := hw.symm
                    subst hw
                    clear HD2
                    go_wp2_with fail
                    go_ret
                    exact ⟨by rw [HS2.out]; rfl, m, HWM.out⟩
                  | true =>
                    have HOKT : Hid (tagOK t = true) := by unfold Hid; rw [HOK.out]; rfl
                    by_cases hz : i = 0
                    · have hzi : ¬ (0 : Int) < (i : Int) := by omega
                      have hzd : decide (0 < i) = false := decide_eq_false (by omega)
                      have HS2 : Hid (soundB ts = soundF (prevB ts (i + 1)) (ts.drop (i + 1))) := by
                        unfold Hid
                        rw [HG.out, HDC.out, HPV.out]
                        conv => lhs; rw [hz]
                        show soundF none (t :: _) = _
                        rw [soundF, HOKT.out, Bool.true_and, hz]
                      clear HNO HOK HG HDC HCP hz
                      go_wp2_with fail
                      refine Calls.mono HD1.out ?_
                      rintro _ w' ⟨rfl, hw⟩
                      replace hw := hw.symm
                      subst hw
                      clear HD1
                      go_wp2_with fail
                      refine Calls.mono HD2.out ?_
                      rintro _ w' ⟨rfl, hw⟩
                      replace hw := hw.symm
                      subst hw
                      clear HD2
                      go_wp2_with fail
                      go_quiet (fail)
                      have HB : Hid (wr.drewN nq = w.drewN (m + nq)) := by unfold Hid; rw [HWM.out, drewN_add]
                      go_wp2_with fail
                      go_roundw
                      case rel => exact ⟨_, i + 1, m + nq, rfl, by omega, by go_num, HS2.out, HB.out⟩
                      case measure => simp [intOf]; omega
                    · have hzi : (0 : Int) < (i : Int) := by omega
                      have hzd : decide (0 < i) = true := decide_eq_true (by omega)
                      obtain ⟨k, hk⟩ : ∃ k, i = k + 1 := ⟨i - 1, by omega⟩
                      have hki : (i : Int) - 1 = (k : Int) := by omega
                      have hkl : (k : Int) < (len : Int) := by omega
                      have cp := HCP.out k hk
                      have HST : Hid (soundB ts = (!leB t.1 (tagAt ts k).1 && soundF (prevB ts (i + 1)) (ts.drop (i + 1)))) := by
                        unfold Hid
                        rw [HG.out, HDC.out, HPV.out, show prevB ts i = some (tagAt ts k).1 by rw [hk]; rfl, soundF, HOKT.out, Bool.true_and]
                      generalize tagAt ts k = s at *
                      have hle := str_leq 9 t.1 s.1
                      clear HNO HOK HG HDC HCP hz hk
                      cases hq : leB t.1 s.1 with
                      | true =>
                        rw [hq] at hle
                        have HS2 : Hid (soundB ts = false) := by unfold Hid; rw [HST.out, hq]; rfl
                        clear HST hq
                        go_wp2_with fail
                        refine Calls.mono HD1.out ?_
                        rintro _ w' ⟨rfl, hw⟩
                        replace hw := hw.symm
                        subst hw
                        clear HD1
                        go_wp2_with fail
                        refine Calls.mono HD2.out ?_
                        rintro _ w' ⟨rfl, hw⟩
                        replace hw := hw.symm
                        subst hw
                        clear HD2
                        go_wp2_with fail
                        go_quiet (fail)
                        have HB : Hid (∃ n, wr.drewN nq = w.drewN n) := ⟨m + nq, by rw [HWM.out, drewN_add]⟩
                        generalize wr.drewN nq = wd at *
                        go_wp2_with fail
                        go_ret
                        exact ⟨by rw [HS2.out]; rfl, HB.out⟩
                      | false =>
                        rw [hq] at hle
                        have HS2 : Hid (soundB ts = soundF (prevB ts (i + 1)) (ts.drop (i + 1))) := by unfold Hid; rw [HST.out, hq]; rfl
                        clear HST hq
                        go_wp2_with fail
                        refine Calls.mono HD1.out ?_
                        rintro _ w' ⟨rfl, hw⟩
                        replace hw := hw.symm
                        subst hw
                        clear HD1
                        go_wp2_with fail
                        refine Calls.mono HD2.out ?_
                        rintro _ w' ⟨rfl, hw⟩
                        replace hw := hw.symm
                        subst hw
                        clear HD2
                        go_wp2_with fail
                        go_quiet (fail)
                        have HB : Hid (wr.drewN nq = w.drewN (m + nq)) := by unfold Hid; rw [HWM.out, drewN_add]
                        go_wp2_with fail
                        go_roundw
                        case rel => exact ⟨_, i + 1, m + nq, rfl, by omega, by go_num, HS2.out, HB.out⟩
                        case measure => simp [intOf]; omega
              · have j3 : (64 : Int) < (t.2.size : Int) := by omega
                have HS2 : Hid (soundB ts = false) := HNO.out (by rw [HOK.out, decide_eq_false q3]; simp)
                clear HNO HOK HG HDC HCP HC1 HC2 q1 q2 q3
                go_wp2_with fail
                go_ret
                exact ⟨by rw [HS2.out]; rfl, m, HWM.out⟩
            · have j2 : (64 : Int) < (t.1.size : Int) := by omega
              have HS2 : Hid (soundB ts = false) := HNO.out (by rw [HOK.out, decide_eq_false q2]; simp)
              clear HNO HOK HG HDC HCP HC1 HC2 q1 q2
              go_wp2_with fail
              go_ret
              exact ⟨by rw [HS2.out]; rfl, m, HWM.out⟩
          · have j1 : (t.1.size : Int) < 1 := by omega
            have HS2 : Hid (soundB ts = false) := HNO.out (by rw [HOK.out, decide_eq_false q1]; simp)
            clear HNO HOK HG HDC HCP HC1 HC2 q1
            go_wp2_with fail
            go_ret
            exact ⟨by rw [HS2.out]; rfl, m, HWM.out⟩
      · have hii : ¬ (i : Int) < (len : Int) := by omega
        have HS2 : Hid (soundB ts = true) := by
          unfold Hid
          rw [HG.out, show i = ts.length by rw [HL.out]; omega, List.drop_length]
          cases prevB ts ts.length <;> rfl
        go_wp2_with fail
        go_ret
        exact ⟨by rw [HS2.out]; rfl, m, HWM.out⟩
end Go.Proofs.YtbfgkogmojnilaaDoor
