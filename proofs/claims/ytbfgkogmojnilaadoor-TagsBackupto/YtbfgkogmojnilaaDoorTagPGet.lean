/-
  The program's Get, isTwice.
-/
import Derived.Test.YtbfgkogmojnilaaDoorTagOverN
import Derived.Test.YtbfgkogmojnilaaDoorInS
namespace Go.Proofs.YtbfgkogmojnilaaDoor
open Go.ChangeShapes Go.WideShapes Go.ChangeAt Go.RowKit
set_option linter.unusedVariables false
set_option linter.unusedSimpArgs false
set_option maxHeartbeats 1000000 in
theorem tget_any (a : Option Addr) (len cap : Nat) (ts : List (ByteArray × ByteArray)) (nm : ByteArray) (w : World) (hr : RowT w a ts) (hl : ts.length = len) (hlb : len ≤ 9223372036854775806) :
    Calls Tryd.prog 18 #[.slice a len cap, .string nm] w fun e w' => e = .returned (optT (getB ts nm)) ∧ Below w.heap.size w w' := by
  have HR : Hid (RowT w a ts) := hr
  have HL : Hid (ts.length = len) := hl
  clear hr hl
  go_enter Tryd.func18, Tryd.ntmps18
  go_wp2_with fail
  go_loopw [10] (fun ix wr => ∃ (wz : World) (i : Nat), wz = wr ∧ i ≤ len ∧ ix = .int .i64 i ∧ getB ts nm = getB (ts.drop i) nm ∧ Below w.heap.size w wz) (fun ix _ => len - (intOf ix).toNat)
  case atStart => exact ⟨_, 0, rfl, Nat.zero_le _, rfl, rfl, Below.refl _ _⟩
  case round =>
    obtain ⟨wr, i, hwr, hi, rfl, hg, hbw⟩ := hrel
    subst hwr
    have HG : Hid (getB ts nm = getB (ts.drop i) nm) := hg
    have HBW : Hid (Below w.heap.size w wr) := hbw
    have HR2 := HR.out.below hbw
    clear hg hbw
    by_cases hlt : i < len
    · have hii : (i : Int) < (len : Int) := by omega
      have hil : i < ts.length := by rw [HL.out]; exact hlt
      rcases HR2 with h0 | ⟨b, off, ha, hblt, hc⟩
      · omega
      · subst ha
        obtain ⟨c0, c1⟩ := hc i hil
        have HST : Hid (getB ts nm = if eqB (tagAt ts i).1 nm then some (tagAt ts i).2 else getB (ts.drop (i + 1)) nm) := by unfold Hid; rw [HG.out, dropT_cons ts i hil, getB]
        generalize tagAt ts i = t at *
        obtain ⟨t1, t2⟩ := t
        have heq := str_same t1 nm
        have HBN : Hid (Below w.heap.size w (wr.alloc (.cells #[.string t1, .string t2] 40))) := HBW.out.trans ((below_new wr _).mono HBW.out.size)
        clear hc HG HR hblt
        cases he : eqB t1 nm with
        | true =>
          rw [he] at heq
          have HS2 : Hid (getB ts nm = some t2) := by unfold Hid; rw [HST.out, he]; rfl
          clear HST he
          go_wp2_with fail
          go_ret2
          exact ⟨by rw [HS2.out]; rfl, HBN.out⟩
        | false =>
          rw [he] at heq
          have HS2 : Hid (getB ts nm = getB (ts.drop (i + 1)) nm) := by unfold Hid; rw [HST.out, he]; rfl
          clear HST he
          go_wp2_with fail
          go_roundw
          case rel => exact ⟨_, i + 1, rfl, by omega, by go_num, HS2.out, HBN.out⟩
          case measure => simp [intOf]; omega
    · have hii : ¬ (i : Int) < (len : Int) := by omega
      have HS2 : Hid (getB ts nm = none) := by unfold Hid; rw [HG.out, show i = ts.length by rw [HL.out]; omega, List.drop_length, getB]
      go_wp2_with fail
      go_ret2
      exact ⟨by rw [HS2.out]; rfl, HBW.out⟩
/-- Are two names that lie side by side one? -/
def twiceB (ts : List (ByteArray × ByteArray)) : Bool := match ts with
  | [] => false
  | [_] => false
  | t :: u :: l => eqB t.1 u.1 || twiceB (u :: l)
theorem twice_step (ts : List (ByteArray × ByteArray)) (i : Nat) (h : i + 1 < ts.length) : twiceB (ts.drop i) = (eqB (tagAt ts i).1 (tagAt ts (i + 1)).1 || twiceB (ts.drop (i + 1))) := by
  rw [dropT_cons ts i (by omega), dropT_cons ts (i + 1) h, twiceB]
theorem twice_end (ts : List (ByteArray × ByteArray)) (i : Nat) (h : ts.length ≤ i + 1) : twiceB (ts.drop i) = false := by
  have hl : (ts.drop i).length ≤ 1 := by rw [List.length_drop]; omega
  match ts.drop i, hl with
  | [], _ => rfl
  | [_], _ => rfl
  | _ :: _ :: _, hl => simp at hl
set_option maxHeartbeats 1000000 in
theorem istwice_any (g off len cap : Nat) (ts : List (ByteArray × ByteArray)) (w : World) (hr : RowT w (some ⟨g, off, none⟩) ts) (hl : ts.length = len) (hlb : len ≤ 9223372036854775806) :
    Calls Tryd.prog 23 #[.slice (some ⟨g, off, none⟩) len cap] w fun e w' => e = .returned (.bool (twiceB ts)) ∧ ∃ n, w' = w.drewN n := by
  have HR : Hid (RowT w (some ⟨g, off, none⟩) ts) := hr
  have HL : Hid (ts.length = len) := hl
  clear hr hl
  go_enter Tryd.func23, Tryd.ntmps23
  go_wp2_with fail
  go_loopw [3] (fun ix wr => ∃ (wz : World) (i m : Nat), wz = wr ∧ i ≤ len ∧ ix = .int .i64 ((i : Int) + 1) ∧ twiceB ts = twiceB (ts.drop i) ∧ wz = w.drewN m) (fun ix _ => len + 1 - (intOf ix).toNat)
  case atStart => exact ⟨_, 0, 0, rfl, Nat.zero_le _, rfl, rfl, rfl⟩
  case round =>
    obtain ⟨wr, i, m, hwr, hi, rfl, hg, hwm⟩ := hrel
    subst hwr
    have HG : Hid (twiceB ts = twiceB (ts.drop i)) := hg
    have HWM : Hid (wr = w.drewN m) := hwm
    have HR2 := HR.out.below (below_some ⟨m, hwm⟩)
    clear hg hwm
    by_cases hlt : i + 1 < len
    · have hii : (i : Int) + 1 < (len : Int) := by omega
      have hil : i + 1 < ts.length := by rw [HL.out]; exact hlt
      have hi0 : (i : Int) + 1 - 1 = (i : Int) := by omega
      have hi1 : (i : Int) < (len : Int) := by omega
      have hi2 : (0 : Int) ≤ (i : Int) + 1 := by omega
      have hi3 : ((i : Int) + 1).toNat = i + 1 := by omega
      rcases HR2 with h0 | ⟨b, off', ha, hblt, hc⟩
      · omega
      · cases ha
        have c0 := (hc i (by omega)).1
        have d0 := (hc (i + 1) hil).1
        have HST : Hid (twiceB ts = (eqB (tagAt ts i).1 (tagAt ts (i + 1)).1 || twiceB (ts.drop (i + 1)))) := by unfold Hid; rw [HG.out, twice_step ts i hil]
        generalize (tagAt ts i).1 = s at *
        generalize (tagAt ts (i + 1)).1 = t at *
        have heq := str_same s t
        clear hc HG HR hblt
        cases he : eqB s t with
        | true =>
          rw [he] at heq
          have HS2 : Hid (twiceB ts = true) := by unfold Hid; rw [HST.out, he]; rfl
          clear HST he
          go_wp2_with fail
          go_quiet (fail)
          have HB : Hid (∃ n, wr.drewN nq = w.drewN n) := ⟨m + nq, by rw [HWM.out, drewN_add]⟩
          generalize wr.drewN nq = wd at *
          go_wp2_with fail
          go_ret
          exact ⟨by rw [HS2.out]; rfl, HB.out⟩
        | false =>
          rw [he] at heq
          have HS2 : Hid (twiceB ts = twiceB (ts.drop (i + 1))) := by unfold Hid; rw [HST.out, he]; rfl
          clear HST he
          go_wp2_with fail
          go_quiet (fail)
          have HB : Hid (wr.drewN nq = w.drewN (m + nq)) := by unfold Hid; rw [HWM.out, drewN_add]
          go_wp2_with fail
          go_roundw
          case rel => exact ⟨_, i + 1, m + nq, rfl, by omega, by go_num, HS2.out, HB.out⟩
          case measure => simp [intOf]; omega
    · have hii : ¬ (i : Int) + 1 < (len : Int) := by omega
      have HS2 : Hid (twiceB ts = false) := by unfold Hid; rw [HG.out, twice_end ts i (by rw [HL.out]; omega)]
      go_wp2_with fail
      go_ret
      exact ⟨by rw [HS2.out]; rfl, m, HWM.out⟩
end Go.Proofs.YtbfgkogmojnilaaDoor
