/-
  The document's Same.
-/
import Derived.Test.YtbfgkogmojnilaaDoorTagMem
import Derived.Deep.QuietTactic
import Derived.BigQuiet
namespace Go.Proofs.YtbfgkogmojnilaaDoor
open Go.ChangeShapes Go.WideShapes Go.ChangeAt Go.RowKit
set_option linter.unusedVariables false
set_option linter.unusedSimpArgs false
theorem drewN_add (w : World) (m n : Nat) : (w.drewN m).drewN n = w.drewN (m + n) := by simp [World.drewN, Nat.add_assoc]
def sameB : List (ByteArray × ByteArray) → List (ByteArray × ByteArray) → Bool
  | [], [] => true
  | t :: ts, u :: us => eqB t.1 u.1 && eqB t.2 u.2 && sameB ts us
  | _, _ => false
theorem same_iff : ∀ ts us, sameB ts us = true ↔ ts = us
  | [], [] => by simp [sameB]
  | [], _ :: _ => by simp [sameB]
  | _ :: _, [] => by simp [sameB]
  | t :: ts, u :: us => by
    rw [sameB, Bool.and_eq_true, Bool.and_eq_true, eqB_iff, eqB_iff, same_iff ts us, List.cons.injEq]
    constructor
    · rintro ⟨⟨h1, h2⟩, h3⟩; exact ⟨Prod.ext h1 h2, h3⟩
    · rintro ⟨h1, h3⟩; exact ⟨⟨by rw [h1], by rw [h1]⟩, h3⟩
theorem same_len {ts us : List (ByteArray × ByteArray)} (h : ts.length ≠ us.length) : sameB ts us = false := by
  rw [Bool.eq_false_iff]
  intro e
  exact h (by rw [(same_iff ts us).1 e])
theorem below_some {w w' : World} (h : ∃ n, w' = w.drewN n) : Below w.heap.size w w' := by
  obtain ⟨n, rfl⟩ := h
  exact below_drew (Below.refl _ _) n
set_option maxHeartbeats 4000000 in
theorem rsame_any (a : Option Addr) (len cap : Nat) (ts : List (ByteArray × ByteArray)) (b : Option Addr) (lenb capb : Nat) (us : List (ByteArray × ByteArray)) (w : World) (ht : RowT w a ts) (hl : ts.length = len) (hlb : len ≤ 9223372036854775806) (hu : RowT w b us) (hlu : us.length = lenb) (hlub : lenb ≤ 9223372036854775806) :
    Calls Tryd.prog 10 #[.slice a len cap, .slice b lenb capb] w fun e w' => e = .returned (.bool (sameB ts us)) ∧ ∃ n, w' = w.drewN n := by
  by_cases hne : len = lenb
  · subst hne
    have hnn : ((len : Int) != (len : Int)) = false := by simp
    have HR : Hid (RowT w a ts) := ht
    have HU : Hid (RowT w b us) := hu
    have HL : Hid (ts.length = len) := hl
    have HM : Hid (us.length = len) := hlu
    clear ht hl hu hlu
    go_enter Tryd.func10, Tryd.ntmps10
    go_wp2_with fail
    go_loopw [5] (fun ix wr => ∃ (wz : World) (i m : Nat), wz = wr ∧ i ≤ len ∧ ix = .int .i64 i ∧ sameB ts us = sameB (ts.drop i) (us.drop i) ∧ wz = w.drewN m) (fun ix _ => len - (intOf ix).toNat)
    case atStart => exact ⟨_, 0, 0, rfl, Nat.zero_le _, rfl, rfl, rfl⟩
    case round =>
      obtain ⟨wr, i, m, hwr, hi, rfl, hg, hwm⟩ := hrel
      subst hwr
      have HG : Hid (sameB ts us = sameB (ts.drop i) (us.drop i)) := hg
      have HWM : Hid (wr = w.drewN m) := hwm
      have hbw : Below w.heap.size w wr := below_some ⟨m, hwm⟩
      have HR2 := HR.out.below hbw
      have HU2 := HU.out.below hbw
      clear hg hwm hbw
      by_cases hlt : i < len
      · have hii : (i : Int) < (len : Int) := by omega
        have hil : i < ts.length := by rw [HL.out]; exact hlt
        have hiu : i < us.length := by rw [HM.out]; exact hlt
        rcases HR2 with h0 | ⟨g, off, ha, hblt, hc⟩
        · omega
        · rcases HU2 with h0 | ⟨g2, off2, hb, hblt2, hc2⟩
          · omega
          · subst ha
            subst hb
            obtain ⟨c0, c1⟩ := hc i hil
            obtain ⟨d0, d1⟩ := hc2 i hiu
            have HST : Hid (sameB ts us = (eqB (tagAt ts i).1 (tagAt us i).1 && eqB (tagAt ts i).2 (tagAt us i).2 && sameB (ts.drop (i + 1)) (us.drop (i + 1)))) := by unfold Hid; rw [HG.out, dropT_cons ts i hil, dropT_cons us i hiu, sameB]
            generalize tagAt ts i = t at *
            generalize tagAt us i = u at *
            have heq1 := str_same t.1 u.1
            have heq2 := str_same t.2 u.2
            clear hc hc2 HG
            cases he1 : eqB t.1 u.1 with
            | false =>
              rw [he1] at heq1
              have HS2 : Hid (sameB ts us = false) := by unfold Hid; rw [HST.out, he1]; rfl
              clear HST he1 heq2
              go_wp2_with fail
              go_quiet (fail)
              have HB : Hid (∃ n, wr.drewN nq = w.drewN n) := ⟨m + nq, by rw [HWM.out, drewN_add]⟩
              generalize wr.drewN nq = wd at *
              go_wp2_with fail
              go_ret
              exact ⟨by rw [HS2.out]; rfl, HB.out⟩
            | true =>
              rw [he1] at heq1
              cases he2 : eqB t.2 u.2 with
              | false =>
                rw [he2] at heq2
                have HS2 : Hid (sameB ts us = false) := by unfold Hid; rw [HST.out, he1, he2]; rfl
                clear HST he1 he2
                go_wp2_with fail
                go_quiet (fail)
                have HB : Hid (∃ n, wr.drewN nq = w.drewN n) := ⟨m + nq, by rw [HWM.out, drewN_add]⟩
                generalize wr.drewN nq = wd at *
                go_wp2_with fail
                go_ret
                exact ⟨by rw [HS2.out]; rfl, HB.out⟩
              | true =>
                rw [he2] at heq2
                have HS2 : Hid (sameB ts us = sameB (ts.drop (i + 1)) (us.drop (i + 1))) := by unfold Hid; rw [HST.out, he1, he2]; rfl
                clear HST he1 he2
                go_wp2_with fail
                go_quiet (fail)
                have HB : Hid (wr.drewN nq = w.drewN (m + nq)) := by unfold Hid; rw [HWM.out, drewN_add]
                go_wp2_with fail
                go_roundw
                case rel => exact ⟨_, i + 1, m + nq, rfl, by omega, by go_num, HS2.out, HB.out⟩
                case measure => simp [intOf]; omega
      · have hii : ¬ (i : Int) < (len : Int) := by omega
        have HS2 : Hid (sameB ts us = true) := by
          unfold Hid
          rw [HG.out, show i = len by omega]
          conv => lhs; rw [← HL.out, List.drop_length, HL.out, ← HM.out, List.drop_length]
          rfl
        go_wp2_with fail
        go_ret
        exact ⟨by rw [HS2.out]; rfl, m, HWM.out⟩
  · have hnn : ((len : Int) != (lenb : Int)) = true := by rw [bne_iff_ne]; omega
    have HS : Hid (sameB ts us = false) := same_len (by rw [hl, hlu]; exact hne)
    clear ht hu hl hlu hne
    go_enter Tryd.func10, Tryd.ntmps10
    go_wp2_with fail
    go_ret
    exact ⟨by rw [HS.out]; rfl, 0, rfl⟩
end Go.Proofs.YtbfgkogmojnilaaDoor
