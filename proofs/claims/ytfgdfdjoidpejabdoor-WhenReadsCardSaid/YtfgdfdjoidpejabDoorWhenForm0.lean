/-
  The program's hasForm and read.
-/
import Derived.Test.YtfgdfdjoidpejabDoorWhenForm
import Derived.Test.YtfgdfdjoidpejabDoorTexts
import Derived.BigQuiet
namespace Go.Proofs.YtfgdfdjoidpejabDoor
open Go.ChangeShapes Go.WideShapes Go.ChangeAt Go.RowKit
set_option linter.unusedVariables false
set_option linter.unusedSimpArgs false
def cAt (i : Nat) : Nat := if signAt i = 0 then 48 else signAt i
theorem form_get (i : Nat) (h : i < (ByteArray.mk #[48, 48, 48, 48, 45, 48, 48, 45, 48, 48, 84, 48, 48, 58, 48, 48, 58, 48, 48, 90]).size) : (((ByteArray.mk #[48, 48, 48, 48, 45, 48, 48, 45, 48, 48, 84, 48, 48, 58, 48, 48, 58, 48, 48, 90])[i]'h).toNat : Int) = (cAt i : Int) := by
  rw [get_txt _ i h]
  have : ∀ j : Fin 20, (txt (ByteArray.mk #[48, 48, 48, 48, 45, 48, 48, 45, 48, 48, 84, 48, 48, 58, 48, 48, 58, 48, 48, 90])).getD j.val 0 = cAt j.val := by decide
  rw [this ⟨i, h⟩]
theorem sign_ne (i : Nat) : signAt i ≠ 48 := by
  unfold signAt
  repeat' split
  all_goals decide
theorem sign_lt (i : Nat) : signAt i < 256 := by
  unfold signAt
  repeat' split
  all_goals decide
set_option maxRecDepth 100000 in
set_option maxHeartbeats 16000000 in
theorem hasform_any (S : ByteArray) (w : World) (hs : S.size ≤ 9223372036854775807) :
    Calls Tryd.prog 15 #[.string S] w fun e w' => ((PForm (txt S) ∧ e = .returned (.bool true)) ∨ (¬ PForm (txt S) ∧ e = .returned (.bool false))) ∧ Below w.heap.size w w' := by
  by_cases hl : S.size = 20
  · have HTL : Hid ((txt S).length = 20) := by unfold Hid; rw [txt_length, hl]
    have ht : ((S.size : Int) != 20) = false := by rw [hl]; rfl
    have HSZ : Hid (S.size = 20) := hl
    clear hl
    go_enter Tryd.func15, Tryd.ntmps15
    go_wp2
    go_loopw [8] (fun ix wr => ∃ (wz : World) (i : Nat), wz = wr ∧ i ≤ 20 ∧ ix = .int .i64 i ∧ (∀ j, j < i → letOk j ((txt S).getD j 0)) ∧ Below w.heap.size w wz) (fun ix _ => 20 - (intOf ix).toNat)
    case atStart => exact ⟨_, 0, rfl, by omega, rfl, (fun j hj => by omega), Below.refl _ _⟩
    case round =>
      obtain ⟨wr, i, hwr, hi, rfl, hok, hbe⟩ := hrel
      subst hwr
      have HOK : Hid (∀ j, j < i → letOk j ((txt S).getD j 0)) := hok
      have HBE : Hid (Below w.heap.size w wr) := hbe
      clear hok hbe
      by_cases hlt : i < 20
      · have hii : (i : Int) < 20 := by omega
        have hls : i < S.size := by rw [HSZ.out]; exact hlt
        have hls' : (i : Int) < (S.size : Int) := by omega
        have HG : Hid ((S[i]'hls).toNat = (txt S).getD i 0) := get_txt S i hls
        have HOK2 : Hid (letOk i ((txt S).getD i 0) → ∀ j, j < i + 1 → letOk j ((txt S).getD j 0)) := fun h j hj => by
          by_cases e : j = i
          · rw [e]; exact h
          · exact HOK.out j (by omega)
        have HBAD : Hid (¬ letOk i ((txt S).getD i 0) → ¬ PForm (txt S)) := fun h => form_bad i hlt h
        obtain ⟨x, hx⟩ : ∃ x, x = (txt S).getD i 0 := ⟨_, rfl⟩
        rw [← hx] at HG HOK2 HBAD
        have hxb : x < 256 := by rw [← HG.out]; exact (S[i]'hls).toNat_lt
        have hxs : ((S[i]'hls).toNat : Int) = (x : Int) := by rw [HG.out]
        have hfs : i < (ByteArray.mk #[48, 48, 48, 48, 45, 48, 48, 45, 48, 48, 84, 48, 48, 58, 48, 48, 58, 48, 48, 90]).size := hlt
        have hcs := form_get i hfs
        obtain ⟨c, hc⟩ : ∃ c, c = cAt i := ⟨_, rfl⟩
        rw [← hc] at hcs
        have HLO : Hid (letOk i x ↔ (signAt i = 0 ∧ 48 ≤ x ∧ x ≤ 57) ∨ (¬ signAt i = 0 ∧ x = c)) := by
          unfold Hid letOk
          by_cases h0 : signAt i = 0
          · rw [if_pos h0]; simp [h0]
          · rw [if_neg h0, hc, cAt, if_neg h0]; simp [h0]
        have hcb : c < 256 := by
          rw [hc, cAt]; split
          · decide
          · exact sign_lt i
        have HC : Hid ((signAt i = 0 ∧ c = 48) ∨ (¬ signAt i = 0 ∧ c ≠ 48)) := by
          unfold Hid
          rw [hc, cAt]
          by_cases h0 : signAt i = 0
          · rw [if_pos h0]; exact .inl ⟨h0, rfl⟩
          · rw [if_neg h0]; exact .inr ⟨h0, sign_ne i⟩
        clear hx hc HG HOK
        rcases HC.out with ⟨h0, hc48⟩ | ⟨h0, hc48⟩
        · have k1 : ((c : Int) == 48) = true := by rw [hc48]; rfl
          have k2 : ((c : Int) != 48) = false := by rw [hc48]; rfl
          rcases (show x < 48 ∨ (48 ≤ x ∧ x ≤ 57) ∨ 57 < x by omega) with hr | hr | hr
          · have x1 : ¬ (48 : Int) ≤ (x : Int) := by omega
            have HR : Hid (¬ PForm (txt S)) := HBAD.out (fun h => by have := HLO.out.1 h; omega)
            clear HBAD HLO HOK2 HC hr h0 hc48
            go_wp2_with fail
            go_quiet (fail)
            have hbq : Below w.heap.size w (wr.drewN nq) := below_drew HBE.out nq
            generalize wr.drewN nq = wq at *
            go_wp2_with fail
            go_ret
            exact ⟨.inr ⟨HR.out, rfl⟩, hbq⟩
          · have x1 : (48 : Int) ≤ (x : Int) := by omega
            have x2 : (x : Int) ≤ 57 := by omega
            have HO2 : Hid (∀ j, j < i + 1 → letOk j ((txt S).getD j 0)) := HOK2.out (HLO.out.2 (.inl ⟨h0, hr⟩))
            clear HBAD HLO HOK2 HC hr h0 hc48
            go_wp2_with fail
            go_quiet (fail)
            have hbq : Below w.heap.size w (wr.drewN nq) := below_drew HBE.out nq
            generalize wr.drewN nq = wq at *
            go_wp2_with fail
            go_roundw
            case rel => exact ⟨_, i + 1, rfl, by omega, by go_num, HO2.out, hbq⟩
            case measure => simp [intOf]; omega
          · have x1 : (48 : Int) ≤ (x : Int) := by omega
            have x2 : ¬ (x : Int) ≤ 57 := by omega
            have HR : Hid (¬ PForm (txt S)) := HBAD.out (fun h => by have := HLO.out.1 h; omega)
            clear HBAD HLO HOK2 HC hr h0 hc48
            go_wp2_with fail
            go_quiet (fail)
            have hbq : Below w.heap.size w (wr.drewN nq) := below_drew HBE.out nq
            generalize wr.drewN nq = wq at *
            go_wp2_with fail
            go_ret
            exact ⟨.inr ⟨HR.out, rfl⟩, hbq⟩
        · have k1 : ((c : Int) == 48) = false := by rw [beq_eq_false_iff_ne]; omega
          have k2 : ((c : Int) != 48) = true := by rw [bne, k1]; rfl
          by_cases hxc : x = c
          · have k3 : ((x : Int) != (c : Int)) = false := by rw [hxc]; simp
            rcases (show x < 48 ∨ (48 ≤ x ∧ x ≤ 57) ∨ 57 < x by omega) with hr | hr | hr
            · have x1 : ¬ (48 : Int) ≤ (x : Int) := by omega
              have HO2 : Hid (∀ j, j < i + 1 → letOk j ((txt S).getD j 0)) := HOK2.out (HLO.out.2 (.inr ⟨h0, hxc⟩))
              clear HBAD HLO HOK2 HC hr h0 hc48 hxc
              go_wp2_with fail
              go_quiet (fail)
              have hbq : Below w.heap.size w (wr.drewN nq) := below_drew HBE.out nq
              generalize wr.drewN nq = wq at *
              go_wp2_with fail
              go_roundw
              case rel => exact ⟨_, i + 1, rfl, by omega, by go_num, HO2.out, hbq⟩
              case measure => simp [intOf]; omega
            · have x1 : (48 : Int) ≤ (x : Int) := by omega
              have x2 : (x : Int) ≤ 57 := by omega
              have HO2 : Hid (∀ j, j < i + 1 → letOk j ((txt S).getD j 0)) := HOK2.out (HLO.out.2 (.inr ⟨h0, hxc⟩))
              clear HBAD HLO HOK2 HC hr h0 hc48 hxc
              go_wp2_with fail
              go_quiet (fail)
              have hbq : Below w.heap.size w (wr.drewN nq) := below_drew HBE.out nq
              generalize wr.drewN nq = wq at *
              go_wp2_with fail
              go_roundw
              case rel => exact ⟨_, i + 1, rfl, by omega, by go_num, HO2.out, hbq⟩
              case measure => simp [intOf]; omega
            · have x1 : (48 : Int) ≤ (x : Int) := by omega
              have x2 : ¬ (x : Int) ≤ 57 := by omega
              have HO2 : Hid (∀ j, j < i + 1 → letOk j ((txt S).getD j 0)) := HOK2.out (HLO.out.2 (.inr ⟨h0, hxc⟩))
              clear HBAD HLO HOK2 HC hr h0 hc48 hxc
              go_wp2_with fail
              go_quiet (fail)
              have hbq : Below w.heap.size w (wr.drewN nq) := below_drew HBE.out nq
              generalize wr.drewN nq = wq at *
              go_wp2_with fail
              go_roundw
              case rel => exact ⟨_, i + 1, rfl, by omega, by go_num, HO2.out, hbq⟩
              case measure => simp [intOf]; omega
          · have k3 : ((x : Int) != (c : Int)) = true := by rw [bne_iff_ne]; omega
            rcases (show x < 48 ∨ (48 ≤ x ∧ x ≤ 57) ∨ 57 < x by omega) with hr | hr | hr
            · have x1 : ¬ (48 : Int) ≤ (x : Int) := by omega
              have HR : Hid (¬ PForm (txt S)) := HBAD.out (fun h => by have := HLO.out.1 h; omega)
              clear HBAD HLO HOK2 HC hr h0 hc48 hxc
              go_wp2_with fail
              go_quiet (fail)
              have hbq : Below w.heap.size w (wr.drewN nq) := below_drew HBE.out nq
              generalize wr.drewN nq = wq at *
              go_wp2_with fail
              go_ret
              exact ⟨.inr ⟨HR.out, rfl⟩, hbq⟩
            · have x1 : (48 : Int) ≤ (x : Int) := by omega
              have x2 : (x : Int) ≤ 57 := by omega
              have HR : Hid (¬ PForm (txt S)) := HBAD.out (fun h => by have := HLO.out.1 h; omega)
              clear HBAD HLO HOK2 HC hr h0 hc48 hxc
              go_wp2_with fail
              go_quiet (fail)
              have hbq : Below w.heap.size w (wr.drewN nq) := below_drew HBE.out nq
              generalize wr.drewN nq = wq at *
              go_wp2_with fail
              go_ret
              exact ⟨.inr ⟨HR.out, rfl⟩, hbq⟩
            · have x1 : (48 : Int) ≤ (x : Int) := by omega
              have x2 : ¬ (x : Int) ≤ 57 := by omega
              have HR : Hid (¬ PForm (txt S)) := HBAD.out (fun h => by have := HLO.out.1 h; omega)
              clear HBAD HLO HOK2 HC hr h0 hc48 hxc
              go_wp2_with fail
              go_quiet (fail)
              have hbq : Below w.heap.size w (wr.drewN nq) := below_drew HBE.out nq
              generalize wr.drewN nq = wq at *
              go_wp2_with fail
              go_ret
              exact ⟨.inr ⟨HR.out, rfl⟩, hbq⟩
      · have hii : ¬ (i : Int) < 20 := by omega
        have HP : Hid (PForm (txt S)) := ⟨HTL.out, by rw [show 20 = i by omega]; exact HOK.out⟩
        clear HOK
        go_wp2_with fail
        go_ret
        exact ⟨.inl ⟨HP.out, rfl⟩, HBE.out⟩
  · have ht : ((S.size : Int) != 20) = true := by rw [bne_iff_ne]; omega
    have HP : Hid (¬ PForm (txt S)) := fun h => hl (by rw [← txt_length]; exact h.1)
    clear hl
    go_enter Tryd.func15, Tryd.ntmps15
    go_wp2
    go_ret
    exact ⟨.inr ⟨HP.out, rfl⟩, Below.refl _ _⟩
end Go.Proofs.YtfgdfdjoidpejabDoor
