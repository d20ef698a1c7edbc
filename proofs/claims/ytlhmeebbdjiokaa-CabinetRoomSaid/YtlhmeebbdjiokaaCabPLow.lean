/-
  The program's cabinet: isNameByte, isName, most; ready, goesNow, find.
-/
import Derived.Test.YtlhmeebbdjiokaaCabPMem
namespace Go.Proofs.Ytlhmeebbdjiokaa
open Go.ChangeShapes Go.WideShapes Go.ChangeAt Go.RowKit Go.Maps Go.MapKept Go.ChangeMaps
set_option linter.unusedVariables false
set_option linter.unusedSimpArgs false
theorem pbyte_any (x : Nat) (w : World) :
    Calls Try.prog 48 #[.int .u8 (x : Nat)] w fun e w' => e = .returned (.bool (okC x)) ∧ w' = w := by
  have H : Hid ((97 ≤ x ∧ x ≤ 122) ∨ (97 ≤ x ∧ ¬ x ≤ 122) ∨ (¬ 97 ≤ x ∧ 48 ≤ x ∧ x ≤ 57) ∨ (¬ 97 ≤ x ∧ 48 ≤ x ∧ ¬ x ≤ 57) ∨ (¬ 97 ≤ x ∧ ¬ 48 ≤ x ∧ x = 45) ∨ (¬ 97 ≤ x ∧ ¬ 48 ≤ x ∧ ¬ x = 45 ∧ x = 46) ∨ (¬ 97 ≤ x ∧ ¬ 48 ≤ x ∧ ¬ x = 45 ∧ ¬ x = 46)) := by unfold Hid; omega
  rcases H.out with ⟨e0, e1⟩ | ⟨e0, e1⟩ | ⟨e0, e1, e2⟩ | ⟨e0, e1, e2⟩ | ⟨e0, e1, e2⟩ | ⟨e0, e1, e2, e3⟩ | ⟨e0, e1, e2, e3⟩
  · have HOK : Hid (okC x = true) := by unfold Hid okC; rw [decide_eq_true (show 97 ≤ x by omega), decide_eq_true (show x ≤ 122 by omega), decide_eq_true (show 48 ≤ x by omega), decide_eq_false (show ¬ x ≤ 57 by omega), decide_eq_false (show ¬ x = 45 by omega), decide_eq_false (show ¬ x = 46 by omega)]; rfl
    have ka : (97 : Int) ≤ (x : Int) := by omega
    have kz : (x : Int) ≤ 122 := by omega
    have kn : (48 : Int) ≤ (x : Int) := by omega
    have km : ¬ (x : Int) ≤ 57 := by omega
    have k45 : ((x : Int) == 45) = false := by rw [beq_eq_false_iff_ne]; omega
    have k46 : ((x : Int) == 46) = false := by rw [beq_eq_false_iff_ne]; omega
    clear H e0 e1
    go_enter Try.func48, Try.ntmps48
    go_wp2
    go_ret
    exact ⟨by rw [HOK.out]; rfl, rfl⟩
  · have HOK : Hid (okC x = false) := by unfold Hid okC; rw [decide_eq_true (show 97 ≤ x by omega), decide_eq_false (show ¬ x ≤ 122 by omega), decide_eq_true (show 48 ≤ x by omega), decide_eq_false (show ¬ x ≤ 57 by omega), decide_eq_false (show ¬ x = 45 by omega), decide_eq_false (show ¬ x = 46 by omega)]; rfl
    have ka : (97 : Int) ≤ (x : Int) := by omega
    have kz : ¬ (x : Int) ≤ 122 := by omega
    have kn : (48 : Int) ≤ (x : Int) := by omega
    have km : ¬ (x : Int) ≤ 57 := by omega
    have k45 : ((x : Int) == 45) = false := by rw [beq_eq_false_iff_ne]; omega
    have k46 : ((x : Int) == 46) = false := by rw [beq_eq_false_iff_ne]; omega
    clear H e0 e1
    go_enter Try.func48, Try.ntmps48
    go_wp2
    go_ret
    exact ⟨by rw [HOK.out]; rfl, rfl⟩
  · have HOK : Hid (okC x = true) := by unfold Hid okC; rw [decide_eq_false (show ¬ 97 ≤ x by omega), decide_eq_true (show x ≤ 122 by omega), decide_eq_true (show 48 ≤ x by omega), decide_eq_true (show x ≤ 57 by omega), decide_eq_false (show ¬ x = 45 by omega), decide_eq_false (show ¬ x = 46 by omega)]; rfl
    have ka : ¬ (97 : Int) ≤ (x : Int) := by omega
    have kz : (x : Int) ≤ 122 := by omega
    have kn : (48 : Int) ≤ (x : Int) := by omega
    have km : (x : Int) ≤ 57 := by omega
    have k45 : ((x : Int) == 45) = false := by rw [beq_eq_false_iff_ne]; omega
    have k46 : ((x : Int) == 46) = false := by rw [beq_eq_false_iff_ne]; omega
    clear H e0 e1 e2
    go_enter Try.func48, Try.ntmps48
    go_wp2
    go_ret
    exact ⟨by rw [HOK.out]; rfl, rfl⟩
  · have HOK : Hid (okC x = false) := by unfold Hid okC; rw [decide_eq_false (show ¬ 97 ≤ x by omega), decide_eq_true (show x ≤ 122 by omega), decide_eq_true (show 48 ≤ x by omega), decide_eq_false (show ¬ x ≤ 57 by omega), decide_eq_false (show ¬ x = 45 by omega), decide_eq_false (show ¬ x = 46 by omega)]; rfl
    have ka : ¬ (97 : Int) ≤ (x : Int) := by omega
    have kz : (x : Int) ≤ 122 := by omega
    have kn : (48 : Int) ≤ (x : Int) := by omega
    have km : ¬ (x : Int) ≤ 57 := by omega
    have k45 : ((x : Int) == 45) = false := by rw [beq_eq_false_iff_ne]; omega
    have k46 : ((x : Int) == 46) = false := by rw [beq_eq_false_iff_ne]; omega
    clear H e0 e1 e2
    go_enter Try.func48, Try.ntmps48
    go_wp2
    go_ret
    exact ⟨by rw [HOK.out]; rfl, rfl⟩
  · have HOK : Hid (okC x = true) := by unfold Hid okC; rw [decide_eq_false (show ¬ 97 ≤ x by omega), decide_eq_true (show x ≤ 122 by omega), decide_eq_false (show ¬ 48 ≤ x by omega), decide_eq_true (show x ≤ 57 by omega), decide_eq_true (show x = 45 by omega), decide_eq_false (show ¬ x = 46 by omega)]; rfl
    have ka : ¬ (97 : Int) ≤ (x : Int) := by omega
    have kz : (x : Int) ≤ 122 := by omega
    have kn : ¬ (48 : Int) ≤ (x : Int) := by omega
    have km : (x : Int) ≤ 57 := by omega
    have k45 : ((x : Int) == 45) = true := by rw [beq_iff_eq]; omega
    have k46 : ((x : Int) == 46) = false := by rw [beq_eq_false_iff_ne]; omega
    clear H e0 e1 e2
    go_enter Try.func48, Try.ntmps48
    go_wp2
    go_ret
    exact ⟨by rw [HOK.out]; rfl, rfl⟩
  · have HOK : Hid (okC x = true) := by unfold Hid okC; rw [decide_eq_false (show ¬ 97 ≤ x by omega), decide_eq_true (show x ≤ 122 by omega), decide_eq_false (show ¬ 48 ≤ x by omega), decide_eq_true (show x ≤ 57 by omega), decide_eq_false (show ¬ x = 45 by omega), decide_eq_true (show x = 46 by omega)]; rfl
    have ka : ¬ (97 : Int) ≤ (x : Int) := by omega
    have kz : (x : Int) ≤ 122 := by omega
    have kn : ¬ (48 : Int) ≤ (x : Int) := by omega
    have km : (x : Int) ≤ 57 := by omega
    have k45 : ((x : Int) == 45) = false := by rw [beq_eq_false_iff_ne]; omega
    have k46 : ((x : Int) == 46) = true := by rw [beq_iff_eq]; omega
    clear H e0 e1 e2 e3
    go_enter Try.func48, Try.ntmps48
    go_wp2
    go_ret
    exact ⟨by rw [HOK.out]; rfl, rfl⟩
  · have HOK : Hid (okC x = false) := by unfold Hid okC; rw [decide_eq_false (show ¬ 97 ≤ x by omega), decide_eq_true (show x ≤ 122 by omega), decide_eq_false (show ¬ 48 ≤ x by omega), decide_eq_true (show x ≤ 57 by omega), decide_eq_false (show ¬ x = 45 by omega), decide_eq_false (show ¬ x = 46 by omega)]; rfl
    have ka : ¬ (97 : Int) ≤ (x : Int) := by omega
    have kz : (x : Int) ≤ 122 := by omega
    have kn : ¬ (48 : Int) ≤ (x : Int) := by omega
    have km : (x : Int) ≤ 57 := by omega
    have k45 : ((x : Int) == 45) = false := by rw [beq_eq_false_iff_ne]; omega
    have k46 : ((x : Int) == 46) = false := by rw [beq_eq_false_iff_ne]; omega
    clear H e0 e1 e2 e3
    go_enter Try.func48, Try.ntmps48
    go_wp2
    go_ret
    exact ⟨by rw [HOK.out]; rfl, rfl⟩
set_option maxRecDepth 100000 in
set_option maxHeartbeats 2000000 in
theorem pname_any (S : ByteArray) (w : World) (hs : S.size ≤ 9223372036854775806) :
    Calls Try.prog 25 #[.string S] w fun e w' => e = .returned (.bool (goodC S)) ∧ w' = w := by
  have HTL : Hid ((txt S).length = S.size) := txt_length S
  by_cases h1 : S.size < 1
  · have HR : Hid (goodC S = false) := by unfold Hid goodC; rw [decide_eq_false (by omega)]; rfl
    have i1 : (S.size : Int) < 1 := by omega
    clear h1
    go_enter Try.func25, Try.ntmps25
    go_wp2
    go_ret
    exact ⟨by rw [HR.out]; rfl, rfl⟩
  · have i1 : ¬ (S.size : Int) < 1 := by omega
    by_cases h2 : 32 < S.size
    · have HR : Hid (goodC S = false) := by unfold Hid goodC; rw [decide_eq_false (show ¬ S.size ≤ 32 by omega), Bool.and_false]; rfl
      have i2 : (32 : Int) < (S.size : Int) := by omega
      clear h1 h2
      go_enter Try.func25, Try.ntmps25
      go_wp2
      go_ret
      exact ⟨by rw [HR.out]; rfl, rfl⟩
    · have i2 : ¬ (32 : Int) < (S.size : Int) := by omega
      have HR : Hid (goodC S = goodL (txt S)) := by unfold Hid goodC; rw [decide_eq_true (by omega), decide_eq_true (by omega)]; rfl
      have h2' : S.size ≤ 32 := by omega
      clear h1 h2
      go_enter Try.func25, Try.ntmps25
      go_wp2
      go_loop [14] (fun ix => ∃ i : Nat, i ≤ S.size ∧ ix = .int .i64 i ∧ goodL (txt S) = goodL ((txt S).drop i)) (fun ix => S.size - (intOf ix).toNat)
      case atStart => exact ⟨0, Nat.zero_le _, rfl, rfl⟩
      case round =>
        obtain ⟨i, hi, rfl, hg⟩ := hrel
        have HG : Hid (goodL (txt S) = goodL ((txt S).drop i)) := hg
        clear hg
        by_cases hlt : i < S.size
        · have hii : (i : Int) < (S.size : Int) := by omega
          have HX : Hid ((S[i]'hlt).toNat = (txt S).getD i 0) := get_txt S i hlt
          have HST : Hid (goodL (txt S) = (okC ((txt S).getD i 0) && goodL ((txt S).drop (i + 1)))) := by unfold Hid; rw [HG.out, dropC_cons _ _ (by rw [HTL.out]; exact hlt), goodL_cons]
          have HC : Hid _ := pbyte_any ((S[i]'hlt).toNat) w
          obtain ⟨x, hx⟩ : ∃ x, x = (txt S).getD i 0 := ⟨_, rfl⟩
          rw [← hx] at HX HST
          rw [HX.out] at HC
          have hxs : ((S[i]'hlt).toNat : Int) = (x : Int) := by rw [HX.out]
          clear hx HG HX
          cases hok : okC x with
          | true =>
            rw [hok] at HC HST
            have HS2 : Hid (goodL (txt S) = goodL ((txt S).drop (i + 1))) := by unfold Hid; rw [HST.out, Bool.true_and]
            clear HST hok
            go_wp2_with fail
            refine Calls.mono HC.out ?_
            rintro _ w1 ⟨rfl, hw1⟩
            replace hw1 := hw1.symm
            subst hw1
            go_wp2_with fail
            go_round
            case rel => exact ⟨i + 1, by omega, by go_num, HS2.out⟩
            case measure => simp [intOf]; omega
          | false =>
            rw [hok] at HC HST
            have HS2 : Hid (goodC S = false) := by unfold Hid; rw [HR.out, HST.out, Bool.false_and]
            clear HST hok
            go_wp2_with fail
            refine Calls.mono HC.out ?_
            rintro _ w1 ⟨rfl, hw1⟩
            replace hw1 := hw1.symm
            subst hw1
            go_wp2_with fail
            go_ret
            exact ⟨by rw [HS2.out]; rfl, rfl⟩
        · have hii : ¬ (i : Int) < (S.size : Int) := by omega
          have HS2 : Hid (goodC S = true) := by unfold Hid; rw [HR.out, HG.out, List.drop_eq_nil_of_le (by rw [HTL.out]; omega)]; rfl
          clear HG
          go_wp2
          go_ret
          exact ⟨by rw [HS2.out]; rfl, rfl⟩
theorem pmost_any (w : World) (z : Int) (m : Nat) :
    Calls Try.prog 31 #[.int .i64 z, .int .i64 (m : Nat)] w fun e w' => e = .returned (.int .i64 (partC z m : Nat)) ∧ w' = w := by
  have hm0 : ¬ (m : Int) < 0 := by omega
  by_cases h0 : z < 0
  · have HP : Hid (((partC z m : Nat) : Int) = 0) := by unfold Hid partC; rw [if_pos h0]; rfl
    go_enter Try.func31, Try.ntmps31
    go_wp2_with fail
    go_ret
    exact ⟨by rw [HP.out]; rfl, rfl⟩
  · by_cases h1 : (m : Int) < z
    · have HP : Hid (((partC z m : Nat) : Int) = (m : Int)) := by unfold Hid partC; rw [if_neg h0, if_pos h1]
      go_enter Try.func31, Try.ntmps31
      go_wp2_with fail
      go_ret
      exact ⟨by rw [HP.out]; rfl, rfl⟩
    · have HP : Hid (((partC z m : Nat) : Int) = z) := by unfold Hid partC; rw [if_neg h0, if_neg h1]; omega
      go_enter Try.func31, Try.ntmps31
      go_wp2_with fail
      go_ret
      exact ⟨by rw [HP.out]; rfl, rfl⟩
theorem pready_any (w : World) (g : Nat) (b : Bool) (h : w.cell? ⟨g, 7, none⟩ = some (.bool b)) :
    Calls Try.prog 24 #[.pointer (some ⟨g, 0, none⟩)] w fun e w' => e = .returned (.int .i64 ((if b then 11 else 0 : Nat) : Nat)) ∧ w' = w := by
  cases b with
  | true =>
    go_enter Try.func24, Try.ntmps24
    go_wp2_with fail
    go_ret
    exact ⟨rfl, rfl⟩
  | false =>
    go_enter Try.func24, Try.ntmps24
    go_wp2_with fail
    go_ret
    exact ⟨rfl, rfl⟩
theorem pready_nil (w : World) :
    Calls Try.prog 24 #[.pointer none] w fun e w' => e = .returned (.int .i64 1) ∧ w' = w := by
  go_enter Try.func24, Try.ntmps24
  go_wp2_with fail
  go_ret
  exact ⟨rfl, rfl⟩
set_option maxHeartbeats 1000000 in
theorem pgoes_any (w : World) (g : Nat) (O : Nat → Prop) (c : CabM) (tk : Nat) (A : Nat → Prop) (fa : Nat → Nat) (dv : Nat → Value) (mn ml : Option Nat) (vs : Value) (h : ProgRaw w g O c tk A fa dv mn ml vs) (ht : TimeC c) :
    Calls Try.prog 26 #[.pointer (some ⟨g, 0, none⟩)] w fun e w' => e = .returned (.bool (decide (powerE c = 11))) ∧ ProgRaw w' g O (powerC c) tk A fa dv mn ml vs ∧ Apart O w w' := by
  obtain ⟨c0, c1, c2, c3, c4, c5, c6, c7⟩ := h.cells
  have f6 := h.frozen 6
  have f7 := h.frozen 7
  have HRAW : Hid (ProgRaw w g O c tk A fa dv mn ml vs) := h
  clear c0 c1 c2 c3 c4 h
  cases htm : c.timed with
  | true =>
    obtain ⟨t0, t1⟩ := ht htm
    rw [htm] at c5
    by_cases ha : c.after = 0
    · have HE : Hid (powerE c = 11) := by unfold Hid powerE; rw [htm, ha]; rfl
      have HC : Hid (powerC c = { c with off := true }) := by unfold Hid powerC; rw [htm, ha]; rfl
      have HP : Hid (ProgRaw (w.setCell ⟨g, 7, none⟩ (.bool true)) g O (powerC c) tk A fa dv mn ml vs ∧ Apart O w (w.setCell ⟨g, 7, none⟩ (.bool true))) := by
        unfold Hid
        rw [HC.out]
        exact ⟨HRAW.out.plain (c' := { c with off := true }) 7 (.bool true) rfl rfl rfl rfl rfl, (Apart.refl _ _).set HRAW.out.og _ _⟩
      rw [ha] at c6
      clear ha htm HC HRAW t0 t1
      go_enter Try.func26, Try.ntmps26
      go_wp2_with fail
      go_ret
      exact ⟨by rw [HE.out]; rfl, HP.out⟩
    · have HE : Hid (powerE c = 0) := by unfold Hid powerE; rw [htm, decide_eq_false ha]; rfl
      have HC : Hid (powerC c = { c with after := c.after - 1 }) := by unfold Hid powerC; rw [htm, decide_eq_false ha]; rfl
      have HP : Hid (ProgRaw (w.setCell ⟨g, 6, none⟩ (.int .i64 (c.after - 1))) g O (powerC c) tk A fa dv mn ml vs ∧ Apart O w (w.setCell ⟨g, 6, none⟩ (.int .i64 (c.after - 1)))) := by
        unfold Hid
        rw [HC.out]
        exact ⟨HRAW.out.plain (c' := { c with after := c.after - 1 }) 6 (.int .i64 (c.after - 1)) rfl rfl rfl rfl rfl, (Apart.refl _ _).set HRAW.out.og _ _⟩
      have hb : (0 : Int) < c.after := by omega
      have hm : -9223372036854775808 ≤ c.after - 1 := by omega
      clear ha htm HC HRAW
      generalize c.after = z at *
      go_enter Try.func26, Try.ntmps26
      go_wp2_with fail
      go_ret
      exact ⟨by rw [HE.out]; rfl, HP.out⟩
  | false =>
    have HE : Hid (powerE c = 0) := by unfold Hid powerE; rw [htm]; rfl
    have HC : Hid (powerC c = c) := by unfold Hid powerC; rw [htm]; rfl
    have HP : Hid (ProgRaw w g O (powerC c) tk A fa dv mn ml vs ∧ Apart O w w) := by unfold Hid; rw [HC.out]; exact ⟨HRAW.out, Apart.refl _ _⟩
    rw [htm] at c5
    clear htm HC HRAW
    go_enter Try.func26, Try.ntmps26
    go_wp2_with fail
    go_ret
    exact ⟨by rw [HE.out]; rfl, HP.out⟩
/-- What find answers. -/
def findV (c : CabM) (fa : Nat → Nat) (nm : ByteArray) : Value := if c.off then .tuple #[.pointer none, .int .i64 11] else match findC c.now nm with | none => .tuple #[.pointer none, .int .i64 7] | some n => .tuple #[.pointer (some ⟨fa n, 0, none⟩), .int .i64 0]
set_option maxHeartbeats 1000000 in
theorem pfind_any (w : World) (g : Nat) (O : Nat → Prop) (c : CabM) (tk : Nat) (A : Nat → Prop) (fa : Nat → Nat) (dv : Nat → Value) (mn ml : Option Nat) (vs : Value) (h : ProgRaw w g O c tk A fa dv mn ml vs) (nm : ByteArray) (hn : nm.size ≤ 9223372036854775806) :
    Calls Try.prog 28 #[.pointer (some ⟨g, 0, none⟩), .string nm] w fun e w' => e = .returned (findV c fa nm) ∧ w' = w := by
  obtain ⟨c0, c1, c2, c3, c4, c5, c6, c7⟩ := h.cells
  have HRD : Hid _ := pready_any w g c.off c7
  have hlook := h.mapNow.look nm (by unfold maxLen; omega)
  have HV : Hid (findV c fa nm = if c.off then .tuple #[.pointer none, .int .i64 11] else match findC c.now nm with | none => .tuple #[.pointer none, .int .i64 7] | some n => .tuple #[.pointer (some ⟨fa n, 0, none⟩), .int .i64 0]) := rfl
  clear h c1 c2 c3 c4 c5 c6 c7
  cases hoff : c.off with
  | true =>
    rw [hoff] at HRD HV
    clear hoff hlook
    go_enter Try.func28, Try.ntmps28
    go_wp2_with fail
    refine Calls.mono HRD.out ?_
    rintro _ w1 ⟨rfl, hw1⟩
    replace hw1 := hw1.symm
    subst hw1
    go_wp2_with fail
    go_ret2
    exact ⟨by rw [HV.out]; rfl, rfl⟩
  | false =>
    rw [hoff] at HRD HV
    clear hoff
    cases hf : findC c.now nm with
    | none =>
      rw [hf] at hlook HV
      unfold ptrV at hlook
      dsimp only at hlook
      clear hf
      go_enter Try.func28, Try.ntmps28
      go_wp2_with fail
      refine Calls.mono HRD.out ?_
      rintro _ w1 ⟨rfl, hw1⟩
      replace hw1 := hw1.symm
      subst hw1
      go_wp2_with fail
      go_ret2
      exact ⟨by rw [HV.out]; rfl, rfl⟩
    | some n =>
      rw [hf] at hlook HV
      unfold ptrV at hlook
      dsimp only at hlook
      clear hf
      go_enter Try.func28, Try.ntmps28
      go_wp2_with fail
      refine Calls.mono HRD.out ?_
      rintro _ w1 ⟨rfl, hw1⟩
      replace hw1 := hw1.symm
      subst hw1
      go_wp2_with fail
      go_ret2
      exact ⟨by rw [HV.out]; rfl, rfl⟩
theorem pfind_nil (w : World) (nm : ByteArray) :
    Calls Try.prog 28 #[.pointer none, .string nm] w fun e w' => e = .returned (.tuple #[.pointer none, .int .i64 1]) ∧ w' = w := by
  have HRD : Hid _ := pready_nil w
  go_enter Try.func28, Try.ntmps28
  go_wp2_with fail
  refine Calls.mono HRD.out ?_
  rintro _ w1 ⟨rfl, hw1⟩
  replace hw1 := hw1.symm
  subst hw1
  go_wp2_with fail
  go_ret2
  exact ⟨rfl, rfl⟩
end Go.Proofs.Ytlhmeebbdjiokaa
