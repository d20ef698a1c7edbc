/-
  The program's isText, isTag and Sound, as the document's answer.
-/
import Derived.Test.YtbfgkogmojnilaaDoorTagOverN
import Derived.Test.YtbfgkogmojnilaaDoorLabelKey
import Derived.Test.YtbfgkogmojnilaaDoorInS
namespace Go.Proofs.YtbfgkogmojnilaaDoor
open Go.ChangeShapes Go.WideShapes Go.ChangeAt Go.RowKit
set_option linter.unusedVariables false
set_option linter.unusedSimpArgs false
def goodB (s : ByteArray) : Bool := decide (s.size ≤ 64) && cleanN (txt s)
set_option maxHeartbeats 1000000 in
theorem istext_any (S : ByteArray) (w : World) (hT : Tab6 w) :
    Calls Tryd.prog 37 #[.string S] w fun e w' => e = .returned (.bool (goodB S)) ∧ Below w.heap.size w w' := by
  have hemp := empty_txt S
  by_cases hE : txt S = []
  · have HR : Hid (goodB S = true) := by
      have : S.size = 0 := by rw [← txt_length, hE]; rfl
      unfold Hid goodB
      rw [decide_eq_true (by omega), hE]
      rfl
    rw [decide_eq_true hE] at hemp
    have hemp2 := (empty_iff S).2 hE
    clear hE
    go_enter Tryd.func37, Tryd.ntmps37
    go_wp2_with fail
    go_ret
    exact ⟨by rw [HR.out]; rfl, Below.refl _ _⟩
  · have h1 : 1 ≤ S.size := by
      have : (txt S).length ≠ 0 := fun e => hE (List.eq_nil_of_length_eq_zero e)
      rw [txt_length] at this
      omega
    rw [decide_eq_false hE] at hemp
    have hemp2 : ¬ S.toList = [] := fun e => hE ((empty_iff S).1 e)
    clear hE
    by_cases h2 : S.size ≤ 64
    · have i2 : (S.size : Int) ≤ 64 := by omega
      have HK : Hid _ := key_any S w hT (by omega)
      have e : keyN (txt S) = goodB S := by
        unfold keyN goodB
        rw [txt_length, decide_eq_true h1, decide_eq_true (show S.size ≤ 200 by omega), decide_eq_true h2]
        rfl
      rw [e] at HK
      generalize goodB S = g at *
      clear h1 h2 e
      go_enter Tryd.func37, Tryd.ntmps37
      go_wp2_with fail
      refine Calls.mono HK.out ?_
      rintro _ w1 ⟨rfl, hb⟩
      have HB : Hid (Below w.heap.size w w1) := hb
      clear hb HK
      go_wp2_with fail
      go_ret
      exact ⟨rfl, HB.out⟩
    · have i2 : ¬ (S.size : Int) ≤ 64 := by omega
      have HR : Hid (goodB S = false) := by unfold Hid goodB; rw [decide_eq_false h2]; rfl
      clear h1 h2
      go_enter Tryd.func37, Tryd.ntmps37
      go_wp2_with fail
      go_ret
      exact ⟨by rw [HR.out]; rfl, Below.refl _ _⟩
theorem tag_good (t : ByteArray × ByteArray) : tagOK t = (decide (1 ≤ t.1.size) && goodB t.1 && goodB t.2) := by
  unfold tagOK goodB
  cases decide (1 ≤ t.1.size) <;> cases decide (t.1.size ≤ 64) <;> cases decide (t.2.size ≤ 64) <;> cases cleanN (txt t.1) <;> cases cleanN (txt t.2) <;> rfl
set_option maxHeartbeats 1000000 in
theorem istag_any (t : ByteArray × ByteArray) (w : World) (hT : Tab6 w) :
    Calls Tryd.prog 24 #[.agg #[.string t.1, .string t.2]] w fun e w' => e = .returned (.bool (tagOK t)) ∧ Below w.heap.size w w' := by
  have HG : Hid (tagOK t = (decide (1 ≤ t.1.size) && goodB t.1 && goodB t.2)) := tag_good t
  have HB0 := below_new w (.cells #[.string t.1, .string t.2] 40)
  have HT1 := hT.below HB0
  have H1 : Hid _ := istext_any t.1 (w.alloc (.cells #[.string t.1, .string t.2] 40)) HT1
  have H2 : Hid (∀ W, Tab6 W → Calls Tryd.prog 37 #[.string t.2] W fun e w' => e = .returned (.bool (goodB t.2)) ∧ Below W.heap.size W w') := fun W hW => istext_any t.2 W hW
  have HTT : Hid (Tab6 (w.alloc (.cells #[.string t.1, .string t.2] 40))) := HT1
  have HBB : Hid (Below w.heap.size w (w.alloc (.cells #[.string t.1, .string t.2] 40))) := HB0
  have hemp := empty_txt t.1
  have hz : txt t.1 = [] ↔ t.1.size = 0 := by rw [← txt_length]; exact List.length_eq_zero_iff.symm
  have hc0 : (w.alloc (.cells #[.string t.1, .string t.2] 40)).cell? ⟨w.heap.size, 0, none⟩ = some (.string t.1) := by rw [cell_of_row _ w.heap.size _ _ _ _ (heap_alloc_last w _)]; rfl
  have hc1 : (w.alloc (.cells #[.string t.1, .string t.2] 40)).cell? ⟨w.heap.size, 1, none⟩ = some (.string t.2) := by rw [cell_of_row _ w.heap.size _ _ _ _ (heap_alloc_last w _)]; rfl
  have HW : Hid (w.heap.size < (w.alloc (.cells #[.string t.1, .string t.2] 40)).heap.size) := by unfold Hid; simp
  clear HB0 HT1 hT
  by_cases hE : txt t.1 = []
  · have HR : Hid (tagOK t = false) := by unfold Hid; rw [HG.out, decide_eq_false (show ¬ 1 ≤ t.1.size by have := hz.1 hE; omega)]; rfl
    rw [decide_eq_true hE] at hemp
    have hemp2 := (empty_iff t.1).2 hE
    clear hE hz HG H1 H2
    go_enter Tryd.func24, Tryd.ntmps24
    go_wp2_with fail
    go_ret
    exact ⟨by rw [HR.out]; rfl, HBB.out⟩
  · have HR : Hid (tagOK t = (goodB t.1 && goodB t.2)) := by
      unfold Hid
      rw [HG.out, decide_eq_true (show 1 ≤ t.1.size by have : ¬ t.1.size = 0 := fun e => hE (hz.2 e); omega)]
      rfl
    rw [decide_eq_false hE] at hemp
    have hemp2 : ¬ t.1.toList = [] := fun e => hE ((empty_iff t.1).1 e)
    clear hE hz HG
    go_enter Tryd.func24, Tryd.ntmps24
    go_wp2_with fail
    generalize w.alloc (.cells #[.string t.1, .string t.2] 40) = w0 at *
    refine Calls.mono H1.out ?_
    rintro _ w1 ⟨rfl, hb⟩
    have HB1 : Hid (Below w.heap.size w w1) := HBB.out.trans (hb.mono (Nat.le_of_lt HW.out))
    have HT1 : Hid (Tab6 w1) := HTT.out.below hb
    have hd1 := (hb.cell (p := ⟨w.heap.size, 1, none⟩) HW.out).trans hc1
    clear hb H1 hc0 hc1 HBB HTT HW
    cases h1 : goodB t.1 with
    | false =>
      have HR2 : Hid (tagOK t = false) := by unfold Hid; rw [HR.out, h1]; rfl
      clear h1 HR
      go_wp2_with fail
      go_ret
      exact ⟨by rw [HR2.out]; rfl, HB1.out⟩
    | true =>
      have HR2 : Hid (tagOK t = goodB t.2) := by unfold Hid; rw [HR.out, h1]; rfl
      clear h1 HR
      go_wp2_with fail
      refine Calls.mono (H2.out w1 HT1.out) ?_
      rintro _ w2 ⟨rfl, hb⟩
      have HB2 : Hid (Below w.heap.size w w2) := HB1.out.trans (hb.mono HB1.out.size)
      clear hb H2
      go_wp2_with fail
      go_ret
      exact ⟨by rw [HR2.out]; rfl, HB2.out⟩
theorem not_lt_le (a b : ByteArray) : (!Op.bytesLess a.toList b.toList) = leB b a := by
  cases h : leB b a with
  | false =>
    have := (ltB_iff a b).2 (not_le h)
    unfold ltB at this
    rw [this]
    rfl
  | true =>
    cases h2 : Op.bytesLess a.toList b.toList with
    | false => rfl
    | true =>
      have := le_not ((ltB_iff a b).1 h2)
      rw [h] at this
      cases this
theorem str_geq (t : TypeId) (a b : ByteArray) : binOp .geq t (.string a) (.string b) = pure (.bool (leB b a)) := by
  rw [← not_lt_le]
  simp [binOp, Op.stringOp]
set_option maxRecDepth 100000 in
set_option maxHeartbeats 8000000 in
theorem tsound_any (a : Option Addr) (len cap : Nat) (ts : List (ByteArray × ByteArray)) (w : World) (hT : Tab6 w) (ht : RowT w a ts) (hl : ts.length = len) (hlb : len ≤ 9223372036854775806) :
    Calls Tryd.prog 11 #[.slice a len cap] w fun e w' => e = .returned (.bool (soundB ts)) ∧ Below w.heap.size w w' := by
  by_cases h8 : 8 < len
  · have i8 : (8 : Int) < (len : Int) := by omega
    have HS : Hid (soundB ts = false) := by unfold Hid soundB; rw [decide_eq_false (show ¬ ts.length ≤ 8 by omega)]; rfl
    clear h8 ht hT
    go_enter Tryd.func11, Tryd.ntmps11
    go_wp2_with fail
    go_ret
    exact ⟨by rw [HS.out]; rfl, Below.refl _ _⟩
  · have i8 : ¬ (8 : Int) < (len : Int) := by omega
    have HSB : Hid (soundB ts = soundF none ts) := by unfold Hid soundB; rw [decide_eq_true (show ts.length ≤ 8 by omega)]; rfl
    have HR : Hid (RowT w a ts) := ht
    have HT : Hid (Tab6 w) := hT
    have HL : Hid (ts.length = len) := hl
    clear ht hl hT h8
    go_enter Tryd.func11, Tryd.ntmps11
    go_wp2_with fail
    go_loopw [10] (fun ix wr => ∃ (wz : World) (i : Nat), wz = wr ∧ i ≤ len ∧ ix = .int .i64 i ∧ soundB ts = soundF (prevB ts i) (ts.drop i) ∧ Below w.heap.size w wz) (fun ix _ => len - (intOf ix).toNat)
    case atStart => exact ⟨_, 0, rfl, Nat.zero_le _, rfl, HSB.out, Below.refl _ _⟩
    case round =>
      clear HSB
      obtain ⟨wr, i, hwr, hi, rfl, hg, hbw⟩ := hrel
      subst hwr
      have HG : Hid (soundB ts = soundF (prevB ts i) (ts.drop i)) := hg
      have HBW : Hid (Below w.heap.size w wr) := hbw
      have HR2 := HR.out.below hbw
      have HT2 := HT.out.below hbw
      clear hg hbw
      by_cases hlt : i < len
      · have hii : (i : Int) < (len : Int) := by omega
        have hil : i < ts.length := by rw [HL.out]; exact hlt
        rcases HR2 with h0 | ⟨g, off, ha, hblt, hc⟩
        · omega
        · subst ha
          obtain ⟨c0, c1⟩ := hc i hil
          have HDC : Hid (ts.drop i = tagAt ts i :: ts.drop (i + 1)) := dropT_cons ts i hil
          have HPV : Hid (prevB ts (i + 1) = some (tagAt ts i).1) := rfl
          have HNO : Hid (tagOK (tagAt ts i) = false → soundB ts = false) := fun h => by
            rw [HG.out, HDC.out]
            cases prevB ts i with
            | none => rw [soundF, h]; rfl
            | some q => rw [soundF, h]; rfl
          have HCP : Hid (∀ k, i = k + 1 → wr.cell? ⟨g, off + k * 2, none⟩ = some (.string (tagAt ts k).1)) := fun k hk => (hc k (by omega)).1
          generalize ht : tagAt ts i = t at *
          obtain ⟨t1, t2⟩ := t
          clear hc
          have HIT : Hid (∀ W, Tab6 W → Calls Tryd.prog 24 #[.agg #[.string t1, .string t2]] W fun e w' => e = .returned (.bool (tagOK (t1, t2))) ∧ Below W.heap.size W w') := fun W hW => istag_any (t1, t2) W hW
          have HGS : Hid (g < wr.heap.size) := hblt
          have HTW : Hid (Tab6 wr) := HT2
          have HCC : Hid (wr.cell? ⟨g, off + i * 2, none⟩ = some (.string t1)) := c0
          clear HT2 hblt
          go_wp2_with fail
          have hbn := below_new wr (.cells #[.string t1, .string t2] 40)
          have e0 : (wr.alloc (.cells #[.string t1, .string t2] 40)).cell? ⟨wr.heap.size, 0, none⟩ = some (.string t1) := by rw [cell_of_row _ wr.heap.size _ _ _ _ (heap_alloc_last wr _)]; rfl
          have e1 : (wr.alloc (.cells #[.string t1, .string t2] 40)).cell? ⟨wr.heap.size, 1, none⟩ = some (.string t2) := by rw [cell_of_row _ wr.heap.size _ _ _ _ (heap_alloc_last wr _)]; rfl
          have e2 : wr.heap.size < (wr.alloc (.cells #[.string t1, .string t2] 40)).heap.size := by simp
          generalize wr.alloc (.cells #[.string t1, .string t2] 40) = w0 at *
          obtain ⟨S, hS⟩ : ∃ S : World → Prop, S = fun w' => Tab6 w' ∧ Below w.heap.size w w' ∧ w'.cell? ⟨wr.heap.size, 0, none⟩ = some (.string t1) ∧ w'.cell? ⟨wr.heap.size, 1, none⟩ = some (.string t2) ∧ (∀ k, i = k + 1 → w'.cell? ⟨g, off + k * 2, none⟩ = some (.string (tagAt ts k).1)) ∧ wr.heap.size < w'.heap.size := ⟨_, rfl⟩
          have hS0 : S w0.drew := by
            rw [hS]
            exact ⟨HTW.out.below (hbn.drew), HBW.out.trans (hbn.drew.mono HBW.out.size), e0, e1, fun k hk => ((hbn.drew).cell (p := ⟨g, off + k * 2, none⟩) HGS.out).trans (HCP.out k hk), e2⟩
          have hne := InS.some hS0
          have HALL : Hid (∀ w', S w' → Tab6 w' ∧ Below w.heap.size w w' ∧ w'.cell? ⟨wr.heap.size, 0, none⟩ = some (.string t1) ∧ w'.cell? ⟨wr.heap.size, 1, none⟩ = some (.string t2) ∧ (∀ k, i = k + 1 → w'.cell? ⟨g, off + k * 2, none⟩ = some (.string (tagAt ts k).1)) ∧ wr.heap.size < w'.heap.size) := fun w' h => by rw [hS] at h; exact h
          have HSS : Hid (S w0.drew) := hS0
          have HKEEP : Hid (∀ W W', S W → Below W.heap.size W W' → S W') := by
            unfold Hid
            rw [hS]
            intro W W' ⟨k1, k2, k3, k4, k5, k6⟩ hb
            have hgs := HGS.out
            exact ⟨k1.below hb, k2.trans (hb.mono k2.size), (hb.cell (p := ⟨wr.heap.size, 0, none⟩) k6).trans k3, (hb.cell (p := ⟨wr.heap.size, 1, none⟩) k6).trans k4, fun k hk => (hb.cell (p := ⟨g, off + k * 2, none⟩) (show g < W.heap.size by omega)).trans (k5 k hk), Nat.lt_of_lt_of_le k6 hb.size⟩
          have HBL : Hid (∀ p : InS S, Below w.heap.size w p.w) := fun p => by have := HALL.out _ p.h; exact this.2.1
          have q0 : ∀ p : InS S, p.w.cell? ⟨wr.heap.size, 0, none⟩ = some (.string t1) := fun p => by have := HALL.out _ p.h; exact this.2.2.1
          have q1 : ∀ p : InS S, p.w.cell? ⟨wr.heap.size, 1, none⟩ = some (.string t2) := fun p => by have := HALL.out _ p.h; exact this.2.2.2.1
          have HQ : Hid (∀ (p : InS S) k, i = k + 1 → p.w.cell? ⟨g, off + k * 2, none⟩ = some (.string (tagAt ts k).1)) := fun p k hk => by have := HALL.out _ p.h; exact this.2.2.2.2.1 k hk
          have HI2 : Hid (∀ p : InS S, Calls Tryd.prog 24 #[.agg #[.string t1, .string t2]] p.w fun e w' => e = .returned (.bool (tagOK (t1, t2))) ∧ S w') := fun p => by
            have h1 : Tab6 p.w := (HALL.out _ p.h).1
            exact (HIT.out p.w h1).mono fun e w' ⟨he, hb⟩ => ⟨he, HKEEP.out _ _ p.h hb⟩
          clear HALL HIT HTW HCC HBW hbn e0 e1 e2 hS HCP HKEEP c0 c1 hS0
          cases hok : tagOK (t1, t2) with
          | false =>
            rw [hok] at HI2
            have HS2 : Hid (soundB ts = false) := HNO.out hok
            clear HNO HG HDC HQ hok
            refine wp_region_in (S := S) (by kernel_rfl) (by kernel_rfl) HSS.out ?_
            repeat (go_big_quiet_step (refine Calls.in_of (HI2.out _)))
            refine wpQuiet_nil ?_
            intro _ hw
            obtain ⟨p, hp⟩ := hw
            have HB : Hid (Below w.heap.size w p.w) := HBL.out p
            subst hp
            generalize p.w = w1 at *
            clear HBL q0 q1 HI2 hne
            go_wp2_with fail
            go_ret
            exact ⟨by rw [HS2.out]; rfl, HB.out⟩
          | true =>
            rw [hok] at HI2
            have HOKT : Hid (tagOK (t1, t2) = true) := hok
            clear hok
            by_cases hz : i = 0
            · have hzi : ¬ (0 : Int) < (i : Int) := by omega
              have hzd : decide (0 < i) = false := decide_eq_false (by omega)
              have HS2 : Hid (soundB ts = soundF (prevB ts (i + 1)) (ts.drop (i + 1))) := by
                unfold Hid
                rw [HG.out, HDC.out, HPV.out]
                conv => lhs; rw [hz]
                show soundF none (_ :: _) = _
                rw [soundF, HOKT.out, Bool.true_and, hz]
              clear HNO HG HDC HQ hz HPV HOKT
              refine wp_region_in (S := S) (by kernel_rfl) (by kernel_rfl) HSS.out ?_
              repeat (go_big_quiet_step (refine Calls.in_of (HI2.out _)))
              refine wpQuiet_nil ?_
              intro _ hw
              obtain ⟨p, hp⟩ := hw
              have HB : Hid (Below w.heap.size w p.w) := HBL.out p
              subst hp
              generalize p.w = w1 at *
              clear HBL q0 q1 HI2 hne
              go_wp2_with fail
              go_roundw
              case rel => exact ⟨_, i + 1, rfl, by omega, by go_num, HS2.out, HB.out⟩
              case measure => simp [intOf]; omega
            · have hzi : (0 : Int) < (i : Int) := by omega
              have hzd : decide (0 < i) = true := decide_eq_true (by omega)
              obtain ⟨k, hk⟩ : ∃ k, i = k + 1 := ⟨i - 1, by omega⟩
              have hki : (i : Int) - 1 = (k : Int) := by omega
              have hkl : (k : Int) < (len : Int) := by omega
              have cp : ∀ p : InS S, p.w.cell? ⟨g, off + k * 2, none⟩ = some (.string (tagAt ts k).1) := fun p => HQ.out p k hk
              have HST : Hid (soundB ts = (!leB t1 (tagAt ts k).1 && soundF (prevB ts (i + 1)) (ts.drop (i + 1)))) := by
                unfold Hid
                rw [HG.out, HDC.out, HPV.out, show prevB ts i = some (tagAt ts k).1 by rw [hk]; rfl, soundF, HOKT.out, Bool.true_and]
              generalize (tagAt ts k).1 = s at *
              have hle := str_geq 9 s t1
              clear HNO HG HDC HQ hz HPV HOKT hk
              cases hq : leB t1 s with
              | true =>
                rw [hq] at hle
                have HS2 : Hid (soundB ts = false) := by unfold Hid; rw [HST.out, hq]; rfl
                clear HST hq
                refine wp_region_in (S := S) (by kernel_rfl) (by kernel_rfl) HSS.out ?_
                repeat (go_big_quiet_step (refine Calls.in_of (HI2.out _)))
                refine wpQuiet_nil ?_
                intro _ hw
                obtain ⟨p, hp⟩ := hw
                have HB : Hid (Below w.heap.size w p.w) := HBL.out p
                subst hp
                generalize p.w = w1 at *
                clear HBL q0 q1 HI2 hne cp
                go_wp2_with fail
                go_ret
                exact ⟨by rw [HS2.out]; rfl, HB.out⟩
              | false =>
                rw [hq] at hle
                have HS2 : Hid (soundB ts = soundF (prevB ts (i + 1)) (ts.drop (i + 1))) := by unfold Hid; rw [HST.out, hq]; rfl
                clear HST hq
                refine wp_region_in (S := S) (by kernel_rfl) (by kernel_rfl) HSS.out ?_
                repeat (go_big_quiet_step (refine Calls.in_of (HI2.out _)))
                refine wpQuiet_nil ?_
                intro _ hw
                obtain ⟨p, hp⟩ := hw
                have HB : Hid (Below w.heap.size w p.w) := HBL.out p
                subst hp
                generalize p.w = w1 at *
                clear HBL q0 q1 HI2 hne cp
                go_wp2_with fail
                go_roundw
                case rel => exact ⟨_, i + 1, rfl, by omega, by go_num, HS2.out, HB.out⟩
                case measure => simp [intOf]; omega
      · have hii : ¬ (i : Int) < (len : Int) := by omega
        have HS2 : Hid (soundB ts = true) := by
          unfold Hid
          rw [HG.out, show i = ts.length by rw [HL.out]; omega, List.drop_length]
          cases prevB ts ts.length <;> rfl
        go_wp2_with fail
        go_ret
        exact ⟨by rw [HS2.out]; rfl, HBW.out⟩
end Go.Proofs.YtbfgkogmojnilaaDoor
