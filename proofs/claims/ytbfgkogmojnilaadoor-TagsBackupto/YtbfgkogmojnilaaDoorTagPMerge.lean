/-
  The program's Merge, as the document's answer.
-/
import Derived.Test.YtbfgkogmojnilaaDoorTagPMade
import Derived.Test.YtbfgkogmojnilaaDoorTagPParse
namespace Go.Proofs.YtbfgkogmojnilaaDoor
open Go.ChangeShapes Go.WideShapes Go.ChangeAt Go.RowKit
set_option linter.unusedVariables false
set_option linter.unusedSimpArgs false
/-- What Make makes does not hang on the order. -/
theorem makeF_perm {ts us : List (ByteArray × ByteArray)} (h : ts.Perm us) : makeF [] ts = makeF [] us := by
  cases h1 : makeF [] ts with
  | none =>
    cases h2 : makeF [] us with
    | none => rfl
    | some r2 =>
      obtain ⟨a, b⟩ := make_rise us [] r2 List.Pairwise.nil h2
      rw [List.nil_append] at b
      obtain ⟨r, hr⟩ := make_some ts [] (by rw [List.nil_append]; exact (dist_perm (b.trans h.symm)).1 a.dist)
      rw [h1] at hr
      cases hr
  | some r1 =>
    obtain ⟨a, b⟩ := make_rise ts [] r1 List.Pairwise.nil h1
    rw [List.nil_append] at b
    obtain ⟨r2, h2⟩ := make_some us [] (by rw [List.nil_append]; exact (dist_perm (b.trans h)).1 a.dist)
    obtain ⟨c, d⟩ := make_rise us [] r2 List.Pairwise.nil h2
    rw [List.nil_append] at d
    rw [h2, rise_same r1 r2 a c (b.trans (h.trans d.symm))]
theorem makeB_perm {ts us : List (ByteArray × ByteArray)} (h : ts.Perm us) : makeB ts = makeB us := by
  unfold makeB
  rw [makeF_perm h, h.length_eq]
set_option maxRecDepth 100000 in
set_option maxHeartbeats 4000000 in
theorem tmerge_any (a : Option Addr) (la ca : Nat) (ts : List (ByteArray × ByteArray)) (b : Option Addr) (lb cb : Nat) (us : List (ByteArray × ByteArray)) (w : World) (hT : Tab6 w) (ht : RowT w a ts) (hl : ts.length = la) (hlb : la ≤ 9223372036854775806) (hu : RowT w b us) (hlu : us.length = lb) (hlub : lb ≤ 9223372036854775806) (hnil : b = none → lb = 0 ∧ cb = 0) :
    Calls Tryd.prog 17 #[.slice a la ca, .slice b lb cb] w fun e w' => TagsR (mergeB ts us) e w' ∧ Below w.heap.size w w' := by
  have HSA : Hid _ := tsound_any a la ca ts w hT ht hl hlb
  have HSB : Hid (∀ V, Below w.heap.size w V → Calls Tryd.prog 11 #[.slice b lb cb] V fun e w' => e = .returned (.bool (soundB us)) ∧ Below V.heap.size V w') := fun V hV => tsound_any b lb cb us V (hT.below hV) (hu.below hV) hlu hlub
  have HR : Hid (RowT w a ts) := ht
  have HU : Hid (RowT w b us) := hu
  have HL : Hid (ts.length = la) := hl
  have HLU : Hid (us.length = lb) := hlu
  have HNIL : Hid (b = none → lb = 0 ∧ cb = 0) := hnil
  have HT : Hid (Tab6 w) := hT
  clear ht hu hl hlu hT hnil
  cases h1 : soundB ts with
  | false =>
    have HS2 : Hid (mergeB ts us = .error 2) := by unfold Hid mergeB; rw [h1]; rfl
    rw [h1] at HSA
    clear h1
    go_enter Tryd.func17, Tryd.ntmps17
    go_wp2_with fail
    refine Calls.mono HSA.out ?_
    rintro _ w1 ⟨rfl, hb⟩
    have HB1 : Hid (Below w.heap.size w w1) := hb
    clear hb HSA
    go_wp2_with fail
    go_ret2
    exact ⟨by rw [HS2.out]; exact rfl, HB1.out⟩
  | true =>
    have hl8 := sound_short h1
    rw [h1] at HSA
    cases h2 : soundB us with
    | false =>
      have HS2 : Hid (mergeB ts us = .error 2) := by unfold Hid mergeB; rw [h1, h2]; rfl
      rw [h2] at HSB
      clear h1 h2
      go_enter Tryd.func17, Tryd.ntmps17
      go_wp2_with fail
      refine Calls.mono HSA.out ?_
      rintro _ w1 ⟨rfl, hb⟩
      have HB1 : Hid (Below w.heap.size w w1) := hb
      clear hb HSA
      go_wp2_with fail
      refine Calls.mono (HSB.out w1 HB1.out) ?_
      rintro _ w2 ⟨rfl, hb⟩
      have HB2 : Hid (Below w.heap.size w w2) := HB1.out.trans (hb.mono HB1.out.size)
      clear hb HSB
      go_wp2_with fail
      go_ret2
      exact ⟨by rw [HS2.out]; exact rfl, HB2.out⟩
    | true =>
      have hu8 := sound_short h2
      have hla8 : la ≤ 8 := by rw [← HL.out]; exact hl8
      have hlb8 : lb ≤ 8 := by rw [← HLU.out]; exact hu8
      have HS2 : Hid (mergeB ts us = makeB (restB us ts ++ us)) := by
        unfold Hid mergeB
        rw [h1, h2, makeB_perm (List.perm_append_comm (l₁ := us) (l₂ := restB us ts))]
        rfl
      rw [h2] at HSB
      clear h1 h2 hl8 hu8
      go_enter Tryd.func17, Tryd.ntmps17
      go_wp2_with fail
      refine Calls.mono HSA.out ?_
      rintro _ w1 ⟨rfl, hb⟩
      have HB1 : Hid (Below w.heap.size w w1) := hb
      clear hb HSA
      go_wp2_with fail
      refine Calls.mono (HSB.out w1 HB1.out) ?_
      rintro _ w2 ⟨rfl, hb⟩
      have HB2 : Hid (Below w.heap.size w w2) := HB1.out.trans (hb.mono HB1.out.size)
      clear hb HSB HB1
      go_wp2_with fail
      go_loopw [6, 21] (fun ov ix wr => ∃ (wz : World) (i : Nat) (v0 : Value), wz = wr ∧ ov = v0 ∧ i ≤ la ∧ ix = .int .i64 i ∧ OwnT wz w.heap.size v0 (restB us (ts.take i)) ∧ Below w.heap.size w wz) (fun _ ix _ => la - (intOf ix).toNat)
      case atStart => exact ⟨_, 0, _, rfl, rfl, Nat.zero_le _, rfl, OwnT.none _ _, HB2.out⟩
      case round =>
        clear HB2
        obtain ⟨wr, i, ov, hwr, hov, hi, rfl, hown, hbw⟩ := hrel
        subst hwr
        replace hov := hov.symm
        subst hov
        have HOW : Hid (OwnT wr w.heap.size ov (restB us (ts.take i))) := hown
        have HBW : Hid (Below w.heap.size w wr) := hbw
        have HOL : Hid ((restB us (ts.take i)).length ≤ i) := by
          unfold Hid
          have := rest_len us (ts.take i)
          rw [List.length_take] at this
          omega
        have HR2 := HR.out.below hbw
        clear hown hbw
        by_cases hlt : i < la
        · have hii : (i : Int) < (la : Int) := by omega
          have hil : i < ts.length := by rw [HL.out]; exact hlt
          rcases HR2 with h0 | ⟨g, off, ha, hblt, hc⟩
          · omega
          · subst ha
            obtain ⟨c0, c1⟩ := hc i hil
            have HST : Hid (restB us (ts.take (i + 1)) = restB us (ts.take i) ++ (match getB us (tagAt ts i).1 with | none => [tagAt ts i] | some _ => [])) := by unfold Hid; rw [takeT2_snoc ts i hil, rest_snoc]; cases getB us (tagAt ts i).1 <;> rfl
            generalize tagAt ts i = t at *
            obtain ⟨t1, t2⟩ := t
            have hzr : w.heap.size ≤ wr.heap.size := HBW.out.size
            have HBA : Hid (Below w.heap.size w (wr.alloc (.cells #[.string t1, .string t2] 40))) := HBW.out.alloc hzr _
            have HOA : Hid (OwnT (wr.alloc (.cells #[.string t1, .string t2] 40)) w.heap.size ov (restB us (ts.take i))) := HOW.out.alloc _
            have e0 : (wr.alloc (.cells #[.string t1, .string t2] 40)).cell? ⟨wr.heap.size, 0, none⟩ = some (.string t1) := by rw [cell_of_row _ wr.heap.size _ _ _ _ (heap_alloc_last wr _)]; rfl
            have e1 : (wr.alloc (.cells #[.string t1, .string t2] 40)).cell? ⟨wr.heap.size, 1, none⟩ = some (.string t2) := by rw [cell_of_row _ wr.heap.size _ _ _ _ (heap_alloc_last wr _)]; rfl
            have HZ : Hid (wr.heap.size < (wr.alloc (.cells #[.string t1, .string t2] 40)).heap.size) := by unfold Hid; simp
            have HG : Hid (∀ V, Below w.heap.size w V → Calls Tryd.prog 18 #[.slice b lb cb, .string t1] V fun e w' => e = .returned (optT (getB us t1)) ∧ Below V.heap.size V w') := fun V hV => tget_any b lb cb us t1 V (HU.out.below hV) HLU.out hlub
            simp only [] at HST
            clear hc HR HOW
            cases hg : getB us t1 with
            | none =>
              rw [hg, show optT none = .tuple #[.string (ByteArray.mk #[]), .bool false] from rfl] at HG
              have HS3 : Hid (restB us (ts.take (i + 1)) = restB us (ts.take i) ++ [(t1, t2)]) := by unfold Hid; rw [HST.out, hg]
              clear HST hg
              go_wp2_with fail
              generalize wr.alloc (.cells #[.string t1, .string t2] 40) = wA at *
              refine Calls.mono (HG.out _ HBA.out) ?_
              rintro _ w3 ⟨rfl, hb⟩
              have d0 := (hb.cell (p := ⟨wr.heap.size, 0, none⟩) HZ.out).trans e0
              have d1 := (hb.cell (p := ⟨wr.heap.size, 1, none⟩) HZ.out).trans e1
              have HO3 : Hid (OwnT w3 w.heap.size ov (restB us (ts.take i))) := own_below HOA.out hb
              have HB3 : Hid (Below w.heap.size w w3) := HBA.out.trans (hb.mono HBA.out.size)
              have hz3 : w.heap.size ≤ w3.heap.size := HB3.out.size
              clear hb e0 e1 HOA HBA HG
              have HRB : Hid (RowT (w3.alloc (.cells #[.string t1, .string t2] 40)) (some ⟨w3.heap.size, 0, none⟩) [(t1, t2)]) := rowT_new w3 (t1, t2)
              have HOB : Hid (OwnT (w3.alloc (.cells #[.string t1, .string t2] 40)) w.heap.size ov (restB us (ts.take i))) := HO3.out.alloc _
              have HBB : Hid (Below w.heap.size w (w3.alloc (.cells #[.string t1, .string t2] 40))) := HB3.out.alloc hz3 _
              go_wp2_with (at_builtin; (refine appendT (w3.alloc (.cells #[.string t1, .string t2] 40)) rfl _ _ rfl w.heap.size ov (restB us (ts.take i)) [(t1, t2)] rfl HOB.out (some ⟨w3.heap.size, 0, none⟩) 1 1 rfl HRB.out rfl (fun h => by cases h) (by have := HOL.out; omega) (by simp; omega) ?_; intro v7 w7 hown7 hb7))
              go_roundw
              case rel => exact ⟨w7, i + 1, v7, rfl, rfl, by omega, by go_num, by rw [HS3.out]; exact hown7, HBB.out.trans hb7⟩
              case measure => simp [intOf]; omega
            | some v =>
              rw [hg, show optT (some v) = .tuple #[.string v, .bool true] from rfl] at HG
              have HS3 : Hid (restB us (ts.take (i + 1)) = restB us (ts.take i)) := by unfold Hid; rw [HST.out, hg, List.append_nil]
              clear HST hg
              go_wp2_with fail
              generalize wr.alloc (.cells #[.string t1, .string t2] 40) = wA at *
              refine Calls.mono (HG.out _ HBA.out) ?_
              rintro _ w3 ⟨rfl, hb⟩
              have HO3 : Hid (OwnT w3 w.heap.size ov (restB us (ts.take i))) := own_below HOA.out hb
              have HB3 : Hid (Below w.heap.size w w3) := HBA.out.trans (hb.mono HBA.out.size)
              clear hb e0 e1 HOA HBA HG
              go_wp2_with fail
              go_roundw
              case rel => exact ⟨w3, i + 1, ov, rfl, rfl, by omega, by go_num, by rw [HS3.out]; exact HO3.out, HB3.out⟩
              case measure => simp [intOf]; omega
        · have hii : ¬ (i : Int) < (la : Int) := by omega
          have HTK : Hid (ts.take i = ts) := by unfold Hid; rw [show i = ts.length by rw [HL.out]; omega, List.take_length]
          rw [HTK.out] at HOW HOL
          have hzr : w.heap.size ≤ wr.heap.size := HBW.out.size
          have HUW : Hid (RowT wr b us) := HU.out.below HBW.out
          have HTW : Hid (Tab6 wr) := HT.out.below HBW.out
          have hrl : (restB us ts).length ≤ 8 := by have := HOL.out; omega
          clear HR HU HL HTK HOL
          go_wp2_with (at_builtin; (refine appendT wr rfl _ _ rfl w.heap.size ov (restB us ts) us rfl HOW.out b lb cb rfl HUW.out HLU.out HNIL.out (by omega) hzr ?_; intro v7 w7 hown7 hb7))
          obtain ⟨a9, c9, hv9, hr9, hc9, hm9, -⟩ := hown7.row
          obtain ⟨k9, hk9⟩ : ∃ k9, (restB us ts ++ us).length = k9 := ⟨_, rfl⟩
          have hk9b : k9 ≤ 16 := by rw [← hk9, List.length_append, HLU.out]; omega
          rw [hk9] at hv9
          subst hv9
          have HB7 : Hid (Below w.heap.size w w7) := HBW.out.trans hb7
          have HMK : Hid _ := tmake_any a9 k9 c9 (restB us ts ++ us) w7 (HT.out.below HB7.out) hr9 hk9 (by omega)
          rw [← HS2.out] at HMK
          clear hown7 hb7 hr9 hc9 hm9 hk9 HOW HBW HUW HTW HLU HNIL
          go_wp2_with fail
          refine Calls.mono HMK.out ?_
          rintro e w8 ⟨he, hb⟩
          have HB8 : Hid (Below w.heap.size w w8) := HB7.out.trans (hb.mono HB7.out.size)
          clear hb HMK HS2
          cases hx : mergeB ts us with
          | error E =>
            rw [hx] at he
            have he' : e = .returned (.tuple #[.slice none 0 0, .int .i64 (E : Nat)]) := he
            subst he'
            clear he
            have HX : Hid (mergeB ts us = .error E) := hx
            clear hx
            go_wp2_with fail
            go_ret2
            exact ⟨by rw [HX.out]; exact rfl, HB8.out⟩
          | ok out =>
            rw [hx] at he
            obtain ⟨a9, c9, rfl, hr9, hc9⟩ := he
            have HX : Hid (mergeB ts us = .ok out) := hx
            have HR9 : Hid (RowT w8 a9 out ∧ out.length ≤ c9) := ⟨hr9, hc9⟩
            obtain ⟨n9, hn9⟩ : ∃ n9, out.length = n9 := ⟨_, rfl⟩
            rw [hn9]
            have HN9 : Hid (out.length = n9) := hn9
            clear hx hr9 hn9 hc9
            go_wp2_with fail
            go_ret2
            refine ⟨?_, HB8.out⟩
            rw [HX.out]
            exact ⟨a9, c9, by rw [HN9.out]; rfl, HR9.out⟩
end Go.Proofs.YtbfgkogmojnilaaDoor
