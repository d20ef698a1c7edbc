/-
  The program's Parse, as the document's answer.
-/
import Derived.Test.YtbfgkogmojnilaaDoorTagPPart
import Derived.Test.YtbfgkogmojnilaaDoorTagLaws
namespace Go.Proofs.YtbfgkogmojnilaaDoor
open Go.ChangeShapes Go.WideShapes Go.ChangeAt Go.RowKit
set_option linter.unusedVariables false
set_option linter.unusedSimpArgs false
theorem OwnT.none (w : World) (base : Nat) : OwnT w base (.slice none 0 0) [] := ⟨rfl, .inl ⟨rfl, rfl⟩⟩
theorem parts_cons {l : List (List Nat)} {i : Nat} {p : List Nat} {out : List (ByteArray × ByteArray)} (h : l[i]? = some p) : partsF (l.drop i) out = match pairO p with | none => none | some t => partsF (l.drop (i + 1)) (out ++ [t]) := by
  have hi : i < l.length := (List.getElem?_eq_some_iff.1 h).1
  have e : l[i] = p := (List.getElem?_eq_some_iff.1 h).2
  rw [List.drop_eq_getElem_cons hi, partsF, e]
  cases pairO p <;> rfl
set_option maxRecDepth 100000 in
set_option maxHeartbeats 4000000 in
theorem tparse_any (S : ByteArray) (w : World) (hT : Tab6 w) (hs : S.size ≤ 1073741824) :
    Calls Tryd.prog 15 #[.string S] w fun e w' => TagsR (parseB (txt S)) e w' ∧ Below w.heap.size w w' := by
  have hemp := empty_txt S
  by_cases hE : txt S = []
  · have HR : Hid (parseB (txt S) = .ok []) := by unfold Hid parseB; rw [if_pos hE]
    rw [decide_eq_true hE] at hemp
    have hemp2 := (empty_iff S).2 hE
    clear hE
    go_enter Tryd.func15, Tryd.ntmps15
    go_wp2_with fail
    go_ret2
    refine ⟨?_, Below.refl _ _⟩
    rw [HR.out]
    exact ⟨none, 0, rfl, .inl rfl, Nat.le_refl _⟩
  · rw [decide_eq_false hE] at hemp
    have hemp2 : ¬ S.toList = [] := fun e => hE ((empty_iff S).1 e)
    obtain ⟨ps, n, k0, k1, k2, k3, k4, HSP⟩ := split_any S (ByteArray.mk #[38]) 38 rfl w hT hs
    have HPB : Hid (parseB (txt S) = match partsF (ps.map txt) [] with | none => .error 5 | some out => if soundB out then .ok out else .error 2) := by
      unfold Hid parseB
      rw [if_neg hE, parse_parts, k1]
      rfl
    have HSPH : Hid _ := HSP
    have HT : Hid (Tab6 w) := hT
    have HK4 : Hid (∀ p ∈ ps, p.size ≤ S.size) := k4
    have HN : Hid (ps.length = n) := k0
    clear HSP k0 k1 k4 hT hE
    go_enter Tryd.func15, Tryd.ntmps15
    go_wp2_with fail
    refine Calls.mono HSPH.out ?_
    rintro _ w1 ⟨rfl, hb, hlt, hc⟩
    have HB1 : Hid (Below w.heap.size w w1) := hb
    have HC1 : Hid (∀ i x, ps[i]? = some x → w1.cell? ⟨w.heap.size, i, none⟩ = some (.string x)) := hc
    have HLT : Hid (w.heap.size < w1.heap.size) := hlt
    have hlt1 : w.heap.size ≤ w1.heap.size := Nat.le_of_lt hlt
    clear hb hlt hc HSPH
    go_wp2_with fail
    go_loopw [4, 14] (fun ov ix wr => ∃ (wz : World) (i : Nat) (v0 : Value) (out : List (ByteArray × ByteArray)), wz = wr ∧ ov = v0 ∧ i ≤ n ∧ ix = .int .i64 i ∧ OwnT wz w1.heap.size v0 out ∧ out.length ≤ i ∧ partsF (ps.map txt) [] = partsF ((ps.map txt).drop i) out ∧ Below w1.heap.size w1 wz) (fun _ ix _ => n - (intOf ix).toNat)
    case atStart => exact ⟨_, 0, _, [], rfl, rfl, Nat.zero_le _, rfl, OwnT.none _ _, Nat.le_refl _, rfl, Below.refl _ _⟩
    case round =>
      obtain ⟨wr, i, ov, out, hwr, hov, hi, rfl, hown, hol, hpf, hbw⟩ := hrel
      subst hwr
      replace hov := hov.symm
      subst hov
      have HOW : Hid (OwnT wr w1.heap.size ov out) := hown
      have HOL : Hid (out.length ≤ i) := hol
      have HPF : Hid (partsF (ps.map txt) [] = partsF ((ps.map txt).drop i) out) := hpf
      have HBW : Hid (Below w1.heap.size w1 wr) := hbw
      have HBT : Hid (Below w.heap.size w wr) := HB1.out.trans (hbw.mono hlt1)
      have HTW : Hid (Tab6 wr) := HT.out.below HBT.out
      clear hown hol hpf hbw
      by_cases hlt : i < n
      · have hii : (i : Int) < (n : Int) := by omega
        have hil : i < ps.length := by rw [HN.out]; exact hlt
        obtain ⟨p, hp⟩ : ∃ p, ps[i]? = some p := ⟨_, List.getElem?_eq_getElem hil⟩
        have c0 := (HBW.out.cell (p := ⟨w.heap.size, i, none⟩) HLT.out).trans (HC1.out i p hp)
        have hps : p.size ≤ S.size := HK4.out p (List.mem_of_getElem? hp)
        have HPP : Hid _ := part_any p wr HTW.out (by omega)
        have HST : Hid (partsF (ps.map txt) [] = match pairO (txt p) with | none => none | some t => partsF ((ps.map txt).drop (i + 1)) (out ++ [t])) := by
          unfold Hid
          rw [HPF.out, parts_cons (by rw [List.getElem?_map, hp]; rfl)]
        clear hp HPF
        cases hpo : pairO (txt p) with
        | none =>
          rw [hpo, show partV none = .tuple #[.agg #[.string (ByteArray.mk #[]), .string (ByteArray.mk #[])], .int .i64 5] from rfl] at HPP
          have HS2 : Hid (parseB (txt S) = .error 5) := by unfold Hid; rw [HPB.out, HST.out, hpo]
          clear hpo HST HPB
          go_wp2_with fail
          refine Calls.mono HPP.out ?_
          rintro _ w2 ⟨rfl, hb⟩
          have HB2 : Hid (Below w.heap.size w (w2.alloc (.cells #[.string (ByteArray.mk #[]), .string (ByteArray.mk #[])] 40))) := (HBT.out.trans (hb.mono HBT.out.size)).trans ((below_new w2 _).mono (Nat.le_trans HBT.out.size hb.size))
          clear hb HPP
          go_wp2_with fail
          go_ret2
          exact ⟨by rw [HS2.out]; exact rfl, HB2.out⟩
        | some t =>
          obtain ⟨t1, t2⟩ := t
          rw [hpo, show partV (some (t1, t2)) = .tuple #[.agg #[.string t1, .string t2], .int .i64 0] from rfl] at HPP
          have HS2 : Hid (partsF (ps.map txt) [] = partsF ((ps.map txt).drop (i + 1)) (out ++ [(t1, t2)])) := by unfold Hid; rw [HST.out, hpo]
          clear hpo HST
          go_wp2_with fail
          refine Calls.mono HPP.out ?_
          rintro _ w2 ⟨rfl, hb⟩
          have HO2 : Hid (OwnT w2 w1.heap.size ov out) := own_below HOW.out hb
          have HB2 : Hid (Below w1.heap.size w1 w2) := HBW.out.trans (hb.mono HBW.out.size)
          have hz2 : w1.heap.size ≤ w2.heap.size := HB2.out.size
          clear hb HPP HOW HBW HBT HTW
          obtain ⟨wA, hA⟩ : ∃ wA, wA = w2.alloc (.cells #[.string t1, .string t2] 40) := ⟨_, rfl⟩
          have HBB : Hid (Below w1.heap.size w1 ((w2.alloc (.cells #[.string t1, .string t2] 40)).alloc (.cells #[.string t1, .string t2] 40))) := (HB2.out.alloc hz2 _).alloc (by simp; omega) _
          have HOB : Hid (OwnT ((w2.alloc (.cells #[.string t1, .string t2] 40)).alloc (.cells #[.string t1, .string t2] 40)) w1.heap.size ov out) := (HO2.out.alloc _).alloc _
          have HRB : Hid (RowT ((w2.alloc (.cells #[.string t1, .string t2] 40)).alloc (.cells #[.string t1, .string t2] 40)) (some ⟨w2.heap.size + 1, 0, none⟩) [(t1, t2)]) := by
            have := rowT_new (w2.alloc (.cells #[.string t1, .string t2] 40)) (t1, t2)
            rw [show (w2.alloc (.cells #[.string t1, .string t2] 40)).heap.size = w2.heap.size + 1 by simp] at this
            exact this
          clear hA wA
          go_wp2_with (at_builtin; (refine appendT ((w2.alloc (.cells #[.string t1, .string t2] 40)).alloc (.cells #[.string t1, .string t2] 40)) rfl _ _ rfl w1.heap.size ov out [(t1, t2)] rfl HOB.out (some ⟨w2.heap.size + 1, 0, none⟩) 1 1 rfl HRB.out rfl (fun h => by cases h) (by have := HOL.out; omega) (by simp; omega) ?_; intro v7 w7 hown7 hb7))
          go_roundw
          case rel => exact ⟨w7, i + 1, v7, out ++ [(t1, t2)], rfl, rfl, by omega, by go_num, hown7, by rw [List.length_append]; have := HOL.out; simp; omega, HS2.out, HBB.out.trans hb7⟩
          case measure => simp [intOf]; omega
      · have hii : ¬ (i : Int) < (n : Int) := by omega
        obtain ⟨a9, c9, hv9, hr9, hc9, hm9, -⟩ := HOW.out.row
        have HPB2 : Hid (parseB (txt S) = if soundB out then .ok out else .error 2) := by
          unfold Hid
          rw [HPB.out, HPF.out, List.drop_eq_nil_of_le (by rw [List.length_map, HN.out]; omega), partsF]
        obtain ⟨k9, hk9⟩ : ∃ k9, out.length = k9 := ⟨_, rfl⟩
        have HK9 : Hid (out.length = k9) := hk9
        have HC9 : Hid (out.length ≤ c9) := hc9
        have HR9 : Hid (RowT wr a9 out) := hr9
        rw [hk9] at hv9
        subst hv9
        have HSN : Hid _ := tsound_any a9 k9 c9 out wr HTW.out hr9 hk9 (by have := HOL.out; omega)
        clear hk9 hc9 hr9 hm9 HPB HPF HOW HC1
        go_wp2_with fail
        refine Calls.mono HSN.out ?_
        rintro _ w2 ⟨rfl, hb⟩
        have HB2 : Hid (Below w.heap.size w w2) := HBT.out.trans (hb.mono HBT.out.size)
        have HR2 : Hid (RowT w2 a9 out) := HR9.out.below hb
        clear hb HSN HR9 HBT HBW HTW
        cases hsn : soundB out with
        | false =>
          have HS2 : Hid (parseB (txt S) = .error 2) := by unfold Hid; rw [HPB2.out, hsn]; rfl
          clear hsn HPB2
          go_wp2_with fail
          go_ret2
          exact ⟨by rw [HS2.out]; exact rfl, HB2.out⟩
        | true =>
          have HS2 : Hid (parseB (txt S) = .ok out) := by unfold Hid; rw [HPB2.out, hsn]; rfl
          clear hsn HPB2
          go_wp2_with fail
          go_ret2
          refine ⟨?_, HB2.out⟩
          rw [HS2.out]
          exact ⟨a9, c9, by rw [HK9.out]; rfl, HR2.out, HC9.out⟩
end Go.Proofs.YtbfgkogmojnilaaDoor
