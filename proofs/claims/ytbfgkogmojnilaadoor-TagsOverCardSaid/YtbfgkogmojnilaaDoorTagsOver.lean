/-
  TagsOver: for any two lists of tags and any name: merged tags have all of the second ones, and of the first ones those whose names are not there; merged again they stay; where Merge answers an error it answers no tags.
-/
import Derived.Test.YtbfgkogmojnilaaDoorCards
import Derived.Test.YtbfgkogmojnilaaDoorTie
import Derived.Test.YtbfgkogmojnilaaDoorCArgs
import Derived.Test.YtbfgkogmojnilaaDoorLabelLaid
import Derived.Test.YtbfgkogmojnilaaDoorTagArgs
import Derived.Test.YtbfgkogmojnilaaDoorTagAwake
import Derived.Test.YtbfgkogmojnilaaDoorTagLaws
namespace Go.Proofs.YtbfgkogmojnilaaDoor.tagsOver
open Go.ChangeShapes Go.WideShapes Go.ChangeAt Go.RowKit
open Go.ChangeMaps (open_string shut_string)
set_option linter.unusedVariables false
set_option linter.unusedSimpArgs false
set_option maxRecDepth 100000 in
set_option maxHeartbeats 8000000 in
theorem walk (W : World) (hTab : Tab6 W) (a : Option Addr) (la ca : Nat) (ts : List (ByteArray × ByteArray)) (hT : ArgT W a la ca ts) (b : Option Addr) (lb cb : Nat) (us : List (ByteArray × ByteArray)) (hU : ArgT W b lb cb us) (N : ByteArray) (wN : N.size ≤ 140737488351232) :
    Calls Tryd.prog 6 #[.slice a la ca, .slice b lb cb, .string N] W fun e W' => e = .returned (.bool true) ∧ Below W.heap.size W W' := by
  obtain ⟨hr, hl, hlb, hsh, hnil⟩ := hT
  obtain ⟨ur, ul, ulb, ush, unil⟩ := hU
  have HM : Hid _ := tmerge_any a la ca ts b lb cb us W hTab hr hl hlb ur ul ulb unil
  have HTAB : Hid (Tab6 W) := hTab
  have HA : Hid (∀ V, Below W.heap.size W V → Calls Tryd.prog 9 #[] V fun e w' => e = .returned (.bool true) ∧ Below V.heap.size V w') := fun V hV => awake_true V (HTAB.out.below hV)
  cases hx : mergeB ts us with
  | error E =>
    have hE0 := merge_err hx
    have hei : ((E : Int) != 0) = true := by rw [bne_iff_ne]; omega
    rw [hx] at HM
    obtain ⟨o, ho, hol⟩ : ∃ o, outB (.error E) = o ∧ o.length = 0 := ⟨[], rfl, rfl⟩
    have hE : errB (.error E) = E := rfl
    clear hTab hr hl hlb hsh hnil ur ul ulb ush unil hx hE0
    go_enter Tryd.func6, Tryd.ntmps6
    go_wp2_with fail
    refine Calls.mono HM.out ?_
    rintro _ w1 ⟨he, hb⟩
    obtain ⟨a1, n1, c1, rfl, hr1, hn1, hc1⟩ := tags_as hE ho he
    have HB1 : Hid (Below W.heap.size W w1) := hb
    have hn0 : ((n1 : Int) == 0) = true := by rw [beq_iff_eq]; omega
    clear hb he hr1 hn1 hc1 HM
    go_wp2_with fail
    refine Calls.mono (HA.out _ HB1.out) ?_
    rintro _ w2 ⟨rfl, hb⟩
    have HB2 : Hid (Below W.heap.size W w2) := HB1.out.trans (hb.mono HB1.out.size)
    clear hb HB1
    go_wp2_with fail
    refine Calls.mono (HA.out _ HB2.out) ?_
    rintro _ w3 ⟨rfl, hb⟩
    have HB3 : Hid (Below W.heap.size W w3) := HB2.out.trans (hb.mono HB2.out.size)
    clear hb HB2
    go_wp2_with fail
    go_ret
    exact ⟨rfl, HB3.out⟩
  | ok m =>
    obtain ⟨hsm, hwi, hmg, hget⟩ := merge_parts hx
    have hol := sound_len hsm
    have HSHM : Hid (Short m) := sound_Short hsm
    have HWI : Hid (allB us m = true) := within_all hwi
    have HMG : Hid (mergeB m us = .ok m) := hmg
    have HSN : Hid (soundB m = true) := hsm
    have HRU : Hid (∀ V, Below W.heap.size W V → RowT V b us) := fun V hV => ur.below hV
    have HLU : Hid (us.length = lb ∧ lb ≤ 9223372036854775806 ∧ Short us ∧ (b = none → lb = 0 ∧ cb = 0)) := ⟨ul, ulb, ush, unil⟩
    have HGA : Hid (∀ V, Below W.heap.size W V → Calls Tryd.prog 18 #[.slice a la ca, .string N] V fun e w' => e = .returned (optT (getB ts N)) ∧ Below V.heap.size V w') := fun V hV => tget_any a la ca ts N V (hr.below hV) hl hlb
    have HGB : Hid (∀ V, Below W.heap.size W V → Calls Tryd.prog 18 #[.slice b lb cb, .string N] V fun e w' => e = .returned (optT (getB us N)) ∧ Below V.heap.size V w') := fun V hV => tget_any b lb cb us N V (ur.below hV) ul ulb
    have hgm := hget N
    rw [hx] at HM
    obtain ⟨z, hE, hz⟩ : ∃ z : Nat, errB (.ok m) = z ∧ z = 0 := ⟨0, rfl, rfl⟩
    subst hz
    have ho : outB (.ok m) = m := rfl
    obtain ⟨X, B, hXB⟩ := optT_form (getB ts N)
    rw [hXB] at HGA
    have hxx : (X.toList == X.toList) = true := by simp
    have hbb : (B == B) = true := by cases B <;> rfl
    cases hub : getB us N with
    | some y =>
      rw [hub] at hgm HGB
      simp only [] at hgm
      rw [show optT (some y) = .tuple #[.string y, .bool true] from rfl] at HGB
      have hGM : optT (getB m N) = .tuple #[.string y, .bool true] := by rw [hgm]; rfl
      have hyy : (y.toList == y.toList) = true := by simp
      clear hTab hr hl hlb hsh hnil ur ul ulb ush unil hx hsm hwi hmg hget hgm hXB hub
      go_enter Tryd.func6, Tryd.ntmps6
      go_wp2_with fail
      refine Calls.mono (HM.out) ?_
      rintro _ w1 ⟨he, hb⟩
      obtain ⟨a1, n1, c1, rfl, hr1, hn1, hc1⟩ := tags_as hE ho he
      have HB1 : Hid (Below W.heap.size W w1) := hb
      have HR1 : Hid (RowT w1 a1 m) := hr1
      have HN1 : Hid (m.length = n1) := hn1
      have hnb1 : n1 ≤ 8 := by omega
      clear hb he hr1 hn1 hc1 HM
      go_wp2_with fail
      refine Calls.mono (HA.out _ HB1.out) ?_
      rintro _ w2 ⟨rfl, hb⟩
      have HB2 : Hid (Below W.heap.size W w2) := HB1.out.trans (hb.mono HB1.out.size)
      replace HR1 : Hid (RowT w2 a1 m) := HR1.out.below hb
      clear hb HA HB1
      go_wp2_with fail
      have HG : Hid _ := tget_any a1 n1 c1 m N w2 HR1.out HN1.out (by omega)
      rw [hGM] at HG
      refine Calls.mono (HG.out) ?_
      rintro _ w3 ⟨rfl, hb⟩
      have HB3 : Hid (Below W.heap.size W w3) := HB2.out.trans (hb.mono HB2.out.size)
      replace HR1 : Hid (RowT w3 a1 m) := HR1.out.below hb
      clear hb HG HB2
      go_wp2_with fail
      refine Calls.mono (HGA.out _ HB3.out) ?_
      rintro _ w4 ⟨rfl, hb⟩
      have HB4 : Hid (Below W.heap.size W w4) := HB3.out.trans (hb.mono HB3.out.size)
      replace HR1 : Hid (RowT w4 a1 m) := HR1.out.below hb
      clear hb HGA HB3
      go_wp2_with fail
      refine Calls.mono (HGB.out _ HB4.out) ?_
      rintro _ w5 ⟨rfl, hb⟩
      have HB5 : Hid (Below W.heap.size W w5) := HB4.out.trans (hb.mono HB4.out.size)
      replace HR1 : Hid (RowT w5 a1 m) := HR1.out.below hb
      clear hb HGB HB4
      go_wp2_with fail
      have HMM : Hid _ := tmerge_any a1 n1 c1 m b lb cb us w5 (HTAB.out.below HB5.out) HR1.out HN1.out (by omega) (HRU.out _ HB5.out) HLU.out.1 HLU.out.2.1 HLU.out.2.2.2
      rw [HMG.out] at HMM
      refine Calls.mono (HMM.out) ?_
      rintro _ w6 ⟨he, hb⟩
      obtain ⟨a6, n6, c6, rfl, hr6, hn6, hc6⟩ := tags_as hE ho he
      have HB6 : Hid (Below W.heap.size W w6) := HB5.out.trans (hb.mono HB5.out.size)
      replace HR1 : Hid (RowT w6 a1 m) := HR1.out.below hb
      have HR6 : Hid (RowT w6 a6 m) := hr6
      have HN6 : Hid (m.length = n6) := hn6
      have hnb6 : n6 ≤ 8 := by omega
      clear hb he hr6 hn6 hc6 HMM HB5
      go_wp2_with fail
      have HW : Hid _ := twithin_any b lb cb us a1 n1 c1 m w6 (HRU.out _ HB6.out) HLU.out.1 HLU.out.2.1 HR1.out HN1.out (by omega)
      rw [HWI.out] at HW
      refine Calls.mono (HW.out) ?_
      rintro _ w7 ⟨rfl, hb⟩
      have HB7 : Hid (Below W.heap.size W w7) := HB6.out.trans (hb.mono HB6.out.size)
      replace HR1 : Hid (RowT w7 a1 m) := HR1.out.below hb
      replace HR6 : Hid (RowT w7 a6 m) := HR6.out.below hb
      clear hb HW HB6
      go_wp2_with fail
      have HSO : Hid _ := tsound_any a1 n1 c1 m w7 (HTAB.out.below HB7.out) HR1.out HN1.out (by omega)
      rw [HSN.out] at HSO
      refine Calls.mono (HSO.out) ?_
      rintro _ w8 ⟨rfl, hb⟩
      have HB8 : Hid (Below W.heap.size W w8) := HB7.out.trans (hb.mono HB7.out.size)
      replace HR1 : Hid (RowT w8 a1 m) := HR1.out.below hb
      replace HR6 : Hid (RowT w8 a6 m) := HR6.out.below hb
      clear hb HSO HB7
      go_wp2_with fail
      have HSM : Hid _ := tsame_any a6 n6 c6 m a1 n1 c1 m w8 HR6.out HN6.out (by omega) HR1.out HN1.out (by omega)
      rw [same_self] at HSM
      refine Calls.mono (HSM.out) ?_
      rintro _ w9 ⟨rfl, hb⟩
      have HB9 : Hid (Below W.heap.size W w9) := HB8.out.trans (hb.mono HB8.out.size)
      clear hb HSM HR1 HR6 HB8
      go_wp2_with fail
      go_ret
      exact ⟨rfl, HB9.out⟩
    | none =>
      rw [hub] at hgm HGB
      simp only [] at hgm
      rw [show optT none = .tuple #[.string (ByteArray.mk #[]), .bool false] from rfl] at HGB
      have hGM : optT (getB m N) = .tuple #[.string X, .bool B] := by rw [hgm, hXB]
      clear hTab hr hl hlb hsh hnil ur ul ulb ush unil hx hsm hwi hmg hget hgm hXB hub
      go_enter Tryd.func6, Tryd.ntmps6
      go_wp2_with fail
      refine Calls.mono (HM.out) ?_
      rintro _ w1 ⟨he, hb⟩
      obtain ⟨a1, n1, c1, rfl, hr1, hn1, hc1⟩ := tags_as hE ho he
      have HB1 : Hid (Below W.heap.size W w1) := hb
      have HR1 : Hid (RowT w1 a1 m) := hr1
      have HN1 : Hid (m.length = n1) := hn1
      have hnb1 : n1 ≤ 8 := by omega
      clear hb he hr1 hn1 hc1 HM
      go_wp2_with fail
      refine Calls.mono (HA.out _ HB1.out) ?_
      rintro _ w2 ⟨rfl, hb⟩
      have HB2 : Hid (Below W.heap.size W w2) := HB1.out.trans (hb.mono HB1.out.size)
      replace HR1 : Hid (RowT w2 a1 m) := HR1.out.below hb
      clear hb HA HB1
      go_wp2_with fail
      have HG : Hid _ := tget_any a1 n1 c1 m N w2 HR1.out HN1.out (by omega)
      rw [hGM] at HG
      refine Calls.mono (HG.out) ?_
      rintro _ w3 ⟨rfl, hb⟩
      have HB3 : Hid (Below W.heap.size W w3) := HB2.out.trans (hb.mono HB2.out.size)
      replace HR1 : Hid (RowT w3 a1 m) := HR1.out.below hb
      clear hb HG HB2
      go_wp2_with fail
      refine Calls.mono (HGA.out _ HB3.out) ?_
      rintro _ w4 ⟨rfl, hb⟩
      have HB4 : Hid (Below W.heap.size W w4) := HB3.out.trans (hb.mono HB3.out.size)
      replace HR1 : Hid (RowT w4 a1 m) := HR1.out.below hb
      clear hb HGA HB3
      go_wp2_with fail
      refine Calls.mono (HGB.out _ HB4.out) ?_
      rintro _ w5 ⟨rfl, hb⟩
      have HB5 : Hid (Below W.heap.size W w5) := HB4.out.trans (hb.mono HB4.out.size)
      replace HR1 : Hid (RowT w5 a1 m) := HR1.out.below hb
      clear hb HGB HB4
      go_wp2_with fail
      have HMM : Hid _ := tmerge_any a1 n1 c1 m b lb cb us w5 (HTAB.out.below HB5.out) HR1.out HN1.out (by omega) (HRU.out _ HB5.out) HLU.out.1 HLU.out.2.1 HLU.out.2.2.2
      rw [HMG.out] at HMM
      refine Calls.mono (HMM.out) ?_
      rintro _ w6 ⟨he, hb⟩
      obtain ⟨a6, n6, c6, rfl, hr6, hn6, hc6⟩ := tags_as hE ho he
      have HB6 : Hid (Below W.heap.size W w6) := HB5.out.trans (hb.mono HB5.out.size)
      replace HR1 : Hid (RowT w6 a1 m) := HR1.out.below hb
      have HR6 : Hid (RowT w6 a6 m) := hr6
      have HN6 : Hid (m.length = n6) := hn6
      have hnb6 : n6 ≤ 8 := by omega
      clear hb he hr6 hn6 hc6 HMM HB5
      go_wp2_with fail
      have HW : Hid _ := twithin_any b lb cb us a1 n1 c1 m w6 (HRU.out _ HB6.out) HLU.out.1 HLU.out.2.1 HR1.out HN1.out (by omega)
      rw [HWI.out] at HW
      refine Calls.mono (HW.out) ?_
      rintro _ w7 ⟨rfl, hb⟩
      have HB7 : Hid (Below W.heap.size W w7) := HB6.out.trans (hb.mono HB6.out.size)
      replace HR1 : Hid (RowT w7 a1 m) := HR1.out.below hb
      replace HR6 : Hid (RowT w7 a6 m) := HR6.out.below hb
      clear hb HW HB6
      go_wp2_with fail
      have HSO : Hid _ := tsound_any a1 n1 c1 m w7 (HTAB.out.below HB7.out) HR1.out HN1.out (by omega)
      rw [HSN.out] at HSO
      refine Calls.mono (HSO.out) ?_
      rintro _ w8 ⟨rfl, hb⟩
      have HB8 : Hid (Below W.heap.size W w8) := HB7.out.trans (hb.mono HB7.out.size)
      replace HR1 : Hid (RowT w8 a1 m) := HR1.out.below hb
      replace HR6 : Hid (RowT w8 a6 m) := HR6.out.below hb
      clear hb HSO HB7
      go_wp2_with fail
      have HSM : Hid _ := tsame_any a6 n6 c6 m a1 n1 c1 m w8 HR6.out HN6.out (by omega) HR1.out HN1.out (by omega)
      rw [same_self] at HSM
      refine Calls.mono (HSM.out) ?_
      rintro _ w9 ⟨rfl, hb⟩
      have HB9 : Hid (Below W.heap.size W w9) := HB8.out.trans (hb.mono HB8.out.size)
      clear hb HSM HR1 HR6 HB8
      go_wp2_with fail
      go_ret
      exact ⟨rfl, HB9.out⟩
set_option maxRecDepth 100000 in
theorem contract (H : Type) (enc : TypeId × Value → H) (W : World) (base : Nat) (args : Array Value) (ds gs : List (DataW H)) (before : List MemPlace)
    (hval : ∀ (j : Nat) t v, Tryd.f6.params[j]? = some t → args[j]? = some v → Value.okWide Tryd.prog W .any base t v)
    (hW : DataW.Whole enc Tryd.prog Tryd.f6.params.toList Rows.tagsOverSpec.vars false W args.toList ds gs before)
    (hsz : (DataW.weightsEach Tryd.prog (Tryd.f6.params.toList ++ (OpenSpec.ofChange Rows.tagsOverSpec).bare.plain.varTypes Tryd.prog) (ds ++ gs)).all (· ≤ reachBytes) = true) (hL : laidMetH Tryd.prog Rows.tagsOverRow.laid W) (hsh : W.ShapedOpen Tryd.prog) :
    Calls Tryd.prog 6 args W fun e W' => ∃ v, e = .returned v ∧ Rows.tagsOverSpec.post enc Tryd.prog Tryd.f6 false true false false W args v W' := by
  have hW' := hW
  obtain ⟨p, q, hA0, hV, rfl, hfz, hnd⟩ := hW
  have hA : DataW.TrodAll enc Tryd.prog W 0 (fun _ => true) true Tryd.f6.params.toList args.toList ds p := hA0
  rw [Tryd.params6] at hA hval hsz
  obtain ⟨v0, vs0, d0, ds0, p0, q0, hargs, rfl, rfl, h0, r0⟩ := trodAll_cons hA
  obtain ⟨v1, vs1, d1, ds1, p1, q1, rfl, rfl, rfl, h1, r1⟩ := trodAll_cons r0
  obtain ⟨v2, vs2, d2, ds2, p2, q2, rfl, rfl, rfl, h2, r2⟩ := trodAll_cons r1
  obtain ⟨rfl, rfl, rfl⟩ := trodAll_nil r2
  obtain rfl : args = #[v0, v1, v2] := by cases args; simp_all
  obtain ⟨rfl, rfl⟩ := trodVars_none hV
  obtain ⟨a0, len0, cap0, rfl⟩ := okWide_slice Tryd.underlying22 (hval 0 22 v0 rfl rfl)
  have k0 := h0
  have lt0 : ∀ x ∈ p0, x.block < W.heap.size := by obtain ⟨m, hm⟩ := k0; exact DataW.trod_lt m _ _ _ hm
  obtain ⟨x0, w0⟩ : ∃ ts, ArgT W a0 len0 cap0 ts := by
    obtain ⟨fuel, hf⟩ := h0
    exact tags_open hf fun es sp hd => sized_slice hsz (j := 0) (t := 22) (e := 40) rfl (by rw [hd]; rfl) Tryd.underlying22
  obtain ⟨a1, len1, cap1, rfl⟩ := okWide_slice Tryd.underlying22 (hval 1 22 v1 rfl rfl)
  have k1 := h1
  have lt1 : ∀ x ∈ p1, x.block < W.heap.size := by obtain ⟨m, hm⟩ := k1; exact DataW.trod_lt m _ _ _ hm
  obtain ⟨x1, w1⟩ : ∃ ts, ArgT W a1 len1 cap1 ts := by
    obtain ⟨fuel, hf⟩ := h1
    exact tags_open hf fun es sp hd => sized_slice hsz (j := 1) (t := 22) (e := 40) rfl (by rw [hd]; rfl) Tryd.underlying22
  obtain ⟨a2, rfl, rfl, rfl, m2⟩ := open_string Tryd.underlying9 (hval 2 9 v2 rfl rfl) h2
  have w2 : a2.size ≤ 140737488351232 := by
    have := sized_string hsz (j := 2) (t := 9) rfl rfl
    rw [bytes_len] at this
    exact this
  clear hA0 hsz
  refine (walk W (table6 hL hsh) a0 len0 cap0 x0 w0 a1 len1 cap1 x1 w1 a2 w2).mono fun e W' ⟨he, bel⟩ => ?_
  subst he
  exact ⟨_, rfl, _, _, _, [], _, [], hW', trodAll_mk1 (shut_bool Tryd.underlying4 _), (trodAll_cons_mk (Below.trod laidOut (by kernel_rfl) (of_decide_eq_true (by kernel_rfl)) k0 bel lt0) (trodAll_cons_mk (Below.trod laidOut (by kernel_rfl) (of_decide_eq_true (by kernel_rfl)) k1 bel lt1) (trodAll_cons_mk (shut_string Tryd.underlying9 m2) trodAll_mk0))), rfl, bel.frame _, fun h => by cases h⟩
set_option maxRecDepth 100000 in
theorem lifted (os : Os) (started : os.Started) (H : Type) (enc : TypeId × Value → H) (I : Stop.Interp) :
    ReturnsInHanded {} Tryd.checked os 6 .any ((OpenSpec.ofChange Rows.tagsOverSpec).preRow enc Tryd.prog Tryd.f6 Rows.tagsOverRow.domain false Rows.tagsOverRow.laid) (((OpenSpec.ofChange Rows.tagsOverSpec).at I).post enc Tryd.prog Tryd.f6 false true false false) := by
  refine returnsInHanded_of_row (C := Tryd.checked) (s := (OpenSpec.ofChange Rows.tagsOverSpec)) own started (by kernel_rfl) Tryd.func6
    (witness_row_at (enc := enc) (C := Tryd.checked) false { World.holding Tryd.prog os ⟨#[], #[], []⟩ with heap := (((World.holding Tryd.prog os ⟨#[], #[], []⟩).heap.modify 1 (fun
        | .cells _ t frozen => .cells #[.int .u8 240, .int .u8 240, .int .u8 240, .int .u8 240, .int .u8 240, .int .u8 240, .int .u8 240, .int .u8 240, .int .u8 240, .int .u8 240, .int .u8 240, .int .u8 240, .int .u8 240, .int .u8 240, .int .u8 240, .int .u8 240, .int .u8 240, .int .u8 240, .int .u8 240, .int .u8 240, .int .u8 240, .int .u8 240, .int .u8 240, .int .u8 240, .int .u8 240, .int .u8 240, .int .u8 240, .int .u8 240, .int .u8 240, .int .u8 240, .int .u8 240, .int .u8 240, .int .u8 240, .int .u8 240, .int .u8 240, .int .u8 240, .int .u8 240, .int .u8 240, .int .u8 240, .int .u8 240, .int .u8 240, .int .u8 240, .int .u8 240, .int .u8 240, .int .u8 240, .int .u8 240, .int .u8 240, .int .u8 240, .int .u8 240, .int .u8 240, .int .u8 240, .int .u8 240, .int .u8 240, .int .u8 240, .int .u8 240, .int .u8 240, .int .u8 240, .int .u8 240, .int .u8 240, .int .u8 240, .int .u8 240, .int .u8 240, .int .u8 240, .int .u8 240, .int .u8 240, .int .u8 240, .int .u8 240, .int .u8 240, .int .u8 240, .int .u8 240, .int .u8 240, .int .u8 240, .int .u8 240, .int .u8 240, .int .u8 240, .int .u8 240, .int .u8 240, .int .u8 240, .int .u8 240, .int .u8 240, .int .u8 240, .int .u8 240, .int .u8 240, .int .u8 240, .int .u8 240, .int .u8 240, .int .u8 240, .int .u8 240, .int .u8 240, .int .u8 240, .int .u8 240, .int .u8 240, .int .u8 240, .int .u8 240, .int .u8 240, .int .u8 240, .int .u8 240, .int .u8 240, .int .u8 240, .int .u8 240, .int .u8 240, .int .u8 240, .int .u8 240, .int .u8 240, .int .u8 240, .int .u8 240, .int .u8 240, .int .u8 240, .int .u8 240, .int .u8 240, .int .u8 240, .int .u8 240, .int .u8 240, .int .u8 240, .int .u8 240, .int .u8 240, .int .u8 240, .int .u8 240, .int .u8 240, .int .u8 240, .int .u8 240, .int .u8 240, .int .u8 240, .int .u8 240, .int .u8 240, .int .u8 240, .int .u8 240, .int .u8 240, .int .u8 241, .int .u8 241, .int .u8 241, .int .u8 241, .int .u8 241, .int .u8 241, .int .u8 241, .int .u8 241, .int .u8 241, .int .u8 241, .int .u8 241, .int .u8 241, .int .u8 241, .int .u8 241, .int .u8 241, .int .u8 241, .int .u8 241, .int .u8 241, .int .u8 241, .int .u8 241, .int .u8 241, .int .u8 241, .int .u8 241, .int .u8 241, .int .u8 241, .int .u8 241, .int .u8 241, .int .u8 241, .int .u8 241, .int .u8 241, .int .u8 241, .int .u8 241, .int .u8 241, .int .u8 241, .int .u8 241, .int .u8 241, .int .u8 241, .int .u8 241, .int .u8 241, .int .u8 241, .int .u8 241, .int .u8 241, .int .u8 241, .int .u8 241, .int .u8 241, .int .u8 241, .int .u8 241, .int .u8 241, .int .u8 241, .int .u8 241, .int .u8 241, .int .u8 241, .int .u8 241, .int .u8 241, .int .u8 241, .int .u8 241, .int .u8 241, .int .u8 241, .int .u8 241, .int .u8 241, .int .u8 241, .int .u8 241, .int .u8 241, .int .u8 241, .int .u8 241, .int .u8 241, .int .u8 2, .int .u8 2, .int .u8 2, .int .u8 2, .int .u8 2, .int .u8 2, .int .u8 2, .int .u8 2, .int .u8 2, .int .u8 2, .int .u8 2, .int .u8 2, .int .u8 2, .int .u8 2, .int .u8 2, .int .u8 2, .int .u8 2, .int .u8 2, .int .u8 2, .int .u8 2, .int .u8 2, .int .u8 2, .int .u8 2, .int .u8 2, .int .u8 2, .int .u8 2, .int .u8 2, .int .u8 2, .int .u8 2, .int .u8 2, .int .u8 19, .int .u8 3, .int .u8 3, .int .u8 3, .int .u8 3, .int .u8 3, .int .u8 3, .int .u8 3, .int .u8 3, .int .u8 3, .int .u8 3, .int .u8 3, .int .u8 3, .int .u8 35, .int .u8 3, .int .u8 3, .int .u8 52, .int .u8 4, .int .u8 4, .int .u8 4, .int .u8 68, .int .u8 241, .int .u8 241, .int .u8 241, .int .u8 241, .int .u8 241, .int .u8 241, .int .u8 241, .int .u8 241, .int .u8 241, .int .u8 241, .int .u8 241] t frozen
        | o => o)).modify 2 (fun
        | .cells _ t frozen => .cells #[.int .u8 128, .int .u8 191, .int .u8 160, .int .u8 191, .int .u8 128, .int .u8 159, .int .u8 144, .int .u8 191, .int .u8 128, .int .u8 143, .int .u8 0, .int .u8 0, .int .u8 0, .int .u8 0, .int .u8 0, .int .u8 0, .int .u8 0, .int .u8 0, .int .u8 0, .int .u8 0, .int .u8 0, .int .u8 0, .int .u8 0, .int .u8 0, .int .u8 0, .int .u8 0, .int .u8 0, .int .u8 0, .int .u8 0, .int .u8 0, .int .u8 0, .int .u8 0] t frozen
        | o => o)) } #[.slice none 0 0, .slice none 0 0, .string ByteArray.empty] rfl (by kernel_rfl) (by kernel_rfl) (by kernel_rfl)
      (OpenSpec.preRow_of_cond 8 (x := ([.nil, .nil, .lit (.string [])], [], [])) (by kernel_rfl) (by kernel_rfl) (fun k hk => by cases hk) (by kernel_rfl) (laidMet_of_run' 8 (by kernel_rfl) (by kernel_rfl)))) ?_
  intro W base args ds gs before hval hW _ hcond hsz hL hsh _
  exact contract H enc W base args ds gs before hval hW hsz hL hsh
theorem said : Rows.TagsOverSaid :=
  OpenClaim.holds_of_cond 6 Tryd.f6 rfl rfl rfl rfl rfl rfl rfl ⟨rfl, rfl, rfl, rfl, rfl⟩ rfl rfl rfl rfl rfl (by kernel_rfl) Tryd.func6 (by kernel_rfl)
    (of_decide_eq_true (by kernel_rfl)) (by unfold Func.isWrapper; first | (rw [if_pos (by decide +kernel)]; kernel_rfl) | (rw [if_neg (by decide +kernel)]; exact ⟨rfl, rfl⟩))
    (fun os started H enc _ I => by rw [OpenClaim.pre_eq_preRow]; exact lifted os started H enc I)
theorem plain (f : FuncId) (fn : Func) (hf : Tryd.pinned.checked.prog.funcNamed Rows.tagsOverRow.func = some f) (hfn : Tryd.pinned.checked.prog.funcs[f]? = some fn) :
    false = Tryd.pinned.checked.prog.looks [] ∧ ∀ (j : Nat) t, fn.params[j]? = some t → Tryd.pinned.checked.prog.wantsStandIn t = false := by
  obtain rfl : f = 6 := Option.some.inj ((show Tryd.prog.funcNamed Rows.tagsOverRow.func = some 6 by kernel_rfl).symm.trans hf) |>.symm
  obtain rfl : fn = Tryd.f6 := (Option.some.inj (Tryd.func6.symm.trans hfn)).symm
  refine ⟨by kernel_rfl, fun j t ht => ?_⟩
  rw [Tryd.params6] at ht
  have hm := Array.mem_of_getElem? ht
  simp only [List.mem_toArray, List.mem_cons, List.not_mem_nil, or_false] at hm
  rcases hm with rfl | rfl | rfl
  · exact (show Tryd.prog.wantsStandIn 22 = false by kernel_rfl)
  · exact (show Tryd.prog.wantsStandIn 22 = false by kernel_rfl)
  · exact (show Tryd.prog.wantsStandIn 9 = false by kernel_rfl)
theorem card : Rows.TagsOverCardSaid :=
  Claim7.holds_tied_plain_at .later [] _ _ _ _ said (fun _ h => by cases h) (by kernel_rfl) (fun _ h => by cases h) tagsOver_row_tie rfl ⟨rfl, rfl⟩ (by kernel_rfl) rfl plain (by kernel_rfl)
#print axioms card
end Go.Proofs.YtbfgkogmojnilaaDoor.tagsOver
