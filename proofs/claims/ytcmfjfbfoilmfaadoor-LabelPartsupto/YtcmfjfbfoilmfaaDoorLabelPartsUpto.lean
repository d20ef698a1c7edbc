/-
  LabelParts: for any three texts of at most 1048576 letters together: a group begins with the prefix, ends with the mark, begins the key, and is its own group; escaped it can be read. Condition: the two listed tables of Go's own library are laid as its text lays them.
-/
import Derived.Test.YtcmfjfbfoilmfaaDoorCards
import Derived.Test.YtcmfjfbfoilmfaaDoorTie
import Derived.Test.YtcmfjfbfoilmfaaDoorCArgs
import Derived.Test.YtcmfjfbfoilmfaaDoorLabelLaid
namespace Go.Proofs.YtcmfjfbfoilmfaaDoor.labelPartsUpto
open Go.ChangeShapes Go.WideShapes Go.ChangeAt Go.RowKit
open Go.ChangeMaps (open_string shut_string)
set_option linter.unusedVariables false
set_option linter.unusedSimpArgs false
set_option maxRecDepth 100000 in
set_option maxHeartbeats 8000000 in
theorem walk (W : World) (hT : Tab6 W) (S : ByteArray) (wS : S.size ≤ 140737488351232) (bS : S.size ≤ 1048576) (P : ByteArray) (wP : P.size ≤ 140737488351232) (bP : P.size ≤ 1048576) (M : ByteArray) (wM : M.size ≤ 140737488351232) (bM : M.size ≤ 1048576) :
    Calls Tryd.prog 8 #[.string S, .string P, .string M] W fun e W' => e = .returned (.bool true) ∧ Below W.heap.size W W' := by
  have HT : Hid (Tab6 W) := hT
  have HG : Hid _ := group_any S P M W hT (by omega) (by omega) (by omega)
  have HA : Hid (∀ V, Tab6 V → _) := awake_true
  cases hg : groupN (txt S) (txt P) (txt M) with
  | none =>
    rw [hg, show optR none = .tuple #[.string (ByteArray.mk #[]), .bool false] from rfl] at HG
    clear hT wS bS wP bP wM bM hg
    go_enter Tryd.func8, Tryd.ntmps8
    go_wp2_with fail
    refine Calls.mono HG.out ?_
    rintro _ w1 ⟨rfl, hw⟩
    replace hw := hw.symm
    subst hw
    clear HG
    go_wp2_with fail
    refine Calls.mono (HA.out _ HT.out) ?_
    rintro _ w1 ⟨rfl, hb⟩
    have HB1 : Hid (Below W.heap.size W w1) := hb
    clear hb
    go_wp2_with fail
    refine Calls.mono (HA.out _ (HT.out.below HB1.out)) ?_
    rintro _ w2 ⟨rfl, hb⟩
    have HB2 : Hid (Below W.heap.size W w2) := HB1.out.trans (hb.mono HB1.out.size)
    clear hb HB1
    go_wp2_with fail
    go_ret
    exact ⟨rfl, HB2.out⟩
  | some g =>
    obtain ⟨q1, q2, q3, q4, q5⟩ := group_parts hg
    obtain ⟨r, hr⟩ := (beg_iff _ _).1 q1
    have hgl : ∀ c ∈ g, c < 256 := fun c hc => txt_lt S c (by rw [hr]; exact List.mem_append_left _ hc)
    obtain ⟨G, hG⟩ : ∃ G, G = strN g := ⟨_, rfl⟩
    rw [hg, show optR (some g) = .tuple #[.string (strN g), .bool true] from rfl, ← hG] at HG
    have hGt : txt G = g := by rw [hG, txt_strN g hgl]
    have hGs : G.size ≤ S.size := by
      rw [← txt_length, ← txt_length, hGt, hr]
      simp
    rw [← hGt] at q1 q2 q3 q4 q5
    rw [txt_length, txt_length, txt_length] at q3
    rw [txt_length, txt_length] at q4
    have HG2 : Hid (∀ V, Tab6 V → Calls Tryd.prog 20 #[.string G, .string P, .string M] V fun e w' => e = .returned (.tuple #[.string G, .bool true]) ∧ w' = V) := fun V hV => by
      have := group_any G P M V hV (by omega) (by omega) (by omega)
      rw [q5, show optR (some (txt G)) = .tuple #[.string (strN (txt G)), .bool true] from rfl, strN_txt] at this
      exact this
    have hesl := esc_letters (txt G) (txt_lt G)
    have hel : ∀ c ∈ escN (txt G), c < 256 := fun c hc => by have := hesl c hc; omega
    obtain ⟨A, hA⟩ : ∃ A, A = strN (escN (txt G)) := ⟨_, rfl⟩
    have hAt : txt A = escN (txt G) := by rw [hA, txt_strN _ hel]
    have hAs : A.size ≤ 3145728 := by
      have := esc_len (txt G)
      rw [← hAt, txt_length, txt_length] at this
      omega
    have HE : Hid (∀ V, Calls Tryd.prog 16 #[.string G] V fun e w' => e = .returned (.string A) ∧ Below V.heap.size V w') := fun V => by rw [hA]; exact esc_any G V (by omega)
    have HU : Hid (∀ V, Calls Tryd.prog 14 #[.string A] V fun e w' => e = .returned (.tuple #[.string G, .int .i64 0]) ∧ Below V.heap.size V w') := fun V => by
      have := unesc_any A V (by omega)
      rw [hAt, unesc_esc _ (txt_lt G), show unsR (some (txt G)) = .tuple #[.string (strN (txt G)), .int .i64 0] from rfl, strN_txt] at this
      exact this
    have HB1 : Hid (∀ V, Calls Tryd.prog 22 #[.string S, .string G] V fun e w' => e = .returned (.bool true) ∧ w' = V) := fun V => by
      have := rbegins_any S G V (by omega) (by omega)
      rw [q1] at this
      exact this
    have HB2 : Hid (∀ V, Calls Tryd.prog 22 #[.string G, .string P] V fun e w' => e = .returned (.bool true) ∧ w' = V) := fun V => by
      have := rbegins_any G P V (by omega) (by omega)
      rw [q2] at this
      exact this
    obtain ⟨K, hK⟩ : ∃ K, K = G.size - M.size := ⟨_, rfl⟩
    have hKi : (G.size : Int) - (M.size : Int) = (K : Int) := by omega
    have hge : (P.size : Int) + (M.size : Int) ≤ (G.size : Int) := by omega
    rw [← hK] at q4
    have hsl : ∀ V, (Instr.slice 9 (.string G) (some (.int .i64 (K : Nat))) none none).run Tryd.prog V = .ok (.string M) V := fun V => by
      rw [str_from G K .i64 (by omega) V]
      congr 2
      apply txt_inj
      rw [txt_extract, ← txt_length, List.take_length, q4]
    have hmm : (M.toList == M.toList) = true := by simp
    have hgg : (G.toList == G.toList) = true := by simp
    have hPb : P.size ≤ 1048576 := bP
    have hMb : M.size ≤ 1048576 := bM
    have hGb : G.size ≤ 1048576 := by omega
    clear hT wS bS wP wM hg q1 q2 q3 q4 q5 r hr hgl hG hGt hGs hesl hel hA hAt hAs hK bP bM
    go_enter Tryd.func8, Tryd.ntmps8
    go_wp2_with fail
    refine Calls.mono HG.out ?_
    rintro _ w1 ⟨rfl, hw⟩
    replace hw := hw.symm
    subst hw
    clear HG
    go_wp2_with fail
    refine Calls.mono (HA.out _ HT.out) ?_
    rintro _ w1 ⟨rfl, hb⟩
    have HX1 : Hid (Below W.heap.size W w1) := hb
    clear hb
    go_wp2_with fail
    refine Calls.mono (HG2.out _ (HT.out.below HX1.out)) ?_
    rintro _ w2 ⟨rfl, hw⟩
    replace hw := hw.symm
    subst hw
    clear HG2
    go_wp2_with fail
    refine Calls.mono (HE.out _) ?_
    rintro _ w2 ⟨rfl, hb⟩
    have HX2 : Hid (Below W.heap.size W w2) := HX1.out.trans (hb.mono HX1.out.size)
    clear hb HE HX1
    go_wp2_with fail
    refine Calls.mono (HU.out _) ?_
    rintro _ w3 ⟨rfl, hb⟩
    have HX3 : Hid (Below W.heap.size W w3) := HX2.out.trans (hb.mono HX2.out.size)
    clear hb HU HX2
    go_wp2_with fail
    refine Calls.mono (HB1.out _) ?_
    rintro _ w4 ⟨rfl, hw⟩
    replace hw := hw.symm
    subst hw
    clear HB1
    go_wp2_with fail
    refine Calls.mono (HB2.out _) ?_
    rintro _ w4 ⟨rfl, hw⟩
    replace hw := hw.symm
    subst hw
    clear HB2
    go_wp2_with fail
    go_ret
    exact ⟨rfl, HX3.out⟩
theorem contract (H : Type) (enc : TypeId × Value → H) (W : World) (base : Nat) (args : Array Value) (ds gs : List (DataW H)) (before : List MemPlace)
    (hval : ∀ (j : Nat) t v, Tryd.f8.params[j]? = some t → args[j]? = some v → Value.okWide Tryd.prog W .any base t v)
    (hW : DataW.Whole enc Tryd.prog Tryd.f8.params.toList Rows.labelPartsSpec.vars false W args.toList ds gs before)
    (hk : Rows.uptoSmall H (ds ++ gs) = true)
    (hsz : (DataW.weightsEach Tryd.prog (Tryd.f8.params.toList ++ (Rows.OpenSpec.upto Rows.labelPartsSpec).bare.plain.varTypes Tryd.prog) (ds ++ gs)).all (· ≤ reachBytes) = true) (hL : laidMetH Tryd.prog Rows.labelPartsUptoRow.laid W) (hsh : W.ShapedOpen Tryd.prog) :
    Calls Tryd.prog 8 args W fun e W' => ∃ v, e = .returned v ∧ Rows.labelPartsSpec.post enc Tryd.prog Tryd.f8 false true false false W args v W' := by
  have hW' := hW
  obtain ⟨p, q, hA0, hV, rfl, hfz, hnd⟩ := hW
  have hA : DataW.TrodAll enc Tryd.prog W 0 (fun _ => true) true Tryd.f8.params.toList args.toList ds p := hA0
  rw [Tryd.params8] at hA hval hsz
  obtain ⟨v0, vs0, d0, ds0, p0, q0, hargs, rfl, rfl, h0, r0⟩ := trodAll_cons hA
  obtain ⟨v1, vs1, d1, ds1, p1, q1, rfl, rfl, rfl, h1, r1⟩ := trodAll_cons r0
  obtain ⟨v2, vs2, d2, ds2, p2, q2, rfl, rfl, rfl, h2, r2⟩ := trodAll_cons r1
  obtain ⟨rfl, rfl, rfl⟩ := trodAll_nil r2
  obtain rfl : args = #[v0, v1, v2] := by cases args; simp_all
  obtain ⟨rfl, rfl⟩ := trodVars_none hV
  have hbulk := of_decide_eq_true hk
  simp only [List.append_nil, Rows.uptoBulkAll] at hbulk
  obtain ⟨a0, rfl, rfl, rfl, m0⟩ := open_string Tryd.underlying9 (hval 0 9 v0 rfl rfl) h0
  have w0 : a0.size ≤ 140737488351232 := by
    have := sized_string hsz (j := 0) (t := 9) rfl rfl
    rw [bytes_len] at this
    exact this
  have bu0 : a0.size ≤ 1048576 := by
    simp only [Rows.uptoBulk] at hbulk
    rw [← bytes_len]
    omega
  obtain ⟨a1, rfl, rfl, rfl, m1⟩ := open_string Tryd.underlying9 (hval 1 9 v1 rfl rfl) h1
  have w1 : a1.size ≤ 140737488351232 := by
    have := sized_string hsz (j := 1) (t := 9) rfl rfl
    rw [bytes_len] at this
    exact this
  have bu1 : a1.size ≤ 1048576 := by
    simp only [Rows.uptoBulk] at hbulk
    rw [← bytes_len]
    omega
  obtain ⟨a2, rfl, rfl, rfl, m2⟩ := open_string Tryd.underlying9 (hval 2 9 v2 rfl rfl) h2
  have w2 : a2.size ≤ 140737488351232 := by
    have := sized_string hsz (j := 2) (t := 9) rfl rfl
    rw [bytes_len] at this
    exact this
  have bu2 : a2.size ≤ 1048576 := by
    simp only [Rows.uptoBulk] at hbulk
    rw [← bytes_len]
    omega
  clear hA0 hsz hbulk
  refine (walk W (table6 hL hsh) a0 w0 bu0 a1 w1 bu1 a2 w2 bu2).mono fun e W' ⟨he, bel⟩ => ?_
  subst he
  exact ⟨_, rfl, _, _, _, [], _, [], hW', trodAll_mk1 (shut_bool Tryd.underlying4 _), (trodAll_cons_mk (shut_string Tryd.underlying9 m0) (trodAll_cons_mk (shut_string Tryd.underlying9 m1) (trodAll_cons_mk (shut_string Tryd.underlying9 m2) trodAll_mk0))), rfl, bel.frame _, fun h => by cases h⟩
set_option maxRecDepth 100000 in
theorem lifted (os : Os) (started : os.Started) (H : Type) (enc : TypeId × Value → H) (I : Stop.Interp) :
    ReturnsInHanded {} Tryd.checked os 8 .any ((Rows.OpenSpec.upto Rows.labelPartsSpec).preRow enc Tryd.prog Tryd.f8 Rows.labelPartsUptoRow.domain false Rows.labelPartsUptoRow.laid) (((Rows.OpenSpec.upto Rows.labelPartsSpec).at I).post enc Tryd.prog Tryd.f8 false true false false) := by
  refine returnsInHanded_of_row (C := Tryd.checked) (s := (Rows.OpenSpec.upto Rows.labelPartsSpec)) own started (by kernel_rfl) Tryd.func8
    (witness_row_at (enc := enc) (C := Tryd.checked) false { World.holding Tryd.prog os ⟨#[], #[], []⟩ with heap := (((World.holding Tryd.prog os ⟨#[], #[], []⟩).heap.modify 0 (fun
        | .cells _ t frozen => .cells #[.int .u8 240, .int .u8 240, .int .u8 240, .int .u8 240, .int .u8 240, .int .u8 240, .int .u8 240, .int .u8 240, .int .u8 240, .int .u8 240, .int .u8 240, .int .u8 240, .int .u8 240, .int .u8 240, .int .u8 240, .int .u8 240, .int .u8 240, .int .u8 240, .int .u8 240, .int .u8 240, .int .u8 240, .int .u8 240, .int .u8 240, .int .u8 240, .int .u8 240, .int .u8 240, .int .u8 240, .int .u8 240, .int .u8 240, .int .u8 240, .int .u8 240, .int .u8 240, .int .u8 240, .int .u8 240, .int .u8 240, .int .u8 240, .int .u8 240, .int .u8 240, .int .u8 240, .int .u8 240, .int .u8 240, .int .u8 240, .int .u8 240, .int .u8 240, .int .u8 240, .int .u8 240, .int .u8 240, .int .u8 240, .int .u8 240, .int .u8 240, .int .u8 240, .int .u8 240, .int .u8 240, .int .u8 240, .int .u8 240, .int .u8 240, .int .u8 240, .int .u8 240, .int .u8 240, .int .u8 240, .int .u8 240, .int .u8 240, .int .u8 240, .int .u8 240, .int .u8 240, .int .u8 240, .int .u8 240, .int .u8 240, .int .u8 240, .int .u8 240, .int .u8 240, .int .u8 240, .int .u8 240, .int .u8 240, .int .u8 240, .int .u8 240, .int .u8 240, .int .u8 240, .int .u8 240, .int .u8 240, .int .u8 240, .int .u8 240, .int .u8 240, .int .u8 240, .int .u8 240, .int .u8 240, .int .u8 240, .int .u8 240, .int .u8 240, .int .u8 240, .int .u8 240, .int .u8 240, .int .u8 240, .int .u8 240, .int .u8 240, .int .u8 240, .int .u8 240, .int .u8 240, .int .u8 240, .int .u8 240, .int .u8 240, .int .u8 240, .int .u8 240, .int .u8 240, .int .u8 240, .int .u8 240, .int .u8 240, .int .u8 240, .int .u8 240, .int .u8 240, .int .u8 240, .int .u8 240, .int .u8 240, .int .u8 240, .int .u8 240, .int .u8 240, .int .u8 240, .int .u8 240, .int .u8 240, .int .u8 240, .int .u8 240, .int .u8 240, .int .u8 240, .int .u8 240, .int .u8 240, .int .u8 240, .int .u8 240, .int .u8 240, .int .u8 241, .int .u8 241, .int .u8 241, .int .u8 241, .int .u8 241, .int .u8 241, .int .u8 241, .int .u8 241, .int .u8 241, .int .u8 241, .int .u8 241, .int .u8 241, .int .u8 241, .int .u8 241, .int .u8 241, .int .u8 241, .int .u8 241, .int .u8 241, .int .u8 241, .int .u8 241, .int .u8 241, .int .u8 241, .int .u8 241, .int .u8 241, .int .u8 241, .int .u8 241, .int .u8 241, .int .u8 241, .int .u8 241, .int .u8 241, .int .u8 241, .int .u8 241, .int .u8 241, .int .u8 241, .int .u8 241, .int .u8 241, .int .u8 241, .int .u8 241, .int .u8 241, .int .u8 241, .int .u8 241, .int .u8 241, .int .u8 241, .int .u8 241, .int .u8 241, .int .u8 241, .int .u8 241, .int .u8 241, .int .u8 241, .int .u8 241, .int .u8 241, .int .u8 241, .int .u8 241, .int .u8 241, .int .u8 241, .int .u8 241, .int .u8 241, .int .u8 241, .int .u8 241, .int .u8 241, .int .u8 241, .int .u8 241, .int .u8 241, .int .u8 241, .int .u8 241, .int .u8 241, .int .u8 2, .int .u8 2, .int .u8 2, .int .u8 2, .int .u8 2, .int .u8 2, .int .u8 2, .int .u8 2, .int .u8 2, .int .u8 2, .int .u8 2, .int .u8 2, .int .u8 2, .int .u8 2, .int .u8 2, .int .u8 2, .int .u8 2, .int .u8 2, .int .u8 2, .int .u8 2, .int .u8 2, .int .u8 2, .int .u8 2, .int .u8 2, .int .u8 2, .int .u8 2, .int .u8 2, .int .u8 2, .int .u8 2, .int .u8 2, .int .u8 19, .int .u8 3, .int .u8 3, .int .u8 3, .int .u8 3, .int .u8 3, .int .u8 3, .int .u8 3, .int .u8 3, .int .u8 3, .int .u8 3, .int .u8 3, .int .u8 3, .int .u8 35, .int .u8 3, .int .u8 3, .int .u8 52, .int .u8 4, .int .u8 4, .int .u8 4, .int .u8 68, .int .u8 241, .int .u8 241, .int .u8 241, .int .u8 241, .int .u8 241, .int .u8 241, .int .u8 241, .int .u8 241, .int .u8 241, .int .u8 241, .int .u8 241] t frozen
        | o => o)).modify 1 (fun
        | .cells _ t frozen => .cells #[.int .u8 128, .int .u8 191, .int .u8 160, .int .u8 191, .int .u8 128, .int .u8 159, .int .u8 144, .int .u8 191, .int .u8 128, .int .u8 143, .int .u8 0, .int .u8 0, .int .u8 0, .int .u8 0, .int .u8 0, .int .u8 0, .int .u8 0, .int .u8 0, .int .u8 0, .int .u8 0, .int .u8 0, .int .u8 0, .int .u8 0, .int .u8 0, .int .u8 0, .int .u8 0, .int .u8 0, .int .u8 0, .int .u8 0, .int .u8 0, .int .u8 0, .int .u8 0] t frozen
        | o => o)) } #[.string ByteArray.empty, .string ByteArray.empty, .string ByteArray.empty] rfl (by kernel_rfl) (by kernel_rfl) (by kernel_rfl)
      (OpenSpec.preRow_of_cond 8 (x := ([.lit (.string []), .lit (.string []), .lit (.string [])], [], [])) (by kernel_rfl) (by kernel_rfl) (fun k hk => by cases hk; kernel_rfl) (by kernel_rfl) (laidMet_of_run' 8 (by kernel_rfl) (by kernel_rfl)))) ?_
  intro W base args ds gs before hval hW _ hcond hsz hL hsh _
  exact contract H enc W base args ds gs before hval hW (hcond _ rfl) hsz hL hsh
theorem said : Rows.LabelPartsUptoSaid :=
  OpenClaim.holds_of_cond 8 Tryd.f8 rfl rfl rfl rfl rfl rfl rfl ⟨rfl, rfl, rfl, rfl, rfl⟩ rfl rfl rfl rfl rfl (by kernel_rfl) Tryd.func8 (by kernel_rfl)
    (of_decide_eq_true (by kernel_rfl)) (by unfold Func.isWrapper; first | (rw [if_pos (by decide +kernel)]; kernel_rfl) | (rw [if_neg (by decide +kernel)]; exact ⟨rfl, rfl⟩))
    (fun os started H enc _ I => by rw [OpenClaim.pre_eq_preRow]; exact lifted os started H enc I)
theorem plain (f : FuncId) (fn : Func) (hf : Tryd.pinned.checked.prog.funcNamed Rows.labelPartsUptoRow.func = some f) (hfn : Tryd.pinned.checked.prog.funcs[f]? = some fn) :
    false = Tryd.pinned.checked.prog.looks [] ∧ ∀ (j : Nat) t, fn.params[j]? = some t → Tryd.pinned.checked.prog.wantsStandIn t = false := by
  obtain rfl : f = 8 := Option.some.inj ((show Tryd.prog.funcNamed Rows.labelPartsUptoRow.func = some 8 by kernel_rfl).symm.trans hf) |>.symm
  obtain rfl : fn = Tryd.f8 := (Option.some.inj (Tryd.func8.symm.trans hfn)).symm
  refine ⟨by kernel_rfl, fun j t ht => ?_⟩
  rw [Tryd.params8] at ht
  have hm := Array.mem_of_getElem? ht
  simp only [List.mem_toArray, List.mem_cons, List.not_mem_nil, or_false] at hm
  rcases hm with rfl | rfl | rfl
  · exact (show Tryd.prog.wantsStandIn 9 = false by kernel_rfl)
  · exact (show Tryd.prog.wantsStandIn 9 = false by kernel_rfl)
  · exact (show Tryd.prog.wantsStandIn 9 = false by kernel_rfl)
theorem card : Rows.LabelPartsUptoCardSaid :=
  Claim7.holds_tied_plain_at .later [] _ _ _ _ said (fun _ h => by cases h) (by kernel_rfl) (fun _ h => by cases h) labelPartsUpto_row_tie rfl ⟨rfl, rfl⟩ (by kernel_rfl) rfl plain (by kernel_rfl)
#print axioms card
end Go.Proofs.YtcmfjfbfoilmfaaDoor.labelPartsUpto
