/-
  CabinetFails: for every number: behind as many changes as were said nothing is done any more, till a crash; behind the crash what was not synced is gone, and there is power again.
-/
import Derived.Test.YtdiokdgiikfpaaaPArgs
import Derived.Test.YtdiokdgiikfpaaaCabAwake
namespace Go.Proofs.Ytdiokdgiikfpaaa.cabinetFails
open Go.ChangeShapes Go.WideShapes Go.ChangeAt Go.RowKit
open Go.ChangeMaps (open_string shut_string)
set_option linter.unusedVariables false
set_option linter.unusedSimpArgs false
def f0 : CabM := (turnR (createR (newC 1000) nameA).2).2
theorem f0_e1 : (createR (newC 1000) nameA).1 = 0 := by kernel_rfl
theorem f0_e2 : (turnR (createR (newC 1000) nameA).2).1 = 0 := by kernel_rfl
theorem f0_g : GoodC f0 2 := good_turn (good_create (good_new 1000 (by decide)) nameA)
/-- Behind i changes of k. -/
def fsC (k i : Nat) (B : ByteArray) (off : Bool) : CabM := { quota := 1000, files := [(B, 0)], now := [(nameA, 0)], sure := [(nameA, 0)], wait := [], after := (k : Int) - (i : Int), timed := true, off := off }
theorem f0_is : f0 = { quota := 1000, files := [(ByteArray.empty, 0)], now := [(nameA, 0)], sure := [(nameA, 0)], wait := [], after := 0, timed := false, off := false } := by kernel_rfl
theorem fs_start (k : Nat) : failC f0 (k : Int) = fsC k 0 ByteArray.empty false := by
  rw [f0_is]
  unfold failC fsC
  rw [decide_eq_true (Int.natCast_nonneg k)]
  simp
theorem fs_find (k i : Nat) (B : ByteArray) (off : Bool) : findC (fsC k i B off).now nameA = some 0 := by kernel_rfl
theorem fs_used (k i : Nat) (B : ByteArray) (off : Bool) : usedC (fsC k i B off) = B.size := by
  have : usedC (fsC k i B off) = (if true = true then B.size else 0) + 0 := by kernel_rfl
  rw [this, if_pos rfl, Nat.add_zero]
theorem fs_ok (k i : Nat) (B X : ByteArray) (hB : B.size ≤ 100) (hX : X.size = 1) : appendE (fsC k i B false) nameA X = 0 := by
  rw [appendE_yes (k := 0) rfl (fs_find k i B false), fs_used, hX]
  show (if 1048576 < B.size + 1 then 17 else if 1000 < B.size + 1 then 10 else 0) = 0
  rw [if_neg (by omega), if_neg (by omega)]
theorem fs_num (k i : Nat) (B : ByteArray) (off : Bool) : numC (fsC k i B off) nameA = 0 := numC_eq (fs_find k i B off)
theorem fs_step (k i : Nat) (B X : ByteArray) (hi : i < k) (hB : B.size = i) (hk : k ≤ 30) (hX : X.size = 1) : appendR (fsC k i B false) nameA X = (0, fsC k (i + 1) (B ++ X) false) := by
  have hp : powerE (fsC k i B false) = 0 := by
    unfold powerE fsC
    dsimp only
    rw [decide_eq_false (by omega)]
    rfl
  have hc : powerC (fsC k i B false) = fsC k (i + 1) B false := by
    unfold powerC fsC
    dsimp only
    rw [decide_eq_false (by omega)]
    simp
    omega
  unfold appendR
  rw [fs_ok k i B X (by omega) hX, done_yes hp, hc, fs_num]
  rfl
theorem fs_down (k : Nat) (B X : ByteArray) (hB : B.size = k) (hk : k ≤ 30) (hX : X.size = 1) : appendR (fsC k k B false) nameA X = (11, fsC k k B true) := by
  have hp : powerE (fsC k k B false) = 11 := by
    unfold powerE fsC
    dsimp only
    rw [decide_eq_true (by omega)]
    rfl
  have hc : powerC (fsC k k B false) = fsC k k B true := by
    unfold powerC fsC
    dsimp only
    rw [decide_eq_true (by omega)]
    rfl
  unfold appendR
  rw [fs_ok k k B X (by omega) hX, done_down hp, hc]
theorem fs_off (k : Nat) (B X : ByteArray) : appendR (fsC k k B true) nameA X = (11, fsC k k B true) := by
  unfold appendR
  rw [appendE_off rfl]
  exact done_no (e := 11) (by decide) _ _
/-- What stands behind i appends. -/
def FsAt (k i : Nat) (c : CabM) : Prop := GoodC c (i + 2) ∧ ((i ≤ k ∧ ∃ B, B.size = i ∧ c = fsC k i B false) ∨ (k < i ∧ ∃ B, B.size = k ∧ c = fsC k k B true))
theorem fs_next {k i : Nat} {c : CabM} (h : FsAt k i c) (hk : k ≤ 30) (X : ByteArray) (hX : X.size = 1) : (appendR c nameA X).1 = (if i < k then 0 else 11) ∧ FsAt k (i + 1) (appendR c nameA X).2 := by
  obtain ⟨hg, h⟩ := h
  have hg2 : GoodC (appendR c nameA X).2 (i + 1 + 2) := good_append hg nameA X
  rcases h with ⟨hi, B, hB, rfl⟩ | ⟨hi, B, hB, rfl⟩
  · by_cases hlt : i < k
    · rw [fs_step k i B X hlt hB hk hX] at hg2 ⊢
      rw [if_pos hlt]
      exact ⟨rfl, hg2, .inl ⟨hlt, B ++ X, by rw [ByteArray.size_append, hB, hX], rfl⟩⟩
    · obtain rfl : i = k := by omega
      rw [fs_down i B X hB hk hX] at hg2 ⊢
      rw [if_neg hlt]
      exact ⟨rfl, hg2, .inr ⟨by omega, B, hB, rfl⟩⟩
  · rw [fs_off k B X] at hg2 ⊢
    rw [if_neg (by omega)]
    exact ⟨rfl, hg2, .inr ⟨by omega, B, hB, rfl⟩⟩
/-- The crash behind it. -/
def fcC (k : Nat) (B : ByteArray) : CabM := crashC (fsC k k B true) 0 [] 0
theorem fc_cut (B : ByteArray) : (cutC (B, 0) [] 0).size = 0 := by
  have := txt_length (cutC (B, 0) [] 0)
  rw [cut_head, cutZ_plain _ _ _ (fun h => h.1 rfl)] at this
  rw [cut_head, ← this]
  show ((txt B).take (0 + partC 0 (B.size - 0))).length = 0
  have e : partC 0 (B.size - 0) = 0 := by
    unfold partC
    rw [if_neg (by decide)]
    split
    · omega
    · rfl
  rw [e]
  rfl
theorem fc_is (k : Nat) (B : ByteArray) : fcC k B = { quota := 1000, files := [(cutC (B, 0) [] 0, (cutC (B, 0) [] 0).size)], now := [(nameA, 0)], sure := [(nameA, 0)], wait := [], after := (k : Int) - (k : Int), timed := false, off := false } := rfl
theorem fc_read (k : Nat) (B : ByteArray) : readR (fcC k B) nameA = (cutC (B, 0) [] 0, 0) := by rw [fc_is]; kernel_rfl
theorem fc_append (k : Nat) (B X : ByteArray) (hX : X.size = 1) : (appendR (fcC k B) nameA X).1 = 0 := by
  have h1 : appendE (fcC k B) nameA X = 0 := by
    have hu : usedC (fcC k B) = 0 := by
      have : usedC (fcC k B) = (if true = true then (cutC (B, 0) [] 0).size else 0) + 0 := by rw [fc_is]; kernel_rfl
      rw [this, if_pos rfl, fc_cut]
    have hf : findC (fcC k B).now nameA = some 0 := by rw [fc_is]; kernel_rfl
    have ho : (fcC k B).off = false := rfl
    rw [appendE_yes ho hf, hu, hX]
    show (if 1048576 < (cutC (B, 0) [] 0).size + 1 then 17 else if 1000 < 0 + 1 then 10 else 0) = 0
    rw [fc_cut]
    rfl
  have h2 : powerE (fcC k B) = 0 := rfl
  unfold appendR
  rw [h1, done_yes h2]
set_option maxRecDepth 100000 in
set_option maxHeartbeats 16000000 in
theorem walk (W : World) (z : Int) (wz : (Lit.int .u8 z).wf = true) :
    Calls Try.prog 5 #[.int .u8 z] W fun e w' => e = .returned (.bool true) ∧ Below W.heap.size W w' := by
  obtain ⟨m, rfl, hm⟩ : ∃ m : Nat, z = (m : Int) ∧ m < 256 := ⟨z.toNat, by have := bounds_u8 wz; omega, by have := bounds_u8 wz; omega⟩
  have HN : Hid _ := in_new W 1000 (by decide)
  have hcv := conv_const
  obtain ⟨k, hk⟩ : ∃ k, k = m % 30 := ⟨_, rfl⟩
  have hk30 : k < 30 := by rw [hk]; exact Nat.mod_lt _ (by decide)
  have HK : Hid (k < 30) := hk30
  clear wz
  go_enter Try.func5, Try.ntmps5
  go_wp2_with fail
  refine Calls.mono HN.out ?_
  rintro _ w1 ⟨g, rfl, h1⟩
  have H1 : Hid (CabIn W.heap.size W w1 g (newC 1000)) := h1
  clear h1 HN
  go_wp2_with fail
  have hmk : (m : Int) % 30 = (k : Int) := by omega
  rw [hmk]
  have HAW : Hid (Calls Try.prog 10 #[] w1 fun e w' => e = .returned (.bool true) ∧ Below w1.heap.size w1 w') := awake_any w1
  refine Calls.mono HAW.out ?_
  rintro _ w2 ⟨rfl, hb2⟩
  have H2 : Hid (CabIn W.heap.size W w2 g (newC 1000)) := H1.out.below hb2
  clear hb2 HAW H1 hmk hm hk
  go_wp2_with fail
  have HC : Hid _ := in_create H2.out (good_new 1000 (by decide)) (by decide) nameA (by decide)
  rw [f0_e1] at HC
  refine Calls.mono HC.out ?_
  rintro _ w3 ⟨rfl, h3⟩
  have H3 : Hid (CabIn W.heap.size W w3 g (createR (newC 1000) nameA).2) := h3
  clear h3 HC H2
  go_wp2_with fail
  have HT : Hid _ := in_turn H3.out (good_create (good_new 1000 (by decide)) nameA) (by decide)
  rw [f0_e2] at HT
  refine Calls.mono HT.out ?_
  rintro _ w4 ⟨rfl, h4⟩
  have H4 : Hid (CabIn W.heap.size W w4 g f0) := h4
  clear h4 HT H3
  go_wp2_with fail
  have HF : Hid _ := in_fail H4.out f0_g (by decide) (k : Int) (by have := HK.out; omega)
  refine Calls.mono HF.out ?_
  rintro _ w5 ⟨rfl, h5⟩
  rw [fs_start] at h5
  have H5 : Hid (CabIn W.heap.size W w5 g (fsC k 0 ByteArray.empty false)) := h5
  have HG5 : Hid (FsAt k 0 (fsC k 0 ByteArray.empty false)) := ⟨by rw [← fs_start]; exact good_fail f0_g _ (by have := HK.out; omega), .inl ⟨Nat.zero_le _, _, rfl, rfl⟩⟩
  clear h5 HF H4
  go_wp2_with fail
  go_loopw [6] (fun ix wr => ∃ (wz : World) (i : Nat) (c : CabM), wz = wr ∧ ix = .int .i64 i ∧ i ≤ k + 3 ∧ CabIn W.heap.size W wz g c ∧ FsAt k i c) (fun ix _ => k + 3 - (intOf ix).toNat)
  case atStart => exact ⟨_, 0, _, rfl, rfl, Nat.zero_le _, H5.out, HG5.out⟩
  case round =>
    clear HG5 H5
    obtain ⟨wr, i, c, hwr, rfl, hi, hin, hfs⟩ := hrel
    subst hwr
    have HIN : Hid (CabIn W.heap.size W wr g c) := hin
    have HFS : Hid (FsAt k i c) := hfs
    clear hin hfs
    by_cases hlt : i < k + 3
    · have hii : (i : Int) < (k : Int) + 3 := by omega
      have hi8 : IntKind.u8.wrap (i : Int) = (i : Int) := by rw [IntKind.wrap_u8]; omega
      obtain ⟨X, hX1, hXt⟩ : ∃ X : ByteArray, X.size = 1 ∧ txt X = [i] := ⟨strN [i], by rw [strN_size]; rfl, txt_strN [i] (fun x hx => by rw [List.mem_singleton.1 hx]; omega)⟩
      have HX1 : Hid (X.size = 1) := hX1
      have HXT : Hid (txt X = [i]) := hXt
      obtain ⟨he, hnx⟩ := fs_next HFS.out (by omega) X hX1
      have HE : Hid ((appendR c nameA X).1 = if i < k then 0 else 11) := he
      have HNX : Hid (FsAt k (i + 1) (appendR c nameA X).2) := hnx
      clear hX1 hXt he hnx
      go_wp2_with fail
      have HA : Hid _ := in_append_new HIN.out HFS.out.1 (by omega) nameA X (by decide) 1 1 #[.int .u8 (i : Nat)] (0, 0) (by rw [HXT.out]; rfl) HX1.out (by decide)
      rw [HE.out] at HA
      by_cases hik : i < k
      · rw [if_pos hik] at HA
        have hik2 : (i : Int) < (k : Int) := by omega
        refine Calls.mono HA.out ?_
        rintro _ w6 ⟨rfl, h6⟩
        have H6 : Hid (CabIn W.heap.size W w6 g (appendR c nameA X).2) := h6
        clear h6 HA HIN HFS hik
        go_wp2_with fail
        go_roundw
        case rel => exact ⟨w6, i + 1, _, rfl, by go_num, by omega, H6.out, HNX.out⟩
        case measure => simp [intOf]; omega
      · rw [if_neg hik] at HA
        have hik2 : ¬ (i : Int) < (k : Int) := by omega
        refine Calls.mono HA.out ?_
        rintro _ w6 ⟨rfl, h6⟩
        have H6 : Hid (CabIn W.heap.size W w6 g (appendR c nameA X).2) := h6
        clear h6 HA HIN HFS hik
        go_wp2_with fail
        go_roundw
        case rel => exact ⟨w6, i + 1, _, rfl, by go_num, by omega, H6.out, HNX.out⟩
        case measure => simp [intOf]; omega
    · have hii : ¬ (i : Int) < (k : Int) + 3 := by omega
      obtain rfl : i = k + 3 := by omega
      obtain ⟨hg, ⟨h0, _⟩ | ⟨_, B, hB, rfl⟩⟩ := HFS.out
      · omega
      · have HG : Hid (GoodC (fsC k k B true) (k + 3 + 2)) := hg
        have HKB : Hid (k + 3 + 2 ≤ 1000) := by unfold Hid; omega
        have HGC : Hid (GoodC (fcC k B) (k + 3 + 2)) := good_crash hg 0 [] 0
        clear hg hB HFS
        go_wp2_with fail
        have HRD : Hid _ := in_read HIN.out HG.out HKB.out nameA (by decide)
        have hr1 : readR (fsC k k B true) nameA = (ByteArray.mk #[], 11) := rfl
        refine Calls.mono HRD.out ?_
        rintro _ w6 ⟨⟨a6, len6, cap6, rfl, hrow6, -⟩, h6, -⟩
        rw [hr1] at hrow6 ⊢
        obtain rfl : len6 = 0 := hrow6.1.symm
        have H6 : Hid (CabIn W.heap.size W w6 g (fsC k k B true)) := h6
        clear h6 HRD HIN hrow6
        dsimp only
        go_wp2_with fail
        have HLI : Hid _ := in_list H6.out HG.out HKB.out
        have hn1 : namesR (fsC k k B true) = [] ∧ namesE (fsC k k B true) = 11 := ⟨rfl, rfl⟩
        refine Calls.mono HLI.out ?_
        rintro _ w7 ⟨⟨a7, cap7, rfl, -⟩, h7, -⟩
        rw [hn1.1, hn1.2]
        have H7 : Hid (CabIn W.heap.size W w7 g (fsC k k B true)) := h7
        clear h7 HLI H6
        dsimp only
        go_wp2_with fail
        have HCR : Hid _ := in_crash H7.out HG.out HKB.out 0 [] 0 0 rfl none 0 0 ⟨rfl, .inl rfl⟩ (fun ad e => by cases e) (by decide)
        refine Calls.mono HCR.out ?_
        rintro _ w8 ⟨rfl, h8⟩
        have H8 : Hid (CabIn W.heap.size W w8 g (fcC k B)) := h8
        clear h8 HCR H7
        go_wp2_with fail
        have HRD : Hid _ := in_read H8.out HGC.out HKB.out nameA (by decide)
        refine Calls.mono HRD.out ?_
        rintro _ w9 ⟨⟨a9, len9, cap9, rfl, hrow9, -⟩, h9, -⟩
        rw [fc_read] at hrow9 ⊢
        obtain rfl : len9 = 0 := by have := hrow9.1; rw [txt_length, fc_cut] at this; exact this.symm
        have H9 : Hid (CabIn W.heap.size W w9 g (fcC k B)) := h9
        clear h9 HRD H8 hrow9
        dsimp only
        go_wp2_with fail
        have HA : Hid _ := in_append_new H9.out HGC.out HKB.out nameA (ByteArray.mk #[120]) (by decide) 1 1 #[.int .u8 120] (1, 2) rfl rfl (by decide)
        rw [fc_append k B _ rfl] at HA
        refine Calls.mono HA.out ?_
        rintro _ wA ⟨rfl, hA⟩
        have HAA : Hid (Below W.heap.size W wA) := hA.under
        clear hA HA H9
        go_wp2_with fail
        go_ret
        exact ⟨rfl, HAA.out⟩
set_option maxRecDepth 100000 in
theorem contract (H : Type) (enc : TypeId × Value → H) (W : World) (base : Nat) (args : Array Value) (ds gs : List (DataW H)) (before : List MemPlace)
    (hval : ∀ (j : Nat) t v, Try.f5.params[j]? = some t → args[j]? = some v → Value.okWide Try.prog W .any base t v)
    (hW : DataW.Whole enc Try.prog Try.f5.params.toList Rows.cabinetFailsSpec.vars false W args.toList ds gs before)
    (hsz : (DataW.weightsEach Try.prog (Try.f5.params.toList ++ Rows.cabinetFailsSpec.plain.varTypes Try.prog) (ds ++ gs)).all (· ≤ reachBytes) = true) :
    Calls Try.prog 5 args W fun e W' => ∃ v, e = .returned v ∧ Rows.cabinetFailsSpec.post enc Try.prog Try.f5 false true false false W args v W' := by
  have hW' := hW
  obtain ⟨p, q, hA0, hV, rfl, hfz, hnd⟩ := hW
  have hA : DataW.TrodAll enc Try.prog W 0 (fun _ => true) true Try.f5.params.toList args.toList ds p := hA0
  rw [Try.params5] at hA hval hsz
  obtain ⟨v0, vs0, d0, ds0, p0, q0, hargs, rfl, rfl, h0, r0⟩ := trodAll_cons hA
  obtain ⟨rfl, rfl, rfl⟩ := trodAll_nil r0
  obtain rfl : args = #[v0] := by cases args; simp_all
  obtain ⟨rfl, rfl⟩ := trodVars_none hV
  obtain ⟨a0, rfl, rfl, rfl, w0⟩ := open_int Try.underlying5 (hval 0 5 v0 rfl rfl) h0
  clear hA0 hsz
  refine (walk W a0 w0).mono fun e W' ⟨he, bel⟩ => ?_
  subst he
  exact ⟨_, rfl, _, _, _, [], _, [], hW', trodAll_mk1 (shut_bool Try.underlying4 _), (trodAll_cons_mk (shut_int Try.underlying5 w0) trodAll_mk0), rfl, bel.frame _, fun h => by cases h⟩
set_option maxRecDepth 100000 in
theorem lifted (os : Os) (started : os.Started) (H : Type) (enc : TypeId × Value → H) :
    ReturnsInHanded {} Try.checked os 5 .any (Rows.cabinetFailsSpec.pre6 enc Try.prog Try.f5 Rows.cabinetFailsRow.domain false) (Rows.cabinetFailsSpec.post enc Try.prog Try.f5 false true false false) := by
  refine returnsInHanded_of_change_sized (C := Try.checked) own started (by kernel_rfl) Try.func5
    (ChangeSpec.witness6 (enc := enc) (C := Try.checked) false ⟨#[], #[.int .u8 0], []⟩ 8 (by kernel_rfl) (by kernel_rfl) (by kernel_rfl) (by kernel_rfl)) ?_
  intro W base args ds gs before hval hW _ hsz _
  exact contract H enc W base args ds gs before hval hW hsz
theorem over : Rows.cabinetFailsRow.holds Try.pinned (OpenSpec.ofChange Rows.cabinetFailsSpec) :=
  OpenClaim.holds_of_wide 5 Try.f5 rfl rfl rfl rfl rfl rfl rfl ⟨rfl, rfl, rfl, rfl, rfl⟩ rfl rfl rfl rfl rfl (by kernel_rfl) Try.func5 (by kernel_rfl)
    (of_decide_eq_true (by kernel_rfl)) (by unfold Func.isWrapper; first | (rw [if_pos (by decide +kernel)]; kernel_rfl) | (rw [if_neg (by decide +kernel)]; exact ⟨rfl, rfl⟩))
    (fun os started H enc _ => lifted os started H enc)
theorem proved : Rows.CabinetFailsSaid := over
end Go.Proofs.Ytdiokdgiikfpaaa.cabinetFails
