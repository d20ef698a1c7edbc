/-
  CabinetLasts: for every name, bytes and crash: what was synced and turned is there behind it, and of what was appended then no more than a part, its last byte turned at most.
-/
import Derived.Test.YtdiokdgiikfpaaaPArgs
import Derived.Test.YtdiokdgiikfpaaaCabAwake
import Derived.Test.YtdiokdgiikfpaaaCabArgZ
namespace Go.Proofs.Ytdiokdgiikfpaaa.cabinetLasts
open Go.ChangeShapes Go.WideShapes Go.ChangeAt Go.RowKit
open Go.ChangeMaps (open_string shut_string)
set_option linter.unusedVariables false
set_option linter.unusedSimpArgs false
def lsC (nm : ByteArray) (f : ByteArray × Nat) (sure : List (ByteArray × Nat)) (wait : List (ByteArray × ByteArray × Nat)) : CabM := { quota := 1073741824, files := [f], now := [(nm, 0)], sure := sure, wait := wait, after := 0, timed := false, off := false }
theorem ls_find (nm : ByteArray) (f : ByteArray × Nat) (sure : List (ByteArray × Nat)) (wait : List (ByteArray × ByteArray × Nat)) : findC (lsC nm f sure wait).now nm = some 0 := by
  show (if eqC nm nm = true then some 0 else findC [] nm) = some 0
  rw [eqC_self, if_pos rfl]
theorem ls_power (nm : ByteArray) (f : ByteArray × Nat) (sure : List (ByteArray × Nat)) (wait : List (ByteArray × ByteArray × Nat)) : powerE (lsC nm f sure wait) = 0 ∧ powerC (lsC nm f sure wait) = lsC nm f sure wait := ⟨rfl, rfl⟩
theorem ls_create (nm : ByteArray) (h : goodC nm = true) : createR (newC 1073741824) nm = (0, lsC nm (ByteArray.empty, 0) [] [(ByteArray.empty, nm, 0)]) := by
  have hs := (good_size h).1
  have h1 : createE (newC 1073741824) nm = 0 := createE_ok (n := 0) rfl h rfl (Nat.le_refl _) (by decide)
  unfold createR
  rw [h1, done_yes rfl]
  show (0, namesC _ (ByteArray.empty, nm, 0)) = _
  have h2 : withC [] (ByteArray.empty, nm, 0) = [(nm, 0)] := by
    rw [with0 [] (x := (ByteArray.empty, nm, 0)) rfl hs]
    rfl
  show (0, ({ quota := 1073741824, files := _, now := withC [] (ByteArray.empty, nm, 0), sure := [], wait := _, after := 0, timed := false, off := false } : CabM)) = _
  rw [h2]
  rfl
theorem ls_bad (nm : ByteArray) (h : goodC nm = false) : (createR (newC 1073741824) nm).1 = 6 := by
  unfold createR
  rw [createE_bad rfl h, done_no (by decide)]
theorem ls_used1 (nm : ByteArray) (f : ByteArray × Nat) : usedC (lsC nm f [] [(ByteArray.empty, nm, 0)]) = f.1.size := by
  have : usedC (lsC nm f [] [(ByteArray.empty, nm, 0)]) = (if true = true then f.1.size else 0) + 0 := rfl
  rw [this, if_pos rfl, Nat.add_zero]
theorem ls_used2 (nm : ByteArray) (f : ByteArray × Nat) : usedC (lsC nm f [(nm, 0)] []) = f.1.size := by
  have : usedC (lsC nm f [(nm, 0)] []) = (if true = true then f.1.size else 0) + 0 := rfl
  rw [this, if_pos rfl, Nat.add_zero]
theorem ls_append (nm : ByteArray) (f : ByteArray × Nat) (sure : List (ByteArray × Nat)) (wait : List (ByteArray × ByteArray × Nat)) (B : ByteArray) (hu : usedC (lsC nm f sure wait) = f.1.size) (hb : f.1.size + B.size ≤ 1000000) : appendR (lsC nm f sure wait) nm B = (0, lsC nm (f.1 ++ B, f.2) sure wait) := by
  have h1 : appendE (lsC nm f sure wait) nm B = 0 := by
    rw [appendE_yes (k := 0) rfl (ls_find nm f sure wait), hu]
    show (if 1048576 < f.1.size + B.size then 17 else if 1073741824 < f.1.size + B.size then 10 else 0) = 0
    rw [if_neg (by omega), if_neg (by omega)]
  unfold appendR
  rw [h1, done_yes rfl, numC_eq (ls_find nm f sure wait)]
  rfl
theorem ls_sync (nm : ByteArray) (f : ByteArray × Nat) (sure : List (ByteArray × Nat)) (wait : List (ByteArray × ByteArray × Nat)) : syncR (lsC nm f sure wait) nm = (0, lsC nm (f.1, f.1.size) sure wait) := by
  have h1 : someE (lsC nm f sure wait) nm = 0 := by
    unfold someE
    rw [ls_find]
    rfl
  unfold syncR
  rw [h1, done_yes rfl, numC_eq (ls_find nm f sure wait)]
  rfl
theorem ls_turn (nm : ByteArray) (f : ByteArray × Nat) (sure : List (ByteArray × Nat)) (wait : List (ByteArray × ByteArray × Nat)) : turnR (lsC nm f sure wait) = (0, lsC nm f [(nm, 0)] []) := rfl
theorem ls_read (nm : ByteArray) (f : ByteArray × Nat) (names : Int) (keep : List Int) (t : UInt8) : readR (crashC (lsC nm f [(nm, 0)] []) names keep t) nm = (cutC f keep t, 0) := by
  have hp : partC names 0 = 0 := Nat.le_zero.1 (part_le names 0)
  have hl : lastC (lsC nm f [(nm, 0)] []) names = [(nm, 0)] := by
    unfold lastC
    show ((([] : List (ByteArray × ByteArray × Nat)).take (partC names 0)).foldl withC [(nm, 0)]) = [(nm, 0)]
    rw [List.take_nil]
    rfl
  have hf : findC (crashC (lsC nm f [(nm, 0)] []) names keep t).now nm = some 0 := by
    show findC (lastC (lsC nm f [(nm, 0)] []) names) nm = some 0
    rw [hl]
    exact ls_find nm f [] []
  unfold readR
  rw [hf]
  show (if false = true then _ else ((fileC (crashC (lsC nm f [(nm, 0)] []) names keep t) 0).1, 0)) = _
  rw [if_neg Bool.false_ne_true]
  show (((crashF (lastC (lsC nm f [(nm, 0)] []) names) keep t [f]).getD 0 (ByteArray.empty, 0)).1, 0) = _
  rw [hl]
  rfl
theorem ls_empty (A : ByteArray) : ByteArray.empty ++ A = A := ByteArray.ext (by rw [ByteArray.data_append]; simp)
set_option maxRecDepth 100000 in
set_option maxHeartbeats 16000000 in
theorem walk (W : World) (S : ByteArray) (wS : S.size ≤ 140737488351232) (a1 : Option Addr) (len1 cap1 : Nat) (x1 : List Nat) (w1 : ArgL W a1 len1 cap1 x1) (re1 : cap1 ≤ 140737488351232) (a2 : Option Addr) (len2 cap2 : Nat) (x2 : List Nat) (w2 : ArgL W a2 len2 cap2 x2) (re2 : cap2 ≤ 140737488351232) (z : Int) (wz : (Lit.int .i64 z).wf = true)
    (a4 : Option Addr) (len4 cap4 : Nat) (x4 : List Int) (w4 : ArgZ W a4 len4 x4) (y : Int) (wy : (Lit.int .u8 y).wf = true) :
    Calls Try.prog 4 #[.string S, .slice a1 len1 cap1, .slice a2 len2 cap2, .int .i64 z, .slice a4 len4 cap4, .int .u8 y] W fun e w' => e = .returned (.bool true) ∧ Below W.heap.size W w' := by
  obtain ⟨tn, rfl, htn⟩ : ∃ m : Nat, y = (m : Int) ∧ m < 256 := ⟨y.toNat, by have := bounds_u8 wy; omega, by have := bounds_u8 wy; omega⟩
  obtain ⟨A, hA, rowA, nilA, outA⟩ := w1.text
  obtain ⟨B, hB, rowB, nilB, outB⟩ := w2.text
  have HA : Hid (A.size = len1) := hA
  have HRA : Hid (RowL .u8 W a1 len1 (txt A)) := rowA
  have HNA : Hid (a1 = none → len1 = 0) := nilA
  have HOA : Hid (0 < len1 → ∀ ad, a1 = some ad → ad.block < W.heap.size) := outA
  have HB : Hid (B.size = len2) := hB
  have HRB : Hid (RowL .u8 W a2 len2 (txt B)) := rowB
  have HNB : Hid (a2 = none → len2 = 0) := nilB
  have HOB : Hid (0 < len2 → ∀ ad, a2 = some ad → ad.block < W.heap.size) := outB
  have HZ : Hid (ArgZ W a4 len4 x4) := w4
  have HS : Hid (S.size ≤ 9223372036854775806) := by unfold Hid; omega
  have HN : Hid _ := in_new W 1073741824 (by decide)
  have HTN : Hid (tn < 256) := htn
  clear w1 w2 w4 re1 re2 wz wy wS hA rowA nilA outA hB rowB nilB outB htn
  go_enter Try.func4, Try.ntmps4
  go_wp2_with fail
  refine Calls.mono HN.out ?_
  rintro _ wa ⟨g, rfl, h1⟩
  have H1 : Hid (CabIn W.heap.size W wa g (newC 1073741824)) := h1
  clear h1 HN
  go_wp2_with fail
  have HAW : Hid (Calls Try.prog 10 #[] wa fun e w' => e = .returned (.bool true) ∧ Below wa.heap.size wa w') := awake_any wa
  refine Calls.mono HAW.out ?_
  rintro _ wb ⟨rfl, hb2⟩
  have H2 : Hid (CabIn W.heap.size W wb g (newC 1073741824)) := H1.out.below hb2
  clear hb2 HAW H1
  go_wp2_with fail
  have HC : Hid _ := in_create H2.out (good_new 1073741824 (by decide)) (by decide) S HS.out
  cases hgd : goodC S with
  | false =>
    rw [ls_bad S hgd] at HC
    refine Calls.mono HC.out ?_
    rintro _ wc ⟨rfl, h3⟩
    have HU : Hid (Below W.heap.size W wc) := h3.under
    clear h3 HC H2 hgd
    go_wp2_with fail
    go_ret
    exact ⟨rfl, HU.out⟩
  | true =>
    have HGC : Hid (GoodC (createR (newC 1073741824) S).2 1) := good_create (good_new 1073741824 (by decide)) S
    rw [ls_create S hgd] at HC HGC
    refine Calls.mono HC.out ?_
    rintro _ wc ⟨rfl, h3⟩
    have H3 : Hid (CabIn W.heap.size W wc g (lsC S (ByteArray.empty, 0) [] [(ByteArray.empty, S, 0)])) := h3
    clear h3 HC H2 hgd
    dsimp only
    by_cases hl1 : 100000 < len1
    · have i1 : (100000 : Int) < (len1 : Int) := by omega
      have HU : Hid (Below W.heap.size W wc) := H3.out.under
      clear H3 hl1
      go_wp2_with fail
      go_ret
      exact ⟨rfl, HU.out⟩
    · have i1 : ¬ (100000 : Int) < (len1 : Int) := by omega
      by_cases hl2 : 100000 < len2
      · have i2 : (100000 : Int) < (len2 : Int) := by omega
        have HU : Hid (Below W.heap.size W wc) := H3.out.under
        clear H3 hl1 hl2
        go_wp2_with fail
        go_ret
        exact ⟨rfl, HU.out⟩
      · have i2 : ¬ (100000 : Int) < (len2 : Int) := by omega
        have HL1 : Hid (len1 ≤ 100000) := Nat.le_of_not_lt hl1
        have HL2 : Hid (len2 ≤ 100000) := Nat.le_of_not_lt hl2
        clear hl1 hl2
        go_wp2_with fail
        have hap := ls_append S (ByteArray.empty, 0) [] [(ByteArray.empty, S, 0)] A (ls_used1 S _) (by have := HL1.out; have := HA.out; show 0 + A.size ≤ 1000000; omega)
        dsimp only at hap
        rw [ls_empty] at hap
        have HC : Hid _ := in_append H3.out HGC.out (by decide) S A HS.out a1 len1 cap1 (HRA.out.below H3.out.under) HNA.out HOA.out (by have := HL1.out; omega)
        have HG2 : Hid (GoodC (appendR (lsC S (ByteArray.empty, 0) [] [(ByteArray.empty, S, 0)]) S A).2 2) := good_append HGC.out S A
        rw [hap] at HC HG2
        refine Calls.mono HC.out ?_
        rintro _ wd ⟨rfl, h4⟩
        have H4 : Hid (CabIn W.heap.size W wd g (lsC S (A, 0) [] [(ByteArray.empty, S, 0)])) := h4
        clear h4 HC H3 HGC hap
        dsimp only
        go_wp2_with fail
        have HC : Hid _ := in_sync H4.out HG2.out (by decide) S HS.out
        have HG3 : Hid (GoodC (syncR (lsC S (A, 0) [] [(ByteArray.empty, S, 0)]) S).2 3) := good_sync HG2.out S
        rw [ls_sync] at HC HG3
        refine Calls.mono HC.out ?_
        rintro _ we ⟨rfl, h5⟩
        have H5 : Hid (CabIn W.heap.size W we g (lsC S (A, A.size) [] [(ByteArray.empty, S, 0)])) := h5
        clear h5 HC H4 HG2
        dsimp only
        go_wp2_with fail
        have HC : Hid _ := in_turn H5.out HG3.out (by decide)
        have HG4 : Hid (GoodC (turnR (lsC S (A, A.size) [] [(ByteArray.empty, S, 0)])).2 4) := good_turn HG3.out
        rw [ls_turn] at HC HG4
        refine Calls.mono HC.out ?_
        rintro _ wf ⟨rfl, h6⟩
        have H6 : Hid (CabIn W.heap.size W wf g (lsC S (A, A.size) [(S, 0)] [])) := h6
        clear h6 HC H5 HG3
        dsimp only
        go_wp2_with fail
        have hap := ls_append S (A, A.size) [(S, 0)] [] B (ls_used2 S _) (by have := HL1.out; have := HL2.out; have := HA.out; have := HB.out; show A.size + B.size ≤ 1000000; omega)
        have HC : Hid _ := in_append H6.out HG4.out (by decide) S B HS.out a2 len2 cap2 (HRB.out.below H6.out.under) HNB.out HOB.out (by have := HL2.out; omega)
        have HG5 : Hid (GoodC (appendR (lsC S (A, A.size) [(S, 0)] []) S B).2 5) := good_append HG4.out S B
        rw [hap] at HC HG5
        refine Calls.mono HC.out ?_
        rintro _ wg ⟨rfl, h7⟩
        have H7 : Hid (CabIn W.heap.size W wg g (lsC S (A ++ B, A.size) [(S, 0)] [])) := h7
        clear h7 HC H6 HG4 hap
        dsimp only
        go_wp2_with fail
        have htn2 : (UInt8.ofNat tn).toNat = tn := by
          have h1 := HTN.out
          simp [UInt8.toNat_ofNat]
          omega
        obtain ⟨t, ht⟩ : ∃ t : UInt8, tn = t.toNat := ⟨UInt8.ofNat tn, htn2.symm⟩
        clear htn2
        have HT : Hid (tn = t.toNat) := ht
        have HC : Hid _ := in_crash H7.out HG5.out (by decide) z x4 t tn ht a4 len4 cap4 (RowZ.below HZ.out.1 H7.out.under) HZ.out.2.1 HZ.out.2.2
        have HG6 : Hid (GoodC (crashC (lsC S (A ++ B, A.size) [(S, 0)] []) z x4 t) 5) := good_crash HG5.out z x4 t
        refine Calls.mono HC.out ?_
        rintro _ wh ⟨rfl, h8⟩
        have H8 : Hid (CabIn W.heap.size W wh g (crashC (lsC S (A ++ B, A.size) [(S, 0)] []) z x4 t)) := h8
        clear h8 HC H7 HG5 ht
        go_wp2_with fail
        have HC : Hid _ := in_read H8.out HG6.out (by decide) S HS.out
        refine Calls.mono HC.out ?_
        rintro _ wi ⟨⟨a9, len9, cap9, rfl, hrow9, hnil9, hcap9⟩, h9, -⟩
        rw [ls_read] at hrow9 ⊢
        have HU : Hid (Below W.heap.size W wi) := h9.under
        obtain ⟨hc1, hc2⟩ := cut_lasts A B x4 t
        obtain ⟨hs1, hs2⟩ := cut_size (A ++ B, A.size) x4 t (by rw [ByteArray.size_append]; omega)
        dsimp only at hrow9 hs1 hs2 ⊢
        generalize cutC (A ++ B, A.size) x4 t = X at *
        rw [ByteArray.size_append, HA.out, HB.out] at hs1
        rw [HA.out] at hs2
        have hx9 : X.size = len9 := by have := hrow9.1; rw [txt_length] at this; exact this
        rw [hx9] at hs1 hs2 hc2
        rw [HA.out] at hc1 hc2
        have HR9 : Hid (RowL .u8 wi a9 len9 (txt X)) := hrow9
        have HN9 : Hid (a9 = none → len9 = 0) := hnil9
        have HC1 : Hid ((txt X).take len1 = txt A) := hc1
        have HC2 : Hid (∀ i, i < len9 - len1 → (txt X).getD (len1 + i) 0 ≠ (txt B).getD i 0 → i + 1 = len9 - len1 ∧ t ≠ 0) := hc2
        have HRA9 : Hid (RowL .u8 wi a1 len1 (txt A)) := HRA.out.below HU.out
        have HRB9 : Hid (RowL .u8 wi a2 len2 (txt B)) := HRB.out.below HU.out
        clear hrow9 hnil9 h9 HC H8 HG6 hc1 hc2 HRA HRB HZ
        obtain ⟨n, hn⟩ : ∃ n, len9 = len1 + n := ⟨len9 - len1, by omega⟩
        have HNN : Hid (len9 = len1 + n) := hn
        have hn2 : n ≤ len2 := by omega
        have HN2 : Hid (n ≤ len2) := hn2
        have hw : IntKind.i64.wrap ((len9 : Int) - (len1 : Int)) = (n : Int) := by have := HL1.out; have := HL2.out; rw [IntKind.wrap_i64]; omega
        have hlt1 : ¬ (len9 : Int) < (len1 : Int) := by omega
        have hlt2 : ¬ (len1 : Int) + (len2 : Int) < (len9 : Int) := by omega
        have hle1 : len1 ≤ cap9 := by omega
        have hle2 : len1 ≤ len9 := by omega
        have hw2 : IntKind.i64.wrap ((len1 : Int) + (len2 : Int)) = (len1 : Int) + (len2 : Int) := by have := HL1.out; have := HL2.out; rw [IntKind.wrap_i64]; omega
        have hrx : RowL .u8 wi a9 len1 (txt A) := by
          refine ⟨HRA9.out.1, ?_⟩
          rcases HR9.out.2 with h0 | ⟨b, off, e, hb, hc⟩
          · exact .inl (by omega)
          · refine .inr ⟨b, off, e, hb, fun i hi => ?_⟩
            rw [hc i (by omega), ← HC1.out, List.getD_eq_getElem?_getD, List.getD_eq_getElem?_getD, List.getElem?_take, if_pos hi]
        have hA1 : ∀ m, Sem.run Try.prog (convert 35 9 (Value.slice a1 len1 cap1)) (wi.drewN m) = .ok (.string A) (wi.drewN m) := fun m => by
          have := conv_any (RowL.below HRA9.out (below_drew (Below.refl _ _) m)) HNA.out cap1
          rw [strN_txt] at this
          exact this
        have hA9 : ∀ m, Sem.run Try.prog (convert 35 9 (Value.slice a9 len1 cap9)) (wi.drewN m) = .ok (.string A) (wi.drewN m) := fun m => by
          have := conv_any (RowL.below hrx (below_drew (Below.refl _ _) m)) (fun e => by have := HN9.out e; omega) cap9
          rw [strN_txt] at this
          exact this
        clear hn hn2 hs1 hs2 hrx hcap9 hx9
        go_wp2_with fail
        go_quiet (fail)
        rename_i nq
        have HX0 : Hid (RowL .u8 (wi.drewN nq) a9 len9 (txt X)) := RowL.below HR9.out (below_drew (Below.refl _ _) nq)
        have HB0 : Hid (RowL .u8 (wi.drewN nq) a2 len2 (txt B)) := RowL.below HRB9.out (below_drew (Below.refl _ _) nq)
        have HU0 : Hid (Below W.heap.size W (wi.drewN nq)) := below_drew HU.out nq
        have hltn : ¬ len9 < len1 := by omega
        have hlt3 : (len9 : Int) ≤ (len1 : Int) + (len2 : Int) := by omega
        clear hA1 hA9 HRA9 HRB9 HR9 HU hle1 hle2 hw2
        generalize wi.drewN nq = wq at *
        go_wp2_with fail
        go_loopw [18] (fun ix wr => ∃ (wz : World) (i : Nat), wz = wr ∧ ix = .int .i64 i ∧ i ≤ n ∧ RowL .u8 wz a9 len9 (txt X) ∧ RowL .u8 wz a2 len2 (txt B) ∧ Below W.heap.size W wz) (fun ix _ => n - (intOf ix).toNat)
        case atStart => exact ⟨_, 0, rfl, rfl, Nat.zero_le _, HX0.out, HB0.out, HU0.out⟩
        case round =>
          clear HX0 HB0 HU0
          obtain ⟨wr, i, hwr, rfl, hi, hx, hb, hu⟩ := hrel
          subst hwr
          have HX : Hid (RowL .u8 wr a9 len9 (txt X)) := hx
          have HBB : Hid (RowL .u8 wr a2 len2 (txt B)) := hb
          have HU : Hid (Below W.heap.size W wr) := hu
          by_cases hlt : i < n
          · have hii : (i : Int) < (n : Int) := by omega
            have hnn : len9 = len1 + n := HNN.out
            have hn2 : n ≤ len2 := HN2.out
            have hl1 : len1 ≤ 100000 := HL1.out
            have hl2 : len2 ≤ 100000 := HL2.out
            obtain ⟨j, hj⟩ : ∃ j, j = len1 + i := ⟨_, rfl⟩
            have hwl : IntKind.i64.wrap ((len1 : Int) + (i : Int)) = (j : Int) := by rw [IntKind.wrap_i64]; omega
            have hwn : IntKind.i64.wrap ((n : Int) - 1) = (n : Int) - 1 := by rw [IntKind.wrap_i64]; omega
            have hwi : IntKind.i64.wrap ((i : Int) + 1) = (i : Int) + 1 := by rw [IntKind.wrap_i64]; omega
            have hne : (txt X).getD j 0 ≠ (txt B).getD i 0 → i + 1 = n ∧ t ≠ 0 := fun h => by
              have := HC2.out i (by omega) (by rw [← hj]; exact h)
              exact ⟨by omega, this.2⟩
            obtain ⟨b9, o9, e9, hh9, c9⟩ : ∃ b off, a9 = some ⟨b, off, none⟩ ∧ b < wr.heap.size ∧ wr.cell? ⟨b, off + j, none⟩ = some (.int .u8 ((txt X).getD j 0 : Nat)) := by
              rcases hx.2 with h0 | ⟨b, off, e, hb, hc⟩
              · omega
              · exact ⟨b, off, e, hb, hc j (by omega)⟩
            obtain ⟨b2, o2, e2, hh2, c2⟩ : ∃ b off, a2 = some ⟨b, off, none⟩ ∧ b < wr.heap.size ∧ wr.cell? ⟨b, off + i, none⟩ = some (.int .u8 ((txt B).getD i 0 : Nat)) := by
              rcases hb.2 with h0 | ⟨b, off, e, hb, hc⟩
              · omega
              · exact ⟨b, off, e, hb, hc i (by omega)⟩
            have hj9 : (j : Int) < (len9 : Int) := by omega
            have hj9n : j < len9 := by omega
            have hi2 : (i : Int) < (len2 : Int) := by omega
            have hi2n : i < len2 := by omega
            have HNX : Hid (∀ nq, ∃ (wz : World) (k : Nat), wz = wr.drewN nq ∧ Value.int .i64 ((i : Int) + 1) = .int .i64 k ∧ k ≤ n ∧ RowL .u8 wz a9 len9 (txt X) ∧ RowL .u8 wz a2 len2 (txt B) ∧ Below W.heap.size W wz) := fun nq =>
              ⟨_, i + 1, rfl, by go_num, by omega, RowL.below hx (below_drew (Below.refl _ _) nq), RowL.below hb (below_drew (Below.refl _ _) nq), below_drew hu nq⟩
            generalize (txt X).getD j 0 = vx at *
            generalize (txt B).getD i 0 = vb at *
            subst e9 e2
            by_cases hv : vx = vb
            · subst hv
              clear hne hx hb hu hj hnn hn2 hl1 hl2
              go_wp2_with fail
              go_quiet (fail)
              go_wp2_with fail
              go_roundw
              case rel => exact HNX.out _
              case measure => simp [intOf]; omega
            · obtain ⟨h1, h2⟩ := hne hv
              have hwm : IntKind.i64.wrap ((n : Int) - 1) = (i : Int) := by rw [hwn]; omega
              have hvi : ¬ (vx : Int) = (vb : Int) := by omega
              have htz : ¬ (tn : Int) = 0 := fun h => h2 (UInt8.toNat_inj.1 (by rw [← HT.out]; show tn = 0; omega))
              have htb : ((tn : Int) == 0) = false := beq_eq_false_iff_ne.2 htz
              have hvb : ((vx : Int) != (vb : Int)) = true := bne_iff_ne.2 hvi
              clear hne hx hb hu hj h1 h2 hwn hnn hn2 hl1 hl2
              go_wp2_with fail
              go_quiet (fail)
              go_wp2_with fail
              go_roundw
              case rel => exact HNX.out _
              case measure => simp [intOf]; omega
          · have hii : ¬ (i : Int) < (n : Int) := by omega
            clear hx hb hu
            go_wp2_with fail
            go_ret
            exact ⟨rfl, HU.out⟩
set_option maxRecDepth 100000 in
theorem contract (H : Type) (enc : TypeId × Value → H) (W : World) (base : Nat) (args : Array Value) (ds gs : List (DataW H)) (before : List MemPlace)
    (hval : ∀ (j : Nat) t v, Try.f4.params[j]? = some t → args[j]? = some v → Value.okWide Try.prog W .any base t v)
    (hW : DataW.Whole enc Try.prog Try.f4.params.toList Rows.cabinetLastsSpec.vars false W args.toList ds gs before)
    (hsz : (DataW.weightsEach Try.prog (Try.f4.params.toList ++ Rows.cabinetLastsSpec.plain.varTypes Try.prog) (ds ++ gs)).all (· ≤ reachBytes) = true) :
    Calls Try.prog 4 args W fun e W' => ∃ v, e = .returned v ∧ Rows.cabinetLastsSpec.post enc Try.prog Try.f4 false true false false W args v W' := by
  have hW' := hW
  obtain ⟨p, q, hA0, hV, rfl, hfz, hnd⟩ := hW
  have hA : DataW.TrodAll enc Try.prog W 0 (fun _ => true) true Try.f4.params.toList args.toList ds p := hA0
  rw [Try.params4] at hA hval hsz
  obtain ⟨v0, vs0, d0, ds0, p0, q0, hargs, rfl, rfl, h0, r0⟩ := trodAll_cons hA
  obtain ⟨v1, vs1, d1, ds1, p1, q1, rfl, rfl, rfl, h1, r1⟩ := trodAll_cons r0
  obtain ⟨v2, vs2, d2, ds2, p2, q2, rfl, rfl, rfl, h2, r2⟩ := trodAll_cons r1
  obtain ⟨v3, vs3, d3, ds3, p3, q3, rfl, rfl, rfl, h3, r3⟩ := trodAll_cons r2
  obtain ⟨v4, vs4, d4, ds4, p4, q4, rfl, rfl, rfl, h4, r4⟩ := trodAll_cons r3
  obtain ⟨v5, vs5, d5, ds5, p5, q5, rfl, rfl, rfl, h5, r5⟩ := trodAll_cons r4
  obtain ⟨rfl, rfl, rfl⟩ := trodAll_nil r5
  obtain rfl : args = #[v0, v1, v2, v3, v4, v5] := by cases args; simp_all
  obtain ⟨rfl, rfl⟩ := trodVars_none hV
  obtain ⟨a0, rfl, rfl, rfl, m0⟩ := open_string Try.underlying9 (hval 0 9 v0 rfl rfl) h0
  have w0 : a0.size ≤ 140737488351232 := by
    have := sized_string hsz (j := 0) (t := 9) rfl rfl
    rw [bytes_len] at this
    exact this
  obtain ⟨a1, len1, cap1, rfl⟩ := okWide_slice Try.underlying35 (hval 1 35 v1 rfl rfl)
  have k1 := h1
  have lt1 : ∀ x ∈ p1, x.block < W.heap.size := by obtain ⟨m, hm⟩ := k1; exact DataW.trod_lt m _ _ _ hm
  obtain ⟨x1, w1, re1⟩ : ∃ xs, ArgL W a1 len1 cap1 xs ∧ cap1 ≤ 140737488351232 := by
    obtain ⟨fuel, hf⟩ := h1
    rcases open_ints Try.underlying35 Try.underlying5 (by kernel_rfl) hf with ⟨hcs, _⟩ | ⟨x, l, c, zs, hcs, _, hl, hm, hz, hx, hcell, hwz⟩
    · simp [Value.cells] at hcs
      obtain ⟨rfl, rfl, rfl⟩ := hcs
      exact ⟨_, arg_at (.inl ⟨rfl, rfl, rfl, rfl⟩), by omega⟩
    · simp [Value.cells] at hcs
      obtain ⟨rfl, rfl, rfl⟩ := hcs
      have hd := congrArg Prod.fst hx
      simp only [] at hd
      have hz' : zs.length = cap1 := by simpa using hz
      have hb := sized_slice hsz (j := 1) (t := 35) (e := 5) rfl (by rw [hd]; rfl) Try.underlying35
      have hby : Try.prog.bytesOf 5 = 1 := by kernel_rfl
      rw [hby] at hb
      simp only [lits, List.length_map, List.length_take, List.length_drop, reachBytes] at hb
      exact ⟨_, arg_at (.inr ⟨_, rfl, hl, hm, hz', hcell, hwz⟩), by omega⟩
  obtain ⟨a2, len2, cap2, rfl⟩ := okWide_slice Try.underlying35 (hval 2 35 v2 rfl rfl)
  have k2 := h2
  have lt2 : ∀ x ∈ p2, x.block < W.heap.size := by obtain ⟨m, hm⟩ := k2; exact DataW.trod_lt m _ _ _ hm
  obtain ⟨x2, w2, re2⟩ : ∃ xs, ArgL W a2 len2 cap2 xs ∧ cap2 ≤ 140737488351232 := by
    obtain ⟨fuel, hf⟩ := h2
    rcases open_ints Try.underlying35 Try.underlying5 (by kernel_rfl) hf with ⟨hcs, _⟩ | ⟨x, l, c, zs, hcs, _, hl, hm, hz, hx, hcell, hwz⟩
    · simp [Value.cells] at hcs
      obtain ⟨rfl, rfl, rfl⟩ := hcs
      exact ⟨_, arg_at (.inl ⟨rfl, rfl, rfl, rfl⟩), by omega⟩
    · simp [Value.cells] at hcs
      obtain ⟨rfl, rfl, rfl⟩ := hcs
      have hd := congrArg Prod.fst hx
      simp only [] at hd
      have hz' : zs.length = cap2 := by simpa using hz
      have hb := sized_slice hsz (j := 2) (t := 35) (e := 5) rfl (by rw [hd]; rfl) Try.underlying35
      have hby : Try.prog.bytesOf 5 = 1 := by kernel_rfl
      rw [hby] at hb
      simp only [lits, List.length_map, List.length_take, List.length_drop, reachBytes] at hb
      exact ⟨_, arg_at (.inr ⟨_, rfl, hl, hm, hz', hcell, hwz⟩), by omega⟩
  obtain ⟨a3, rfl, rfl, rfl, w3⟩ := open_int Try.underlying3 (hval 3 3 v3 rfl rfl) h3
  obtain ⟨a4, len4, cap4, rfl⟩ := okWide_slice Try.underlying36 (hval 4 36 v4 rfl rfl)
  have k4 := h4
  have lt4 : ∀ x ∈ p4, x.block < W.heap.size := by obtain ⟨m, hm⟩ := k4; exact DataW.trod_lt m _ _ _ hm
  obtain ⟨x4, w4⟩ : ∃ zs, ArgZ W a4 len4 zs := by
    obtain ⟨fuel, hf⟩ := h4
    rcases open_ints Try.underlying36 Try.underlying3 (by kernel_rfl) hf with ⟨hcs, _⟩ | ⟨x, l, c, zs, hcs, _, hl, hm, hz, hx, hcell, hwz⟩
    · simp [Value.cells] at hcs
      obtain ⟨rfl, rfl, rfl⟩ := hcs
      exact ⟨[], argz_nil _⟩
    · simp [Value.cells] at hcs
      obtain ⟨rfl, rfl, rfl⟩ := hcs
      have hz' : zs.length = cap4 := by simpa using hz
      exact ⟨_, argz_at hl hm hz' hcell⟩
  obtain ⟨a5, rfl, rfl, rfl, w5⟩ := open_int Try.underlying5 (hval 5 5 v5 rfl rfl) h5
  clear hA0 hsz
  refine (walk W a0 w0 a1 len1 cap1 x1 w1 re1 a2 len2 cap2 x2 w2 re2 a3 w3 a4 len4 cap4 x4 w4 a5 w5).mono fun e W' ⟨he, bel⟩ => ?_
  subst he
  exact ⟨_, rfl, _, _, _, [], _, [], hW', trodAll_mk1 (shut_bool Try.underlying4 _), (trodAll_cons_mk (shut_string Try.underlying9 m0) (trodAll_cons_mk (Below.trod laidOut (by kernel_rfl) (of_decide_eq_true (by kernel_rfl)) k1 bel lt1) (trodAll_cons_mk (Below.trod laidOut (by kernel_rfl) (of_decide_eq_true (by kernel_rfl)) k2 bel lt2) (trodAll_cons_mk (shut_int Try.underlying3 w3) (trodAll_cons_mk (Below.trod laidOut (by kernel_rfl) (of_decide_eq_true (by kernel_rfl)) k4 bel lt4) (trodAll_cons_mk (shut_int Try.underlying5 w5) trodAll_mk0)))))), rfl, bel.frame _, fun h => by cases h⟩
set_option maxRecDepth 100000 in
theorem lifted (os : Os) (started : os.Started) (H : Type) (enc : TypeId × Value → H) :
    ReturnsInHanded {} Try.checked os 4 .any (Rows.cabinetLastsSpec.pre6 enc Try.prog Try.f4 Rows.cabinetLastsRow.domain false) (Rows.cabinetLastsSpec.post enc Try.prog Try.f4 false true false false) := by
  refine returnsInHanded_of_change_sized (C := Try.checked) own started (by kernel_rfl) Try.func4
    (ChangeSpec.witness6 (enc := enc) (C := Try.checked) false ⟨#[], #[.string ByteArray.empty, .slice none 0 0, .slice none 0 0, .int .i64 0, .slice none 0 0, .int .u8 0], []⟩ 8 (by kernel_rfl) (by kernel_rfl) (by kernel_rfl) (by kernel_rfl)) ?_
  intro W base args ds gs before hval hW _ hsz _
  exact contract H enc W base args ds gs before hval hW hsz
theorem over : Rows.cabinetLastsRow.holds Try.pinned (OpenSpec.ofChange Rows.cabinetLastsSpec) :=
  OpenClaim.holds_of_wide 4 Try.f4 rfl rfl rfl rfl rfl rfl rfl ⟨rfl, rfl, rfl, rfl, rfl⟩ rfl rfl rfl rfl rfl (by kernel_rfl) Try.func4 (by kernel_rfl)
    (of_decide_eq_true (by kernel_rfl)) (by unfold Func.isWrapper; first | (rw [if_pos (by decide +kernel)]; kernel_rfl) | (rw [if_neg (by decide +kernel)]; exact ⟨rfl, rfl⟩))
    (fun os started H enc _ => lifted os started H enc)
theorem proved : Rows.CabinetLastsSaid := over
end Go.Proofs.Ytdiokdgiikfpaaa.cabinetLasts
