/-
  PackWrites: for all fields (of at most 60 the first), where what comes in is of bulk at most 1048576: what a Writer has is the document's text.
-/
import Derived.Test.YtngojkleehgbaaaPArgs
import Derived.Test.YtngojkleehgbaaaPackElem
namespace Go.Proofs.Ytngojkleehgbaaa.packWritesUpto
open Go.ChangeShapes Go.WideShapes Go.ChangeAt Go.RowKit
open Go.ChangeMaps (open_string shut_string)
set_option linter.unusedVariables false
set_option linter.unusedSimpArgs false
def encF (x : Fld) : List Nat := if x.1 = 0 then pkN x.2.1 else if x.1 = 1 then pkN (zigN x.2.2.1) else if x.1 = 2 then flagN (decide (0 < x.2.2.1)) else if x.1 = 3 then textN x.2.2.2.1 else if x.1 = 4 then x.2.2.2.2 else []
def encAll (fs : List Fld) : Nat → List Nat
  | 0 => []
  | i + 1 => encAll fs i ++ encF (fldAt fs i)
theorem encF_len {x : Fld} (h : FldOk x) (hs : x.2.2.2.1.size ≤ 1048576) : (encF x).length ≤ 1048586 := by
  have p1 := (pkN_len x.2.1).2
  have p2 := (pkN_len (zigN x.2.2.1)).2
  have p3 := (pkN_len x.2.2.2.1.size).2
  have p4 := h.2.2.2.1
  unfold encF
  split
  · omega
  · split
    · omega
    · split
      · unfold flagN; simp
      · split
        · unfold textN; rw [List.length_append, txt_length]; omega
        · split
          · omega
          · simp
theorem encAll_len {fs : List Fld} {n : Nat} (h : ∀ i, i < n → FldOk (fldAt fs i)) (hs : ∀ i, i < n → (fldAt fs i).2.2.2.1.size ≤ 1048576) : ∀ i, i ≤ n → (encAll fs i).length ≤ i * 1048586
  | 0, _ => Nat.zero_le _
  | i + 1, hi => by
    have ih := encAll_len h hs i (by omega)
    have := encF_len (h i (by omega)) (hs i (by omega))
    rw [encAll, List.length_append]; omega
set_option maxRecDepth 100000 in
set_option maxHeartbeats 16000000 in
theorem walk (w : World) (a0 : Option Addr) (len0 cap0 : Nat) (x0 : List Fld) (w0 : ArgF w a0 len0 x0) (lc0 : len0 ≤ cap0) (mc0 : cap0 ≤ maxLen) (bu0 : ∀ i, i < len0 → (fldAt x0 i).2.2.2.1.size ≤ 1048576) :
    Calls Try.prog 3 #[.slice a0 len0 cap0] w fun e w' => e = .returned (.bool true) ∧ Below w.heap.size w w' := by
  have HARG : Hid (ArgF w a0 len0 x0 ∧ ∀ i, i < len0 → (fldAt x0 i).2.2.2.1.size ≤ 1048576) := ⟨w0, bu0⟩
  have hl0 : len0 ≤ 9223372036854775807 := by unfold maxLen at mc0; omega
  clear w0 bu0 lc0 mc0
  go_enter Try.func3, Try.ntmps3
  go_wp2_with fail
  refine (new_any w).mono ?_
  rintro _ v1 ⟨rfl, hW1, b1⟩
  have HW1 : Hid (WAt v1 w.heap.size [] ∧ Below w.heap.size w v1) := ⟨hW1, b1⟩
  clear hW1 b1
  go_wp2_with fail
  go_loopw [4, 5] (fun want ix wr => ∃ (wz : World) (i : Nat), wz = wr ∧ ix = .int .i64 i ∧ i ≤ 60 ∧ i ≤ len0 ∧ want = .string (strN (encAll x0 i)) ∧ WAt wz w.heap.size (encAll x0 i) ∧ Below w.heap.size w wz) (fun want ix _ => 60 - (intOf ix).toNat)
  case atStart => exact ⟨_, 0, rfl, rfl, by omega, by omega, rfl, HW1.out.1, HW1.out.2⟩
  case round =>
    clear HW1
    obtain ⟨wr, i, hwr, rfl, hi60, hilen, rfl, hWr, hbr⟩ := hrel
    subst hwr
    have hyl := encAll_len (fun i hi => HARG.out.1.2.1 i hi) HARG.out.2 i hilen
    by_cases hin : i < len0 ∧ i < 60
    · obtain ⟨hil, hi6⟩ := hin
      obtain ⟨b, off, rfl, hb, hcell⟩ := HARG.out.1.at hbr i hil
      have hok := HARG.out.1.2.1 i hil
      have hsz := HARG.out.2 i hil
      have HENC : Hid (encAll x0 (i + 1) = encAll x0 i ++ encF (fldAt x0 i)) := rfl
      have hle := encF_len hok hsz
      generalize encAll x0 i = ys at *
      generalize fldAt x0 i = X at *
      obtain ⟨wA, wB, hL, hA, hC, hX, hbX, hsB⟩ := fld_take hcell hok.2.2.2.1
      have hD := hX.digest hok.2.2.2.1
      have HX : Hid (FldBlk wB wr.heap.size X) := hX
      have HOK : Hid (FldOk X) := hok
      have HYL : Hid (ys.length ≤ 140737488355000) := by unfold Hid; omega
      have HYT : Hid (ys.length + X.2.2.2.1.size ≤ 140737488355000) := by unfold Hid; omega
      have HST : Hid (X.2.2.2.1.size ≤ 140737488355000) := by unfold Hid; omega
      have HLEN : Hid (ys.length + (encF X).length ≤ 9223372036854775807) := by unfold Hid; omega
      have HW : Hid (WAt wB w.heap.size ys) := hWr.below hbX
      have HBL : Hid (Below w.heap.size w wB) := hbr.trans (hbX.mono hbr.size)
      obtain ⟨c0, c1, c2, c3⟩ := hX.cells
      clear hX hbX hsB hok hsz hle hyl hcell hWr hbr
      by_cases e0 : X.1 = 0
      · have HE : Hid (encF X = pkN X.2.1) := by unfold Hid encF; rw [if_pos e0]
        rw [e0] at c0
        have P := fun z (h : WAt z w.heap.size ys) => wnum_K z w.heap.size X.2.1 ys h HOK.out.2.1 HYL.out
        have Q := fun z => rnum_any X.2.1 z HOK.out.2.1
        go_wp2_with (first
          | (refine load_op rfl 29 (.tmp 20) rfl ⟨b, off + i * 36, none⟩ rfl _ hL ?_)
          | (refine alloc_op rfl 29 rfl _ hA ?_)
          | (refine store_op rfl 29 (.tmp 6) (.tmp 21) rfl ⟨wr.heap.size, 0, none⟩ rfl _ rfl hC ?_))
        refine (P wB HW.out).mono ?_
        rintro _ z1 ⟨rfl, hW1, b1, k1⟩
        have hX1 : FldBlk z1 wr.heap.size X := HX.out.keep (k1 _ _ _ _ HX.out (by decide) (by decide))
        obtain ⟨c0, c1, c2, c3⟩ := hX1.cells
        clear hL hA hC P hX1 k1
        go_wp2_with fail
        refine (Q z1).mono ?_
        rintro _ z2 ⟨rfl, b2⟩
        clear Q
        have hB2 : Below w.heap.size w z2 := (HBL.out.trans b1).trans (b2.mono (Nat.le_trans HBL.out.size b1.size))
        have hW2 : WAt z2 w.heap.size (ys ++ pkN X.2.1) := hW1.below b2
        have hadd : ∀ W, (Op.stringOp .add (strN ys) (strN (pkN X.2.1))).run Try.prog W = .ok (.string (strN (ys ++ pkN X.2.1))) W := fun W => str_add ys _ (by have := HLEN.out; rw [HE.out] at this; omega) W
        rw [← HE.out] at hW2 hadd
        rw [← HE.out]
        clear b1 b2 hW1 c0 c1 c2 c3
        have HF : Hid (WAt z2 w.heap.size (ys ++ encF X) ∧ Below w.heap.size w z2) := ⟨hW2, hB2⟩
        clear hW2 hB2
        go_wp2_with fail
        go_roundw
        case rel => exact ⟨z2, i + 1, rfl, rfl, by omega, by omega, by rw [HENC.out], by rw [HENC.out]; exact HF.out.1, HF.out.2⟩
        case measure => simp [intOf]; omega
      by_cases e1 : X.1 = 1
      · have HE : Hid (encF X = pkN (zigN X.2.2.1)) := by unfold Hid encF; rw [if_neg e0, if_pos e1]
        rw [e1] at c0
        have P := fun z (h : WAt z w.heap.size ys) => wint_K z w.heap.size X.2.2.1 ys h HOK.out.2.2.1.1 HOK.out.2.2.1.2 HYL.out
        have Q := fun z => rint_any X.2.2.1 z HOK.out.2.2.1.1 HOK.out.2.2.1.2
        go_wp2_with (first
          | (refine load_op rfl 29 (.tmp 20) rfl ⟨b, off + i * 36, none⟩ rfl _ hL ?_)
          | (refine alloc_op rfl 29 rfl _ hA ?_)
          | (refine store_op rfl 29 (.tmp 6) (.tmp 21) rfl ⟨wr.heap.size, 0, none⟩ rfl _ rfl hC ?_))
        refine (P wB HW.out).mono ?_
        rintro _ z1 ⟨rfl, hW1, b1, k1⟩
        have hX1 : FldBlk z1 wr.heap.size X := HX.out.keep (k1 _ _ _ _ HX.out (by decide) (by decide))
        obtain ⟨c0, c1, c2, c3⟩ := hX1.cells
        clear hL hA hC P hX1 k1
        go_wp2_with fail
        refine (Q z1).mono ?_
        rintro _ z2 ⟨rfl, b2⟩
        clear Q
        have hB2 : Below w.heap.size w z2 := (HBL.out.trans b1).trans (b2.mono (Nat.le_trans HBL.out.size b1.size))
        have hW2 : WAt z2 w.heap.size (ys ++ pkN (zigN X.2.2.1)) := hW1.below b2
        have hadd : ∀ W, (Op.stringOp .add (strN ys) (strN (pkN (zigN X.2.2.1)))).run Try.prog W = .ok (.string (strN (ys ++ pkN (zigN X.2.2.1)))) W := fun W => str_add ys _ (by have := HLEN.out; rw [HE.out] at this; omega) W
        rw [← HE.out] at hW2 hadd
        rw [← HE.out]
        clear b1 b2 hW1 c0 c1 c2 c3
        have HF : Hid (WAt z2 w.heap.size (ys ++ encF X) ∧ Below w.heap.size w z2) := ⟨hW2, hB2⟩
        clear hW2 hB2
        go_wp2_with fail
        go_roundw
        case rel => exact ⟨z2, i + 1, rfl, rfl, by omega, by omega, by rw [HENC.out], by rw [HENC.out]; exact HF.out.1, HF.out.2⟩
        case measure => simp [intOf]; omega
      by_cases e2 : X.1 = 2
      · have HE : Hid (encF X = flagN (decide (0 < X.2.2.1))) := by unfold Hid encF; rw [if_neg e0, if_neg e1, if_pos e2]
        rw [e2] at c0
        have P := fun z (h : WAt z w.heap.size ys) => wflag_K z w.heap.size (decide (0 < X.2.2.1)) ys h HYL.out
        have Q := fun z => rflag_any (decide (0 < X.2.2.1)) z
        go_wp2_with (first
          | (refine load_op rfl 29 (.tmp 20) rfl ⟨b, off + i * 36, none⟩ rfl _ hL ?_)
          | (refine alloc_op rfl 29 rfl _ hA ?_)
          | (refine store_op rfl 29 (.tmp 6) (.tmp 21) rfl ⟨wr.heap.size, 0, none⟩ rfl _ rfl hC ?_))
        refine (P wB HW.out).mono ?_
        rintro _ z1 ⟨rfl, hW1, b1, k1⟩
        have hX1 : FldBlk z1 wr.heap.size X := HX.out.keep (k1 _ _ _ _ HX.out (by decide) (by decide))
        obtain ⟨c0, c1, c2, c3⟩ := hX1.cells
        clear hL hA hC P hX1 k1
        go_wp2_with fail
        refine (Q z1).mono ?_
        rintro _ z2 ⟨rfl, rfl⟩
        clear Q
        have hB2 : Below w.heap.size w z2 := HBL.out.trans b1
        have hW2 : WAt z2 w.heap.size (ys ++ flagN (decide (0 < X.2.2.1))) := hW1
        have hadd : ∀ W, (Op.stringOp .add (strN ys) (strN (flagN (decide (0 < X.2.2.1))))).run Try.prog W = .ok (.string (strN (ys ++ flagN (decide (0 < X.2.2.1))))) W := fun W => str_add ys _ (by have := HLEN.out; rw [HE.out] at this; omega) W
        rw [← HE.out] at hW2 hadd
        rw [← HE.out]
        clear b1 hW1 c0 c1 c2 c3
        have HF : Hid (WAt z2 w.heap.size (ys ++ encF X) ∧ Below w.heap.size w z2) := ⟨hW2, hB2⟩
        clear hW2 hB2
        go_wp2_with fail
        go_roundw
        case rel => exact ⟨z2, i + 1, rfl, rfl, by omega, by omega, by rw [HENC.out], by rw [HENC.out]; exact HF.out.1, HF.out.2⟩
        case measure => simp [intOf]; omega
      by_cases e3 : X.1 = 3
      · have HE : Hid (encF X = textN X.2.2.2.1) := by unfold Hid encF; rw [if_neg e0, if_neg e1, if_neg e2, if_pos e3]
        rw [e3] at c0
        have P := fun z (h : WAt z w.heap.size ys) => wtext_K z w.heap.size X.2.2.2.1 ys h HYT.out
        have Q := fun z => rtext_any X.2.2.2.1 z HST.out
        go_wp2_with (first
          | (refine load_op rfl 29 (.tmp 20) rfl ⟨b, off + i * 36, none⟩ rfl _ hL ?_)
          | (refine alloc_op rfl 29 rfl _ hA ?_)
          | (refine store_op rfl 29 (.tmp 6) (.tmp 21) rfl ⟨wr.heap.size, 0, none⟩ rfl _ rfl hC ?_))
        refine (P wB HW.out).mono ?_
        rintro _ z1 ⟨rfl, hW1, b1, k1⟩
        have hX1 : FldBlk z1 wr.heap.size X := HX.out.keep (k1 _ _ _ _ HX.out (by decide) (by decide))
        obtain ⟨c0, c1, c2, c3⟩ := hX1.cells
        clear hL hA hC P hX1 k1
        go_wp2_with fail
        refine (Q z1).mono ?_
        rintro _ z2 ⟨rfl, b2⟩
        clear Q
        have hB2 : Below w.heap.size w z2 := (HBL.out.trans b1).trans (b2.mono (Nat.le_trans HBL.out.size b1.size))
        have hW2 : WAt z2 w.heap.size (ys ++ textN X.2.2.2.1) := hW1.below b2
        have hadd : ∀ W, (Op.stringOp .add (strN ys) (strN (textN X.2.2.2.1))).run Try.prog W = .ok (.string (strN (ys ++ textN X.2.2.2.1))) W := fun W => str_add ys _ (by have := HLEN.out; rw [HE.out] at this; omega) W
        rw [← HE.out] at hW2 hadd
        rw [← HE.out]
        clear b1 b2 hW1 c0 c1 c2 c3
        have HF : Hid (WAt z2 w.heap.size (ys ++ encF X) ∧ Below w.heap.size w z2) := ⟨hW2, hB2⟩
        clear hW2 hB2
        go_wp2_with fail
        go_roundw
        case rel => exact ⟨z2, i + 1, rfl, rfl, by omega, by omega, by rw [HENC.out], by rw [HENC.out]; exact HF.out.1, HF.out.2⟩
        case measure => simp [intOf]; omega
      by_cases e4 : X.1 = 4
      · have HE : Hid (encF X = X.2.2.2.2) := by unfold Hid encF; rw [if_neg e0, if_neg e1, if_neg e2, if_neg e3, if_pos e4]
        rw [e4] at c0
        have P := fun z (h : WAt z w.heap.size ys) => wdigest_K z w.heap.size X.2.2.2.2 ys h HOK.out.2.2.2.1 HOK.out.2.2.2.2 HYL.out
        have Q := fun z => rdigest_any X.2.2.2.2 z HOK.out.2.2.2.1 HOK.out.2.2.2.2
        go_wp2_with (first
          | (refine load_op rfl 29 (.tmp 20) rfl ⟨b, off + i * 36, none⟩ rfl _ hL ?_)
          | (refine alloc_op rfl 29 rfl _ hA ?_)
          | (refine store_op rfl 29 (.tmp 6) (.tmp 21) rfl ⟨wr.heap.size, 0, none⟩ rfl _ rfl hC ?_)
          | (refine load_op rfl 27 (.tmp 73) rfl ⟨wr.heap.size, 4, none⟩ rfl _ hD ?_))
        refine (P wB HW.out).mono ?_
        rintro _ z1 ⟨rfl, hW1, b1, k1⟩
        have hX1 : FldBlk z1 wr.heap.size X := HX.out.keep (k1 _ _ _ _ HX.out (by decide) (by decide))
        obtain ⟨c0, c1, c2, c3⟩ := hX1.cells
        have hD2 := hX1.digest HOK.out.2.2.2.1
        clear hL hA hC P hX1 k1
        go_wp2_with (refine load_op rfl 27 (.tmp 77) rfl ⟨wr.heap.size, 4, none⟩ rfl _ hD2 ?_)
        refine (Q z1).mono ?_
        rintro _ z2 ⟨rfl, b2⟩
        clear Q
        have hB2 : Below w.heap.size w z2 := (HBL.out.trans b1).trans (b2.mono (Nat.le_trans HBL.out.size b1.size))
        have hW2 : WAt z2 w.heap.size (ys ++ X.2.2.2.2) := hW1.below b2
        have hadd : ∀ W, (Op.stringOp .add (strN ys) (strN (X.2.2.2.2))).run Try.prog W = .ok (.string (strN (ys ++ X.2.2.2.2))) W := fun W => str_add ys _ (by have := HLEN.out; rw [HE.out] at this; omega) W
        rw [← HE.out] at hW2 hadd
        rw [← HE.out]
        clear b1 b2 hW1 c0 c1 c2 c3
        have HF : Hid (WAt z2 w.heap.size (ys ++ encF X) ∧ Below w.heap.size w z2) := ⟨hW2, hB2⟩
        clear hW2 hB2
        go_wp2_with fail
        go_roundw
        case rel => exact ⟨z2, i + 1, rfl, rfl, by omega, by omega, by rw [HENC.out], by rw [HENC.out]; exact HF.out.1, HF.out.2⟩
        case measure => simp [intOf]; omega
      have HE : Hid (encF X = []) := by unfold Hid encF; rw [if_neg e0, if_neg e1, if_neg e2, if_neg e3, if_neg e4]
      have HF : Hid (WAt wB w.heap.size (ys ++ encF X) ∧ Below w.heap.size w wB) := ⟨by rw [HE.out, List.append_nil]; exact HW.out, HBL.out⟩
      go_wp2_with (first
        | (refine load_op rfl 29 (.tmp 20) rfl ⟨b, off + i * 36, none⟩ rfl _ hL ?_)
        | (refine alloc_op rfl 29 rfl _ hA ?_)
        | (refine store_op rfl 29 (.tmp 6) (.tmp 21) rfl ⟨wr.heap.size, 0, none⟩ rfl _ rfl hC ?_))
      go_roundw
      case rel => exact ⟨wB, i + 1, rfl, rfl, by omega, by omega, by rw [HENC.out, HE.out, List.append_nil], by rw [HENC.out]; exact HF.out.1, HF.out.2⟩
      case measure => simp [intOf]; omega
    · have HF : Hid (WAt wr w.heap.size (encAll x0 i) ∧ Below w.heap.size w wr) := ⟨hWr, hbr⟩
      have hyl2 : (encAll x0 i).length ≤ 140737488355328 := by omega
      generalize encAll x0 i = ys at *
      clear hWr hbr hyl HARG
      by_cases hA : i < len0
      · have hA2 : ¬ ((i : Int) < 60) := by omega
        go_wp2_with fail
        refine (awake_any wr).mono ?_
        rintro _ z1 ⟨rfl, bA⟩
        have P := wout_any z1 w.heap.size ys (HF.out.1.below bA) hyl2
        have HB1 : Hid (Below w.heap.size w z1) := HF.out.2.trans (bA.mono HF.out.2.size)
        clear HF bA
        go_wp2_with fail
        refine P.mono ?_
        rintro _ z2 ⟨a, cap, r, rfl, hr, hn, -, -, -, -, b2⟩
        have hcv := conv_any hr (fun h => (hn h).1) cap
        have HB2 : Hid (Below w.heap.size w z2) := HB1.out.trans (b2.mono HB1.out.size)
        clear hr hn b2 P HB1
        generalize strN ys = S at *
        go_wp2_with fail
        go_ret
        exact ⟨rfl, HB2.out⟩
      · have hA2 : ¬ ((i : Int) < (len0 : Int)) := by omega
        go_wp2_with fail
        refine (awake_any wr).mono ?_
        rintro _ z1 ⟨rfl, bA⟩
        have P := wout_any z1 w.heap.size ys (HF.out.1.below bA) hyl2
        have HB1 : Hid (Below w.heap.size w z1) := HF.out.2.trans (bA.mono HF.out.2.size)
        clear HF bA
        go_wp2_with fail
        refine P.mono ?_
        rintro _ z2 ⟨a, cap, r, rfl, hr, hn, -, -, -, -, b2⟩
        have hcv := conv_any hr (fun h => (hn h).1) cap
        have HB2 : Hid (Below w.heap.size w z2) := HB1.out.trans (b2.mono HB1.out.size)
        clear hr hn b2 P HB1
        generalize strN ys = S at *
        go_wp2_with fail
        go_ret
        exact ⟨rfl, HB2.out⟩
set_option maxRecDepth 100000 in
theorem contract (H : Type) (enc : TypeId × Value → H) (W : World) (base : Nat) (args : Array Value) (ds gs : List (DataW H)) (before : List MemPlace)
    (hval : ∀ (j : Nat) t v, Try.f3.params[j]? = some t → args[j]? = some v → Value.okWide Try.prog W .any base t v)
    (hW : DataW.Whole enc Try.prog Try.f3.params.toList Rows.packWritesSpec.vars false W args.toList ds gs before)
    (hk : Rows.uptoSmall H (ds ++ gs) = true)
    (hsz : (DataW.weightsEach Try.prog (Try.f3.params.toList ++ (Rows.OpenSpec.upto Rows.packWritesSpec).bare.plain.varTypes Try.prog) (ds ++ gs)).all (· ≤ reachBytes) = true) :
    Calls Try.prog 3 args W fun e W' => ∃ v, e = .returned v ∧ Rows.packWritesSpec.post enc Try.prog Try.f3 false true false false W args v W' := by
  have hW' := hW
  obtain ⟨p, q, hA0, hV, rfl, hfz, hnd⟩ := hW
  have hA : DataW.TrodAll enc Try.prog W 0 (fun _ => true) true Try.f3.params.toList args.toList ds p := hA0
  rw [Try.params3] at hA hval hsz
  obtain ⟨v0, vs0, d0, ds0, p0, q0, hargs, rfl, rfl, h0, r0⟩ := trodAll_cons hA
  obtain ⟨rfl, rfl, rfl⟩ := trodAll_nil r0
  obtain rfl : args = #[v0] := by cases args; simp_all
  obtain ⟨rfl, rfl⟩ := trodVars_none hV
  have hbulk := of_decide_eq_true hk
  simp only [List.append_nil, Rows.uptoBulkAll] at hbulk
  obtain ⟨a0, len0, cap0, rfl⟩ := okWide_slice Try.underlying22 (hval 0 22 v0 rfl rfl)
  have k0 := h0
  have lt0 : ∀ x ∈ p0, x.block < W.heap.size := by obtain ⟨m, hm⟩ := k0; exact DataW.trod_lt m _ _ _ hm
  obtain ⟨x0, w0, lc0, mc0, bu00⟩ : ∃ fs, ArgF W a0 len0 fs ∧ len0 ≤ cap0 ∧ cap0 ≤ maxLen ∧ ∀ i, i < len0 → (fldAt fs i).2.2.2.1.size ≤ Rows.uptoBulk d0 := by
    obtain ⟨fuel, hf⟩ := h0
    exact fields_open hf
  have bu0 : ∀ i, i < len0 → (fldAt x0 i).2.2.2.1.size ≤ 1048576 := fun i hi => by have := bu00 i hi; omega
  clear hA0 hsz hbulk
  refine (walk W a0 len0 cap0 x0 w0 lc0 mc0 bu0).mono fun e W' ⟨he, bel⟩ => ?_
  subst he
  exact ⟨_, rfl, _, _, _, [], _, [], hW', trodAll_mk1 (shut_bool Try.underlying4 _), (trodAll_cons_mk (Below.trod laidOut (by kernel_rfl) (of_decide_eq_true (by kernel_rfl)) k0 bel lt0) trodAll_mk0), rfl, bel.frame _, fun h => by cases h⟩
set_option maxRecDepth 100000 in
theorem lifted (os : Os) (started : os.Started) (H : Type) (enc : TypeId × Value → H) (I : Stop.Interp) :
    ReturnsInHanded {} Try.checked os 3 .any ((Rows.OpenSpec.upto Rows.packWritesSpec).pre6 enc Try.prog Try.f3 Rows.packWritesUptoRow.domain false) (((Rows.OpenSpec.upto Rows.packWritesSpec).at I).post enc Try.prog Try.f3 false true false false) := by
  refine returnsInHanded_of_cond_sized (C := Try.checked) (s := (Rows.OpenSpec.upto Rows.packWritesSpec)) (k := Rows.uptoSmall) rfl own started (by kernel_rfl) Try.func3
    (OpenSpec.witness (enc := enc) (C := Try.checked) (s := (Rows.OpenSpec.upto Rows.packWritesSpec)) (k := Rows.uptoSmall) rfl false ⟨#[], #[.slice none 0 0], []⟩ 8 (by kernel_rfl) (by kernel_rfl) (by kernel_rfl)
      (x := ([.nil], [], [])) (by kernel_rfl) rfl (by kernel_rfl)) ?_
  intro W base args ds gs before hval hW _ hk hsz _
  exact contract H enc W base args ds gs before hval hW hk hsz
theorem over : Rows.packWritesUptoRow.holds Try.pinned (Rows.OpenSpec.upto Rows.packWritesSpec) :=
  OpenClaim.holds_of_cond 3 Try.f3 rfl rfl rfl rfl rfl rfl rfl ⟨rfl, rfl, rfl, rfl, rfl⟩ rfl rfl rfl rfl rfl (by kernel_rfl) Try.func3 (by kernel_rfl)
    (of_decide_eq_true (by kernel_rfl)) (by unfold Func.isWrapper; first | (rw [if_pos (by decide +kernel)]; kernel_rfl) | (rw [if_neg (by decide +kernel)]; exact ⟨rfl, rfl⟩))
    (fun os started H enc _ I => lifted os started H enc I)
theorem proved : Rows.PackWritesUptoSaid := over
end Go.Proofs.Ytngojkleehgbaaa.packWritesUpto
