/-
  The document's Text.
-/
import Derived.Test.YtbfgkogmojnilaaDoorTagMake
import Derived.Test.YtbfgkogmojnilaaDoorLabelEsc
namespace Go.Proofs.YtbfgkogmojnilaaDoor
open Go.ChangeShapes Go.WideShapes Go.ChangeAt Go.RowKit
set_option linter.unusedVariables false
set_option linter.unusedSimpArgs false
def pairT (t : ByteArray × ByteArray) : List Nat := escN (txt t.1) ++ [61] ++ escN (txt t.2)
def joinT : List (ByteArray × ByteArray) → List Nat
  | [] => []
  | [t] => pairT t
  | t :: u :: ts => pairT t ++ [38] ++ joinT (u :: ts)
theorem join_snoc : ∀ (ts : List (ByteArray × ByteArray)) (t : ByteArray × ByteArray), joinT (ts ++ [t]) = if ts = [] then pairT t else joinT ts ++ [38] ++ pairT t
  | [], t => rfl
  | [u], t => by rw [if_neg (by simp)]; rfl
  | u :: v :: ts, t => by
    have ih := join_snoc (v :: ts) t
    rw [if_neg (by simp)] at ih
    rw [if_neg (by simp), List.cons_append, List.cons_append, joinT, ← List.cons_append, ih, joinT]
    simp [List.append_assoc]
theorem takeT_snoc (ts : List (ByteArray × ByteArray)) (i : Nat) (h : i < ts.length) : ts.take (i + 1) = ts.take i ++ [tagAt ts i] := by
  unfold tagAt
  rw [List.take_succ_eq_append_getElem h, List.getD_eq_getElem?_getD, List.getElem?_eq_getElem h, Option.getD_some]
theorem soundF_ok : ∀ (ts : List (ByteArray × ByteArray)) (q : Option ByteArray), soundF q ts = true → ∀ i, i < ts.length → tagOK (tagAt ts i) = true
  | [], q, h, i, hi => by simp at hi
  | t :: ts, q, h, i, hi => by
    have h2 : tagOK t = true ∧ soundF (some t.1) ts = true := by
      cases q with
      | none => rw [soundF, Bool.and_eq_true] at h; exact h
      | some q => rw [soundF, Bool.and_eq_true, Bool.and_eq_true] at h; exact ⟨h.1.1, h.2⟩
    cases i with
    | zero => exact h2.1
    | succ i => exact soundF_ok ts _ h2.2 i (by simpa using hi)
theorem sound_parts {ts : List (ByteArray × ByteArray)} (h : soundB ts = true) : ts.length ≤ 8 ∧ ∀ i, i < ts.length → tagOK (tagAt ts i) = true := by
  unfold soundB at h
  rw [Bool.and_eq_true, decide_eq_true_eq] at h
  exact ⟨h.1, soundF_ok ts none h.2⟩
theorem ok_sizes {t : ByteArray × ByteArray} (h : tagOK t = true) : 1 ≤ t.1.size ∧ t.1.size ≤ 64 ∧ t.2.size ≤ 64 := by
  unfold tagOK at h
  simp only [Bool.and_eq_true, decide_eq_true_eq] at h
  exact ⟨h.1.1.1.1, h.1.1.1.2, h.1.1.2⟩
theorem pair_len {t : ByteArray × ByteArray} (h1 : t.1.size ≤ 64) (h2 : t.2.size ≤ 64) : (pairT t).length ≤ 385 := by
  have a := esc_len (txt t.1)
  have b := esc_len (txt t.2)
  rw [txt_length] at a b
  unfold pairT
  rw [List.length_append, List.length_append]
  simp
  omega
theorem join_len (ts : List (ByteArray × ByteArray)) (h : ∀ i, i < ts.length → tagOK (tagAt ts i) = true) : ∀ i, i ≤ ts.length → (joinT (ts.take i)).length ≤ 386 * i
  | 0, _ => by simp [joinT]
  | i + 1, hi => by
    have ih := join_len ts h i (by omega)
    obtain ⟨-, h1, h2⟩ := ok_sizes (h i (by omega))
    have hp := pair_len h1 h2
    rw [takeT_snoc ts i (by omega), join_snoc]
    split
    · omega
    · rw [List.length_append, List.length_append]
      simp
      omega
def escS (n : ByteArray) : ByteArray := strN (escN (txt n))
/-- What Text answers. -/
def textR (ts : List (ByteArray × ByteArray)) : Value := if soundB ts then .tuple #[.string (strN (joinT ts)), .int .i64 0] else .tuple #[.string (ByteArray.mk #[]), .int .i64 2]
theorem textR_form (ts : List (ByteArray × ByteArray)) : ∃ (X : ByteArray) (E : Int), textR ts = .tuple #[.string X, .int .i64 E] := by
  unfold textR
  split
  · exact ⟨_, _, rfl⟩
  · exact ⟨_, _, rfl⟩
set_option maxRecDepth 100000 in
set_option maxHeartbeats 8000000 in
theorem rtext_any (a : Option Addr) (len cap : Nat) (ts : List (ByteArray × ByteArray)) (w : World) (ht : RowT w a ts) (hl : ts.length = len) (hlb : len ≤ 9223372036854775806) (hsh : Short ts) :
    Calls Tryd.prog 14 #[.slice a len cap] w fun e w' => e = .returned (textR ts) ∧ ∃ n, w' = w.drewN n := by
  have HSO : Hid _ := rsound_any a len cap ts w ht hl hlb hsh
  have HR : Hid (RowT w a ts) := ht
  have HL : Hid (ts.length = len) := hl
  clear ht hl hsh
  cases hs : soundB ts with
  | false =>
    have HS2 : Hid (textR ts = .tuple #[.string (ByteArray.mk #[]), .int .i64 2]) := by unfold Hid textR; rw [hs]; rfl
    rw [hs] at HSO
    clear hs
    go_enter Tryd.func14, Tryd.ntmps14
    go_wp2_with fail
    refine Calls.mono HSO.out ?_
    rintro _ w1 ⟨rfl, hw⟩
    go_wp2_with fail
    go_ret2
    exact ⟨by rw [HS2.out]; rfl, hw⟩
  | true =>
    have HS2 : Hid (textR ts = .tuple #[.string (strN (joinT ts)), .int .i64 0]) := by unfold Hid textR; rw [hs]; rfl
    obtain ⟨h8, hok⟩ := sound_parts hs
    have HOK : Hid (∀ i, i < ts.length → tagOK (tagAt ts i) = true) := hok
    have hlen8 : len ≤ 8 := by have := HL.out; omega
    rw [hs] at HSO
    clear hs h8 hok
    go_enter Tryd.func14, Tryd.ntmps14
    go_wp2_with fail
    refine Calls.mono HSO.out ?_
    rintro _ w1 ⟨rfl, hw⟩
    have HW1 : Hid (∃ n, w1 = w.drewN n) := hw
    clear hw HSO
    go_wp2_with fail
    go_loopw [4, 5] (fun ov ix wr => ∃ (wz : World) (i : Nat), wz = wr ∧ i ≤ len ∧ ix = .int .i64 i ∧ ov = .string (strN (joinT (ts.take i))) ∧ (∃ n, wz = w.drewN n)) (fun _ ix _ => len - (intOf ix).toNat)
    case atStart => exact ⟨_, 0, rfl, Nat.zero_le _, rfl, rfl, HW1.out⟩
    case round =>
      clear HW1
      obtain ⟨wr, i, hwr, hi, rfl, rfl, hwm⟩ := hrel
      subst hwr
      have HWM : Hid (∃ n, wr = w.drewN n) := hwm
      have hbw : Below w.heap.size w wr := below_some hwm
      have HR2 := HR.out.below hbw
      clear hwm hbw
      by_cases hlt : i < len
      · have hii : (i : Int) < (len : Int) := by omega
        have hil : i < ts.length := by rw [HL.out]; exact hlt
        obtain ⟨z0, z1, z2⟩ := ok_sizes (HOK.out i hil)
        have hjl := join_len ts HOK.out i (by omega)
        rcases HR2 with h0 | ⟨g, off, ha, hblt, hc⟩
        · omega
        · subst ha
          obtain ⟨c0, c1⟩ := hc i hil
          have HSN : Hid (joinT (ts.take (i + 1)) = if i = 0 then pairT (tagAt ts i) else joinT (ts.take i) ++ [38] ++ pairT (tagAt ts i)) := by
            unfold Hid
            rw [takeT_snoc ts i hil, join_snoc]
            by_cases h : i = 0
            · rw [if_pos h, if_pos (by rw [h]; rfl)]
            · rw [if_neg h, if_neg (by
                intro e
                have h2 : (ts.take i).length = 0 := by rw [e]; rfl
                rw [List.length_take] at h2
                omega)]
          generalize tagAt ts i = t at *
          obtain ⟨n1, n2⟩ := t
          simp only [] at c0 c1 z0 z1 z2
          have e1l := esc_len (txt n1)
          have e2l := esc_len (txt n2)
          rw [txt_length] at e1l e2l
          have hE1s : (escS n1).size ≤ 192 := by unfold escS; rw [strN_size]; omega
          have hE2s : (escS n2).size ≤ 192 := by unfold escS; rw [strN_size]; omega
          have HQ : Hid (∀ (n : ByteArray) (W : World), n.size ≤ 64 → Calls Tryd.prog 28 #[.string n] W fun e w' => e = .returned (.string (escS n)) ∧ ∃ k, w' = W.drewN k) := fun n W hn => resc_any n W (by omega)
          have h61 : (ByteArray.mk #[61]).size = 1 := rfl
          have h38 : (ByteArray.mk #[38]).size = 1 := rfl
          obtain ⟨P1, hP1⟩ : ∃ P, escS n1 ++ ByteArray.mk #[61] = P := ⟨_, rfl⟩
          have hP1s : P1.size ≤ 193 := by rw [← hP1, ByteArray.size_append, h61]; omega
          obtain ⟨P2, hP2⟩ : ∃ P, P1 ++ escS n2 = P := ⟨_, rfl⟩
          have hP2s : P2.size ≤ 385 := by rw [← hP2, ByteArray.size_append]; omega
          have a1 := add_run (A := escS n1) (B := ByteArray.mk #[61]) (C := P1) (by rw [h61]; omega) hP1
          have a2 := add_run (A := P1) (B := escS n2) (C := P2) (by omega) hP2
          have HPT : Hid (P2 = strN (pairT (n1, n2))) := by
            unfold Hid pairT
            rw [← hP2, ← hP1, strN_append, strN_append]
            rfl
          obtain ⟨SO, hSO⟩ : ∃ A, A = strN (joinT (ts.take i)) := ⟨_, rfl⟩
          have hSOs : SO.size ≤ 3088 := by rw [hSO, strN_size]; omega
          rw [← hSO]
          clear hc hP1 hP2 h61 e1l e2l hjl
          by_cases hz : i = 0
          · have hzi : ¬ (0 : Int) < (i : Int) := by omega
            obtain ⟨C, hC⟩ : ∃ C, SO ++ P2 = C := ⟨_, rfl⟩
            have a3 := add_run (A := SO) (B := P2) (C := C) (by omega) hC
            have HC : Hid (C = strN (joinT (ts.take (i + 1)))) := by
              unfold Hid
              rw [HSN.out, if_pos hz, ← hC, hSO, HPT.out, hz, List.take_zero, joinT, ← strN_append]
              rfl
            clear hz hC hSO HSN
            go_wp2_with fail
            go_quiet ((go_at_call 28; exact Calls.quiet_of (HQ.out _ _ (by assumption))))
            have HB : Hid (∃ n, wr.drewN nq = w.drewN n) := by obtain ⟨m, hm⟩ := HWM.out; exact ⟨m + nq, by rw [hm, drewN_add]⟩
            go_wp2_with fail
            go_roundw
            case rel => exact ⟨_, i + 1, rfl, by omega, by go_num, by rw [HC.out], HB.out⟩
            case measure => simp [intOf]; omega
          · have hzi : (0 : Int) < (i : Int) := by omega
            obtain ⟨C0, hC0⟩ : ∃ C, SO ++ ByteArray.mk #[38] = C := ⟨_, rfl⟩
            have a3 := add_run (A := SO) (B := ByteArray.mk #[38]) (C := C0) (by rw [h38]; omega) hC0
            have hC0s : C0.size ≤ 3089 := by rw [← hC0, ByteArray.size_append, h38]; omega
            obtain ⟨C, hC⟩ : ∃ C, C0 ++ P2 = C := ⟨_, rfl⟩
            have a4 := add_run (A := C0) (B := P2) (C := C) (by omega) hC
            have HC : Hid (C = strN (joinT (ts.take (i + 1)))) := by
              unfold Hid
              rw [HSN.out, if_neg hz, ← hC, ← hC0, hSO, HPT.out, strN_append, strN_append]
              rfl
            clear hz hC hC0 hSO HSN
            go_wp2_with fail
            go_quiet ((go_at_call 28; exact Calls.quiet_of (HQ.out _ _ (by assumption))))
            have HB : Hid (∃ n, wr.drewN nq = w.drewN n) := by obtain ⟨m, hm⟩ := HWM.out; exact ⟨m + nq, by rw [hm, drewN_add]⟩
            go_wp2_with fail
            go_roundw
            case rel => exact ⟨_, i + 1, rfl, by omega, by go_num, by rw [HC.out], HB.out⟩
            case measure => simp [intOf]; omega
      · have hii : ¬ (i : Int) < (len : Int) := by omega
        have HT : Hid (ts.take i = ts) := by unfold Hid; rw [show i = ts.length by rw [HL.out]; omega, List.take_length]
        go_wp2_with fail
        go_ret2
        exact ⟨by rw [HS2.out, HT.out]; rfl, HWM.out⟩
end Go.Proofs.YtbfgkogmojnilaaDoor
