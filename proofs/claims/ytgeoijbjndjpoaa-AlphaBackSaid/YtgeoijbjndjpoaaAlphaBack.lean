/-
  For any bytes, any number and any text: what is written is read as it was, and what is read is written so again; no condition.
-/
import Derived.Test.YtgeoijbjndjpoaaPArgs
import Derived.Test.YtgeoijbjndjpoaaAlphaBackN
namespace Go.Proofs.Ytgeoijbjndjpoaa.alphaBack
open Go.ChangeShapes Go.WideShapes Go.ChangeAt Go.RowKit
open Go.ChangeMaps (open_string shut_string)
set_option linter.unusedVariables false
set_option linter.unusedSimpArgs false
set_option maxHeartbeats 8000000 in
/-- The law's body at any input. -/
theorem walk (w : World) (a0 : Option Addr) (len0 cap0 : Nat) (x0 : List Nat) (w0 : ArgL w a0 len0 cap0 x0) (re0 : cap0 ≤ 140737488351232) (a1 : Int) (w1 : (Lit.int .u64 a1).wf = true) (a2 : ByteArray) (w2 : a2.size ≤ 140737488351232) :
    Calls Try.prog 6 #[.slice a0 len0 cap0, .int .u64 a1, .string a2] w fun e w' => e = .returned (.bool true) ∧ Below w.heap.size w w' := by
  have hb := arg_lt w0
  obtain ⟨l1, h1⟩ := bounds_u64 w1
  clear w1
  obtain ⟨n, rfl⟩ := Int.eq_ofNat_of_zero_le l1
  have hn : n < 18446744073709551616 := by omega
  obtain ⟨hr0, -, hn0, hlc, -⟩ := w0
  have hxl : x0.length = len0 := hr0.1
  have HR0 : Hid (RowL .u8 w a0 len0 x0) := hr0
  have HN0 : Hid (a0 = none → len0 = 0) := fun h => (hn0 h).1
  have HHA : Hid _ := ahex_any a0 len0 cap0 x0 w hr0 hb (by omega)
  have HHB : Hid (∀ W, RowL .u8 W a0 len0 x0 → Calls Try.prog 16 #[.slice a0 len0 cap0] W fun e w' => e = .returned (.string (strN (baseN x0))) ∧ Below W.heap.size W w') := fun W h => abase_any a0 len0 cap0 x0 W h hb (by omega)
  have HUA : Hid (∀ W, Calls Try.prog 8 #[.string (strN (hexN x0))] W fun e w' => Below W.heap.size W w' ∧ UnR (some x0) e w') := fun W => by
    have := aunhex_any (strN (hexN x0)) W (by rw [strN_size, hexN_length]; omega)
    rw [hex_back x0 hb] at this
    exact this
  have HUB : Hid (∀ W, Calls Try.prog 14 #[.string (strN (baseN x0))] W fun e w' => Below W.heap.size W w' ∧ UnR (some x0) e w') := fun W => by
    have := aunbase_any (strN (baseN x0)) W (by rw [strN_size, base_len x0 hb]; omega)
    rw [base_back x0 hb] at this
    exact this
  have HNN : Hid (∀ W, Calls Try.prog 20 #[.int .u64 (n : Nat)] W fun e w' => e = .returned (.string (strN (numN n))) ∧ Below W.heap.size W w') := fun W => anumber_any n W hn
  have HUN : Hid (∀ W, Calls Try.prog 18 #[.string (strN (numN n))] W fun e w' => e = .returned (.tuple #[.int .u64 (n : Nat), .int .i64 0]) ∧ w' = W) := fun W => by
    have := aunnumber_any (strN (numN n)) W (by rw [strN_size, show (numN n).length = 13 from letN_length 13 n]; decide)
    rw [num_back n hn] at this
    exact this
  have HSZ : Hid (a2.size ≤ 140737488351232) := w2
  have hl0 : len0 ≤ 140737488351232 := by omega
  have HXL : Hid (x0.length = len0) := hxl
  clear hr0 hb hn0 hxl hlc re0 l1 h1 w2
  generalize strN (hexN x0) = sh at *
  generalize strN (baseN x0) = sb at *
  generalize strN (numN n) = sn at *
  go_enter Try.func6, Try.ntmps6
  go_wp2_with fail
  refine Calls.mono HHA.out ?_
  rintro _ wA ⟨rfl, hbA⟩
  have HBA : Hid (Below w.heap.size w wA) := hbA
  replace HR0 : Hid (RowL .u8 wA a0 len0 x0) := RowL.below HR0.out hbA
  clear hbA HHA
  go_wp2_with fail
  refine Calls.mono (HUA.out wA) ?_
  rintro _ wB ⟨hbB, aX, cX, rfl, hrX, hnX⟩
  rw [HXL.out] at hrX hnX ⊢
  have HBB : Hid (Below w.heap.size w wB) := HBA.out.trans (hbB.mono HBA.out.size)
  replace HR0 : Hid (RowL .u8 wB a0 len0 x0) := RowL.below HR0.out hbB
  have HRX : Hid (RowL .u8 wB aX len0 x0) := hrX
  have HNX : Hid (aX = none → len0 = 0) := fun h => (hnX h).1
  clear hbB HBA HUA hrX hnX
  go_wp2_with fail
  refine Calls.mono (HHB.out wB HR0.out) ?_
  rintro _ wC ⟨rfl, hbC⟩
  have HBC : Hid (Below w.heap.size w wC) := HBB.out.trans (hbC.mono HBB.out.size)
  replace HR0 : Hid (RowL .u8 wC a0 len0 x0) := RowL.below HR0.out hbC
  replace HRX : Hid (RowL .u8 wC aX len0 x0) := RowL.below HRX.out hbC
  clear hbC HBB HHB
  go_wp2_with fail
  refine Calls.mono (HUB.out wC) ?_
  rintro _ wD ⟨hbD, aY, cY, rfl, hrY, hnY⟩
  rw [HXL.out] at hrY hnY ⊢
  have HBD : Hid (Below w.heap.size w wD) := HBC.out.trans (hbD.mono HBC.out.size)
  replace HR0 : Hid (RowL .u8 wD a0 len0 x0) := RowL.below HR0.out hbD
  replace HRX : Hid (RowL .u8 wD aX len0 x0) := RowL.below HRX.out hbD
  have HRY : Hid (RowL .u8 wD aY len0 x0) := hrY
  have HNY : Hid (aY = none → len0 = 0) := fun h => (hnY h).1
  clear hbD HBC HUB hrY hnY
  go_wp2_with fail
  refine Calls.mono (HNN.out wD) ?_
  rintro _ wE ⟨rfl, hbE⟩
  have HBE : Hid (Below w.heap.size w wE) := HBD.out.trans (hbE.mono HBD.out.size)
  replace HR0 : Hid (RowL .u8 wE a0 len0 x0) := RowL.below HR0.out hbE
  replace HRX : Hid (RowL .u8 wE aX len0 x0) := RowL.below HRX.out hbE
  replace HRY : Hid (RowL .u8 wE aY len0 x0) := RowL.below HRY.out hbE
  clear hbE HBD HNN
  go_wp2_with fail
  refine Calls.mono (HUN.out wE) ?_
  rintro _ wE' ⟨rfl, hwE⟩
  replace hwE := hwE.symm
  subst hwE
  clear HUN
  go_wp2_with fail
  refine Calls.mono (awake_true wE) ?_
  rintro _ wF ⟨rfl, hbF⟩
  have HBF : Hid (Below w.heap.size w wF) := HBE.out.trans (hbF.mono HBE.out.size)
  replace HR0 : Hid (RowL .u8 wF a0 len0 x0) := RowL.below HR0.out hbF
  replace HRX : Hid (RowL .u8 wF aX len0 x0) := RowL.below HRX.out hbF
  replace HRY : Hid (RowL .u8 wF aY len0 x0) := RowL.below HRY.out hbF
  clear hbF HBE
  go_wp2_with fail
  refine Calls.mono (same_bytes aX a0 len0 cX cap0 x0 wF HRX.out HR0.out HNX.out HN0.out) ?_
  rintro _ wF' ⟨rfl, hwF⟩
  replace hwF := hwF.symm
  subst hwF
  clear HRX HNX
  go_wp2_with fail
  refine Calls.mono (same_bytes aY a0 len0 cY cap0 x0 wF HRY.out HR0.out HNY.out HN0.out) ?_
  rintro _ wF' ⟨rfl, hwF⟩
  replace hwF := hwF.symm
  subst hwF
  clear HRY HNY HR0 HN0 HXL
  go_wp2_with fail
  have HPH : Hid _ := aunhex_any a2 wF (by have := HSZ.out; omega)
  have HPB : Hid (∀ W, Calls Try.prog 14 #[.string a2] W fun e w' => Below W.heap.size W w' ∧ UnR (unbaseN (txt a2)) e w') := fun W => aunbase_any a2 W (by have := HSZ.out; omega)
  have HPN : Hid (∀ W, Calls Try.prog 18 #[.string a2] W fun e w' => e = .returned (unnumR (unnumN (txt a2))) ∧ w' = W) := fun W => aunnumber_any a2 W (by have := HSZ.out; omega)
  refine Calls.mono HPH.out ?_
  rintro _ wG ⟨hbG, huP⟩
  have HBG : Hid (Below w.heap.size w wG) := HBF.out.trans (hbG.mono HBF.out.size)
  clear hbG HBF HPH
  cases hP : unhexN (txt a2) with
  | none =>
    rw [hP] at huP
    have hp : _ = Ending.returned (.tuple #[.slice none 0 0, .int .i64 5]) := huP
    subst hp
    clear huP hP
    cases hQ : unbaseN (txt a2) with
    | none =>
      cases hK : unnumN (txt a2) with
      | none =>
        go_wp2_with fail
        refine Calls.mono (HPB.out wG) ?_
        rintro _ wH ⟨hb, huQ⟩
        have HBH : Hid (Below w.heap.size w wH) := HBG.out.trans (hb.mono HBG.out.size)
        clear hb HBG HPB
        rw [hQ] at huQ
        have hq : _ = Ending.returned (.tuple #[.slice none 0 0, .int .i64 5]) := huQ
        subst hq
        clear huQ hQ
        go_wp2_with fail
        refine Calls.mono (HPN.out wH) ?_
        rintro _ wH' ⟨rfl, hwH⟩
        replace hwH := hwH.symm
        subst hwH
        clear HPN
        rw [hK, show unnumR none = .tuple #[.int .u64 0, .int .i64 5] from rfl]
        clear hK
        go_wp2_with fail
        go_ret
        exact ⟨rfl, HBH.out⟩
      | some zK =>
        go_wp2_with fail
        refine Calls.mono (HPB.out wG) ?_
        rintro _ wH ⟨hb, huQ⟩
        have HBH : Hid (Below w.heap.size w wH) := HBG.out.trans (hb.mono HBG.out.size)
        clear hb HBG HPB
        rw [hQ] at huQ
        have hq : _ = Ending.returned (.tuple #[.slice none 0 0, .int .i64 5]) := huQ
        subst hq
        clear huQ hQ
        go_wp2_with fail
        refine Calls.mono (HPN.out wH) ?_
        rintro _ wH' ⟨rfl, hwH⟩
        replace hwH := hwH.symm
        subst hwH
        clear HPN
        rw [hK, show unnumR (some zK) = .tuple #[.int .u64 (zK : Nat), .int .i64 0] from rfl]
        obtain ⟨k1, k2⟩ := num_forth hK
        have HK1 : Hid (strN (numN zK) = a2) := k1
        have HK2 : Hid (zK < 18446744073709551616) := k2
        clear k1 hK
        go_wp2_with fail
        refine Calls.mono (anumber_any zK wH HK2.out) ?_
        rw [HK1.out]
        rintro _ wK ⟨rfl, hb⟩
        have HBK : Hid (Below w.heap.size w wK) := HBH.out.trans (hb.mono HBH.out.size)
        clear hb HBH
        go_wp2_with fail
        go_ret
        exact ⟨rfl, HBK.out⟩
    | some yQ =>
      cases hK : unnumN (txt a2) with
      | none =>
        go_wp2_with fail
        refine Calls.mono (HPB.out wG) ?_
        rintro _ wH ⟨hb, huQ⟩
        have HBH : Hid (Below w.heap.size w wH) := HBG.out.trans (hb.mono HBG.out.size)
        clear hb HBG HPB
        rw [hQ] at huQ
        obtain ⟨aQ, cQ, rfl, hrQ, -⟩ := huQ
        obtain ⟨q1, q2, q3⟩ := base_forth hQ
        have HQ1 : Hid (strN (baseN yQ) = a2) := q1
        have HQ2 : Hid (∀ c ∈ yQ, c < 256) := q2
        have HQ3 : Hid (yQ.length ≤ 140737488355328) := by have := HSZ.out; unfold Hid; omega
        obtain ⟨nQ, hnQ⟩ : ∃ nQ, nQ = yQ.length := ⟨_, rfl⟩
        rw [← hnQ] at hrQ HQ3 ⊢
        have HRQ : Hid (RowL .u8 wH aQ nQ yQ) := hrQ
        clear hrQ q1 q2 q3 hQ hnQ
        go_wp2_with fail
        refine Calls.mono (HPN.out wH) ?_
        rintro _ wH' ⟨rfl, hwH⟩
        replace hwH := hwH.symm
        subst hwH
        clear HPN
        rw [hK, show unnumR none = .tuple #[.int .u64 0, .int .i64 5] from rfl]
        clear hK
        go_wp2_with fail
        refine Calls.mono (abase_any aQ nQ cQ yQ wH HRQ.out HQ2.out HQ3.out) ?_
        rw [HQ1.out]
        rintro _ wJ ⟨rfl, hb⟩
        have HBJ : Hid (Below w.heap.size w wJ) := HBH.out.trans (hb.mono HBH.out.size)
        clear hb HBH HRQ
        go_wp2_with fail
        go_ret
        exact ⟨rfl, HBJ.out⟩
      | some zK =>
        go_wp2_with fail
        refine Calls.mono (HPB.out wG) ?_
        rintro _ wH ⟨hb, huQ⟩
        have HBH : Hid (Below w.heap.size w wH) := HBG.out.trans (hb.mono HBG.out.size)
        clear hb HBG HPB
        rw [hQ] at huQ
        obtain ⟨aQ, cQ, rfl, hrQ, -⟩ := huQ
        obtain ⟨q1, q2, q3⟩ := base_forth hQ
        have HQ1 : Hid (strN (baseN yQ) = a2) := q1
        have HQ2 : Hid (∀ c ∈ yQ, c < 256) := q2
        have HQ3 : Hid (yQ.length ≤ 140737488355328) := by have := HSZ.out; unfold Hid; omega
        obtain ⟨nQ, hnQ⟩ : ∃ nQ, nQ = yQ.length := ⟨_, rfl⟩
        rw [← hnQ] at hrQ HQ3 ⊢
        have HRQ : Hid (RowL .u8 wH aQ nQ yQ) := hrQ
        clear hrQ q1 q2 q3 hQ hnQ
        go_wp2_with fail
        refine Calls.mono (HPN.out wH) ?_
        rintro _ wH' ⟨rfl, hwH⟩
        replace hwH := hwH.symm
        subst hwH
        clear HPN
        rw [hK, show unnumR (some zK) = .tuple #[.int .u64 (zK : Nat), .int .i64 0] from rfl]
        obtain ⟨k1, k2⟩ := num_forth hK
        have HK1 : Hid (strN (numN zK) = a2) := k1
        have HK2 : Hid (zK < 18446744073709551616) := k2
        clear k1 hK
        go_wp2_with fail
        refine Calls.mono (abase_any aQ nQ cQ yQ wH HRQ.out HQ2.out HQ3.out) ?_
        rw [HQ1.out]
        rintro _ wJ ⟨rfl, hb⟩
        have HBJ : Hid (Below w.heap.size w wJ) := HBH.out.trans (hb.mono HBH.out.size)
        clear hb HBH HRQ
        go_wp2_with fail
        refine Calls.mono (anumber_any zK wJ HK2.out) ?_
        rw [HK1.out]
        rintro _ wK ⟨rfl, hb⟩
        have HBK : Hid (Below w.heap.size w wK) := HBJ.out.trans (hb.mono HBJ.out.size)
        clear hb HBJ
        go_wp2_with fail
        go_ret
        exact ⟨rfl, HBK.out⟩
  | some yP =>
    rw [hP] at huP
    obtain ⟨aP, cP, rfl, hrP, -⟩ := huP
    obtain ⟨p1, p2, p3⟩ := hex_forth hP
    have HP1 : Hid (strN (hexN yP) = a2) := p1
    have HP2 : Hid (∀ c ∈ yP, c < 256) := p2
    have HP3 : Hid (yP.length ≤ 140737488355328) := by have := HSZ.out; unfold Hid; omega
    obtain ⟨nP, hnP⟩ : ∃ nP, nP = yP.length := ⟨_, rfl⟩
    rw [← hnP] at hrP HP3 ⊢
    have HRP : Hid (RowL .u8 wG aP nP yP) := hrP
    clear hrP p1 p2 p3 hP hnP
    cases hQ : unbaseN (txt a2) with
    | none =>
      cases hK : unnumN (txt a2) with
      | none =>
        go_wp2_with fail
        refine Calls.mono (HPB.out wG) ?_
        rintro _ wH ⟨hb, huQ⟩
        have HBH : Hid (Below w.heap.size w wH) := HBG.out.trans (hb.mono HBG.out.size)
        replace HRP : Hid (RowL .u8 wH aP nP yP) := RowL.below HRP.out hb
        clear hb HBG HPB
        rw [hQ] at huQ
        have hq : _ = Ending.returned (.tuple #[.slice none 0 0, .int .i64 5]) := huQ
        subst hq
        clear huQ hQ
        go_wp2_with fail
        refine Calls.mono (HPN.out wH) ?_
        rintro _ wH' ⟨rfl, hwH⟩
        replace hwH := hwH.symm
        subst hwH
        clear HPN
        rw [hK, show unnumR none = .tuple #[.int .u64 0, .int .i64 5] from rfl]
        clear hK
        go_wp2_with fail
        refine Calls.mono (ahex_any aP nP cP yP wH HRP.out HP2.out HP3.out) ?_
        rw [HP1.out]
        rintro _ wI ⟨rfl, hb⟩
        have HBI : Hid (Below w.heap.size w wI) := HBH.out.trans (hb.mono HBH.out.size)
        clear hb HBH HRP
        go_wp2_with fail
        go_ret
        exact ⟨rfl, HBI.out⟩
      | some zK =>
        go_wp2_with fail
        refine Calls.mono (HPB.out wG) ?_
        rintro _ wH ⟨hb, huQ⟩
        have HBH : Hid (Below w.heap.size w wH) := HBG.out.trans (hb.mono HBG.out.size)
        replace HRP : Hid (RowL .u8 wH aP nP yP) := RowL.below HRP.out hb
        clear hb HBG HPB
        rw [hQ] at huQ
        have hq : _ = Ending.returned (.tuple #[.slice none 0 0, .int .i64 5]) := huQ
        subst hq
        clear huQ hQ
        go_wp2_with fail
        refine Calls.mono (HPN.out wH) ?_
        rintro _ wH' ⟨rfl, hwH⟩
        replace hwH := hwH.symm
        subst hwH
        clear HPN
        rw [hK, show unnumR (some zK) = .tuple #[.int .u64 (zK : Nat), .int .i64 0] from rfl]
        obtain ⟨k1, k2⟩ := num_forth hK
        have HK1 : Hid (strN (numN zK) = a2) := k1
        have HK2 : Hid (zK < 18446744073709551616) := k2
        clear k1 hK
        go_wp2_with fail
        refine Calls.mono (ahex_any aP nP cP yP wH HRP.out HP2.out HP3.out) ?_
        rw [HP1.out]
        rintro _ wI ⟨rfl, hb⟩
        have HBI : Hid (Below w.heap.size w wI) := HBH.out.trans (hb.mono HBH.out.size)
        clear hb HBH HRP
        go_wp2_with fail
        refine Calls.mono (anumber_any zK wI HK2.out) ?_
        rw [HK1.out]
        rintro _ wK ⟨rfl, hb⟩
        have HBK : Hid (Below w.heap.size w wK) := HBI.out.trans (hb.mono HBI.out.size)
        clear hb HBI
        go_wp2_with fail
        go_ret
        exact ⟨rfl, HBK.out⟩
    | some yQ =>
      cases hK : unnumN (txt a2) with
      | none =>
        go_wp2_with fail
        refine Calls.mono (HPB.out wG) ?_
        rintro _ wH ⟨hb, huQ⟩
        have HBH : Hid (Below w.heap.size w wH) := HBG.out.trans (hb.mono HBG.out.size)
        replace HRP : Hid (RowL .u8 wH aP nP yP) := RowL.below HRP.out hb
        clear hb HBG HPB
        rw [hQ] at huQ
        obtain ⟨aQ, cQ, rfl, hrQ, -⟩ := huQ
        obtain ⟨q1, q2, q3⟩ := base_forth hQ
        have HQ1 : Hid (strN (baseN yQ) = a2) := q1
        have HQ2 : Hid (∀ c ∈ yQ, c < 256) := q2
        have HQ3 : Hid (yQ.length ≤ 140737488355328) := by have := HSZ.out; unfold Hid; omega
        obtain ⟨nQ, hnQ⟩ : ∃ nQ, nQ = yQ.length := ⟨_, rfl⟩
        rw [← hnQ] at hrQ HQ3 ⊢
        have HRQ : Hid (RowL .u8 wH aQ nQ yQ) := hrQ
        clear hrQ q1 q2 q3 hQ hnQ
        go_wp2_with fail
        refine Calls.mono (HPN.out wH) ?_
        rintro _ wH' ⟨rfl, hwH⟩
        replace hwH := hwH.symm
        subst hwH
        clear HPN
        rw [hK, show unnumR none = .tuple #[.int .u64 0, .int .i64 5] from rfl]
        clear hK
        go_wp2_with fail
        refine Calls.mono (ahex_any aP nP cP yP wH HRP.out HP2.out HP3.out) ?_
        rw [HP1.out]
        rintro _ wI ⟨rfl, hb⟩
        have HBI : Hid (Below w.heap.size w wI) := HBH.out.trans (hb.mono HBH.out.size)
        replace HRQ : Hid (RowL .u8 wI aQ nQ yQ) := RowL.below HRQ.out hb
        clear hb HBH HRP
        go_wp2_with fail
        refine Calls.mono (abase_any aQ nQ cQ yQ wI HRQ.out HQ2.out HQ3.out) ?_
        rw [HQ1.out]
        rintro _ wJ ⟨rfl, hb⟩
        have HBJ : Hid (Below w.heap.size w wJ) := HBI.out.trans (hb.mono HBI.out.size)
        clear hb HBI HRQ
        go_wp2_with fail
        go_ret
        exact ⟨rfl, HBJ.out⟩
      | some zK =>
        go_wp2_with fail
        refine Calls.mono (HPB.out wG) ?_
        rintro _ wH ⟨hb, huQ⟩
        have HBH : Hid (Below w.heap.size w wH) := HBG.out.trans (hb.mono HBG.out.size)
        replace HRP : Hid (RowL .u8 wH aP nP yP) := RowL.below HRP.out hb
        clear hb HBG HPB
        rw [hQ] at huQ
        obtain ⟨aQ, cQ, rfl, hrQ, -⟩ := huQ
        obtain ⟨q1, q2, q3⟩ := base_forth hQ
        have HQ1 : Hid (strN (baseN yQ) = a2) := q1
        have HQ2 : Hid (∀ c ∈ yQ, c < 256) := q2
        have HQ3 : Hid (yQ.length ≤ 140737488355328) := by have := HSZ.out; unfold Hid; omega
        obtain ⟨nQ, hnQ⟩ : ∃ nQ, nQ = yQ.length := ⟨_, rfl⟩
        rw [← hnQ] at hrQ HQ3 ⊢
        have HRQ : Hid (RowL .u8 wH aQ nQ yQ) := hrQ
        clear hrQ q1 q2 q3 hQ hnQ
        go_wp2_with fail
        refine Calls.mono (HPN.out wH) ?_
        rintro _ wH' ⟨rfl, hwH⟩
        replace hwH := hwH.symm
        subst hwH
        clear HPN
        rw [hK, show unnumR (some zK) = .tuple #[.int .u64 (zK : Nat), .int .i64 0] from rfl]
        obtain ⟨k1, k2⟩ := num_forth hK
        have HK1 : Hid (strN (numN zK) = a2) := k1
        have HK2 : Hid (zK < 18446744073709551616) := k2
        clear k1 hK
        go_wp2_with fail
        refine Calls.mono (ahex_any aP nP cP yP wH HRP.out HP2.out HP3.out) ?_
        rw [HP1.out]
        rintro _ wI ⟨rfl, hb⟩
        have HBI : Hid (Below w.heap.size w wI) := HBH.out.trans (hb.mono HBH.out.size)
        replace HRQ : Hid (RowL .u8 wI aQ nQ yQ) := RowL.below HRQ.out hb
        clear hb HBH HRP
        go_wp2_with fail
        refine Calls.mono (abase_any aQ nQ cQ yQ wI HRQ.out HQ2.out HQ3.out) ?_
        rw [HQ1.out]
        rintro _ wJ ⟨rfl, hb⟩
        have HBJ : Hid (Below w.heap.size w wJ) := HBI.out.trans (hb.mono HBI.out.size)
        clear hb HBI HRQ
        go_wp2_with fail
        refine Calls.mono (anumber_any zK wJ HK2.out) ?_
        rw [HK1.out]
        rintro _ wK ⟨rfl, hb⟩
        have HBK : Hid (Below w.heap.size w wK) := HBJ.out.trans (hb.mono HBJ.out.size)
        clear hb HBJ
        go_wp2_with fail
        go_ret
        exact ⟨rfl, HBK.out⟩
theorem contract (H : Type) (enc : TypeId × Value → H) (W : World) (base : Nat) (args : Array Value) (ds gs : List (DataW H)) (before : List MemPlace)
    (hval : ∀ (j : Nat) t v, Try.f6.params[j]? = some t → args[j]? = some v → Value.okWide Try.prog W .any base t v)
    (hW : DataW.Whole enc Try.prog Try.f6.params.toList Rows.alphaBackSpec.vars false W args.toList ds gs before)
    (hsz : (DataW.weightsEach Try.prog (Try.f6.params.toList ++ Rows.alphaBackSpec.plain.varTypes Try.prog) (ds ++ gs)).all (· ≤ reachBytes) = true) :
    Calls Try.prog 6 args W fun e W' => ∃ v, e = .returned v ∧ Rows.alphaBackSpec.post enc Try.prog Try.f6 false true false false W args v W' := by
  have hW' := hW
  obtain ⟨p, q, hA0, hV, rfl, hfz, hnd⟩ := hW
  have hA : DataW.TrodAll enc Try.prog W 0 (fun _ => true) true Try.f6.params.toList args.toList ds p := hA0
  rw [Try.params6] at hA hval hsz
  obtain ⟨v0, vs0, d0, ds0, p0, q0, hargs, rfl, rfl, h0, r0⟩ := trodAll_cons hA
  obtain ⟨v1, vs1, d1, ds1, p1, q1, rfl, rfl, rfl, h1, r1⟩ := trodAll_cons r0
  obtain ⟨v2, vs2, d2, ds2, p2, q2, rfl, rfl, rfl, h2, r2⟩ := trodAll_cons r1
  obtain ⟨rfl, rfl, rfl⟩ := trodAll_nil r2
  obtain rfl : args = #[v0, v1, v2] := by cases args; simp_all
  obtain ⟨rfl, rfl⟩ := trodVars_none hV
  obtain ⟨a0, len0, cap0, rfl⟩ := okWide_slice Try.underlying22 (hval 0 22 v0 rfl rfl)
  have k0 := h0
  have lt0 : ∀ x ∈ p0, x.block < W.heap.size := by obtain ⟨m, hm⟩ := k0; exact DataW.trod_lt m _ _ _ hm
  obtain ⟨x0, w0, re0⟩ : ∃ xs, ArgL W a0 len0 cap0 xs ∧ cap0 ≤ 140737488351232 := by
    obtain ⟨fuel, hf⟩ := h0
    rcases open_ints Try.underlying22 Try.underlying5 (by kernel_rfl) hf with ⟨hcs, _⟩ | ⟨x, l, c, zs, hcs, _, hl, hm, hz, hx, hcell, hwz⟩
    · simp [Value.cells] at hcs
      obtain ⟨rfl, rfl, rfl⟩ := hcs
      exact ⟨_, arg_at (.inl ⟨rfl, rfl, rfl, rfl⟩), by omega⟩
    · simp [Value.cells] at hcs
      obtain ⟨rfl, rfl, rfl⟩ := hcs
      have hd := congrArg Prod.fst hx
      simp only [] at hd
      have hz' : zs.length = cap0 := by simpa using hz
      have hb := sized_slice hsz (j := 0) (t := 22) (e := 5) rfl (by rw [hd]; rfl) Try.underlying22
      have hby : Try.prog.bytesOf 5 = 1 := by kernel_rfl
      rw [hby] at hb
      simp only [lits, List.length_map, List.length_take, List.length_drop, reachBytes] at hb
      exact ⟨_, arg_at (.inr ⟨_, rfl, hl, hm, hz', hcell, hwz⟩), by omega⟩
  obtain ⟨a1, rfl, rfl, rfl, w1⟩ := open_int Try.underlying30 (hval 1 30 v1 rfl rfl) h1
  obtain ⟨a2, rfl, rfl, rfl, m2⟩ := open_string Try.underlying9 (hval 2 9 v2 rfl rfl) h2
  have w2 : a2.size ≤ 140737488351232 := by
    have := sized_string hsz (j := 2) (t := 9) rfl rfl
    rw [bytes_len] at this
    exact this
  clear hA0 hsz
  refine (walk W a0 len0 cap0 x0 w0 re0 a1 w1 a2 w2).mono fun e W' ⟨he, bel⟩ => ?_
  subst he
  exact ⟨_, rfl, _, _, _, [], _, [], hW', trodAll_mk1 (shut_bool Try.underlying4 _), (trodAll_cons_mk (Below.trod laidOut (by kernel_rfl) (of_decide_eq_true (by kernel_rfl)) k0 bel lt0) (trodAll_cons_mk (shut_int Try.underlying30 w1) (trodAll_cons_mk (shut_string Try.underlying9 m2) trodAll_mk0))), rfl, bel.frame _, fun h => by cases h⟩
set_option maxRecDepth 100000 in
theorem lifted (os : Os) (started : os.Started) (H : Type) (enc : TypeId × Value → H) :
    ReturnsInHanded {} Try.checked os 6 .any (Rows.alphaBackSpec.pre6 enc Try.prog Try.f6 Rows.alphaBackRow.domain false) (Rows.alphaBackSpec.post enc Try.prog Try.f6 false true false false) := by
  refine returnsInHanded_of_change_sized (C := Try.checked) own started (by kernel_rfl) Try.func6
    (ChangeSpec.witness6 (enc := enc) (C := Try.checked) false ⟨#[], #[.slice none 0 0, .int .u64 0, .string ByteArray.empty], []⟩ 8 (by kernel_rfl) (by kernel_rfl) (by kernel_rfl) (by kernel_rfl)) ?_
  intro W base args ds gs before hval hW _ hsz _
  exact contract H enc W base args ds gs before hval hW hsz
theorem over : Rows.alphaBackRow.holds Try.pinned (OpenSpec.ofChange Rows.alphaBackSpec) :=
  OpenClaim.holds_of_wide 6 Try.f6 rfl rfl rfl rfl rfl rfl rfl ⟨rfl, rfl, rfl, rfl, rfl⟩ rfl rfl rfl rfl rfl (by kernel_rfl) Try.func6 (by kernel_rfl)
    (of_decide_eq_true (by kernel_rfl)) (by unfold Func.isWrapper; first | (rw [if_pos (by decide +kernel)]; kernel_rfl) | (rw [if_neg (by decide +kernel)]; exact ⟨rfl, rfl⟩))
    (fun os started H enc _ => lifted os started H enc)
theorem proved : Rows.AlphaBackSaid := over
end Go.Proofs.Ytgeoijbjndjpoaa.alphaBack
