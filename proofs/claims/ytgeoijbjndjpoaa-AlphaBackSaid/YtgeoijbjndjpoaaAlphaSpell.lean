/-
  The program's 'spell': bytes as letters of W bits each; Hex, Base.
-/
import Derived.Test.YtgeoijbjndjpoaaAlphaUnspell
namespace Go.Proofs.Ytgeoijbjndjpoaa
open Go.ChangeShapes Go.WideShapes Go.ChangeAt Go.RowKit
set_option linter.unusedVariables false
set_option linter.unusedSimpArgs false
theorem strOf_nat (xs : List Nat) : strOfNums (xs.map fun (n : Nat) => (n : Int)) = strN xs := by
  unfold strOfNums strN
  rw [List.map_map]
  rfl
/-- Bytes at a place as a text. -/
theorem conv_row {w : World} {b off len : Nat} {xs : List Nat} (h : RowL .u8 w (some ⟨b, off, none⟩) len xs) (cap : Nat) :
    Sem.run Try.prog (convert 22 9 (Value.slice (some ⟨b, off, none⟩) len cap)) w = .ok (.string (strN xs)) w := by
  rw [← strOf_nat]
  refine run_convert_bytes_arg w 22 5 Try.underlying22 Try.underlying5 b off len cap _ (by rw [List.length_map]; exact h.1) (fun i hi => ?_) 9 Try.underlying9
  obtain ⟨b', off', e, -, hc⟩ := h.at i hi
  cases e
  rw [hc i hi]
  have : i < xs.length := by rw [h.1]; exact hi
  simp [List.getD, this]
theorem val_bound (xs : List Nat) (i : Nat) (h : i < xs.length) : valA 256 0 (xs.take (i + 1)) = valA 256 0 (xs.take i) * 256 + xs.getD i 0 := by
  rw [take_snoc xs i h, valA_snoc]
theorem getD_lt {xs : List Nat} (h : ∀ c ∈ xs, c < 256) (j : Nat) : xs.getD j 0 < 256 := by
  rw [List.getD_eq_getElem?_getD]
  by_cases hj : j < xs.length
  · rw [List.getElem?_eq_getElem hj]; exact h _ (List.getElem_mem hj)
  · rw [List.getElem?_eq_none (by omega)]; decide
/-- The letters' own byte. -/
theorem and_low (R V h W B : Nat) (hR : R = V % 4294967296) (hB : B = 2 ^ W - 1) (hh : h + W ≤ 32) : bits .and .u32 ((R : Int) / 2 ^ h) (B : Int) = ((V / 2 ^ h % 2 ^ W : Nat) : Int) := by
  have e : ((R : Int) / 2 ^ h) = ((R / 2 ^ h : Nat) : Int) := by simp
  have hRb : R < 4294967296 := by rw [hR]; exact Nat.mod_lt _ (by decide)
  have hp : 2 ^ W ≤ 2 ^ 32 := Nat.pow_le_pow_right (by decide) (by omega)
  have hp0 : 0 < 2 ^ W := Nat.two_pow_pos W
  rw [e, u32_and_nat _ B (Nat.lt_of_le_of_lt (Nat.div_le_self _ _) hRb) (by omega), hB, Nat.and_two_pow_sub_one_eq_mod, hR, part_mod V h W hh]
theorem and_last (R V q W B : Nat) (hR : R = V % 4294967296) (hB : B = 2 ^ W - 1) (hW : W ≤ 32) : bits .and .u32 ((R : Int) * 2 ^ q % 4294967296) (B : Int) = ((V * 2 ^ q % 2 ^ W : Nat) : Int) := by
  have e : ((R : Int) * 2 ^ q % 4294967296) = ((R * 2 ^ q % 4294967296 : Nat) : Int) := by simp
  have hp : 2 ^ W ≤ 2 ^ 32 := Nat.pow_le_pow_right (by decide) (by omega)
  have hp0 : 0 < 2 ^ W := Nat.two_pow_pos W
  have hd : 2 ^ W ∣ 4294967296 := Nat.pow_dvd_pow 2 (n := 32) hW
  rw [e, u32_and_nat _ B (Nat.mod_lt _ (by decide)) (by omega), hB, Nat.and_two_pow_sub_one_eq_mod, hR, Nat.mod_mod_of_dvd _ hd, Nat.mul_mod, Nat.mod_mod_of_dvd _ hd, ← Nat.mul_mod]
set_option maxHeartbeats 4000000 in
theorem spell_any (W : Nat) (L : ByteArray) (a : Option Addr) (len cap : Nat) (xs : List Nat) (w : World) (h1 : 1 ≤ W) (h2 : W ≤ 5) (hD : L.size = 2 ^ W) (hr : RowL .u8 w a len xs) (hx : ∀ j, xs.getD j 0 < 256) (hl : len ≤ 140737488355328) (hcap : (8 * len + W - 1) / W ≤ 281474976710656) :
    Calls Try.prog 24 #[.slice a len cap, .string L, .int .i64 (W : Nat)] w fun e w' => e = .returned (.string (strN (spellN W (txt L) xs))) ∧ Below w.heap.size w w' := by
  have HR : Hid (RowL .u8 w a len xs) := hr
  have HX : Hid (∀ j, xs.getD j 0 < 256) := hx
  have HXL : Hid (xs.length = len) := hr.1
  have HLS : Hid (L.size = 2 ^ W) := hD
  clear hr hx hD
  obtain ⟨T, hT⟩ : ∃ T, T = 8 * len + W - 1 := ⟨_, rfl⟩
  obtain ⟨C, hC⟩ : ∃ C, C = T / W := ⟨_, rfl⟩
  rw [← hT, ← hC] at hcap
  have hTi : 8 * (len : Int) + (W : Int) - 1 = (T : Int) := by omega
  have hCi : (T : Int) / (W : Int) = (C : Int) := by rw [hC]; simp
  have hCt : (T : Int).tdiv (W : Int) = (C : Int) := by rw [Int.tdiv_eq_ediv_of_nonneg (by omega)]; exact hCi
  have HT : Hid (T = 8 * len + W - 1) := hT
  have HC : Hid (C = T / W) := hC
  have hTb : T ≤ 1125899906842700 := by omega
  have hW0 : ((W : Int) == 0) = false := by rw [beq_eq_false_iff_ne]; omega
  clear hC hT
  obtain ⟨P, hP⟩ : ∃ P, P = 2 ^ W := ⟨_, rfl⟩
  have hPb : P ≤ 32 := by rw [hP]; exact Nat.pow_le_pow_right (by decide) h2
  have hP0 : 0 < P := by rw [hP]; exact Nat.two_pow_pos W
  have hPi : (2 : Int) ^ W % 4294967296 = (P : Int) := by
    have : (2 : Int) ^ W = (P : Int) := by rw [hP]; simp
    rw [this]; omega
  obtain ⟨B, hB⟩ : ∃ B, B = P - 1 := ⟨_, rfl⟩
  have hBi : ((P : Int) - 1) % 4294967296 = (B : Int) := by omega
  have hBi2 : (P : Int) - 1 = (B : Int) := by omega
  have HB : Hid (B = 2 ^ W - 1) := by unfold Hid; rw [hB, hP]
  have hBb : B < 32 := by omega
  clear hB hP
  go_enter Try.func24, Try.ntmps24
  go_wp2_with (refine make_num numB8 w rfl _ _ rfl .i64 .i64 (C : Int) C rfl rfl rfl (by omega) (by unfold maxLen; omega) ?_; intro w0 hown0 hb0)
  have HB0 : Hid (Below w.heap.size w w0) := hb0
  have HO0 : Hid (OwnL 5 .u8 w0 w.heap.size (.slice (some ⟨w.heap.size, 0, none⟩) 0 C) []) := hown0
  clear hown0 hb0 hPi hTi hCi hCt hBi hBi2 hW0
  go_loopw [7, 8, 9, 27] (fun v wd hd ix wr => ∃ (wz : World) (i V R h c : Nat), wz = wr ∧ i ≤ len ∧ ix = .int .i64 i ∧ V = valA 256 0 (xs.take i) ∧ R = V % 4294967296 ∧ wd = .int .u32 R ∧ hd = .int .i64 h ∧ 8 * i = W * c + h ∧ h < W ∧ v = .slice (some ⟨w.heap.size, 0, none⟩) c C ∧ OwnL 5 .u8 wz w.heap.size (.slice (some ⟨w.heap.size, 0, none⟩) c C) ((digs (2 ^ W) (V / 2 ^ h) c).map fun n => (txt L).getD n 0) ∧ Below w.heap.size w wz) (fun _ _ _ ix _ => len - (intOf ix).toNat)
  case atStart => exact ⟨_, 0, 0, 0, 0, 0, rfl, Nat.zero_le _, rfl, rfl, rfl, rfl, rfl, by omega, by omega, rfl, HO0.out, HB0.out⟩
  case round =>
    clear HB0 HO0
    obtain ⟨wr, i, V, R, h, c, hwr, hi, rfl, hV, hR, rfl, rfl, hwi, hhW, rfl, hown, hbe⟩ := hrel
    subst hwr
    have HV : Hid (V = valA 256 0 (xs.take i)) := hV
    have HRV : Hid (R = V % 4294967296) := hR
    have hRb : R < 4294967296 := by rw [hR]; exact Nat.mod_lt _ (by decide)
    have HWI : Hid (8 * i = W * c + h) := hwi
    have HOWN : Hid (OwnL 5 .u8 wr w.heap.size (.slice (some ⟨w.heap.size, 0, none⟩) c C) ((digs (2 ^ W) (V / 2 ^ h) c).map fun n => (txt L).getD n 0)) := hown
    have HBE : Hid (Below w.heap.size w wr) := hbe
    clear hV hR hwi hown hbe
    by_cases hlt : i < len
    · obtain ⟨b, off, rfl, hbl, hcs⟩ := RowL.at HR.out 0 (by omega)
      have hc : wr.cell? ⟨b, off + i, none⟩ = some (.int .u8 (xs.getD i 0 : Nat)) := (HBE.out.cell (p := ⟨b, off + i, none⟩) hbl).trans (hcs i hlt)
      have hcb := HX.out i
      have HVN : Hid (valA 256 0 (xs.take (i + 1)) = V * 256 + xs.getD i 0) := by unfold Hid; rw [HV.out]; exact val_bound xs i (by rw [HXL.out]; exact hlt)
      clear hbl hcs
      generalize xs.getD i 0 = x at *
      obtain ⟨V2, hV2⟩ : ∃ V2, V2 = V * 256 + x := ⟨_, rfl⟩
      obtain ⟨R2, hR2⟩ : ∃ R2, R2 = V2 % 4294967296 := ⟨_, rfl⟩
      have hor : bits .or .u32 ((R : Int) * 2 ^ 8 % 4294967296) (x : Int) = (R2 : Int) := by rw [or_reg R V x 8 HRV.out (by decide) hcb, hR2, hV2]
      have hor' : bits .or .u32 ((R : Int) * 256 % 4294967296) (x : Int) = (R2 : Int) := hor
      have hR2b : R2 < 4294967296 := by rw [hR2]; exact Nat.mod_lt _ (by decide)
      have HV2 : Hid (V2 = valA 256 0 (xs.take (i + 1))) := by unfold Hid; rw [HVN.out, hV2]
      have HR2 : Hid (R2 = V2 % 4294967296) := hR2
      have HRG : Hid (V2 / 2 ^ (h + 8) = V / 2 ^ h) := by unfold Hid; rw [hV2]; exact reg_in V h x 8 hcb
      have hii : (i : Int) < (len : Int) := by omega
      clear hV2 hR2 HVN hor
      go_wp2_with fail
      go_loopw [7, 9] (fun v hd wq => ∃ (wz : World) (h c : Nat), wz = wq ∧ hd = .int .i64 h ∧ 8 * (i + 1) = W * c + h ∧ h < W + 8 ∧ v = .slice (some ⟨w.heap.size, 0, none⟩) c C ∧ OwnL 5 .u8 wz w.heap.size (.slice (some ⟨w.heap.size, 0, none⟩) c C) ((digs (2 ^ W) (V2 / 2 ^ h) c).map fun n => (txt L).getD n 0) ∧ Below w.heap.size w wz) (fun _ hd _ => (intOf hd).toNat)
      case atStart => exact ⟨wr, h + 8, c, rfl, by go_num, by have := HWI.out; omega, by omega, rfl, by rw [HRG.out]; exact HOWN.out, HBE.out⟩
      case round =>
        clear HOWN HBE HWI HRG hc
        obtain ⟨wr, g, d, hwr, rfl, hwd, hgb, rfl, hown, hbe⟩ := hrel
        subst hwr
        have HWD : Hid (8 * (i + 1) = W * d + g) := hwd
        have HOWN : Hid (OwnL 5 .u8 wr w.heap.size (.slice (some ⟨w.heap.size, 0, none⟩) d C) ((digs (2 ^ W) (V2 / 2 ^ g) d).map fun n => (txt L).getD n 0)) := hown
        have HBE : Hid (Below w.heap.size w wr) := hbe
        clear hwd hown hbe
        by_cases hge : W ≤ g
        · obtain ⟨g', hg'⟩ : ∃ g', g' = g - W := ⟨_, rfl⟩
          have hgi : (W : Int) ≤ (g : Int) := by omega
          have hgs : (g : Int) - (W : Int) = (g' : Int) := by omega
          have hg8 : g' < 8 := by omega
          obtain ⟨K, hK⟩ : ∃ K, K = V2 / 2 ^ g' % 2 ^ W := ⟨_, rfl⟩
          have hKi : bits .and .u32 ((R2 : Int) / 2 ^ g') (B : Int) = (K : Int) := by rw [and_low R2 V2 g' W B HR2.out HB.out (by omega), hK]
          have hKb : K < L.size := by rw [HLS.out, hK]; exact Nat.mod_lt _ (Nat.two_pow_pos W)
          have hKs : (K : Int) < (L.size : Int) := by omega
          have HG : Hid ((L[K]'hKb).toNat = (txt L).getD K 0) := get_txt L K hKb
          have HDG : Hid (digs (2 ^ W) (V2 / 2 ^ g') (d + 1) = digs (2 ^ W) (V2 / 2 ^ g) d ++ [K]) := by
            unfold Hid
            rw [digs, show g = g' + W by omega, Nat.pow_add, ← Nat.div_div_eq_div_mul, hK]
          have HC1 : Hid (d + 1 ≤ C ∧ 8 * (i + 1) = W * (d + 1) + g') := by
            have e1 := HWD.out
            have e4 : W * (d + 1) = W * d + W := Nat.mul_succ W d
            refine ⟨?_, by omega⟩
            rw [HC.out, Nat.le_div_iff_mul_le (by omega), Nat.mul_comm, HT.out]
            omega
          have hsz := HBE.out.size
          have HDL : Hid (((digs (2 ^ W) (V2 / 2 ^ g) d).map fun n => (txt L).getD n 0).length = d) := by unfold Hid; rw [List.length_map, digs_length]
          clear hg' hK
          go_wp2_with (at_builtin; (refine fit_num numB8 wr rfl _ _ rfl w.heap.size w.heap.size d C ((digs (2 ^ W) (V2 / 2 ^ g) d).map fun n => (txt L).getD n 0) rfl HDL.out HOWN.out (L[K]'hKb).toNat (.int .u8 ((L[K]'hKb).toNat : Nat)) rfl wr.heap.size rfl rfl HC1.out.1 hsz ?_; intro w5 hown5 hb5))
          go_roundw
          case rel =>
            refine ⟨w5, g', d + 1, rfl, rfl, HC1.out.2, by omega, rfl, ?_, HBE.out.trans hb5⟩
            rw [HDG.out, List.map_append, List.map_cons, List.map_nil, ← HG.out]
            exact hown5
          case measure => simp [intOf]; omega
        · have hgi : ¬ (W : Int) ≤ (g : Int) := by omega
          go_wp2_with fail
          go_roundw
          case rel => exact ⟨wr, i + 1, V2, R2, g, d, rfl, by omega, by go_num, HV2.out, HR2.out, rfl, rfl, HWD.out, by omega, rfl, HOWN.out, HBE.out⟩
          case measure => simp [intOf]; omega
    · have hil : i = len := by omega
      have hii : ¬ (i : Int) < (len : Int) := by omega
      have HF : Hid (valA 256 0 xs = V ∧ 8 * len = W * c + h) := by
        refine ⟨?_, by have := HWI.out; omega⟩
        rw [HV.out, hil, ← HXL.out, List.take_length]
      clear hil
      by_cases hz : h = 0
      · have hzi : ¬ (0 : Int) < (h : Int) := by omega
        have HS : Hid (spellN W (txt L) xs = (digs (2 ^ W) (V / 2 ^ h) c).map fun n => (txt L).getD n 0) := by
          have e := HF.out.2
          rw [hz] at e
          unfold Hid spellN
          rw [HF.out.1, HXL.out]
          have e1 : padW W len = 0 := by
            unfold padW
            rw [e, Nat.add_zero, Nat.mul_mod_right, Nat.sub_zero, Nat.mod_self]
          have e2 : (8 * len + W - 1) / W = c := by
            rw [e, Nat.add_zero, Nat.add_sub_assoc h1, Nat.mul_add_div (by omega), Nat.div_eq_of_lt (by omega), Nat.add_zero]
          rw [e1, e2, hz, Nat.pow_zero, Nat.mul_one, Nat.div_one]
        have HDL : Hid (((digs (2 ^ W) (V / 2 ^ h) c).map fun n => (txt L).getD n 0).length = c) := by unfold Hid; rw [List.length_map, digs_length]
        obtain ⟨a', c', hv', hrw, -⟩ := own_form HOWN.out
        rw [HDL.out] at hv' hrw
        cases hv'
        have hcv := conv_row hrw C
        rw [← HS.out] at hcv
        clear hrw hz
        go_wp2_with fail
        go_ret
        exact ⟨rfl, HBE.out⟩
      · have hzi : (0 : Int) < (h : Int) := by omega
        obtain ⟨q, hq⟩ : ∃ q, q = W - h := ⟨_, rfl⟩
        have hqi : (W : Int) - (h : Int) = (q : Int) := by omega
        have hqb : q ≤ 5 := by omega
        obtain ⟨K, hK⟩ : ∃ K, K = V * 2 ^ q % 2 ^ W := ⟨_, rfl⟩
        have hKi : bits .and .u32 ((R : Int) * 2 ^ q % 4294967296) (B : Int) = (K : Int) := by rw [and_last R V q W B HRV.out HB.out (by omega), hK]
        have hKb : K < L.size := by rw [HLS.out, hK]; exact Nat.mod_lt _ (Nat.two_pow_pos W)
        have hKs : (K : Int) < (L.size : Int) := by omega
        have HG : Hid ((L[K]'hKb).toNat = (txt L).getD K 0) := get_txt L K hKb
        have hTc : T = W * (c + 1) + (h - 1) := by
          rw [HT.out, HF.out.2, Nat.mul_succ]
          omega
        have hCc : C = c + 1 := by rw [HC.out, hTc, Nat.mul_add_div (by omega), Nat.div_eq_of_lt (by omega), Nat.add_zero]
        have HS : Hid (spellN W (txt L) xs = ((digs (2 ^ W) (V / 2 ^ h) c).map fun n => (txt L).getD n 0) ++ [(txt L).getD K 0]) := by
          unfold Hid spellN
          rw [HF.out.1, HXL.out]
          have e1 : padW W len = q := by
            unfold padW
            rw [HF.out.2, Nat.mul_add_mod, Nat.mod_eq_of_lt hhW, ← hq, Nat.mod_eq_of_lt (by omega)]
          have e2 : (8 * len + W - 1) / W = c + 1 := by rw [← HT.out, ← HC.out, hCc]
          have e3 : V * 2 ^ q / 2 ^ W = V / 2 ^ h := by
            rw [show W = h + q by omega, Nat.pow_add, Nat.mul_div_mul_right _ _ (Nat.two_pow_pos q)]
          rw [e1, e2, digs, e3, List.map_append, hK]
          rfl
        have HC1 : Hid (c + 1 ≤ C) := by unfold Hid; omega
        have hsz := HBE.out.size
        have HDL : Hid (((digs (2 ^ W) (V / 2 ^ h) c).map fun n => (txt L).getD n 0).length = c) := by unfold Hid; rw [List.length_map, digs_length]
        clear hz hq hK hTc hCc
        go_wp2_with (at_builtin; (refine fit_num numB8 wr rfl _ _ rfl w.heap.size w.heap.size c C ((digs (2 ^ W) (V / 2 ^ h) c).map fun n => (txt L).getD n 0) rfl HDL.out HOWN.out (L[K]'hKb).toNat (.int .u8 ((L[K]'hKb).toNat : Nat)) rfl wr.heap.size rfl rfl HC1.out hsz ?_; intro w5 hown5 hb5))
        rw [HG.out, ← HS.out] at hown5
        obtain ⟨a', c', hv', hrw, -⟩ := own_form hown5
        have hLL : (spellN W (txt L) xs).length = c + 1 := by rw [HS.out, List.length_append, HDL.out]; rfl
        rw [hLL] at hv' hrw
        cases hv'
        have hcv := conv_row hrw C
        have HB5 : Hid (Below w.heap.size w w5) := HBE.out.trans hb5
        clear hrw hown5 hb5 hLL HOWN HBE
        rw [hcv]
        go_wp2_with fail
        go_ret
        exact ⟨rfl, HB5.out⟩
theorem ahex_any (a : Option Addr) (len cap : Nat) (xs : List Nat) (w : World) (hr : RowL .u8 w a len xs) (hx : ∀ c ∈ xs, c < 256) (hl : len ≤ 140737488355328) :
    Calls Try.prog 11 #[.slice a len cap] w fun e w' => e = .returned (.string (strN (hexN xs))) ∧ Below w.heap.size w w' := by
  have HU : Hid _ := spell_any 4 (ByteArray.mk #[48, 49, 50, 51, 52, 53, 54, 55, 56, 57, 97, 98, 99, 100, 101, 102]) a len cap xs w (by decide) (by decide) rfl hr (getD_lt hx) hl (by omega)
  rw [hexS_txt, spell_hex xs hx] at HU
  clear hr hx
  obtain ⟨st, hst⟩ : ∃ st, st = strN (hexN xs) := ⟨_, rfl⟩
  rw [← hst] at HU ⊢
  clear hst
  go_enter Try.func11, Try.ntmps11
  go_wp2_with fail
  refine Calls.mono HU.out ?_
  rintro e w' ⟨rfl, hb⟩
  have HB : Hid (Below w.heap.size w w') := hb
  clear hb HU
  go_wp2_with fail
  go_ret
  exact ⟨rfl, HB.out⟩
theorem abase_any (a : Option Addr) (len cap : Nat) (xs : List Nat) (w : World) (hr : RowL .u8 w a len xs) (hx : ∀ c ∈ xs, c < 256) (hl : len ≤ 140737488355328) :
    Calls Try.prog 16 #[.slice a len cap] w fun e w' => e = .returned (.string (strN (baseN xs))) ∧ Below w.heap.size w w' := by
  have HU : Hid _ := spell_any 5 (ByteArray.mk #[97, 98, 99, 100, 101, 102, 103, 104, 105, 106, 107, 108, 109, 110, 111, 112, 113, 114, 115, 116, 117, 118, 119, 120, 121, 122, 50, 51, 52, 53, 54, 55]) a len cap xs w (by decide) (by decide) rfl hr (getD_lt hx) hl (by omega)
  rw [baseS_txt5, spell_base xs hx] at HU
  clear hr hx
  obtain ⟨st, hst⟩ : ∃ st, st = strN (baseN xs) := ⟨_, rfl⟩
  rw [← hst] at HU ⊢
  clear hst
  go_enter Try.func16, Try.ntmps16
  go_wp2_with fail
  refine Calls.mono HU.out ?_
  rintro e w' ⟨rfl, hb⟩
  have HB : Hid (Below w.heap.size w w') := hb
  clear hb HU
  go_wp2_with fail
  go_ret
  exact ⟨rfl, HB.out⟩
end Go.Proofs.Ytgeoijbjndjpoaa
