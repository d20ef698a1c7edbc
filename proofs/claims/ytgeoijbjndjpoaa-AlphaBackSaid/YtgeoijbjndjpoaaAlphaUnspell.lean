/-
  The program's 'unspell': the bytes that letters of W bits each are, or an error; Unhex, Unbase.
-/
import Derived.Test.YtgeoijbjndjpoaaAlphaFind
import Derived.Test.YtgeoijbjndjpoaaAlphaUnhex
import Derived.Test.YtgeoijbjndjpoaaFits
namespace Go.Proofs.Ytgeoijbjndjpoaa
open Go.ChangeShapes Go.WideShapes Go.ChangeAt Go.RowKit
set_option linter.unusedVariables false
set_option linter.unusedSimpArgs false
theorem part_mod (V a b : Nat) (h : a + b ≤ 32) : (V % 4294967296) / 2 ^ a % 2 ^ b = V / 2 ^ a % 2 ^ b := by
  have e : (4294967296 : Nat) = 2 ^ a * 2 ^ (32 - a) := by rw [← Nat.pow_add, show a + (32 - a) = 32 by omega]
  rw [e, Nat.mod_mul_right_div_self, Nat.mod_mod_of_dvd _ (Nat.pow_dvd_pow 2 (by omega))]
theorem or_reg (R V p W : Nat) (hR : R = V % 4294967296) (hW : W ≤ 32) (hp : p < 2 ^ W) : bits .or .u32 ((R : Int) * 2 ^ W % 4294967296) (p : Int) = (((V * 2 ^ W + p) % 4294967296 : Nat) : Int) := by
  have e : ((R : Int) * 2 ^ W % 4294967296) = ((R * 2 ^ W % 4294967296 : Nat) : Int) := by simp
  have hlow : (R * 2 ^ W % 4294967296) % 2 ^ W = 0 := by
    have e2 : (4294967296 : Nat) = 2 ^ (32 - W) * 2 ^ W := by rw [← Nat.pow_add, Nat.sub_add_cancel hW]
    rw [e2, Nat.mul_mod_mul_right]
    exact Nat.mul_mod_left _ _
  have hpl : p < 4294967296 := Nat.lt_of_lt_of_le hp (Nat.pow_le_pow_right (by decide) hW)
  have hor : R * 2 ^ W % 4294967296 ||| p = R * 2 ^ W % 4294967296 + p := by
    obtain ⟨q, hq⟩ := Nat.dvd_of_mod_eq_zero hlow
    rw [hq]
    exact (Nat.two_pow_add_eq_or_of_lt hp q).symm
  rw [e, u32_or_nat _ _ (Nat.mod_lt _ (by decide)) hpl, hor, hR, reg_mod V p W hW hp]
set_option maxHeartbeats 4000000 in
theorem unspell_any (W : Nat) (S L : ByteArray) (w : World) (h1 : 1 ≤ W) (h2 : W ≤ 5) (hD : Apart W (txt L)) (hs : S.size ≤ 281474976710656) :
    Calls Try.prog 22 #[.string S, .string L, .int .i64 (W : Nat)] w fun e w' => Below w.heap.size w w' ∧ UnR (unspellN W (txt L) (txt S)) e w' := by
  have HTL : Hid ((txt S).length = S.size) := txt_length S
  have HD : Hid (Apart W (txt L)) := hD
  clear hD
  obtain ⟨M, hM⟩ : ∃ M, M = S.size * W := ⟨_, rfl⟩
  have hMi : (S.size : Int) * (W : Int) = (M : Int) := by rw [hM]; simp
  have hMb : M ≤ 1407374883553280 := by
    have := Nat.mul_le_mul hs h2
    omega
  have HM : Hid (M = S.size * W) := hM
  clear hM
  obtain ⟨C, hC⟩ : ∃ C, C = M / 8 := ⟨_, rfl⟩
  have hCi : (M : Int) / 8 = (C : Int) := by omega
  have HC : Hid (C = M / 8) := hC
  have hCb : C ≤ 281474976710656 := by omega
  clear hC
  go_enter Try.func22, Try.ntmps22
  go_wp2_with (refine make_num numB8 w rfl _ _ rfl .i64 .i64 (C : Int) C rfl rfl rfl (by omega) (by unfold maxLen; omega) ?_; intro w0 hown0 hb0)
  have HB0 : Hid (Below w.heap.size w w0) := hb0
  have HO0 : Hid (OwnL 5 .u8 w0 w.heap.size (.slice (some ⟨w.heap.size, 0, none⟩) 0 C) []) := hown0
  clear hown0 hb0
  go_loopw [8, 9, 10, 21] (fun v wd hd ix wr => ∃ (wz : World) (i V R h c : Nat) (l : List Nat), wz = wr ∧ i ≤ S.size ∧ ix = .int .i64 i ∧ placesD (txt L) ((txt S).take i) = some l ∧ l.length = i ∧ V = valA (2 ^ W) 0 l ∧ R = V % 4294967296 ∧ wd = .int .u32 R ∧ hd = .int .i64 h ∧ W * i = 8 * c + h ∧ h < 8 ∧ v = .slice (some ⟨w.heap.size, 0, none⟩) c C ∧ OwnL 5 .u8 wz w.heap.size (.slice (some ⟨w.heap.size, 0, none⟩) c C) (digs 256 (V / 2 ^ h) c) ∧ Below w.heap.size w wz) (fun _ _ _ ix _ => S.size - (intOf ix).toNat)
  case atStart => exact ⟨_, 0, 0, 0, 0, 0, [], rfl, Nat.zero_le _, rfl, rfl, rfl, rfl, rfl, rfl, rfl, by omega, by omega, rfl, HO0.out, HB0.out⟩
  case round =>
    clear HB0 HO0
    obtain ⟨wr, i, V, R, h, c, l, hwr, hi, rfl, hpl, hll, hV, hR, rfl, rfl, hwi, hh8, rfl, hown, hbe⟩ := hrel
    subst hwr
    have HPL : Hid (placesD (txt L) ((txt S).take i) = some l) := hpl
    have HLL : Hid (l.length = i) := hll
    have HV : Hid (V = valA (2 ^ W) 0 l) := hV
    have HR : Hid (R = V % 4294967296) := hR
    have hRb : R < 4294967296 := by rw [hR]; exact Nat.mod_lt _ (by decide)
    have HWI : Hid (W * i = 8 * c + h) := hwi
    have HOWN : Hid (OwnL 5 .u8 wr w.heap.size (.slice (some ⟨w.heap.size, 0, none⟩) c C) (digs 256 (V / 2 ^ h) c)) := hown
    have HBE : Hid (Below w.heap.size w wr) := hbe
    clear hpl hll hV hR hwi hown hbe
    by_cases hlt : i < S.size
    · have hii : (i : Int) < (S.size : Int) := by omega
      have HG : Hid ((S[i]'hlt).toNat = (txt S).getD i 0) := get_txt S i hlt
      have hbx : (S[i]'hlt).toNat < 256 := (S[i]'hlt).toNat_lt
      have HFD : Hid _ := find_any L (S[i]'hlt).toNat wr hbx
      rw [HG.out] at HFD
      clear hbx
      go_wp2_with fail
      rw [HG.out]
      refine Calls.mono HFD.out ?_
      rintro e w' ⟨rfl, hw'⟩
      replace hw' := hw'.symm
      subst hw'
      clear HFD
      cases hk : placeN (txt L) ((txt S).getD i 0) with
      | none =>
        have HU : Hid (unspellN W (txt L) (txt S) = none) := by
          have e := split_at (txt S) i (by rw [HTL.out]; exact hlt)
          unfold Hid unspellN
          rw [e, placesD_bad _ _ _ hk]
        rw [show plZ none = -1 from rfl]
        clear hk
        go_wp2_with fail
        go_ret2
        refine ⟨HBE.out, ?_⟩
        rw [HU.out]
        exact rfl
      | some p =>
        have hpb : p < 2 ^ W := by rw [← HD.out.1]; exact (place_get hk).1
        have hp32 : p < 32 := Nat.lt_of_lt_of_le hpb (Nat.pow_le_pow_right (by decide) h2)
        rw [show plZ (some p) = (p : Int) from rfl]
        have hp0 : ¬ (p : Int) < 0 := by omega
        obtain ⟨V2, hV2⟩ : ∃ V2, V2 = V * 2 ^ W + p := ⟨_, rfl⟩
        obtain ⟨R2, hR2⟩ : ∃ R2, R2 = V2 % 4294967296 := ⟨_, rfl⟩
        have hor2 : bits .or .u32 ((R : Int) * 2 ^ W % 4294967296) (p : Int) = (R2 : Int) := by rw [or_reg R V p W HR.out (by omega) hpb, hR2, hV2]
        have hor1 : bits .or .u32 ((R : Int) * 2 ^ W % 4294967296) ((p : Int) % 4294967296) = (R2 : Int) := by rw [show (p : Int) % 4294967296 = (p : Int) by omega]; exact hor2
        have hR2b : R2 < 4294967296 := by rw [hR2]; exact Nat.mod_lt _ (by decide)
        have HPL2 : Hid (placesD (txt L) ((txt S).take (i + 1)) = some (l ++ [p])) := by
          unfold Hid
          rw [take_snoc (txt S) i (by rw [HTL.out]; exact hlt)]
          exact placesD_snoc _ _ _ _ HPL.out hk
        have HV2 : Hid (V2 = valA (2 ^ W) 0 (l ++ [p])) := by unfold Hid; rw [valA_snoc, ← HV.out, hV2]
        have HWM : Hid (W * (i + 1) ≤ M) := by
          unfold Hid
          rw [HM.out, Nat.mul_comm S.size]
          exact Nat.mul_le_mul_left W hlt
        have HRG : Hid (V2 / 2 ^ (h + W) = V / 2 ^ h) := by unfold Hid; rw [hV2]; exact reg_in V h p W hpb
        have HR2 : Hid (R2 = V2 % 4294967296) := hR2
        clear hV2 hR2
        by_cases hge : 8 ≤ h + W
        · obtain ⟨h', hh'⟩ : ∃ h', h' = h + W - 8 := ⟨_, rfl⟩
          have hhi : (h : Int) + (W : Int) - 8 = (h' : Int) := by omega
          have hgi : (8 : Int) ≤ (h : Int) + (W : Int) := by omega
          have hhb : h' < 8 := by omega
          obtain ⟨D, hD⟩ : ∃ D, D = V2 / 2 ^ h' % 256 := ⟨_, rfl⟩
          have hDb : D < 256 := by rw [hD]; exact Nat.mod_lt _ (by decide)
          have hDi : (R2 : Int) / 2 ^ h' % 256 = (D : Int) := by
            have := part_mod V2 h' 8 (by omega)
            rw [hD, ← this, HR2.out]
            simp
          have HDG : Hid (digs 256 (V2 / 2 ^ h') (c + 1) = digs 256 (V / 2 ^ h) c ++ [D]) := by
            unfold Hid
            rw [digs, ← HRG.out, show h + W = h' + 8 by omega, Nat.pow_add, ← Nat.div_div_eq_div_mul, hD]
          have HC1 : Hid (c + 1 ≤ C ∧ W * (i + 1) = 8 * (c + 1) + h') := by
            have e1 := HWI.out
            have e2 := HC.out
            have e3 := HWM.out
            have e4 : W * (i + 1) = W * i + W := Nat.mul_succ W i
            unfold Hid
            omega
          have hsz := HBE.out.size
          have HDL : Hid ((digs 256 (V / 2 ^ h) c).length = c) := digs_length _ _ _
          clear hh' hD hk
          go_wp2_with (at_builtin; (refine fit_num numB8 wr rfl _ _ rfl w.heap.size w.heap.size c C (digs 256 (V / 2 ^ h) c) rfl HDL.out HOWN.out D (.int .u8 (D : Nat)) rfl wr.heap.size rfl rfl HC1.out.1 hsz ?_; intro w5 hown5 hb5))
          go_roundw
          case rel => exact ⟨w5, i + 1, V2, R2, h', c + 1, l ++ [p], rfl, by omega, by go_num, HPL2.out, by rw [List.length_append, HLL.out]; rfl, HV2.out, HR2.out, rfl, rfl, HC1.out.2, hhb, rfl, by rw [HDG.out]; exact hown5, HBE.out.trans hb5⟩
          case measure => simp [intOf]; omega
        · have hgi : ¬ (8 : Int) ≤ (h : Int) + (W : Int) := by omega
          obtain ⟨h', hh'⟩ : ∃ h', h' = h + W := ⟨_, rfl⟩
          have hhi : (h : Int) + (W : Int) = (h' : Int) := by omega
          have hgi' : ¬ (8 : Int) ≤ (h' : Int) := by omega
          have HC1 : Hid (W * (i + 1) = 8 * c + h' ∧ h' < 8 ∧ V2 / 2 ^ h' = V / 2 ^ h) := by
            have e1 := HWI.out
            have e4 : W * (i + 1) = W * i + W := Nat.mul_succ W i
            refine ⟨by omega, by omega, ?_⟩
            rw [hh']
            exact HRG.out
          clear hh' hk
          go_wp2_with fail
          go_roundw
          case rel => exact ⟨wr, i + 1, V2, R2, h', c, l ++ [p], rfl, by omega, by go_num, HPL2.out, by rw [List.length_append, HLL.out]; rfl, HV2.out, HR2.out, rfl, rfl, HC1.out.1, HC1.out.2.1, rfl, by rw [HC1.out.2.2]; exact HOWN.out, HBE.out⟩
          case measure => simp [intOf]; omega
    · have hii : ¬ (i : Int) < (S.size : Int) := by omega
      have hie : i = S.size := by omega
      have HF : Hid (unspellN W (txt L) (txt S) = if h < W ∧ V % 2 ^ h = 0 then some (digs 256 (V / 2 ^ h) c) else none) := by
        have e := HPL.out
        rw [hie, ← HTL.out, List.take_length] at e
        have e2 : W * l.length % 8 = h ∧ W * l.length / 8 = c := by
          rw [HLL.out]
          have := HWI.out
          omega
        unfold Hid unspellN
        rw [e]
        simp only []
        rw [e2.1, e2.2, ← HV.out]
      have hand : bits .and .u32 (R : Int) ((2 ^ h - 1) % 4294967296) = ((V % 2 ^ h : Nat) : Int) := by
        have e1 : ((2 : Int) ^ h - 1) % 4294967296 = ((2 ^ h - 1 : Nat) : Int) := by
          have a1 : 2 ^ h ≤ 2 ^ 8 := Nat.pow_le_pow_right (by decide) (by omega)
          have a2 : 0 < 2 ^ h := Nat.two_pow_pos h
          have a3 : ((2 : Int) ^ h) = ((2 ^ h : Nat) : Int) := by simp
          rw [a3]
          omega
        have a1 : 2 ^ h ≤ 2 ^ 8 := Nat.pow_le_pow_right (by decide) (by omega)
        rw [e1, u32_and_nat R (2 ^ h - 1) hRb (by omega), Nat.and_two_pow_sub_one_eq_mod]
        have := part_mod V 0 h (by omega)
        rw [Nat.pow_zero, Nat.div_one, Nat.div_one, ← HR.out] at this
        rw [this]
      clear hie
      by_cases hgood : h < W ∧ V % 2 ^ h = 0
      · rw [hgood.2] at hand
        have hnw : ¬ (W : Int) ≤ (h : Int) := by omega
        have hz : (bits .and .u32 (R : Int) ((2 ^ h - 1) % 4294967296) != 0) = false := by rw [hand]; rfl
        have HF2 : Hid (unspellN W (txt L) (txt S) = some (digs 256 (V / 2 ^ h) c)) := by unfold Hid; rw [HF.out, if_pos hgood]
        have HDL : Hid ((digs 256 (V / 2 ^ h) c).length = c) := digs_length _ _ _
        obtain ⟨a', c', hv', hr', hn'⟩ := own_form HOWN.out
        rw [HDL.out] at hv'
        have HV' : Hid (Value.slice (some ⟨w.heap.size, 0, none⟩) c C = .slice a' c c') := hv'
        have HR' : Hid (RowL .u8 wr a' (digs 256 (V / 2 ^ h) c).length (digs 256 (V / 2 ^ h) c) ∧ (a' = none → (digs 256 (V / 2 ^ h) c).length = 0 ∧ c' = 0)) := ⟨hr', hn'⟩
        clear hgood hand hv' hr' hn'
        go_wp2_with fail
        go_ret2
        refine ⟨HBE.out, ?_⟩
        rw [HF2.out]
        refine ⟨a', c', ?_, HR'.out.1, HR'.out.2⟩
        rw [HDL.out, ← HV'.out]
        rfl
      · have HF2 : Hid (unspellN W (txt L) (txt S) = none) := by unfold Hid; rw [HF.out, if_neg hgood]
        by_cases hnw : (W : Int) ≤ (h : Int)
        · clear hgood hand
          go_wp2_with fail
          go_ret2
          refine ⟨HBE.out, ?_⟩
          rw [HF2.out]
          exact rfl
        · have hz : (bits .and .u32 (R : Int) ((2 ^ h - 1) % 4294967296) != 0) = true := by
            rw [hand]
            have : V % 2 ^ h ≠ 0 := fun e => hgood ⟨by omega, e⟩
            rw [bne_iff_ne]
            omega
          clear hgood hand
          go_wp2_with fail
          go_ret2
          refine ⟨HBE.out, ?_⟩
          rw [HF2.out]
          exact rfl
theorem aunhex_any (S : ByteArray) (w : World) (hs : S.size ≤ 281474976710656) :
    Calls Try.prog 8 #[.string S] w fun e w' => Below w.heap.size w w' ∧ UnR (unhexN (txt S)) e w' := by
  have HU : Hid _ := unspell_any 4 S (ByteArray.mk #[48, 49, 50, 51, 52, 53, 54, 55, 56, 57, 97, 98, 99, 100, 101, 102]) w (by decide) (by decide) (by rw [hexS_txt]; exact hex_apart) hs
  rw [hexS_txt, unspell_hex] at HU
  go_enter Try.func8, Try.ntmps8
  go_wp2_with fail
  refine Calls.mono HU.out ?_
  rintro e w' ⟨hb, hu⟩
  have HB : Hid (Below w.heap.size w w') := hb
  clear hb HU
  cases ho : unhexN (txt S) with
  | none =>
    rw [ho] at hu
    have hu' : e = .returned (.tuple #[.slice none 0 0, .int .i64 5]) := hu
    subst hu'
    have HO : Hid _ := ho
    clear hu ho
    go_wp2_with fail
    go_ret2
    refine ⟨HB.out, ?_⟩
    rw [HO.out]
    exact rfl
  | some ys =>
    rw [ho] at hu
    obtain ⟨a, c, rfl, hr⟩ := hu
    have HR : Hid (RowL .u8 w' a ys.length ys ∧ (a = none → ys.length = 0 ∧ c = 0)) := hr
    clear hr
    obtain ⟨n, hn⟩ : ∃ n, n = ys.length := ⟨_, rfl⟩
    rw [← hn]
    have HN : Hid (n = ys.length) := hn
    have HO : Hid _ := ho
    clear hn ho
    go_wp2_with fail
    go_ret2
    refine ⟨HB.out, ?_⟩
    rw [HO.out]
    exact ⟨a, c, by rw [← HN.out]; rfl, HR.out⟩
theorem baseS_txt5 : txt (ByteArray.mk #[97, 98, 99, 100, 101, 102, 103, 104, 105, 106, 107, 108, 109, 110, 111, 112, 113, 114, 115, 116, 117, 118, 119, 120, 121, 122, 50, 51, 52, 53, 54, 55]) = baseD := by decide +kernel
theorem aunbase_any (S : ByteArray) (w : World) (hs : S.size ≤ 281474976710656) :
    Calls Try.prog 14 #[.string S] w fun e w' => Below w.heap.size w w' ∧ UnR (unbaseN (txt S)) e w' := by
  have HU : Hid _ := unspell_any 5 S (ByteArray.mk #[97, 98, 99, 100, 101, 102, 103, 104, 105, 106, 107, 108, 109, 110, 111, 112, 113, 114, 115, 116, 117, 118, 119, 120, 121, 122, 50, 51, 52, 53, 54, 55]) w (by decide) (by decide) (by rw [baseS_txt5]; exact base_apart) hs
  rw [baseS_txt5, unspell_base] at HU
  go_enter Try.func14, Try.ntmps14
  go_wp2_with fail
  refine Calls.mono HU.out ?_
  rintro e w' ⟨hb, hu⟩
  have HB : Hid (Below w.heap.size w w') := hb
  clear hb HU
  cases ho : unbaseN (txt S) with
  | none =>
    rw [ho] at hu
    have hu' : e = .returned (.tuple #[.slice none 0 0, .int .i64 5]) := hu
    subst hu'
    have HO : Hid _ := ho
    clear hu ho
    go_wp2_with fail
    go_ret2
    refine ⟨HB.out, ?_⟩
    rw [HO.out]
    exact rfl
  | some ys =>
    rw [ho] at hu
    obtain ⟨a, c, rfl, hr⟩ := hu
    have HR : Hid (RowL .u8 w' a ys.length ys ∧ (a = none → ys.length = 0 ∧ c = 0)) := hr
    clear hr
    obtain ⟨n, hn⟩ : ∃ n, n = ys.length := ⟨_, rfl⟩
    rw [← hn]
    have HN : Hid (n = ys.length) := hn
    have HO : Hid _ := ho
    clear hn ho
    go_wp2_with fail
    go_ret2
    refine ⟨HB.out, ?_⟩
    rw [HO.out]
    exact ⟨a, c, by rw [← HN.out]; rfl, HR.out⟩
end Go.Proofs.Ytgeoijbjndjpoaa
