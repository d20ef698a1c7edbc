/-
  The program's Number and Unnumber, as plain functions of lists.
-/
import Derived.Test.YtgeoijbjndjpoaaAlphaSpell
namespace Go.Proofs.Ytgeoijbjndjpoaa
open Go.ChangeShapes Go.WideShapes Go.ChangeAt Go.RowKit
set_option linter.unusedVariables false
set_option linter.unusedSimpArgs false
theorem set_mid (d : Nat) (m : Nat) (t : List Nat) : (List.replicate (m + 1) 0 ++ t).set m d = List.replicate m 0 ++ d :: t := by
  rw [List.set_append_left _ _ (by simp), List.replicate_succ', List.set_append_right _ _ (by simp)]
  simp
theorem shr_num (N i : Nat) (hN : N < 18446744073709551616) : bits .and .u64 ((N : Int) / 2 ^ (5 * i)) 31 = ((N / 32 ^ i % 32 : Nat) : Int) := by
  have e : ((N : Int) / 2 ^ (5 * i)) = ((N / 2 ^ (5 * i) : Nat) : Int) := by simp
  rw [e, show (31 : Int) = ((31 : Nat) : Int) from rfl, u64_and_nat _ 31 (Nat.lt_of_le_of_lt (Nat.div_le_self _ _) hN) (by decide), show (31 : Nat) = 2 ^ 5 - 1 from rfl, Nat.and_two_pow_sub_one_eq_mod, Nat.pow_mul]
set_option maxHeartbeats 4000000 in
theorem anumber_any (N : Nat) (w : World) (hN : N < 18446744073709551616) :
    Calls Try.prog 20 #[.int .u64 N] w fun e w' => e = .returned (.string (strN (numN N))) ∧ Below w.heap.size w w' := by
  have HN : Hid (N < 18446744073709551616) := hN
  go_enter Try.func20, Try.ntmps20
  go_wp2
  go_loopw [5] (fun ix wr => ∃ (wz : World) (i : Nat), wz = wr ∧ i ≤ 13 ∧ ix = .int .i64 i ∧ Blk wz w.heap.size 43 .u8 (List.replicate (13 - i) 0 ++ tlN N i) ∧ Below w.heap.size w wz) (fun ix _ => 13 - (intOf ix).toNat)
  case atStart => exact ⟨_, 0, rfl, by omega, rfl, Blk.new w _ .u8 (List.replicate 13 0), below_new w _⟩
  case round =>
    obtain ⟨wr, i, hwr, hi, rfl, hblk, hbe⟩ := hrel
    subst hwr
    have HBL : Hid (Blk wr w.heap.size 43 .u8 (List.replicate (13 - i) 0 ++ tlN N i)) := hblk
    have HBE : Hid (Below w.heap.size w wr) := hbe
    clear hblk hbe
    by_cases hlt : i < 13
    · have hii : (i : Int) < 13 := by omega
      obtain ⟨K, hK⟩ : ∃ K, K = N / 32 ^ i % 32 := ⟨_, rfl⟩
      have hKi : bits .and .u64 ((N : Int) / 2 ^ (5 * i)) 31 = (K : Int) := by rw [shr_num N i HN.out, hK]
      have hKb : K < 32 := by omega
      obtain ⟨m, hm⟩ : ∃ m, m = 12 - i := ⟨_, rfl⟩
      have hmi : (12 : Int) - (i : Int) = (m : Int) := by omega
      have hmb : m < 13 := by omega
      have HNX : Hid (List.replicate (13 - (i + 1)) 0 ++ tlN N (i + 1) = (List.replicate (13 - i) 0 ++ tlN N i).set m (numD.getD K 0)) := by
        unfold Hid
        rw [show 13 - i = m + 1 by omega, set_mid, show 13 - (i + 1) = m by omega, tlN, hK]
      have hfr := HBL.out.frozen m
      have hcl := HBL.out.cell m (by rw [List.length_append, List.length_replicate, tlN_length]; omega)
      generalize (List.replicate (13 - i) 0 ++ tlN N i).getD m 0 = x0 at hcl
      have HG : Hid (((ByteArray.mk #[48, 49, 50, 51, 52, 53, 54, 55, 56, 57, 97, 98, 99, 100, 101, 102, 103, 104, 105, 106, 107, 108, 109, 110, 111, 112, 113, 114, 115, 116, 117, 118])[K]'hKb).toNat = numD.getD K 0) := by
        have := get_txt (ByteArray.mk #[48, 49, 50, 51, 52, 53, 54, 55, 56, 57, 97, 98, 99, 100, 101, 102, 103, 104, 105, 106, 107, 108, 109, 110, 111, 112, 113, 114, 115, 116, 117, 118]) K hKb
        rw [numS_txt] at this
        exact this
      clear hK hm
      go_wp2
      refine ⟨⟨_, i + 1, rfl, by omega, by go_num, ?_, Below.setCell HBE.out (Nat.le_refl _) _⟩, by simp [intOf]; omega⟩
      rw [HNX.out, HG.out]
      exact HBL.out.set m _
    · have hii : ¬ (i : Int) < 13 := by omega
      have e13 : i = 13 := by omega
      have hbl := HBL.out
      rw [e13, tlN_let] at hbl
      have hrow : RowL .u8 wr (some ⟨w.heap.size, 0, none⟩) 13 (numN N) := by
        have := hbl.row
        have e : List.replicate (13 - 13) 0 ++ letN N 13 = numN N := rfl
        rw [e, show (numN N).length = 13 from letN_length 13 N] at this
        exact this
      have hcv := conv_row hrow 13
      clear hbl hrow e13
      go_wp2
      go_ret
      exact ⟨rfl, HBE.out⟩
theorem num_f : ∀ k : Fin 32, numD.getD k.val 0 ≤ 102 ↔ k.val ≤ 15 := by decide +kernel
theorem or_num (n k : Nat) (hn : n ≤ 576460752303423487) (hk : k < 32) : bits .or .u64 ((n : Int) * 32 % 18446744073709551616) (k : Int) = ((n * 32 + k : Nat) : Int) := by
  have e : ((n : Int) * 32 % 18446744073709551616) = ((n * 32 : Nat) : Int) := by omega
  have hor : n * 32 ||| k = n * 32 + k := by
    rw [Nat.mul_comm]
    exact (Nat.two_pow_add_eq_or_of_lt (i := 5) hk n).symm
  rw [e, u64_or_nat _ _ (by omega) (by omega), hor]
theorem unnum_great (t : List Nat) (hl : t.length = 13) (hg : 102 < t.getD 0 0) : unnumN t = none := by
  cases hk : placeN numD (t.getD 0 0) with
  | none =>
    have hs : t = [] ++ t.getD 0 0 :: t.drop 1 := by have := split_at t 0 (by omega); simpa using this
    unfold unnumN
    rw [if_pos hl, hs, val_bad [] _ _ 0 0 rfl hk]
  | some k =>
    obtain ⟨k1, k2⟩ := place_get hk
    refine val_great t hl k hk ?_
    have := (num_f ⟨k, k1⟩)
    simp only [] at this
    rw [k2] at this
    omega
set_option maxHeartbeats 4000000 in
theorem aunnumber_any (S : ByteArray) (w : World) (hs : S.size ≤ 9223372036854775807) :
    Calls Try.prog 18 #[.string S] w fun e w' => e = .returned (unnumR (unnumN (txt S))) ∧ w' = w := by
  by_cases hl : S.size = 13
  · have HTL : Hid ((txt S).length = 13) := by unfold Hid; rw [txt_length, hl]
    have ht : ((S.size : Int) != 13) = false := by rw [hl]; rfl
    have HSZ : Hid (S.size = 13) := hl
    have h0s : 0 < S.size := by omega
    have HG0 : Hid ((S[0]'h0s).toNat = (txt S).getD 0 0) := get_txt S 0 h0s
    by_cases hg : 102 < (txt S).getD 0 0
    · have HU : Hid (unnumN (txt S) = none) := unnum_great _ HTL.out hg
      have hgi : (102 : Int) < ((S[0]'h0s).toNat : Int) := by rw [HG0.out]; omega
      clear hl hg
      go_enter Try.func18, Try.ntmps18
      go_wp2_with fail
      go_ret2
      exact ⟨by rw [HU.out]; rfl, rfl⟩
    · have hgi : ¬ (102 : Int) < ((S[0]'h0s).toNat : Int) := by rw [HG0.out]; omega
      have HGF : Hid ((txt S).getD 0 0 ≤ 102) := by unfold Hid; omega
      clear hl hg
      go_enter Try.func18, Try.ntmps18
      go_wp2_with fail
      go_loop [4, 17] (fun nv ix => ∃ i n : Nat, i ≤ 13 ∧ ix = .int .i64 i ∧ nv = .int .u64 n ∧ valN ((txt S).take i) 0 = some n ∧ ((i = 0 ∧ n = 0) ∨ (0 < i ∧ n * 2 < 32 ^ i))) (fun _ ix => 13 - (intOf ix).toNat)
      case atStart => exact ⟨0, 0, by omega, rfl, rfl, rfl, .inl ⟨rfl, rfl⟩⟩
      case round =>
        obtain ⟨i, n, hi, rfl, rfl, hv, hnb⟩ := hrel
        have HV : Hid (valN ((txt S).take i) 0 = some n) := hv
        have HNB : Hid ((i = 0 ∧ n = 0) ∨ (0 < i ∧ n * 2 < 32 ^ i)) := hnb
        clear hv hnb
        by_cases hlt : i < 13
        · have hls : i < S.size := by rw [HSZ.out]; exact hlt
          have hls' : (i : Int) < (S.size : Int) := by omega
          have HG : Hid ((S[i]'hls).toNat = (txt S).getD i 0) := get_txt S i hls
          have hbx : (S[i]'hls).toNat < 256 := (S[i]'hls).toNat_lt
          have HPL : Hid _ := find_any (ByteArray.mk #[48, 49, 50, 51, 52, 53, 54, 55, 56, 57, 97, 98, 99, 100, 101, 102, 103, 104, 105, 106, 107, 108, 109, 110, 111, 112, 113, 114, 115, 116, 117, 118]) (S[i]'hls).toNat w hbx
          rw [numS_txt, HG.out] at HPL
          clear hbx
          have hn59 : n ≤ 576460752303423487 := by
            rcases HNB.out with ⟨-, h⟩ | ⟨-, h⟩
            · omega
            · have : 32 ^ i ≤ 32 ^ 12 := Nat.pow_le_pow_right (by decide) (by omega)
              have e : (32 : Nat) ^ 12 = 1152921504606846976 := by decide
              omega
          have HSP : Hid ((txt S).take (i + 1) = (txt S).take i ++ [(txt S).getD i 0]) := take_snoc _ _ (by rw [HTL.out]; exact hlt)
          have HSW : Hid (txt S = (txt S).take i ++ (txt S).getD i 0 :: (txt S).drop (i + 1)) := split_at _ _ (by rw [HTL.out]; exact hlt)
          go_wp2_with fail
          rw [HG.out]
          refine Calls.mono HPL.out ?_
          rintro e w' ⟨rfl, hw'⟩
          replace hw' := hw'.symm
          subst hw'
          cases hk : placeN numD ((txt S).getD i 0) with
          | none =>
            have HU : Hid (unnumN (txt S) = none) := by
              unfold Hid unnumN
              rw [if_pos HTL.out, HSW.out, val_bad _ _ _ 0 n HV.out hk]
            rw [show plZ none = -1 from rfl]
            clear hk HPL
            go_wp2_with fail
            go_ret2
            exact ⟨by rw [HU.out]; rfl, rfl⟩
          | some k =>
            have hkb : k < 32 := (place_get hk).1
            rw [show plZ (some k) = (k : Int) from rfl]
            have hk0 : ¬ (k : Int) < 0 := by omega
            have HV2 : Hid (valN ((txt S).take (i + 1)) 0 = some (n * 32 + k)) := by unfold Hid; rw [HSP.out]; exact val_step _ _ 0 n k HV.out hk
            have HNB2 : Hid ((n * 32 + k) * 2 < 32 ^ (i + 1)) := by
              unfold Hid
              rw [Nat.pow_succ]
              rcases HNB.out with ⟨h, h'⟩ | ⟨h, h'⟩
              · have : k ≤ 15 := by
                  have hg2 := (place_get hk).2
                  have hf := (num_f ⟨k, hkb⟩).1
                  simp only [] at hf
                  refine hf ?_
                  rw [hg2, h]
                  exact HGF.out
                rw [h, h']
                simp
                omega
              · have : ∃ q, 32 ^ i = 2 * q := ⟨32 ^ i / 2, by
                  have : 32 ^ i % 2 = 0 := by
                    obtain ⟨j, rfl⟩ : ∃ j, i = j + 1 := ⟨i - 1, by omega⟩
                    rw [Nat.pow_succ]; omega
                  omega⟩
                obtain ⟨q, hq⟩ := this
                omega
            obtain ⟨n2, hn2⟩ : ∃ n2, n2 = n * 32 + k := ⟨_, rfl⟩
            have hor := or_num n k hn59 hkb
            rw [← hn2] at hor HV2 HNB2
            have hor' : bits .or .u64 ((n : Int) * 32) (k : Int) = (n2 : Int) := by rw [← hor, Int.emod_eq_of_lt (by omega) (by omega)]
            clear hk HPL hn2
            go_wp2_with fail
            go_round
            case rel => exact ⟨i + 1, n2, by omega, by go_num, rfl, HV2.out, .inr ⟨by omega, HNB2.out⟩⟩
            case measure => simp [intOf]; omega
        · have e13 : i = 13 := by omega
          have hii : ¬ (i : Int) < (S.size : Int) := by rw [HSZ.out]; omega
          have HU : Hid (unnumN (txt S) = some n) := by
            have hv := HV.out
            have hb := HNB.out
            rw [e13] at hv hb
            rw [List.take_of_length_le (by rw [HTL.out]; exact Nat.le_refl _)] at hv
            have e : (32 : Nat) ^ 13 = 36893488147419103232 := by decide
            unfold Hid unnumN
            rw [if_pos HTL.out, hv]
            have : n < 18446744073709551616 := by omega
            simp [this]
          clear e13
          go_wp2_with fail
          go_ret2
          exact ⟨by rw [HU.out]; rfl, rfl⟩
  · have ht : ((S.size : Int) != 13) = true := by simp; omega
    have HU : Hid (unnumN (txt S) = none) := by unfold Hid unnumN; rw [if_neg (by rw [txt_length]; exact hl)]
    clear hl
    go_enter Try.func18, Try.ntmps18
    go_wp2_with fail
    go_ret2
    exact ⟨by rw [HU.out]; rfl, rfl⟩
end Go.Proofs.Ytgeoijbjndjpoaa
