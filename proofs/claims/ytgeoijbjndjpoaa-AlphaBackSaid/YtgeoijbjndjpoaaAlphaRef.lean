/-
  The document's answer of layer 4, as plain functions of lists: place, Number, Unnumber, Hex, Unhex, Base, Unbase.
-/
import Derived.Test.YtgeoijbjndjpoaaAlphaMath
import Derived.Test.YtgeoijbjndjpoaaOwn
import Derived.WalkKit
namespace Go.Proofs.Ytgeoijbjndjpoaa
open Go.ChangeShapes Go.WideShapes Go.ChangeAt Go.RowKit
set_option linter.unusedVariables false
set_option linter.unusedSimpArgs false
/-- A text's bytes as numbers, and back. -/
def txt (s : ByteArray) : List Nat := s.data.toList.map UInt8.toNat
def strN (l : List Nat) : ByteArray := ⟨(l.map UInt8.ofNat).toArray⟩
theorem txt_length (s : ByteArray) : (txt s).length = s.size := by unfold txt; rw [List.length_map, Array.length_toList]; rfl
theorem txt_lt (s : ByteArray) : ∀ c ∈ txt s, c < 256 := fun c hc => by
  obtain ⟨x, _, rfl⟩ := List.mem_map.1 hc
  exact x.toNat_lt
theorem strN_size (l : List Nat) : (strN l).size = l.length := by
  show (l.map UInt8.ofNat).toArray.size = l.length
  simp
theorem strN_append (l m : List Nat) : strN (l ++ m) = strN l ++ strN m := by
  apply ByteArray.ext
  simp [strN, ByteArray.data_append]
theorem txt_strN (l : List Nat) (h : ∀ c ∈ l, c < 256) : txt (strN l) = l := by
  unfold txt strN
  rw [List.map_map]
  have : ∀ c ∈ l, (UInt8.toNat ∘ UInt8.ofNat) c = c := fun c hc => by
    have := h c hc
    simp [UInt8.toNat_ofNat]
    omega
  rw [List.map_congr_left this]
  simp
theorem strN_txt (s : ByteArray) : strN (txt s) = s := by
  apply ByteArray.ext
  show ((s.data.toList.map UInt8.toNat).map UInt8.ofNat).toArray = s.data
  rw [List.map_map, List.map_congr_left (g := id) (fun x _ => by simp)]
  simp
def plZ (o : Option Nat) : Int := match o with | some i => (i : Int) | none => -1
theorem place_none {l : List Nat} {b : Nat} (h : ∀ j, j < l.length → l.getD j 0 ≠ b) : placeN l b = none := by
  induction l with
  | nil => rfl
  | cons x l ih =>
    rw [placeN, if_neg (by simpa using h 0 (by simp)), ih (fun j hj => by have := h (j + 1) (by simp; omega); simpa using this)]
    rfl
theorem place_first {l : List Nat} {b i : Nat} (hi : i < l.length) (h : l.getD i 0 = b) (hn : ∀ j, j < i → l.getD j 0 ≠ b) : placeN l b = some i := by
  induction l generalizing i with
  | nil => simp at hi
  | cons x l ih =>
    rw [placeN]
    cases i with
    | zero => rw [if_pos (by simpa using h)]
    | succ i =>
      rw [if_neg (by simpa using hn 0 (by omega)), ih (by simp at hi; omega) (by simpa using h) (fun j hj => by have := hn (j + 1) (by omega); simpa using this)]
      rfl
theorem get_txt (s : ByteArray) (i : Nat) (h : i < s.size) : (s[i]'h).toNat = (txt s).getD i 0 := by
  have hl : i < s.data.size := h
  have e : (txt s)[i]? = some (s.data[i]).toNat := by
    unfold txt
    rw [List.getElem?_map, Array.getElem?_toList, Array.getElem?_eq_getElem hl]
    rfl
  rw [List.getD_eq_getElem?_getD, e]
  rfl
theorem rplace_any (S : ByteArray) (b : Nat) (w : World) (hb : b < 256) (hs : S.size ≤ 9223372036854775807) :
    Calls Try.prog 23 #[.string S, .int .u8 b] w fun e w' => e = .returned (.int .i64 (plZ (placeN (txt S) b))) ∧ w' = w := by
  have HTL : Hid ((txt S).length = S.size) := txt_length S
  go_enter Try.func23, Try.ntmps23
  go_wp2
  go_loop [5] (fun ix => ∃ i : Nat, i ≤ S.size ∧ ix = .int .i64 i ∧ ∀ j, j < i → (txt S).getD j 0 ≠ b) (fun ix => S.size - (intOf ix).toNat)
  case atStart => exact ⟨0, Nat.zero_le _, rfl, fun j hj => by omega⟩
  case round =>
    obtain ⟨i, hi, rfl, hn⟩ := hrel
    have HN : Hid (∀ j, j < i → (txt S).getD j 0 ≠ b) := hn
    clear hn
    by_cases hlt : i < S.size
    · have hii : (i : Int) < (S.size : Int) := by omega
      have HG := get_txt S i hlt
      by_cases hq : (txt S).getD i 0 = b
      · have ht : (((S[i]'hlt).toNat : Int) == (b : Int)) = true := by rw [HG, hq]; simp
        have HP : Hid (placeN (txt S) b = some i) := place_first (by rw [HTL.out]; exact hlt) hq HN.out
        clear HG hq
        go_wp2
        go_ret
        exact ⟨by rw [HP.out]; rfl, rfl⟩
      · have ht : (((S[i]'hlt).toNat : Int) == (b : Int)) = false := by
          rw [HG, beq_eq_false_iff_ne]
          exact fun h => hq (Int.ofNat_inj.1 h)
        have HQ : Hid ((txt S).getD i 0 ≠ b) := hq
        clear HG hq
        go_wp2
        go_round
        case rel =>
          refine ⟨i + 1, by omega, by go_num, fun j hj => ?_⟩
          by_cases hji : j = i
          · rw [hji]; exact HQ.out
          · exact HN.out j (by omega)
        case measure => simp [intOf]; omega
    · have hii : ¬ (i : Int) < (S.size : Int) := by omega
      have HP : Hid (placeN (txt S) b = none) := place_none (fun j hj => HN.out j (by rw [HTL.out] at hj; omega))
      go_wp2
      go_ret
      exact ⟨by rw [HP.out]; rfl, rfl⟩
/-- The last letters of a number. -/
def tlN (n : Nat) : Nat → List Nat
  | 0 => []
  | k + 1 => numD.getD (n / 32 ^ k % 32) 0 :: tlN n k
theorem tlN_snoc (n : Nat) : ∀ k, tlN n (k + 1) = tlN (n / 32) k ++ [numD.getD (n % 32) 0]
  | 0 => by simp [tlN]
  | k + 1 => by
    rw [tlN, tlN_snoc n k, tlN, List.cons_append, Nat.div_div_eq_div_mul, Nat.mul_comm 32, ← Nat.pow_succ]
theorem tlN_let : ∀ k n, tlN n k = letN n k
  | 0, n => rfl
  | k + 1, n => by rw [tlN_snoc, letN, tlN_let k]
theorem tlN_length (n : Nat) : ∀ k, (tlN n k).length = k
  | 0 => rfl
  | k + 1 => by rw [tlN, List.length_cons, tlN_length n k]
def numS : ByteArray := ⟨#[48, 49, 50, 51, 52, 53, 54, 55, 56, 57, 97, 98, 99, 100, 101, 102, 103, 104, 105, 106, 107, 108, 109, 110, 111, 112, 113, 114, 115, 116, 117, 118]⟩
theorem num_ext : ∀ k : Fin 32, (numS.extract k.val (k.val + 1)).data.toList = (strN [numD.getD k.val 0]).data.toList := by decide +kernel
theorem num_ext' (k : Nat) (h : k < 32) : (ByteArray.mk #[48, 49, 50, 51, 52, 53, 54, 55, 56, 57, 97, 98, 99, 100, 101, 102, 103, 104, 105, 106, 107, 108, 109, 110, 111, 112, 113, 114, 115, 116, 117, 118]).extract k (k + 1) = strN [numD.getD k 0] := by
  apply ByteArray.ext
  exact Array.toList_inj.1 (num_ext ⟨k, h⟩)
theorem str_add (l m : List Nat) (h : l.length + m.length ≤ 9223372036854775807) (W : World) : (Op.stringOp .add (strN l) (strN m)).run Try.prog W = .ok (.string (strN (l ++ m))) W := by
  rw [run_string_add_sum W _ _ (by rw [strN_size, strN_size]; exact h), strN_append]
theorem str_one (s : ByteArray) (k : Nat) (kd : IntKind) (h : k + 1 ≤ s.size) (W : World) : (Instr.slice 9 (.string s) (some (.int kd (k : Nat))) (some (.int kd ((k : Int) + 1))) none).run Try.prog W = .ok (.string (s.extract k (k + 1))) W := by
  rw [run_slice_string W _ s kd kd (k : Nat) ((k : Int) + 1) Try.underlying9 (by omega) (by omega) (by omega), Int.toNat_natCast, show ((k : Int) + 1).toNat = k + 1 by omega]
theorem rnumber_any (N : Nat) (w : World) (hN : N < 18446744073709551616) :
    Calls Try.prog 21 #[.int .u64 N] w fun e w' => e = .returned (.string (strN (numN N))) ∧ w' = w := by
  go_enter Try.func21, Try.ntmps21
  go_wp2
  go_loop [0, 3, 4] (fun nv out ix => ∃ i M : Nat, i ≤ 13 ∧ ix = .int .i64 i ∧ nv = .int .u64 M ∧ M = N / 32 ^ i ∧ out = .string (strN (tlN N i))) (fun _ _ ix => 13 - (intOf ix).toNat)
  case atStart => exact ⟨0, N, by omega, rfl, rfl, by simp, rfl⟩
  case round =>
    obtain ⟨i, M, hi, rfl, rfl, hM, rfl⟩ := hrel
    have HM : Hid (M = N / 32 ^ i) := hM
    have hMb : M < 18446744073709551616 := by rw [hM]; exact Nat.lt_of_le_of_lt (Nat.div_le_self _ _) hN
    clear hM
    by_cases hlt : i < 13
    · obtain ⟨K, hK⟩ : ∃ K, K = M % 32 := ⟨_, rfl⟩
      have hKi : (M : Int) % 32 = (K : Int) := by omega
      have hKb : K < 32 := by omega
      have hS : ∀ W, (Instr.slice 9 (.string (ByteArray.mk #[48, 49, 50, 51, 52, 53, 54, 55, 56, 57, 97, 98, 99, 100, 101, 102, 103, 104, 105, 106, 107, 108, 109, 110, 111, 112, 113, 114, 115, 116, 117, 118])) (some (.int .u64 (K : Nat))) (some (.int .u64 ((K : Int) + 1))) none).run Try.prog W = .ok (.string (strN [numD.getD K 0])) W := fun W => by
        refine (str_one _ K .u64 ?_ W).trans ?_
        · show K + 1 ≤ 32
          omega
        · rw [num_ext' K hKb]
      have HNX : Hid (tlN N (i + 1) = numD.getD K 0 :: tlN N i) := by unfold Hid; rw [tlN, hK, HM.out]
      have HTL : Hid ((strN (tlN N i)).size = i) := by unfold Hid; rw [strN_size, tlN_length]
      have HM2 : Hid (M / 32 = N / 32 ^ (i + 1)) := by unfold Hid; rw [HM.out, Nat.pow_succ, ← Nat.div_div_eq_div_mul]
      have hii : (i : Int) < 13 := by omega
      clear hK
      generalize numD.getD K 0 = d at *
      obtain ⟨SA, hSA⟩ : ∃ A, A = strN [d] := ⟨_, rfl⟩
      obtain ⟨SB, hSB⟩ : ∃ B, B = strN (tlN N i) := ⟨_, rfl⟩
      have HAB : Hid (SA ++ SB = strN (tlN N (i + 1))) := by unfold Hid; rw [hSA, hSB, ← strN_append, HNX.out]; rfl
      have hsum : SA.size + SB.size ≤ 9223372036854775807 := by rw [hSA, hSB, strN_size, strN_size, tlN_length]; simp; omega
      rw [← hSA] at hS
      rw [← hSB]
      clear hSA hSB HTL
      go_wp2
      go_round
      case rel => exact ⟨i + 1, M / 32, by omega, by go_num, by go_num, HM2.out, by rw [HAB.out]⟩
      case measure => simp [intOf]; omega
    · have e13 : i = 13 := by omega
      have hii : ¬ (i : Int) < 13 := by omega
      have HR : Hid (tlN N i = numN N) := by rw [e13]; exact tlN_let 13 N
      clear e13
      go_wp2
      go_ret
      exact ⟨by rw [HR.out]; rfl, rfl⟩
/-- What Unnumber answers. -/
def unnumR (o : Option Nat) : Value := match o with | some n => .tuple #[.int .u64 (n : Nat), .int .i64 0] | none => .tuple #[.int .u64 0, .int .i64 5]
theorem numS_txt : txt (ByteArray.mk #[48, 49, 50, 51, 52, 53, 54, 55, 56, 57, 97, 98, 99, 100, 101, 102, 103, 104, 105, 106, 107, 108, 109, 110, 111, 112, 113, 114, 115, 116, 117, 118]) = numD := by decide +kernel
theorem val_bad (s r : List Nat) (x acc m : Nat) (h : valN s acc = some m) (hx : placeN numD x = none) : valN (s ++ x :: r) acc = none := by
  rw [val_append s _ acc m h, valN, hx]
theorem val_step (s : List Nat) (x acc m k : Nat) (h : valN s acc = some m) (hx : placeN numD x = some k) : valN (s ++ [x]) acc = some (m * 32 + k) := by
  rw [val_append s _ acc m h, valN, hx]
  rfl
theorem split_at (t : List Nat) (i : Nat) (h : i < t.length) : t = t.take i ++ t.getD i 0 :: t.drop (i + 1) := by
  rw [List.getD_eq_getElem?_getD, List.getElem?_eq_getElem h, Option.getD_some]
  rw [List.getElem_cons_drop, List.take_append_drop]
theorem take_snoc (t : List Nat) (i : Nat) (h : i < t.length) : t.take (i + 1) = t.take i ++ [t.getD i 0] := by
  rw [List.take_succ_eq_append_getElem h, List.getD_eq_getElem?_getD, List.getElem?_eq_getElem h, Option.getD_some]
/-- A first letter above f: the number is too great. -/
theorem val_great (t : List Nat) (hl : t.length = 13) (k : Nat) (hk : placeN numD (t.getD 0 0) = some k) (h15 : 15 < k) : unnumN t = none := by
  unfold unnumN
  rw [if_pos hl]
  cases hv : valN t 0 with
  | none => rfl
  | some n =>
    have hs : t = t.getD 0 0 :: t.drop 1 := by have := split_at t 0 (by omega); simpa using this
    rw [hs, valN, hk] at hv
    simp only [] at hv
    have := (let_val _ _ 0 n hv).2
    rw [List.length_drop, hl] at this
    have h2 : ¬ n < 18446744073709551616 := by
      intro hn
      have : n / 32 ^ 12 ≤ 15 := by
        have : n < 16 * 32 ^ 12 := by simpa using hn
        exact Nat.le_of_lt_succ (Nat.div_lt_of_lt_mul (by rw [Nat.mul_comm]; exact this))
      omega
    simp [h2]
set_option maxHeartbeats 2000000 in
theorem runnumber_any (S : ByteArray) (w : World) (hs : S.size ≤ 9223372036854775807) :
    Calls Try.prog 19 #[.string S] w fun e w' => e = .returned (unnumR (unnumN (txt S))) ∧ w' = w := by
  by_cases hl : S.size = 13
  · have HTL : Hid ((txt S).length = 13) := by unfold Hid; rw [txt_length, hl]
    have ht : ((S.size : Int) != 13) = false := by rw [hl]; rfl
    have HSZ : Hid (S.size = 13) := hl
    clear hl
    go_enter Try.func19, Try.ntmps19
    go_wp2
    go_loop [4, 5] (fun nv ix => ∃ i n : Nat, i ≤ 13 ∧ ix = .int .i64 i ∧ nv = .int .u64 n ∧ valN ((txt S).take i) 0 = some n ∧ ((i = 0 ∧ n = 0) ∨ (0 < i ∧ n * 2 < 32 ^ i))) (fun _ ix => 13 - (intOf ix).toNat)
    case atStart => exact ⟨0, 0, by omega, rfl, rfl, rfl, .inl ⟨rfl, rfl⟩⟩
    case round =>
      obtain ⟨i, n, hi, rfl, rfl, hv, hnb⟩ := hrel
      have HV : Hid (valN ((txt S).take i) 0 = some n) := hv
      have HNB : Hid ((i = 0 ∧ n = 0) ∨ (0 < i ∧ n * 2 < 32 ^ i)) := hnb
      clear hv hnb
      by_cases hlt : i < 13
      · have hii : (i : Int) < 13 := by omega
        have hls : i < S.size := by rw [HSZ.out]; exact hlt
        have hls' : (i : Int) < (S.size : Int) := by omega
        have HG : Hid ((S[i]'hls).toNat = (txt S).getD i 0) := get_txt S i hls
        have hbx : (S[i]'hls).toNat < 256 := (S[i]'hls).toNat_lt
        have hpl := rplace_any (ByteArray.mk #[48, 49, 50, 51, 52, 53, 54, 55, 56, 57, 97, 98, 99, 100, 101, 102, 103, 104, 105, 106, 107, 108, 109, 110, 111, 112, 113, 114, 115, 116, 117, 118]) (S[i]'hls).toNat w hbx (by decide)
        rw [numS_txt] at hpl
        have HPL : Hid _ := hpl
        rw [HG.out] at HPL
        clear hpl hbx
        have hn59 : n ≤ 576460752303423487 := by
          rcases HNB.out with ⟨-, h⟩ | ⟨-, h⟩
          · omega
          · have : 32 ^ i ≤ 32 ^ 12 := Nat.pow_le_pow_right (by decide) (by omega)
            have e : (32 : Nat) ^ 12 = 1152921504606846976 := by decide
            omega
        have HSP : Hid ((txt S).take (i + 1) = (txt S).take i ++ [(txt S).getD i 0]) := take_snoc _ _ (by rw [HTL.out]; exact hlt)
        have HSW : Hid (txt S = (txt S).take i ++ (txt S).getD i 0 :: (txt S).drop (i + 1)) := split_at _ _ (by rw [HTL.out]; exact hlt)
        go_wp2_with fail
        rw [HG.out]
        refine Calls.mono HPL.out ?_
        rintro e w' ⟨rfl, hw'⟩
        subst hw'
        cases hk : placeN numD ((txt S).getD i 0) with
        | none =>
          have HU : Hid (unnumN (txt S) = none) := by
            unfold Hid unnumN
            rw [if_pos HTL.out, HSW.out, val_bad _ _ _ 0 n HV.out hk]
          rw [show plZ none = -1 from rfl]
          clear hk HPL
          go_wp2_with fail
          go_ret2
          exact ⟨by rw [HU.out]; rfl, rfl⟩
        | some k =>
          have hkb : k < 32 := (place_get hk).1
          rw [show plZ (some k) = (k : Int) from rfl]
          have hk0 : ¬ (k : Int) < 0 := by omega
          by_cases h15 : i = 0 ∧ 15 < k
          · have HU : Hid (unnumN (txt S) = none) := val_great _ HTL.out k (by have h := hk; rw [h15.1] at h; exact h) h15.2
            have hi0 : ((i : Int) == 0) = true := by rw [h15.1]; rfl
            have hk15 : (15 : Int) < (k : Int) := by omega
            clear hk HPL h15
            go_wp2_with fail
            go_ret2
            exact ⟨by rw [HU.out]; rfl, rfl⟩
          · have HV2 : Hid (valN ((txt S).take (i + 1)) 0 = some (n * 32 + k)) := by unfold Hid; rw [HSP.out]; exact val_step _ _ 0 n k HV.out hk
            have HNB2 : Hid ((n * 32 + k) * 2 < 32 ^ (i + 1)) := by
              unfold Hid
              rw [Nat.pow_succ]
              rcases HNB.out with ⟨h, h'⟩ | ⟨h, h'⟩
              · rw [h, h']
                have : k ≤ 15 := by omega
                simp
                omega
              · have : ∃ q, 32 ^ i = 2 * q := ⟨32 ^ i / 2, by
                  have : 32 ^ i % 2 = 0 := by
                    obtain ⟨j, rfl⟩ : ∃ j, i = j + 1 := ⟨i - 1, by omega⟩
                    rw [Nat.pow_succ]; omega
                  omega⟩
                obtain ⟨q, hq⟩ := this
                omega
            clear hk HPL
            by_cases hi0 : i = 0
            · have hib : ((i : Int) == 0) = true := by rw [hi0]; rfl
              have hk15 : ¬ (15 : Int) < (k : Int) := by omega
              clear h15 hi0
              go_wp2_with fail
              go_round
              case rel => exact ⟨i + 1, n * 32 + k, by omega, by go_num, by go_num, HV2.out, .inr ⟨by omega, HNB2.out⟩⟩
              case measure => simp [intOf]; omega
            · have hib : ((i : Int) == 0) = false := by simp; omega
              clear h15 hi0
              go_wp2_with fail
              go_round
              case rel => exact ⟨i + 1, n * 32 + k, by omega, by go_num, by go_num, HV2.out, .inr ⟨by omega, HNB2.out⟩⟩
              case measure => simp [intOf]; omega
      · have e13 : i = 13 := by omega
        have hii : ¬ (i : Int) < 13 := by omega
        have HU : Hid (unnumN (txt S) = some n) := by
          have hv := HV.out
          have hb := HNB.out
          rw [e13] at hv hb
          rw [List.take_of_length_le (by rw [HTL.out]; exact Nat.le_refl _)] at hv
          have e : (32 : Nat) ^ 13 = 36893488147419103232 := by decide
          unfold Hid unnumN
          rw [if_pos HTL.out, hv]
          have : n < 18446744073709551616 := by omega
          simp [this]
        clear e13
        go_wp2_with fail
        go_ret2
        exact ⟨by rw [HU.out]; rfl, rfl⟩
  · have ht : ((S.size : Int) != 13) = true := by simp; omega
    have HU : Hid (unnumN (txt S) = none) := by unfold Hid unnumN; rw [if_neg (by rw [txt_length]; exact hl)]
    go_enter Try.func19, Try.ntmps19
    go_wp2
    go_ret2
    exact ⟨by rw [HU.out]; rfl, rfl⟩
/-! Digits of sixteen. -/
theorem hexN_snoc : ∀ (xs : List Nat) (c : Nat), hexN (xs ++ [c]) = hexN xs ++ [hexD.getD (c / 16) 0, hexD.getD (c % 16) 0]
  | [], c => rfl
  | x :: xs, c => by rw [List.cons_append, hexN, hexN, hexN_snoc xs c]; rfl
def hexS : ByteArray := ⟨#[48, 49, 50, 51, 52, 53, 54, 55, 56, 57, 97, 98, 99, 100, 101, 102]⟩
theorem hex_ext : ∀ k : Fin 16, (hexS.extract k.val (k.val + 1)).data.toList = (strN [hexD.getD k.val 0]).data.toList := by decide +kernel
theorem hex_slice (k : Nat) (h : k < 16) (W : World) : (Instr.slice 9 (.string (ByteArray.mk #[48, 49, 50, 51, 52, 53, 54, 55, 56, 57, 97, 98, 99, 100, 101, 102])) (some (.int .u8 (k : Nat))) (some (.int .u8 ((k : Int) + 1))) none).run Try.prog W = .ok (.string (strN [hexD.getD k 0])) W := by
  refine (str_one _ k .u8 ?_ W).trans ?_
  · show k + 1 ≤ 16
    omega
  · have e : (ByteArray.mk #[48, 49, 50, 51, 52, 53, 54, 55, 56, 57, 97, 98, 99, 100, 101, 102]).extract k (k + 1) = strN [hexD.getD k 0] := by
      apply ByteArray.ext
      exact Array.toList_inj.1 (hex_ext ⟨k, h⟩)
    rw [e]
theorem drewN_more (w : World) (m n : Nat) : (w.drewN m).drewN n = w.drewN (m + n) := by simp [World.drewN, Nat.add_assoc]
set_option maxHeartbeats 4000000 in
theorem rhex_any (a : Option Addr) (len cap : Nat) (xs : List Nat) (w : World) (hr : RowL .u8 w a len xs) (hx : ∀ j, xs.getD j 0 < 256) (hl : len ≤ 140737488355328) :
    Calls Try.prog 12 #[.slice a len cap] w fun e w' => e = .returned (.string (strN (hexN xs))) ∧ ∃ n, w' = w.drewN n := by
  have HR : Hid (RowL .u8 w a len xs) := hr
  have HX : Hid (∀ j, xs.getD j 0 < 256) := hx
  have HXL : Hid (xs.length = len) := hr.1
  clear hr hx
  go_enter Try.func12, Try.ntmps12
  go_wp2
  go_loopw [4, 5] (fun out ix wr => ∃ (wz : World) (i m : Nat), wz = wr ∧ i ≤ len ∧ ix = .int .i64 i ∧ out = .string (strN (hexN (xs.take i))) ∧ wz = w.drewN m) (fun _ ix _ => len - (intOf ix).toNat)
  case atStart => exact ⟨w, 0, 0, rfl, Nat.zero_le _, rfl, rfl, rfl⟩
  case round =>
    obtain ⟨wr, i, m, hwr, hi, rfl, rfl, hwm⟩ := hrel
    subst hwr
    have HWM : Hid (wr = w.drewN m) := hwm
    clear hwm
    by_cases hlt : i < len
    · obtain ⟨b, off, rfl, hbl, hcs⟩ := RowL.at HR.out 0 (by omega)
      have hc : wr.cell? ⟨b, off + i, none⟩ = some (.int .u8 (xs.getD i 0 : Nat)) := by rw [HWM.out]; exact hcs i hlt
      have hcb := HX.out i
      have HTS : Hid (xs.take (i + 1) = xs.take i ++ [xs.getD i 0]) := take_snoc xs i (by rw [HXL.out]; exact hlt)
      clear hbl hcs
      generalize xs.getD i 0 = c at *
      obtain ⟨h, hh⟩ : ∃ h, h = c / 16 := ⟨_, rfl⟩
      obtain ⟨q, hq⟩ : ∃ q, q = c % 16 := ⟨_, rfl⟩
      have hhi : (c : Int) / 16 = (h : Int) := by omega
      have hqi : (c : Int) % 16 = (q : Int) := by omega
      have hhb : h < 16 := by omega
      have hqb : q < 16 := by omega
      have hS1 := hex_slice h hhb
      have hS2 := hex_slice q hqb
      obtain ⟨SA, hSA⟩ : ∃ A, A = strN [hexD.getD h 0] := ⟨_, rfl⟩
      obtain ⟨SB, hSB⟩ : ∃ A, A = strN [hexD.getD q 0] := ⟨_, rfl⟩
      obtain ⟨SO, hSO⟩ : ∃ A, A = strN (hexN (xs.take i)) := ⟨_, rfl⟩
      rw [← hSA] at hS1
      rw [← hSB] at hS2
      rw [← hSO]
      have HAB : Hid (SO ++ (SA ++ SB) = strN (hexN (xs.take (i + 1)))) := by
        unfold Hid
        rw [HTS.out, hexN_snoc, strN_append, hSO, hSA, hSB, ← strN_append, hh, hq]
        rfl
      have z1 : SA.size = 1 := by rw [hSA, strN_size]; rfl
      have z2 : SB.size = 1 := by rw [hSB, strN_size]; rfl
      have z3 : SO.size ≤ 281474976710656 := by
        rw [hSO, strN_size, hexN_length, List.length_take]
        omega
      have z4 : SA.size + SB.size ≤ 9223372036854775807 := by omega
      have z5 : SO.size + (SA ++ SB).size ≤ 9223372036854775807 := by rw [ByteArray.size_append]; omega
      have hii : (i : Int) < (len : Int) := by omega
      clear hSA hSB hSO hh hq z1 z2 z3
      go_wp2
      go_quiet (fail)
      go_wp2
      refine ⟨⟨_, i + 1, m + nq, rfl, by omega, by go_num, by rw [HAB.out], by rw [HWM.out, drewN_more]⟩, by simp [intOf]; omega⟩
    · have hil : i = len := by omega
      have hii : ¬ (i : Int) < (len : Int) := by omega
      have HT : Hid (xs.take i = xs) := by unfold Hid; rw [hil, ← HXL.out, List.take_length]
      clear hil
      go_wp2
      go_ret
      exact ⟨by rw [HT.out]; rfl, m, HWM.out⟩
end Go.Proofs.Ytgeoijbjndjpoaa
