/-
  The document's Escape and Unescape, as plain functions of lists.
-/
import Derived.Test.YtbfgkogmojnilaaDoorLabelRNext
import Derived.Deep.QuietTactic
import Derived.BigQuiet
namespace Go.Proofs.YtbfgkogmojnilaaDoor
open Go.ChangeShapes Go.WideShapes Go.ChangeAt Go.RowKit
set_option linter.unusedVariables false
set_option linter.unusedSimpArgs false
theorem drewN_more (w : World) (m n : Nat) : (w.drewN m).drewN n = w.drewN (m + n) := by simp [World.drewN, Nat.add_assoc]
theorem str_cut (s : ByteArray) (k : Nat) (kd : IntKind) (h : k + 1 ≤ s.size) (W : World) : (Instr.slice 9 (.string s) (some (.int kd (k : Nat))) (some (.int kd ((k : Int) + 1))) none).run Tryd.prog W = .ok (.string (s.extract k (k + 1))) W := by
  rw [run_slice_string W _ s kd kd (k : Nat) ((k : Int) + 1) Tryd.underlying9 (by omega) (by omega) (by omega), Int.toNat_natCast, show ((k : Int) + 1).toNat = k + 1 by omega]
def hexUS : ByteArray := ⟨#[48, 49, 50, 51, 52, 53, 54, 55, 56, 57, 65, 66, 67, 68, 69, 70]⟩
theorem hexU_ext : ∀ k : Fin 16, (hexUS.extract k.val (k.val + 1)).data.toList = (strN [hexU.getD k.val 0]).data.toList := by decide +kernel
theorem hexU_slice (k : Nat) (h : k < 16) (W : World) : (Instr.slice 9 (.string (ByteArray.mk #[48, 49, 50, 51, 52, 53, 54, 55, 56, 57, 65, 66, 67, 68, 69, 70])) (some (.int .u8 (k : Nat))) (some (.int .u8 ((k : Int) + 1))) none).run Tryd.prog W = .ok (.string (strN [hexU.getD k 0])) W := by
  refine (str_cut _ k .u8 ?_ W).trans ?_
  · show k + 1 ≤ 16
    omega
  · have e : (ByteArray.mk #[48, 49, 50, 51, 52, 53, 54, 55, 56, 57, 65, 66, 67, 68, 69, 70]).extract k (k + 1) = strN [hexU.getD k 0] := by
      apply ByteArray.ext
      exact Array.toList_inj.1 (hexU_ext ⟨k, h⟩)
    rw [e]
theorem one_txt (S : ByteArray) (i : Nat) (h : i < S.size) : S.extract i (i + 1) = strN [(txt S).getD i 0] := by
  apply txt_inj
  rw [txt_extract, txt_strN _ (by
    intro c hc
    rw [List.mem_singleton] at hc
    rw [hc, ← get_txt S i h]
    exact (S[i]'h).toNat_lt), take_snoc (txt S) i (by rw [txt_length]; exact h)]
  have e : ((txt S).take i).length = i := by rw [List.length_take, txt_length]; omega
  rw [List.drop_left' e]
theorem add_run {A B C : ByteArray} (h : A.size + B.size ≤ 9223372036854775807) (hC : A ++ B = C) : ∀ W, (Op.stringOp .add A B).run Tryd.prog W = .ok (.string C) W := fun W => by
  rw [run_string_add_sum W _ _ h, hC]
set_option maxHeartbeats 4000000 in
theorem resc_any (S : ByteArray) (w : World) (hs : S.size ≤ 281474976710656) :
    Calls Tryd.prog 28 #[.string S] w fun e w' => e = .returned (.string (strN (escN (txt S)))) ∧ ∃ n, w' = w.drewN n := by
  have HTL : Hid ((txt S).length = S.size) := txt_length S
  go_enter Tryd.func28, Tryd.ntmps28
  go_wp2
  go_loopw [4, 5] (fun out ix wr => ∃ (wz : World) (i m : Nat), wz = wr ∧ i ≤ S.size ∧ ix = .int .i64 i ∧ out = .string (strN (escN ((txt S).take i))) ∧ wz = w.drewN m) (fun _ ix _ => S.size - (intOf ix).toNat)
  case atStart => exact ⟨w, 0, 0, rfl, Nat.zero_le _, rfl, rfl, rfl⟩
  case round =>
    obtain ⟨wr, i, m, hwr, hi, rfl, rfl, hwm⟩ := hrel
    subst hwr
    have HWM : Hid (wr = w.drewN m) := hwm
    clear hwm
    by_cases hlt : i < S.size
    · have hii : (i : Int) < (S.size : Int) := by omega
      have HG : Hid ((S[i]'hlt).toNat = (txt S).getD i 0) := get_txt S i hlt
      have HTS : Hid ((txt S).take (i + 1) = (txt S).take i ++ [(txt S).getD i 0]) := take_snoc (txt S) i (by rw [HTL.out]; exact hlt)
      have HON : Hid (S.extract i (i + 1) = strN [(txt S).getD i 0]) := one_txt S i hlt
      obtain ⟨x, hx⟩ : ∃ x, x = (txt S).getD i 0 := ⟨_, rfl⟩
      rw [← hx] at HG HTS HON
      have hxs : ((S[i]'hlt).toNat : Int) = (x : Int) := by rw [HG.out]
      have hxb : x < 256 := by rw [← HG.out]; exact (S[i]'hlt).toNat_lt
      have HPL : Hid _ := rplain_any x wr hxb
      obtain ⟨SO, hSO⟩ : ∃ A, A = strN (escN ((txt S).take i)) := ⟨_, rfl⟩
      have z3 : SO.size ≤ 844424930131968 := by
        rw [hSO, strN_size]
        have := esc_len ((txt S).take i)
        rw [List.length_take, HTL.out] at this
        omega
      rw [← hSO]
      by_cases hp : plainN x = true
      · obtain ⟨SA, hSA⟩ : ∃ A, A = S.extract i (i + 1) := ⟨_, rfl⟩
        have hsl : ∀ W, (Instr.slice 9 (.string S) (some (.int .i64 (i : Nat))) (some (.int .i64 ((i : Int) + 1))) none).run Tryd.prog W = .ok (.string SA) W := fun W => by rw [hSA]; exact str_cut S i .i64 (by omega) W
        obtain ⟨C, hC⟩ : ∃ C, SO ++ SA = C := ⟨_, rfl⟩
        have hadd := add_run (A := SO) (B := SA) (C := C) (by rw [hSA, HON.out, strN_size]; simp; omega) hC
        have HC : Hid (C = strN (escN ((txt S).take (i + 1)))) := by unfold Hid; rw [← hC, hSO, hSA, HON.out, HTS.out, esc_app, strN_append]; simp [escN, hp]
        rw [hp] at HPL
        clear hSO hSA hC hx hp z3 HTS HON
        go_wp2_with fail
        refine Calls.mono HPL.out ?_
        rintro _ w' ⟨rfl, hw⟩
        replace hw := hw.symm
        subst hw
        clear HPL
        go_wp2_with fail
        go_roundw
        case rel => exact ⟨wr, i + 1, m, rfl, by omega, by go_num, by rw [HC.out], HWM.out⟩
        case measure => simp [intOf]; omega
      · have hpf : plainN x = false := by simpa using hp
        obtain ⟨h, hh⟩ : ∃ h, h = x / 16 := ⟨_, rfl⟩
        obtain ⟨q, hq⟩ : ∃ q, q = x % 16 := ⟨_, rfl⟩
        have hhi : (x : Int) / 16 = (h : Int) := by omega
        have hqi : (x : Int) % 16 = (q : Int) := by omega
        have hhb : h < 16 := by omega
        have hqb : q < 16 := by omega
        have hS1 := hexU_slice h hhb
        have hS2 := hexU_slice q hqb
        obtain ⟨SA, hSA⟩ : ∃ A, A = strN [hexU.getD h 0] := ⟨_, rfl⟩
        obtain ⟨SB, hSB⟩ : ∃ A, A = strN [hexU.getD q 0] := ⟨_, rfl⟩
        rw [← hSA] at hS1
        rw [← hSB] at hS2
        obtain ⟨C1, hC1⟩ : ∃ C, ByteArray.mk #[37] ++ SA = C := ⟨_, rfl⟩
        obtain ⟨C2, hC2⟩ : ∃ C, C1 ++ SB = C := ⟨_, rfl⟩
        obtain ⟨C3, hC3⟩ : ∃ C, SO ++ C2 = C := ⟨_, rfl⟩
        have zA : SA.size = 1 := by rw [hSA, strN_size]; rfl
        have zB : SB.size = 1 := by rw [hSB, strN_size]; rfl
        have z1 : C1.size = 2 := by rw [← hC1, ByteArray.size_append, zA]; rfl
        have z2 : C2.size = 3 := by rw [← hC2, ByteArray.size_append, z1, zB]
        have f1 := add_run (A := ByteArray.mk #[37]) (B := SA) (C := C1) (by rw [zA]; decide) hC1
        have f2 := add_run (A := C1) (B := SB) (C := C2) (by rw [z1, zB]; decide) hC2
        have f3 := add_run (A := SO) (B := C2) (C := C3) (by rw [z2]; omega) hC3
        have HC : Hid (C3 = strN (escN ((txt S).take (i + 1)))) := by
          unfold Hid
          rw [← hC3, ← hC2, ← hC1, hSO, hSA, hSB, HTS.out, esc_app, strN_append, hh, hq]
          have e : escN [x] = [37] ++ [hexU.getD (x / 16) 0] ++ [hexU.getD (x % 16) 0] := by rw [escN, if_neg hp]; rfl
          rw [e, strN_append, strN_append]
          rfl
        rw [hpf] at HPL
        clear hSO hSA hSB hC1 hC2 hC3 hx hp hpf z3 HTS HON hh hq zA zB z1 z2
        go_wp2_with fail
        refine Calls.mono HPL.out ?_
        rintro _ w' ⟨rfl, hw⟩
        replace hw := hw.symm
        subst hw
        clear HPL
        go_wp2_with fail
        go_quiet (fail)
        go_wp2
        refine ⟨⟨_, i + 1, m + nq, rfl, by omega, by go_num, by rw [HC.out], by rw [HWM.out, drewN_more]⟩, by simp [intOf]; omega⟩
    · have hii : ¬ (i : Int) < (S.size : Int) := by omega
      have HT : Hid ((txt S).take i = txt S) := by unfold Hid; rw [show i = S.size by omega, ← HTL.out, List.take_length]
      go_wp2
      go_ret
      exact ⟨by rw [HT.out]; rfl, m, HWM.out⟩
theorem drop_cons (l : List Nat) (i : Nat) (h : i < l.length) : l.drop i = l.getD i 0 :: l.drop (i + 1) := by
  rw [List.drop_eq_getElem_cons h, List.getD_eq_getElem?_getD, List.getElem?_eq_getElem h]
  rfl
def unesc3 (y v : Nat) (r : Option (List Nat)) : Option (List Nat) := match digU y with
  | none => none
  | some a => match digU v with
    | none => none
    | some b => if plainN (a * 16 + b) then none else r.map ((a * 16 + b) :: ·)
theorem unesc_3 (x y : Nat) (r : List Nat) : unescN (37 :: x :: y :: r) = unesc3 x y (unescN r) := by
  rw [unesc_three]
  unfold unesc3
  cases digU x with
  | none => rfl
  | some a => cases digU y with
    | none => rfl
    | some b => rfl
/-- What Unescape answers. -/
def unsR (o : Option (List Nat)) : Value := match o with | some l => .tuple #[.string (strN l), .int .i64 0] | none => .tuple #[.string (strN []), .int .i64 5]
set_option maxRecDepth 100000 in
set_option maxHeartbeats 8000000 in
theorem runesc_any (S : ByteArray) (w : World) (hs : S.size ≤ 281474976710656) :
    Calls Tryd.prog 31 #[.string S] w fun e w' => e = .returned (unsR (unescN (txt S))) ∧ Below w.heap.size w w' := by
  have HTL : Hid ((txt S).length = S.size) := txt_length S
  go_enter Tryd.func31, Tryd.ntmps31
  go_wp2
  go_loopw [4, 5] (fun out ix wr => ∃ (wz : World) (i : Nat) (acc : List Nat), wz = wr ∧ i ≤ S.size ∧ ix = .int .i64 i ∧ out = .string (strN acc) ∧ acc.length ≤ i ∧ unescN (txt S) = (unescN ((txt S).drop i)).map (acc ++ ·) ∧ Below w.heap.size w wz) (fun _ ix _ => S.size - (intOf ix).toNat)
  case atStart => exact ⟨w, 0, [], rfl, Nat.zero_le _, rfl, rfl, Nat.le_refl _, by rw [List.drop_zero]; cases unescN (txt S) <;> simp, Below.refl _ _⟩
  case round =>
    obtain ⟨wr, i, acc, hwr, hi, rfl, rfl, hal, hun, hbe⟩ := hrel
    subst hwr
    have HUN : Hid (unescN (txt S) = (unescN ((txt S).drop i)).map (acc ++ ·)) := hun
    have HBE : Hid (Below w.heap.size w wr) := hbe
    have HAL : Hid (acc.length ≤ i) := hal
    clear hun hbe hal
    by_cases hlt : i < S.size
    · have hii : (i : Int) < (S.size : Int) := by omega
      have HG : Hid ((S[i]'hlt).toNat = (txt S).getD i 0) := get_txt S i hlt
      have HDC : Hid ((txt S).drop i = (txt S).getD i 0 :: (txt S).drop (i + 1)) := drop_cons _ _ (by rw [HTL.out]; exact hlt)
      have HON : Hid (S.extract i (i + 1) = strN [(txt S).getD i 0]) := one_txt S i hlt
      obtain ⟨x, hx⟩ : ∃ x, x = (txt S).getD i 0 := ⟨_, rfl⟩
      rw [← hx] at HG HDC HON
      have hxs : ((S[i]'hlt).toNat : Int) = (x : Int) := by rw [HG.out]
      have hxb : x < 256 := by rw [← HG.out]; exact (S[i]'hlt).toNat_lt
      have HPL : Hid _ := rplain_any x wr hxb
      obtain ⟨SO, hSO⟩ : ∃ A, A = strN acc := ⟨_, rfl⟩
      have z3 : SO.size ≤ 281474976710656 := by
        rw [hSO, strN_size]
        have := HAL.out
        omega
      rw [← hSO]
      have HSO : Hid (SO = strN acc) := hSO
      clear hSO hx
      by_cases hp : plainN x = true
      · obtain ⟨SA, hSA⟩ : ∃ A, A = S.extract i (i + 1) := ⟨_, rfl⟩
        have hsl : ∀ W, (Instr.slice 9 (.string S) (some (.int .i64 (i : Nat))) (some (.int .i64 ((i : Int) + 1))) none).run Tryd.prog W = .ok (.string SA) W := fun W => by rw [hSA]; exact str_cut S i .i64 (by omega) W
        obtain ⟨C, hC⟩ : ∃ C, SO ++ SA = C := ⟨_, rfl⟩
        have hadd := add_run (A := SO) (B := SA) (C := C) (by rw [hSA, HON.out, strN_size]; simp; omega) hC
        have HC : Hid (C = strN (acc ++ [x])) := by unfold Hid; rw [← hC, HSO.out, hSA, HON.out, strN_append]
        have HUN2 : Hid (unescN (txt S) = (unescN ((txt S).drop (i + 1))).map ((acc ++ [x]) ++ ·)) := by
          unfold Hid
          rw [HUN.out, HDC.out, unesc_plain _ hp]
          cases unescN ((txt S).drop (i + 1)) <;> simp
        rw [hp] at HPL
        clear hSA hC hp z3 HON HUN HDC
        go_wp2_with fail
        refine Calls.mono HPL.out ?_
        rintro _ w' ⟨rfl, hw⟩
        replace hw := hw.symm
        subst hw
        clear HPL
        go_wp2_with fail
        go_roundw
        case rel => exact ⟨wr, i + 1, acc ++ [x], rfl, by omega, by go_num, by rw [HC.out], by rw [List.length_append]; have := HAL.out; simp; omega, HUN2.out, HBE.out⟩
        case measure => simp [intOf]; omega
      · have hpf : plainN x = false := by simpa using hp
        rw [hpf] at HPL
        by_cases hgood : x = 37 ∧ i + 2 < S.size
        · obtain ⟨h37, hi2⟩ := hgood
          have h37b : ((x : Int) != 37) = false := by rw [h37]; rfl
          have hi2i : ¬ (S.size : Int) ≤ (i : Int) + 2 := by omega
          have hi1 : i + 1 < S.size := by omega
          have hi1i : (i : Int) + 1 < (S.size : Int) := by omega
          have hi2j : (i : Int) + 2 < (S.size : Int) := by omega
          have hn1 : ((i : Int) + 1).toNat = i + 1 := by omega
          have hn2 : ((i : Int) + 2).toNat = i + 2 := by omega
          have hw1 : IntKind.i64.wrap ((i : Int) + 1) = (i : Int) + 1 := by rw [IntKind.wrap_i64]; omega
          have hw2 : IntKind.i64.wrap ((i : Int) + 2) = (i : Int) + 2 := by rw [IntKind.wrap_i64]; omega
          have hz1 : (0 : Int) ≤ (i : Int) + 1 := by omega
          have hz2 : (0 : Int) ≤ (i : Int) + 2 := by omega
          have HG1 : Hid ((S[i + 1]'hi1).toNat = (txt S).getD (i + 1) 0) := get_txt S (i + 1) hi1
          have HG2 : Hid ((S[i + 2]'hi2).toNat = (txt S).getD (i + 2) 0) := get_txt S (i + 2) hi2
          have HD3 : Hid ((txt S).drop i = 37 :: (txt S).getD (i + 1) 0 :: (txt S).getD (i + 2) 0 :: (txt S).drop (i + 3)) := by
            unfold Hid
            rw [HDC.out, h37, drop_cons (txt S) (i + 1) (by rw [HTL.out]; exact hi1), drop_cons (txt S) (i + 1 + 1) (by rw [HTL.out]; exact hi2)]
          obtain ⟨y, hy⟩ : ∃ y, y = (txt S).getD (i + 1) 0 := ⟨_, rfl⟩
          obtain ⟨v, hv⟩ : ∃ v, v = (txt S).getD (i + 2) 0 := ⟨_, rfl⟩
          rw [← hy] at HG1 HD3
          rw [← hv] at HG2 HD3
          have hys : ((S[i + 1]'hi1).toNat : Int) = (y : Int) := by rw [HG1.out]
          have hvs : ((S[i + 2]'hi2).toNat : Int) = (v : Int) := by rw [HG2.out]
          have hyb : y < 256 := by rw [← HG1.out]; exact (S[i + 1]'hi1).toNat_lt
          have hvb : v < 256 := by rw [← HG2.out]; exact (S[i + 2]'hi2).toNat_lt
          have HUN3 : Hid (unescN (txt S) = (unesc3 y v (unescN ((txt S).drop (i + 3)))).map (acc ++ ·)) := by unfold Hid; rw [HUN.out, HD3.out, unesc_3]
          have HY : Hid (∀ W, Calls Tryd.prog 45 #[.int .u8 (y : Nat)] W fun e w' => e = .returned (.int .i64 (digZ (digU y))) ∧ w' = W) := fun W => rdigit_any y W hyb
          have HV : Hid (∀ W, Calls Tryd.prog 45 #[.int .u8 (v : Nat)] W fun e w' => e = .returned (.int .i64 (digZ (digU v))) ∧ w' = W) := fun W => rdigit_any v W hvb
          clear hy hv h37 HUN HDC HD3 hp hpf HON
          cases hdy : digU y with
          | none =>
            rw [hdy] at HY
            have HR : Hid (unescN (txt S) = none) := by unfold Hid; rw [HUN3.out]; unfold unesc3; rw [hdy]; rfl
            rw [show digZ none = -1 from rfl] at HY
            clear HUN3 hdy HV
            go_wp2_with fail
            refine Calls.mono HPL.out ?_
            rintro _ w' ⟨rfl, hw⟩
            replace hw := hw.symm
            subst hw
            clear HPL
            go_wp2_with fail
            refine Calls.mono (HY.out wr) ?_
            rintro _ w' ⟨rfl, hw⟩
            replace hw := hw.symm
            subst hw
            clear HY
            go_wp2_with fail
            go_ret2
            exact ⟨by rw [HR.out]; rfl, HBE.out⟩
          | some a =>
            have hzy : digZ (digU y) = (a : Int) := by rw [hdy]; rfl
            rw [hdy] at HY
            rw [show digZ (some a) = (a : Int) from rfl] at HY
            have hab : a < 16 := (hex_dig hdy).1
            have ha0 : ¬ (a : Int) < 0 := by omega
            cases hdv : digU v with
            | none =>
              rw [hdv] at HV
              have HR : Hid (unescN (txt S) = none) := by unfold Hid; rw [HUN3.out]; unfold unesc3; rw [hdy]; simp only []; rw [hdv]; rfl
              rw [show digZ none = -1 from rfl] at HV
              clear HUN3 hdv hdy hzy
              go_wp2_with fail
              refine Calls.mono HPL.out ?_
              rintro _ w' ⟨rfl, hw⟩
              replace hw := hw.symm
              subst hw
              clear HPL
              go_wp2_with fail
              refine Calls.mono (HY.out wr) ?_
              rintro _ w' ⟨rfl, hw⟩
              replace hw := hw.symm
              subst hw
              clear HY
              go_wp2_with fail
              refine Calls.mono (HV.out wr) ?_
              rintro _ w' ⟨rfl, hw⟩
              replace hw := hw.symm
              subst hw
              clear HV
              go_wp2_with fail
              go_ret2
              exact ⟨by rw [HR.out]; rfl, HBE.out⟩
            | some b =>
              have hzv : digZ (digU v) = (b : Int) := by rw [hdv]; rfl
              have HUC : Hid (unescN (txt S) = (if plainN (a * 16 + b) then none else (unescN ((txt S).drop (i + 3))).map ((a * 16 + b) :: ·)).map (acc ++ ·)) := by unfold Hid; rw [HUN3.out]; unfold unesc3; rw [hdy]; simp only []; rw [hdv]
              rw [hdv] at HV
              rw [show digZ (some b) = (b : Int) from rfl] at HV
              have hbb : b < 16 := (hex_dig hdv).1
              have hb0 : ¬ (b : Int) < 0 := by omega
              obtain ⟨c, hc⟩ : ∃ c, c = a * 16 + b := ⟨_, rfl⟩
              have hci : (a : Int) * 16 + (b : Int) = (c : Int) := by omega
              have hcb : c < 256 := by omega
              rw [← hc] at HUC
              clear hc hdv hdy HUN3
              have HDG : Hid (∀ (b : Nat) (W : World), b < 256 → Calls Tryd.prog 45 #[.int .u8 (b : Nat)] W fun e w' => e = .returned (.int .i64 (digZ (digU b))) ∧ w' = W) := fun b W hb => rdigit_any b W hb
              have HPC : Hid (∀ W, Calls Tryd.prog 42 #[.int .u8 (c : Nat)] W fun e w' => e = .returned (.bool (plainN c)) ∧ w' = W) := fun W => rplain_any c W hcb
              go_wp2_with fail
              refine Calls.mono HPL.out ?_
              rintro _ w' ⟨rfl, hw⟩
              replace hw := hw.symm
              subst hw
              clear HPL
              go_wp2_with fail
              refine Calls.mono (HY.out wr) ?_
              rintro _ w' ⟨rfl, hw⟩
              replace hw := hw.symm
              subst hw
              go_wp2_with fail
              refine Calls.mono (HV.out wr) ?_
              rintro _ w' ⟨rfl, hw⟩
              replace hw := hw.symm
              subst hw
              clear HY HV
              go_wp2_with fail
              go_quiet ((go_at_call 45; exact Calls.quiet_of_same (HDG.out _ _ (by assumption))))
              replace HBE : Hid (Below w.heap.size w (wr.drewN nq)) := below_drew HBE.out nq
              generalize wr.drewN nq = wd at *
              clear HDG hzy hzv
              by_cases hpc : plainN c = true
              · have HR : Hid (unescN (txt S) = none) := by unfold Hid; rw [HUC.out, if_pos hpc]; rfl
                rw [hpc] at HPC
                clear hpc HUC
                go_wp2_with fail
                refine Calls.mono (HPC.out wd) ?_
                rintro _ w' ⟨rfl, hw⟩
                replace hw := hw.symm
                subst hw
                clear HPC
                go_wp2_with fail
                go_ret2
                exact ⟨by rw [HR.out]; rfl, HBE.out⟩
              · have hpcf : plainN c = false := by simpa using hpc
                have HUN4 : Hid (unescN (txt S) = (unescN ((txt S).drop (i + 3))).map ((acc ++ [c]) ++ ·)) := by
                  unfold Hid
                  rw [HUC.out, if_neg hpc]
                  cases unescN ((txt S).drop (i + 3)) <;> simp
                rw [hpcf] at HPC
                have hcv : Sem.run Tryd.prog (convert 56 9 (Value.slice (some ⟨wd.heap.size, 0, none⟩) 1 1)) (wd.alloc (.cells #[.int .u8 (c : Int)] 5)) = .ok (.string (strN [c])) (wd.alloc (.cells #[.int .u8 (c : Int)] 5)) := conv_row (Blk.new wd 5 .u8 [c]).row 1
                obtain ⟨SB, hSB⟩ : ∃ B, B = strN [c] := ⟨_, rfl⟩
                obtain ⟨C, hC⟩ : ∃ C, SO ++ SB = C := ⟨_, rfl⟩
                have hadd := add_run (A := SO) (B := SB) (C := C) (by rw [hSB, strN_size]; simp; omega) hC
                have HC : Hid (C = strN (acc ++ [c])) := by unfold Hid; rw [← hC, HSO.out, hSB, strN_append]
                rw [← hSB] at hcv
                have HB2 : Hid (Below w.heap.size w (wd.alloc (.cells #[.int .u8 (c : Int)] 5))) := HBE.out.alloc HBE.out.size _
                clear hpc hpcf HUC hSB hC
                go_wp2_with fail
                refine Calls.mono (HPC.out wd) ?_
                rintro _ w' ⟨rfl, hw⟩
                replace hw := hw.symm
                subst hw
                clear HPC
                go_wp2_with fail
                go_roundw
                case rel => exact ⟨_, i + 3, acc ++ [c], rfl, by omega, by go_num, by rw [HC.out], by rw [List.length_append]; have := HAL.out; simp; omega, HUN4.out, HB2.out⟩
                case measure => simp [intOf]; omega
        · have HR : Hid (unescN (txt S) = none) := by
            unfold Hid
            rw [HUN.out, HDC.out, unesc_other _ hp (by rw [List.length_drop, HTL.out]; omega)]
            rfl
          clear HUN HDC hp hpf HON
          by_cases h37 : x = 37
          · have h37b : ((x : Int) != 37) = false := by rw [h37]; rfl
            have hi2i : (S.size : Int) ≤ (i : Int) + 2 := by omega
            clear hgood h37
            go_wp2_with fail
            refine Calls.mono HPL.out ?_
            rintro _ w' ⟨rfl, hw⟩
            replace hw := hw.symm
            subst hw
            clear HPL
            go_wp2_with fail
            go_ret2
            exact ⟨by rw [HR.out]; rfl, HBE.out⟩
          · have h37b : ((x : Int) != 37) = true := by rw [bne_iff_ne]; omega
            clear hgood h37
            go_wp2_with fail
            refine Calls.mono HPL.out ?_
            rintro _ w' ⟨rfl, hw⟩
            replace hw := hw.symm
            subst hw
            clear HPL
            go_wp2_with fail
            go_ret2
            exact ⟨by rw [HR.out]; rfl, HBE.out⟩
    · have hii : ¬ (i : Int) < (S.size : Int) := by omega
      have HR : Hid (unescN (txt S) = some acc) := by
        unfold Hid
        rw [HUN.out, show i = S.size by omega, ← HTL.out, List.drop_length]
        simp [unescN]
      go_wp2
      go_ret2
      exact ⟨by rw [HR.out]; rfl, HBE.out⟩
end Go.Proofs.YtbfgkogmojnilaaDoor
