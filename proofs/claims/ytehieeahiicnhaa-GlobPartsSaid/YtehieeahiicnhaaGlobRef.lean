/-
  The document's small functions of layer 7: Quote; pieces of a pattern in memory; Sound, Least, Plain.
-/
import Derived.Test.YtehieeahiicnhaaGlobMath
import Derived.Test.YtehieeahiicnhaaTexts
import Derived.Laws.AppendOwn
namespace Go.Proofs.Ytehieeahiicnhaa
open Go.ChangeShapes Go.WideShapes Go.ChangeAt Go.RowKit
set_option linter.unusedVariables false
set_option linter.unusedSimpArgs false
theorem txt_extract (S : ByteArray) (i j : Nat) : txt (S.extract i j) = ((txt S).take j).drop i := by
  unfold txt
  rw [ByteArray.data_extract, Array.toList_extract, List.extract_eq_take_drop, List.map_take, List.map_drop, List.drop_take]
theorem txt_inj {s t : ByteArray} (h : txt s = txt t) : s = t := by rw [← strN_txt s, h, strN_txt]
theorem str_cut (s : ByteArray) (k : Nat) (kd : IntKind) (h : k + 1 ≤ s.size) (W : World) : (Instr.slice 9 (.string s) (some (.int kd (k : Nat))) (some (.int kd ((k : Int) + 1))) none).run Try.prog W = .ok (.string (s.extract k (k + 1))) W := by
  rw [run_slice_string W _ s kd kd (k : Nat) ((k : Int) + 1) Try.underlying9 (by omega) (by omega) (by omega), Int.toNat_natCast, show ((k : Int) + 1).toNat = k + 1 by omega]
theorem one_txt (S : ByteArray) (i : Nat) (h : i < S.size) : S.extract i (i + 1) = strN [(txt S).getD i 0] := by
  apply txt_inj
  rw [txt_extract, txt_strN _ (by
    intro c hc
    rw [List.mem_singleton] at hc
    rw [hc, ← get_txt S i h]
    exact (S[i]'h).toNat_lt), take_snoc (txt S) i (by rw [txt_length]; exact h)]
  have e : ((txt S).take i).length = i := by rw [List.length_take, txt_length]; omega
  rw [List.drop_left' e]
theorem add_run {A B C : ByteArray} (h : A.size + B.size ≤ 9223372036854775807) (hC : A ++ B = C) : ∀ W, (Op.stringOp .add A B).run Try.prog W = .ok (.string C) W := fun W => by
  rw [run_string_add_sum W _ _ h, hC]
theorem drop_cons (l : List Nat) (i : Nat) (h : i < l.length) : l.drop i = l.getD i 0 :: l.drop (i + 1) := by
  rw [List.drop_eq_getElem_cons h, List.getD_eq_getElem?_getD, List.getElem?_eq_getElem h]
  rfl
theorem quote_snoc (l : List Nat) (x : Nat) : quoteN (l ++ [x]) = quoteN l ++ (if x = 42 ∨ x = 63 ∨ x = 92 then [92, x] else [x]) := by
  rw [quote_app]
  congr 1
set_option maxHeartbeats 4000000 in
theorem rquote_any (S : ByteArray) (w : World) (hs : S.size ≤ 281474976710656) :
    Calls Try.prog 18 #[.string S] w fun e w' => e = .returned (.string (strN (quoteN (txt S)))) ∧ w' = w := by
  have HTL : Hid ((txt S).length = S.size) := txt_length S
  go_enter Try.func18, Try.ntmps18
  go_wp2
  go_loop [3, 4] (fun out ix => ∃ i : Nat, i ≤ S.size ∧ ix = .int .i64 i ∧ out = .string (strN (quoteN ((txt S).take i)))) (fun _ ix => S.size - (intOf ix).toNat)
  case atStart => exact ⟨0, Nat.zero_le _, rfl, rfl⟩
  case round =>
    obtain ⟨i, hi, rfl, rfl⟩ := hrel
    by_cases hlt : i < S.size
    · have hii : (i : Int) < (S.size : Int) := by omega
      have HG : Hid ((S[i]'hlt).toNat = (txt S).getD i 0) := get_txt S i hlt
      have HTS : Hid ((txt S).take (i + 1) = (txt S).take i ++ [(txt S).getD i 0]) := take_snoc (txt S) i (by rw [HTL.out]; exact hlt)
      have HON : Hid (S.extract i (i + 1) = strN [(txt S).getD i 0]) := one_txt S i hlt
      obtain ⟨x, hx⟩ : ∃ x, x = (txt S).getD i 0 := ⟨_, rfl⟩
      rw [← hx] at HG HTS HON
      have hxs : ((S[i]'hlt).toNat : Int) = (x : Int) := by rw [HG.out]
      have hxb : x < 256 := by rw [← HG.out]; exact (S[i]'hlt).toNat_lt
      obtain ⟨SO, hSO⟩ : ∃ A, A = strN (quoteN ((txt S).take i)) := ⟨_, rfl⟩
      have z3 : SO.size ≤ 562949953421312 := by
        have := quote_len ((txt S).take i)
        rw [hSO, strN_size]
        rw [List.length_take] at this
        omega
      rw [← hSO]
      have HSO : Hid (SO = strN (quoteN ((txt S).take i))) := hSO
      clear hSO hx
      obtain ⟨SA, hSA⟩ : ∃ A, A = S.extract i (i + 1) := ⟨_, rfl⟩
      have hsl : ∀ W, (Instr.slice 9 (.string S) (some (.int .i64 (i : Nat))) (some (.int .i64 ((i : Int) + 1))) none).run Try.prog W = .ok (.string SA) W := fun W => by rw [hSA]; exact str_cut S i .i64 (by omega) W
      have hSAs : SA.size ≤ 1 := by rw [hSA, HON.out, strN_size]; simp
      by_cases hq : x = 42 ∨ x = 63 ∨ x = 92
      · obtain ⟨B, hB⟩ : ∃ B, SO ++ ByteArray.mk #[92] = B := ⟨_, rfl⟩
        have hB1 : (ByteArray.mk #[92]).size = 1 := rfl
        have hadd1 := add_run (A := SO) (B := ByteArray.mk #[92]) (C := B) (by rw [hB1]; omega) hB
        have hBs : B.size ≤ 562949953421313 := by rw [← hB, ByteArray.size_append, hB1]; omega
        obtain ⟨C, hC⟩ : ∃ C, B ++ SA = C := ⟨_, rfl⟩
        have hadd2 := add_run (A := B) (B := SA) (C := C) (by omega) hC
        have HC : Hid (C = strN (quoteN ((txt S).take (i + 1)))) := by
          unfold Hid
          rw [← hC, ← hB, HSO.out, hSA, HON.out, HTS.out, quote_snoc, if_pos hq, show [92, x] = [92] ++ [x] from rfl, ← List.append_assoc, strN_append, strN_append]
          rfl
        clear hSA hB hC HON HSO HTS z3 hBs
        rcases hq with hq | hq | hq
        · have c1 : ((x : Int) == 42) = true := by rw [hq]; rfl
          clear hq
          go_wp2
          go_round
          case rel => exact ⟨i + 1, by omega, by go_num, by rw [HC.out]⟩
          case measure => simp [intOf]; omega
        · have c1 : ((x : Int) == 42) = false := by rw [hq]; rfl
          have c2 : ((x : Int) == 63) = true := by rw [hq]; rfl
          clear hq
          go_wp2
          go_round
          case rel => exact ⟨i + 1, by omega, by go_num, by rw [HC.out]⟩
          case measure => simp [intOf]; omega
        · have c1 : ((x : Int) == 42) = false := by rw [hq]; rfl
          have c2 : ((x : Int) == 63) = false := by rw [hq]; rfl
          have c3 : ((x : Int) == 92) = true := by rw [hq]; rfl
          clear hq
          go_wp2
          go_round
          case rel => exact ⟨i + 1, by omega, by go_num, by rw [HC.out]⟩
          case measure => simp [intOf]; omega
      · have c1 : ((x : Int) == 42) = false := by rw [beq_eq_false_iff_ne]; omega
        have c2 : ((x : Int) == 63) = false := by rw [beq_eq_false_iff_ne]; omega
        have c3 : ((x : Int) == 92) = false := by rw [beq_eq_false_iff_ne]; omega
        obtain ⟨C, hC⟩ : ∃ C, SO ++ SA = C := ⟨_, rfl⟩
        have hadd2 := add_run (A := SO) (B := SA) (C := C) (by omega) hC
        have HC : Hid (C = strN (quoteN ((txt S).take (i + 1)))) := by
          unfold Hid
          rw [← hC, HSO.out, hSA, HON.out, HTS.out, quote_snoc, if_neg hq, strN_append]
        clear hSA hC HON HSO HTS z3 hq
        go_wp2
        go_round
        case rel => exact ⟨i + 1, by omega, by go_num, by rw [HC.out]⟩
        case measure => simp [intOf]; omega
    · have hii : ¬ (i : Int) < (S.size : Int) := by omega
      have HT : Hid ((txt S).take i = txt S) := by unfold Hid; rw [show i = S.size by omega, ← HTL.out, List.take_length]
      go_wp2
      go_ret
      exact ⟨by rw [HT.out]; rfl, rfl⟩
end Go.Proofs.Ytehieeahiicnhaa
