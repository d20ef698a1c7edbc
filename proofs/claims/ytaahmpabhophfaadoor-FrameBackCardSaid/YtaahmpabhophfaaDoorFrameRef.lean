/-
  The document's First.
-/
import Derived.Test.YtaahmpabhophfaaDoorFrameFirst2
namespace Go.Proofs.YtaahmpabhophfaaDoor
open Go.ChangeShapes Go.WideShapes Go.ChangeAt Go.RowKit
set_option linter.unusedVariables false
set_option linter.unusedSimpArgs false
theorem take_parts (xs : List Nat) (n : Nat) : xs.take (8 + n) = xs.take 4 ++ ((xs.drop 4).take 4 ++ (xs.drop 8).take n) := by
  rw [show 8 + n = 4 + (4 + n) by omega, List.take_add, List.take_add, List.drop_drop]
theorem frame_same (xs : List Nat) (hb : ∀ c ∈ xs, c < 256) (n : Nat) (h : 8 + n ≤ xs.length) (hn : val4 (xs.take 4) = n) :
    frN crcN ((xs.drop 8).take n) = xs.take (8 + n) ↔ be4 (crcN ((xs.drop 8).take n)) = (xs.drop 4).take 4 := by
  have hl : ((xs.drop 8).take n).length = n := by rw [List.length_take, List.length_drop]; omega
  have h4 : be4 n = xs.take 4 := by rw [← hn]; exact be4_val _ (by rw [List.length_take]; omega) (fun c hc => hb c (List.mem_of_mem_take hc))
  rw [take_parts]
  unfold frN
  rw [hl, h4]
  constructor
  · intro e
    have e2 := List.append_cancel_left e
    exact List.append_inj_left e2 (by rw [be4_len, List.length_take, List.length_drop]; omega)
  · intro e
    rw [e]
theorem txt_extract (S : ByteArray) (i j : Nat) : txt (S.extract i j) = ((txt S).take j).drop i := by
  unfold txt
  rw [ByteArray.data_extract, Array.toList_extract]
  simp [List.map_drop, List.map_take, List.extract_eq_take_drop, List.drop_take]
theorem str_part (s : ByteArray) (i n : Nat) (hn : i + n ≤ s.size) : s.extract i (i + n) = strN (((txt s).drop i).take n) := by
  rw [← strN_txt (s.extract i (i + n)), txt_extract, List.drop_take]
  congr 2
  omega
theorem rfirst_any (s : ByteArray) (w : World) (hs : s.size ≤ 9223372036854775807) :
    Calls Tryd.prog 11 #[.string s] w fun e w' => e = .returned (.tuple #[.string (strN (firstN crcN (txt s)).1), .int .i64 ((firstN crcN (txt s)).2.1 : Nat), .int .i64 ((firstN crcN (txt s)).2.2 : Nat)]) ∧ Below w.heap.size w w' := by
  have hl := txt_length s
  by_cases h8 : s.size < 8
  · have i8 : (s.size : Int) < 8 := by omega
    have HF : Hid (firstN crcN (txt s) = ([], 0, 3)) := by unfold Hid firstN; rw [if_pos (by omega)]
    go_enter Tryd.func11, Tryd.ntmps11
    go_wp2
    go_ret3
    rw [HF.out]
    exact ⟨rfl, Below.refl _ _⟩
  · have i8 : ¬ (s.size : Int) < 8 := by omega
    have h0 : 0 < s.size := by omega
    have h1 : 1 < s.size := by omega
    have h2 : 2 < s.size := by omega
    have h3 : 3 < s.size := by omega
    have g0 := get_txt s 0 h0
    have g1 := get_txt s 1 h1
    have g2 := get_txt s 2 h2
    have g3 := get_txt s 3 h3
    have b0 := getD_lt (txt s) (txt_lt s) 0
    have b1 := getD_lt (txt s) (txt_lt s) 1
    have b2 := getD_lt (txt s) (txt_lt s) 2
    have b3 := getD_lt (txt s) (txt_lt s) 3
    have HV : Hid (val4 ((txt s).take 4) = (((txt s).getD 0 0 * 256 + (txt s).getD 1 0) * 256 + (txt s).getD 2 0) * 256 + (txt s).getD 3 0) := by
      unfold Hid val4
      simp [List.getD]
    generalize (txt s).getD 0 0 = c0 at *
    generalize (txt s).getD 1 0 = c1 at *
    generalize (txt s).getD 2 0 = c2 at *
    generalize (txt s).getD 3 0 = c3 at *
    go_enter Tryd.func11, Tryd.ntmps11
    go_wp2
    go_region
    obtain ⟨n, hnn⟩ : ∃ n : Nat, n = ((c0 * 256 + c1) * 256 + c2) * 256 + c3 := ⟨_, rfl⟩
    have hni : ((((c0 : Int) * 256 + c1) * 256 + c2) * 256 + c3) = (n : Int) := by omega
    have hn32 : n < 4294967296 := by omega
    rw [hni]
    rw [← hnn] at HV
    clear g0 g1 g2 g3 b0 b1 b2 b3 hni hnn h0 h1 h2 h3
    have HB0 : Hid (Below w.heap.size w w.drew) := (Below.refl _ _).drew
    by_cases hbig : 16384 < n
    · have ib : (16384 : Int) < (n : Int) := by omega
      have HF : Hid (firstN crcN (txt s) = ([], 0, 2)) := by unfold Hid firstN; rw [if_neg (by omega), HV.out, if_pos hbig]
      go_wp2
      go_ret3
      rw [HF.out]
      exact ⟨rfl, HB0.out⟩
    · have ib : ¬ (16384 : Int) < (n : Int) := by omega
      by_cases hsh : s.size - 8 < n
      · have is : (s.size : Int) - 8 < (n : Int) := by omega
        have HF : Hid (firstN crcN (txt s) = ([], 0, 3)) := by unfold Hid firstN; rw [if_neg (by omega), HV.out, if_neg hbig, if_pos (by omega)]
        go_wp2
        go_ret3
        rw [HF.out]
        exact ⟨rfl, HB0.out⟩
      · have is : ¬ (s.size : Int) - 8 < (n : Int) := by omega
        obtain ⟨ys, hys⟩ : ∃ ys, ys = ((txt s).drop 8).take n := ⟨_, rfl⟩
        have hyl : ys.length = n := by rw [hys, List.length_take, List.length_drop]; omega
        have HYB : Hid (∀ c ∈ ys, c < 256) := by rw [hys]; exact drop_take_byt _ (txt_lt s) 8 n
        obtain ⟨t1, ht1⟩ : ∃ t1, t1 = strN ys := ⟨_, rfl⟩
        obtain ⟨t2, ht2⟩ : ∃ t2, t2 = strN ((txt s).take (8 + n)) := ⟨_, rfl⟩
        have hcut : ∀ W, (Instr.slice 9 (.string s) (some (.int .i64 8)) (some (.int .i64 (8 + (n : Int)))) none).run Tryd.prog W = .ok (.string t1) W := fun W => by
          rw [run_slice_string W _ s .i64 .i64 8 (8 + (n : Int)) Tryd.underlying9 (by omega) (by omega) (by omega), ht1, hys, ← str_part s 8 n (by omega)]
          rw [show (8 + (n : Int)).toNat = 8 + n by omega]; rfl
        have hto : ∀ W, (Instr.slice 9 (.string s) none (some (.int .i64 (8 + (n : Int)))) none).run Tryd.prog W = .ok (.string t2) W := fun W => by
          rw [run_slice_string_h W _ s Tryd.underlying9 .i64 (8 + (n : Int)) (by omega) (by omega), ht2, show (8 + (n : Int)).toNat = 8 + n by omega]
          have := str_part s 0 (8 + n) (by omega)
          rw [Nat.zero_add, List.drop_zero] at this
          rw [this]
        have HT1 : Hid (txt t1 = ys ∧ t1.size = n) := by rw [ht1]; exact ⟨txt_strN ys HYB.out, by rw [strN_size]; exact hyl⟩
        have HT2 : Hid (txt t2 = (txt s).take (8 + n)) := by rw [ht2]; exact txt_strN _ (fun c hc => txt_lt s c (List.mem_of_mem_take hc))
        have HF : Hid (firstN crcN (txt s) = if be4 (crcN ys) = ((txt s).drop 4).take 4 then (ys, 8 + n, 0) else ([], 0, 2)) := by
          unfold Hid firstN
          rw [if_neg (by omega), HV.out, if_neg hbig, if_neg (by omega), ← hys]
        have HS : Hid (frN crcN ys = (txt s).take (8 + n) ↔ be4 (crcN ys) = ((txt s).drop 4).take 4) := by rw [hys]; exact frame_same (txt s) (txt_lt s) n (by omega) HV.out
        have HPN : Hid (putN ys = (frN crcN ys, 0)) := by unfold Hid putN; rw [if_neg (by omega)]
        have HT1S : Hid (t1 = strN ys) := ht1
        have HPUT : Hid _ := rput_any t1 w.drew (by rw [HT1.out.2]; omega)
        rw [HT1.out.1, HPN.out] at HPUT
        clear ht1 ht2 hys
        go_wp2_with fail
        refine Calls.mono HPUT.out ?_
        rintro e w1 ⟨rfl, hb1⟩
        have HB1 : Hid (Below w.heap.size w w1) := HB0.out.trans hb1
        clear hb1
        by_cases hd : be4 (crcN ys) = ((txt s).drop 4).take 4
        · rw [if_pos hd] at HF
          have hsm : ((strN (frN crcN ys)).toList == t2.toList) = true := by
            rw [str_eq, txt_strN _ (frN_byt ys HYB.out), HT2.out, decide_eq_true (HS.out.2 hd)]
          clear hd
          generalize strN (frN crcN ys) = t3 at *
          go_wp2_with fail
          go_ret3
          rw [HF.out, ← HT1S.out]
          exact ⟨by rfl, HB1.out⟩
        · rw [if_neg hd] at HF
          have hsm : ((strN (frN crcN ys)).toList == t2.toList) = false := by
            rw [str_eq, txt_strN _ (frN_byt ys HYB.out), HT2.out, decide_eq_false (fun h => hd (HS.out.1 h))]
          clear hd
          generalize strN (frN crcN ys) = t3 at *
          go_wp2_with fail
          go_ret3
          rw [HF.out]
          exact ⟨by rfl, HB1.out⟩
end Go.Proofs.YtaahmpabhophfaaDoor
