/-
  The program's Quote.
-/
import Derived.Test.YtehieeahiicnhaaGlobPLeast
namespace Go.Proofs.Ytehieeahiicnhaa
open Go.ChangeShapes Go.WideShapes Go.ChangeAt Go.RowKit
set_option linter.unusedVariables false
set_option linter.unusedSimpArgs false
theorem own_any {w : World} {base : Nat} {v : Value} {xs : List Nat} (h : OwnL 5 .u8 w base v xs) :
    ∃ a c, v = .slice a xs.length c ∧ Sem.run Try.prog (convert 46 9 (Value.slice a xs.length c)) w = .ok (.string (strN xs)) w := by
  obtain ⟨a, cap, hv, hr, -, -⟩ := h.row
  refine ⟨a, cap, hv, conv_any hr ?_ cap⟩
  intro ha
  subst ha
  rcases hr.2 with h0 | ⟨b, off, e, _⟩
  · exact h0
  · cases e
set_option maxHeartbeats 4000000 in
theorem gquote_any (S : ByteArray) (w : World) (hs : S.size ≤ 70368744177664) :
    Calls Try.prog 17 #[.string S] w fun e w' => e = .returned (.string (strN (quoteN (txt S)))) ∧ Below w.heap.size w w' := by
  have HTL : Hid ((txt S).length = S.size) := txt_length S
  go_enter Try.func17, Try.ntmps17
  go_wp2_with (refine make_num numB8 w rfl _ _ rfl .i64 .i64 (S.size : Int) S.size rfl rfl rfl (by omega) (by unfold maxLen; omega) ?_; intro w0 hown0 hb0)
  have HO0 : Hid (OwnL 5 .u8 w0 w.heap.size (.slice (some ⟨w.heap.size, 0, none⟩) 0 S.size) []) := hown0
  have HB0 : Hid (Below w.heap.size w w0) := hb0
  clear hown0 hb0
  go_loopw [3, 10] (fun ov ix wr => ∃ (wz : World) (i : Nat) (v0 : Value), wz = wr ∧ ov = v0 ∧ ix = .int .i64 i ∧ i ≤ S.size ∧ OwnL 5 .u8 wz w.heap.size v0 (quoteN ((txt S).take i)) ∧ Below w.heap.size w wz) (fun _ ix _ => S.size - (intOf ix).toNat)
  case atStart => exact ⟨_, 0, _, rfl, rfl, rfl, Nat.zero_le _, HO0.out, HB0.out⟩
  case round =>
    clear HO0 HB0
    obtain ⟨wr, i, ov, hwr, hov, rfl, hi, hown, hbe⟩ := hrel
    subst hwr
    replace hov := hov.symm
    subst hov
    have HBE : Hid (Below w.heap.size w wr) := hbe
    have HOWN : Hid (OwnL 5 .u8 wr w.heap.size ov (quoteN ((txt S).take i))) := hown
    have hsz := hbe.size
    clear hbe hown
    by_cases hlt : i < S.size
    · have hii : (i : Int) < (S.size : Int) := by omega
      have HG : Hid ((S[i]'hlt).toNat = (txt S).getD i 0) := get_txt S i hlt
      have HTS : Hid ((txt S).take (i + 1) = (txt S).take i ++ [(txt S).getD i 0]) := take_snoc (txt S) i (by rw [HTL.out]; exact hlt)
      obtain ⟨x, hx⟩ : ∃ x, x = (txt S).getD i 0 := ⟨_, rfl⟩
      rw [← hx] at HG HTS
      have hxs : ((S[i]'hlt).toNat : Int) = (x : Int) := by rw [HG.out]
      have hxb : x < 256 := by rw [← HG.out]; exact (S[i]'hlt).toNat_lt
      have HL : Hid ((quoteN ((txt S).take i)).length ≤ 2 * i) := by
        unfold Hid
        have := quote_len ((txt S).take i)
        rw [List.length_take] at this
        omega
      obtain ⟨acc, hacc⟩ : ∃ acc, acc = quoteN ((txt S).take i) := ⟨_, rfl⟩
      have HQ : Hid (quoteN ((txt S).take (i + 1)) = acc ++ (if x = 42 ∨ x = 63 ∨ x = 92 then [92, x] else [x])) := by unfold Hid; rw [HTS.out, quote_snoc, hacc]
      rw [← hacc] at HOWN HL
      clear hx hacc HTS
      by_cases hq : x = 42 ∨ x = 63 ∨ x = 92
      · have HQ2 : Hid (quoteN ((txt S).take (i + 1)) = (acc ++ [92]) ++ [x]) := by unfold Hid; rw [HQ.out, if_pos hq, List.append_assoc]; rfl
        clear HQ
        rcases hq with hq | hq | hq
        · have c1 : ((x : Int) == 42) = true := by rw [hq]; rfl
          clear hq
          go_wp2_with (at_builtin; first
            | (refine append_num numB8 wr rfl _ _ rfl w.heap.size ov acc rfl HOWN.out 92 (.int .u8 92) rfl wr.heap.size rfl rfl (by have := HL.out; omega) (by have := HL.out; unfold maxLen; omega) hsz ?_; intro v5 w5 hown5 hb5; have hsz5 := Nat.le_trans hsz hb5.size; have HOWN5 : Hid (OwnL 5 .u8 w5 w.heap.size v5 (acc ++ [92])) := hown5; have HBE5 : Hid (Below w.heap.size w w5) := HBE.out.trans hb5; clear hown5 hb5)
            | (refine append_num numB8 w5 rfl _ _ rfl w.heap.size v5 (acc ++ [92]) rfl HOWN5.out x (.int .u8 (x : Nat)) rfl w5.heap.size rfl rfl (by have := HL.out; rw [List.length_append]; simp; omega) (by have := HL.out; rw [List.length_append]; unfold maxLen; simp; omega) hsz5 ?_; intro v6 w6 hown6 hb6))
          go_roundw
          case rel => exact ⟨w6, i + 1, v6, rfl, rfl, by go_num, by omega, by rw [HQ2.out]; exact hown6, HBE5.out.trans hb6⟩
          case measure => simp [intOf]; omega
        · have c1 : ((x : Int) == 42) = false := by rw [hq]; rfl
          have c2 : ((x : Int) == 63) = true := by rw [hq]; rfl
          clear hq
          go_wp2_with (at_builtin; first
            | (refine append_num numB8 wr rfl _ _ rfl w.heap.size ov acc rfl HOWN.out 92 (.int .u8 92) rfl wr.heap.size rfl rfl (by have := HL.out; omega) (by have := HL.out; unfold maxLen; omega) hsz ?_; intro v5 w5 hown5 hb5; have hsz5 := Nat.le_trans hsz hb5.size; have HOWN5 : Hid (OwnL 5 .u8 w5 w.heap.size v5 (acc ++ [92])) := hown5; have HBE5 : Hid (Below w.heap.size w w5) := HBE.out.trans hb5; clear hown5 hb5)
            | (refine append_num numB8 w5 rfl _ _ rfl w.heap.size v5 (acc ++ [92]) rfl HOWN5.out x (.int .u8 (x : Nat)) rfl w5.heap.size rfl rfl (by have := HL.out; rw [List.length_append]; simp; omega) (by have := HL.out; rw [List.length_append]; unfold maxLen; simp; omega) hsz5 ?_; intro v6 w6 hown6 hb6))
          go_roundw
          case rel => exact ⟨w6, i + 1, v6, rfl, rfl, by go_num, by omega, by rw [HQ2.out]; exact hown6, HBE5.out.trans hb6⟩
          case measure => simp [intOf]; omega
        · have c1 : ((x : Int) == 42) = false := by rw [hq]; rfl
          have c2 : ((x : Int) == 63) = false := by rw [hq]; rfl
          have c3 : ((x : Int) == 92) = true := by rw [hq]; rfl
          clear hq
          go_wp2_with (at_builtin; first
            | (refine append_num numB8 wr rfl _ _ rfl w.heap.size ov acc rfl HOWN.out 92 (.int .u8 92) rfl wr.heap.size rfl rfl (by have := HL.out; omega) (by have := HL.out; unfold maxLen; omega) hsz ?_; intro v5 w5 hown5 hb5; have hsz5 := Nat.le_trans hsz hb5.size; have HOWN5 : Hid (OwnL 5 .u8 w5 w.heap.size v5 (acc ++ [92])) := hown5; have HBE5 : Hid (Below w.heap.size w w5) := HBE.out.trans hb5; clear hown5 hb5)
            | (refine append_num numB8 w5 rfl _ _ rfl w.heap.size v5 (acc ++ [92]) rfl HOWN5.out x (.int .u8 (x : Nat)) rfl w5.heap.size rfl rfl (by have := HL.out; rw [List.length_append]; simp; omega) (by have := HL.out; rw [List.length_append]; unfold maxLen; simp; omega) hsz5 ?_; intro v6 w6 hown6 hb6))
          go_roundw
          case rel => exact ⟨w6, i + 1, v6, rfl, rfl, by go_num, by omega, by rw [HQ2.out]; exact hown6, HBE5.out.trans hb6⟩
          case measure => simp [intOf]; omega
      · have HQ2 : Hid (quoteN ((txt S).take (i + 1)) = acc ++ [x]) := by unfold Hid; rw [HQ.out, if_neg hq]
        have c1 : ((x : Int) == 42) = false := by rw [beq_eq_false_iff_ne]; omega
        have c2 : ((x : Int) == 63) = false := by rw [beq_eq_false_iff_ne]; omega
        have c3 : ((x : Int) == 92) = false := by rw [beq_eq_false_iff_ne]; omega
        clear HQ hq
        go_wp2_with (at_builtin; (refine append_num numB8 wr rfl _ _ rfl w.heap.size ov acc rfl HOWN.out x (.int .u8 (x : Nat)) rfl wr.heap.size rfl rfl (by have := HL.out; omega) (by have := HL.out; unfold maxLen; omega) hsz ?_; intro v6 w6 hown6 hb6))
        go_roundw
        case rel => exact ⟨w6, i + 1, v6, rfl, rfl, by go_num, by omega, by rw [HQ2.out]; exact hown6, HBE.out.trans hb6⟩
        case measure => simp [intOf]; omega
    · have hii : ¬ (i : Int) < (S.size : Int) := by omega
      have HT : Hid ((txt S).take i = txt S) := by unfold Hid; rw [show i = S.size by omega, ← HTL.out, List.take_length]
      rw [HT.out] at HOWN
      obtain ⟨a', c', hv, hcv⟩ := own_any HOWN.out
      subst hv
      generalize (quoteN (txt S)).length = L at *
      obtain ⟨X, hX⟩ : ∃ X, X = strN (quoteN (txt S)) := ⟨_, rfl⟩
      rw [← hX] at hcv
      have HX : Hid (X = strN (quoteN (txt S))) := hX
      clear hX HOWN HT
      go_wp2_with fail
      go_ret
      exact ⟨by rw [← HX.out]; rfl, HBE.out⟩
end Go.Proofs.Ytehieeahiicnhaa
