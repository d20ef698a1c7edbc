/-
  The program's Unescape, as a plain function of lists.
-/
import Derived.Test.YtbfgkogmojnilaaDoorLabelTake
namespace Go.Proofs.YtbfgkogmojnilaaDoor
open Go.ChangeShapes Go.WideShapes Go.ChangeAt Go.RowKit
set_option linter.unusedVariables false
set_option linter.unusedSimpArgs false
theorem numB8 : NumT 56 5 .u8 1 := ⟨by kernel_rfl, Tryd.underlying56⟩
theorem own_conv {w : World} {base g c C : Nat} {xs : List Nat} (h : OwnL 5 .u8 w base (.slice (some ⟨g, 0, none⟩) c C) xs) :
    Sem.run Tryd.prog (convert 56 9 (Value.slice (some ⟨g, 0, none⟩) c C)) w = .ok (.string (strN xs)) w := by
  obtain ⟨a, cap, hv, hr, -, -⟩ := h.row
  cases hv
  exact conv_row hr C
def strSz : Value → Nat
  | .string s => s.size
  | _ => 0
set_option maxHeartbeats 4000000 in
theorem unesc_any (S : ByteArray) (w : World) (hs : S.size ≤ 140737488355328) :
    Calls Tryd.prog 44 #[.string S] w fun e w' => e = .returned (unsR (unescN (txt S))) ∧ Below w.heap.size w w' := by
  have HTL : Hid ((txt S).length = S.size) := txt_length S
  go_enter Tryd.func44, Tryd.ntmps44
  go_wp2_with (refine make_num numB8 w rfl _ _ rfl .i64 .i64 (S.size : Int) S.size rfl rfl rfl (by omega) (by unfold maxLen; omega) ?_; intro w0 hown0 hb0)
  have HB0 : Hid (Below w.heap.size w w0) := hb0
  have HO0 : Hid (OwnL 5 .u8 w0 w.heap.size (.slice (some ⟨w.heap.size, 0, none⟩) 0 S.size) []) := hown0
  clear hown0 hb0
  go_loopw [0, 4] (fun sv ov wr => ∃ (wz : World) (T : ByteArray) (i n : Nat) (acc : List Nat), wz = wr ∧ sv = .string T ∧ i ≤ S.size ∧ txt T = (txt S).drop i ∧ T.size + i = S.size ∧ acc.length = n ∧ n ≤ i ∧ ov = .slice (some ⟨w.heap.size, 0, none⟩) n S.size ∧ OwnL 5 .u8 wz w.heap.size (.slice (some ⟨w.heap.size, 0, none⟩) n S.size) acc ∧ unescN (txt S) = (unescN ((txt S).drop i)).map (acc ++ ·) ∧ Below w.heap.size w wz) (fun sv _ _ => strSz sv)
  case atStart => exact ⟨_, S, 0, 0, [], rfl, rfl, Nat.zero_le _, by rw [List.drop_zero], rfl, rfl, Nat.le_refl _, rfl, HO0.out, by rw [List.drop_zero]; cases unescN (txt S) <;> simp, HB0.out⟩
  case round =>
    clear HB0 HO0
    obtain ⟨wr, T, i, n, acc, hwr, rfl, hi, hT, hTs, hn, hni, rfl, hown, hun, hbe⟩ := hrel
    subst hwr
    have HUN : Hid (unescN (txt S) = (unescN ((txt S).drop i)).map (acc ++ ·)) := hun
    have HBE : Hid (Below w.heap.size w wr) := hbe
    have HOWN : Hid (OwnL 5 .u8 wr w.heap.size (.slice (some ⟨w.heap.size, 0, none⟩) n S.size) acc) := hown
    have HT : Hid (txt T = (txt S).drop i) := hT
    have HTS : Hid (T.size + i = S.size) := hTs
    have HN : Hid (acc.length = n) := hn
    have hTb : T.size ≤ 140737488355328 := by omega
    clear hun hbe hown hT hTs hn
    by_cases h0 : 0 < T.size
    · have h0i : (0 : Int) < (T.size : Int) := by omega
      have HTK : Hid _ := take_any T wr h0 (by omega)
      have hne : txt T ≠ [] := by
        intro e
        have : (txt T).length = 0 := by rw [e]; rfl
        rw [txt_length] at this
        omega
      rw [HT.out] at HTK hne
      rcases take_step ((txt S).drop i) hne (fun c hc => txt_lt S c (List.mem_of_mem_drop hc)) with ⟨t1, t2⟩ | ⟨c, k, t1, t2, t3, t4⟩
      · rw [t1] at HTK
        have HR : Hid (unescN (txt S) = none) := by unfold Hid; rw [HUN.out, t2]; rfl
        unfold takeV at HTK
        clear t1 t2 HUN hne
        go_wp2_with fail
        refine Calls.mono HTK.out ?_
        rintro _ w' ⟨rfl, nd, hw⟩
        have HB2 : Hid (Below w.heap.size w w') := by unfold Hid; rw [hw]; exact below_drew HBE.out nd
        clear hw HTK
        go_wp2_with fail
        go_ret2
        exact ⟨by rw [HR.out]; rfl, HB2.out⟩
      · rw [t1] at HTK
        unfold takeV at HTK
        obtain ⟨K, hK⟩ : ∃ K, K = k + 1 := ⟨_, rfl⟩
        rw [← hK] at HTK t3 t4
        have hK1 : 1 ≤ K := by omega
        have hKi : ((K : Int) == 0) = false := by rw [beq_eq_false_iff_ne]; omega
        rw [List.length_drop, HTL.out] at t3
        have hKT : K ≤ T.size := by have := HTS.out; omega
        have hn1 : n + 1 ≤ S.size := by have := HTS.out; omega
        have hsz := HBE.out.size
        obtain ⟨U, hU⟩ : ∃ U, U = T.extract K T.size := ⟨_, rfl⟩
        have hsl : ∀ W, (Instr.slice 9 (.string T) (some (.int .i64 (K : Nat))) none none).run Tryd.prog W = .ok (.string U) W := fun W => by rw [hU]; exact str_from T K .i64 hKT W
        have HUT : Hid (txt U = (txt S).drop (i + K)) := by
          unfold Hid
          rw [hU, txt_extract, ← txt_length, List.take_length, HT.out, List.drop_drop]
        have HUS : Hid (U.size + (i + K) = S.size) := by
          unfold Hid
          rw [← txt_length, HUT.out, List.length_drop, HTL.out]
          omega
        have HUN2 : Hid (unescN (txt S) = (unescN ((txt S).drop (i + K))).map ((acc ++ [c]) ++ ·)) := by
          unfold Hid
          rw [HUN.out, t4, List.drop_drop]
          cases unescN ((txt S).drop (i + K)) <;> simp
        clear hU hK t1 t4 HUN hne
        go_wp2_with fail
        refine Calls.mono HTK.out ?_
        rintro _ w' ⟨rfl, nd, hw⟩
        have HB2 : Hid (Below w.heap.size w w') := by unfold Hid; rw [hw]; exact below_drew HBE.out nd
        have HO2 : Hid (OwnL 5 .u8 w' w.heap.size (.slice (some ⟨w.heap.size, 0, none⟩) n S.size) acc) := by unfold Hid; rw [hw]; exact HOWN.out
        replace hsz : w.heap.size ≤ w'.heap.size := HB2.out.size
        clear hw HTK HBE HOWN
        go_wp2_with (at_builtin; (refine fit_num numB8 w' rfl _ _ rfl w.heap.size w.heap.size n S.size acc rfl HN.out HO2.out c (.int .u8 (c : Nat)) rfl w'.heap.size rfl rfl hn1 hsz ?_; intro w5 hown5 hb5))
        go_roundw
        case rel => exact ⟨w5, U, i + K, n + 1, acc ++ [c], rfl, rfl, by omega, HUT.out, HUS.out, by rw [List.length_append, HN.out]; rfl, by omega, rfl, hown5, HUN2.out, HB2.out.trans hb5⟩
        case measure => show U.size < T.size; have := HUS.out; have := HTS.out; omega
    · have h0i : ¬ (0 : Int) < (T.size : Int) := by omega
      have HR : Hid (unescN (txt S) = some acc) := by
        unfold Hid
        have := HTS.out
        rw [HUN.out, show i = S.size by omega, ← HTL.out, List.drop_length]
        simp [unescN]
      have hcv := own_conv HOWN.out
      go_wp2
      go_ret2
      exact ⟨by rw [HR.out]; rfl, HBE.out⟩
end Go.Proofs.YtbfgkogmojnilaaDoor
