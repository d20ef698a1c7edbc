/-
  The document's Next and Group, as plain functions of lists.
-/
import Derived.Test.YtcmfjfbfoilmfaaDoorLabelRef
namespace Go.Proofs.YtcmfjfbfoilmfaaDoor
open Go.ChangeShapes Go.WideShapes Go.ChangeAt Go.RowKit
set_option linter.unusedVariables false
set_option linter.unusedSimpArgs false
theorem str_to (s : ByteArray) (k : Nat) (kd : IntKind) (h : k ≤ s.size) (W : World) : (Instr.slice 9 (.string s) none (some (.int kd (k : Nat))) none).run Tryd.prog W = .ok (.string (s.extract 0 k)) W := by
  rw [run_slice_string_h W _ s Tryd.underlying9 kd (k : Nat) (by omega) (by omega), Int.toNat_natCast]
theorem str_from (s : ByteArray) (k : Nat) (kd : IntKind) (h : k ≤ s.size) (W : World) : (Instr.slice 9 (.string s) (some (.int kd (k : Nat))) none none).run Tryd.prog W = .ok (.string (s.extract k s.size)) W := by
  rw [run_slice_string_l W _ s Tryd.underlying9 kd (k : Nat) (by omega) (by omega), Int.toNat_natCast]
/-- A text that is told, or none. -/
def optR (o : Option (List Nat)) : Value := match o with | some l => .tuple #[.string (strN l), .bool true] | none => .tuple #[.string (strN []), .bool false]
set_option maxHeartbeats 4000000 in
theorem rnext_any (S : ByteArray) (w : World) (hs : S.size ≤ 281474976710656) :
    Calls Tryd.prog 19 #[.string S] w fun e w' => e = .returned (optR (nextN (txt S))) ∧ Below w.heap.size w w' := by
  have HTL : Hid ((txt S).length = S.size) := txt_length S
  go_enter Tryd.func19, Tryd.ntmps19
  go_wp2
  go_loop [4] (fun nv => ∃ n : Nat, n ≤ S.size ∧ nv = .int .i64 n ∧ nextN (txt S) = nextF (txt S) n) (fun nv => (intOf nv).toNat)
  case atStart => exact ⟨S.size, Nat.le_refl _, rfl, by unfold nextN; rw [HTL.out]⟩
  case round =>
    obtain ⟨n, hn, rfl, hnx⟩ := hrel
    have HNX : Hid (nextN (txt S) = nextF (txt S) n) := hnx
    clear hnx
    by_cases h0 : n = 0
    · have hni : ¬ (0 : Int) < (n : Int) := by omega
      have HR : Hid (nextN (txt S) = none) := by unfold Hid; rw [HNX.out, h0]; rfl
      clear h0
      go_wp2
      go_ret2
      exact ⟨by rw [HR.out]; rfl, Below.refl _ _⟩
    · have hni : (0 : Int) < (n : Int) := by omega
      obtain ⟨k, hk⟩ : ∃ k, n = k + 1 := ⟨n - 1, by omega⟩
      have hki : (n : Int) - 1 = (k : Int) := by omega
      have hks : k < S.size := by omega
      have hksi : (k : Int) < (S.size : Int) := by omega
      have HG : Hid ((S[k]'hks).toNat = (txt S).getD k 0) := get_txt S k hks
      obtain ⟨x, hx⟩ : ∃ x, x = (txt S).getD k 0 := ⟨_, rfl⟩
      have hxs : ((S[k]'hks).toNat : Int) = (x : Int) := by rw [HG.out, hx]
      have hxb : x < 256 := by rw [hx, ← HG.out]; exact (S[k]'hks).toNat_lt
      have HST : Hid (nextN (txt S) = if x = 255 then nextF (txt S) k else some ((txt S).take k ++ [x + 1])) := by unfold Hid; rw [HNX.out, hk, nextF, hx]
      clear hk hx HNX
      by_cases hc : x = 255
      · have hcb : ((x : Int) != 255) = false := by rw [hc]; rfl
        have HS2 : Hid (nextN (txt S) = nextF (txt S) k) := by unfold Hid; rw [HST.out, if_pos hc]
        clear HST hc
        go_wp2
        go_round
        case rel => exact ⟨k, by omega, by go_num, HS2.out⟩
        case measure => simp [intOf]; omega
      · have hcb : ((x : Int) != 255) = true := by rw [bne_iff_ne]; omega
        have HS2 : Hid (nextN (txt S) = some ((txt S).take k ++ [x + 1])) := by unfold Hid; rw [HST.out, if_neg hc]
        obtain ⟨z, hz⟩ : ∃ z, z = x + 1 := ⟨_, rfl⟩
        have hzi : (x : Int) + 1 = (z : Int) := by omega
        have hzb : z < 256 := by omega
        rw [← hz] at HS2
        have hcv : Sem.run Tryd.prog (convert 34 9 (Value.slice (some ⟨w.heap.size, 0, none⟩) 1 1)) (w.alloc (.cells #[.int .u8 (z : Int)] 5)).drew = .ok (.string (strN [z])) (w.alloc (.cells #[.int .u8 (z : Int)] 5)).drew := conv_row (show RowL .u8 (w.alloc (.cells #[.int .u8 (z : Int)] 5)).drew _ 1 [z] from (Blk.new w 5 .u8 [z]).row) 1
        obtain ⟨A, hA⟩ : ∃ A, A = S.extract 0 k := ⟨_, rfl⟩
        obtain ⟨B, hB⟩ : ∃ B, B = strN [z] := ⟨_, rfl⟩
        have HAB : Hid (strN ((txt S).take k ++ [z]) = A ++ B) := by
          unfold Hid
          have : txt A = (txt S).take k := by rw [hA, txt_extract, List.drop_zero]
          rw [strN_append, ← this, strN_txt, hB]
        have hsum : A.size + B.size ≤ 9223372036854775807 := by
          rw [hA, hB, strN_size, ← txt_length, txt_extract, List.drop_zero, List.length_take]
          simp
          omega
        have hsl : ∀ W, (Instr.slice 9 (.string S) none (some (.int .i64 (k : Nat))) none).run Tryd.prog W = .ok (.string A) W := fun W => by
          rw [hA]
          exact str_to S k .i64 (by omega) W
        rw [← hB] at hcv
        clear hA hB hz HST hc
        go_wp2
        go_region
        go_wp2
        go_ret2
        exact ⟨by rw [HS2.out]; show _ = Ending.returned (.tuple #[.string (strN ((txt S).take k ++ [z])), .bool true]); rw [HAB.out]; rfl, Below.drew (below_new w _)⟩
theorem empty_txt (M : ByteArray) : M.toList.isEmpty = decide (txt M = []) := by
  rw [← toList_txt]
  cases M.toList <;> simp
theorem empty_iff (M : ByteArray) : M.toList = [] ↔ txt M = [] := by
  rw [← toList_txt]
  cases M.toList <;> simp
set_option maxHeartbeats 4000000 in
theorem rgroup_any (S P M : ByteArray) (w : World) (hs : S.size ≤ 281474976710656) (hp : P.size ≤ 281474976710656) (hm : M.size ≤ 281474976710656) :
    Calls Tryd.prog 21 #[.string S, .string P, .string M] w fun e w' => e = .returned (optR (groupN (txt S) (txt P) (txt M))) ∧ w' = w := by
  have HTL : Hid ((txt S).length = S.size) := txt_length S
  have HPL : Hid ((txt P).length = P.size) := txt_length P
  have hemp := empty_txt M
  by_cases hM : txt M = []
  · have HR : Hid (groupN (txt S) (txt P) (txt M) = none) := by unfold Hid groupN; rw [if_pos (.inl hM)]
    rw [decide_eq_true hM] at hemp
    have hemp2 := (empty_iff M).2 hM
    clear hM
    go_enter Tryd.func21, Tryd.ntmps21
    go_wp2
    go_ret2
    exact ⟨by rw [HR.out]; rfl, rfl⟩
  · rw [decide_eq_false hM] at hemp
    have hemp2 : ¬ M.toList = [] := fun e => hM ((empty_iff M).1 e)
    have HB := rbegins_any S P w (by omega) (by omega)
    by_cases hb : begN (txt S) (txt P) = true
    · rw [hb] at HB
      have HG : Hid (groupN (txt S) (txt P) (txt M) = groupF (txt S) (txt M) (S.size - P.size) P.size) := by
        unfold Hid groupN
        rw [if_neg (by intro e; rcases e with e | e; exact hM e; exact e hb), HTL.out, HPL.out]
      have hps : P.size ≤ S.size := by
        obtain ⟨r, hr⟩ := (beg_iff _ _).1 hb
        rw [← HTL.out, ← HPL.out, hr]
        simp
      clear hM hb
      go_enter Tryd.func21, Tryd.ntmps21
      go_wp2_with fail
      refine Calls.mono HB ?_
      rintro _ w' ⟨rfl, hw⟩
      replace hw := hw.symm
      subst hw
      clear HB
      go_wp2_with fail
      go_loop [8] (fun ix => ∃ i n : Nat, i + n = S.size ∧ ix = .int .i64 i ∧ groupN (txt S) (txt P) (txt M) = groupF (txt S) (txt M) n i) (fun ix => S.size - (intOf ix).toNat)
      case atStart => exact ⟨P.size, S.size - P.size, by omega, rfl, HG.out⟩
      case round =>
        clear HG
        obtain ⟨i, n, hin, rfl, hg⟩ := hrel
        have HG : Hid (groupN (txt S) (txt P) (txt M) = groupF (txt S) (txt M) n i) := hg
        clear hg
        by_cases hlt : i < S.size
        · have hii : (i : Int) < (S.size : Int) := by omega
          obtain ⟨m, rfl⟩ : ∃ m, n = m + 1 := ⟨n - 1, by omega⟩
          obtain ⟨D, hD⟩ : ∃ D, D = S.extract i S.size := ⟨_, rfl⟩
          have hsl : ∀ W, (Instr.slice 9 (.string S) (some (.int .i64 (i : Nat))) none none).run Tryd.prog W = .ok (.string D) W := fun W => by rw [hD]; exact str_from S i .i64 (by omega) W
          have hDt : txt D = (txt S).drop i := by
            rw [hD, txt_extract, ← HTL.out, List.take_length]
          have hDs : D.size ≤ 9223372036854775807 := by rw [← txt_length, hDt, List.length_drop, HTL.out]; omega
          have HB := rbegins_any D M w hDs (by omega)
          rw [hDt] at HB
          obtain ⟨A, hA⟩ : ∃ A, A = S.extract 0 i := ⟨_, rfl⟩
          have hsa : ∀ W, (Instr.slice 9 (.string S) none (some (.int .i64 (i : Nat))) none).run Tryd.prog W = .ok (.string A) W := fun W => by rw [hA]; exact str_to S i .i64 (by omega) W
          have HAB : Hid (strN ((txt S).take i ++ txt M) = A ++ M) := by
            unfold Hid
            have : txt A = (txt S).take i := by rw [hA, txt_extract, List.drop_zero]
            rw [strN_append, ← this, strN_txt, strN_txt]
          have hsum : A.size + M.size ≤ 9223372036854775807 := by
            rw [hA, ← txt_length, txt_extract, List.drop_zero, List.length_take, HTL.out]
            omega
          have HST : Hid (groupN (txt S) (txt P) (txt M) = if begN ((txt S).drop i) (txt M) then some ((txt S).take i ++ txt M) else groupF (txt S) (txt M) m (i + 1)) := by unfold Hid; rw [HG.out, groupF]
          clear hD hDt hDs hA HG
          by_cases hb : begN ((txt S).drop i) (txt M) = true
          · have HR : Hid (groupN (txt S) (txt P) (txt M) = some ((txt S).take i ++ txt M)) := by unfold Hid; rw [HST.out, if_pos hb]
            rw [hb] at HB
            clear hb HST
            go_wp2_with fail
            refine Calls.mono HB ?_
            rintro _ w' ⟨rfl, hw⟩
            replace hw := hw.symm
            subst hw
            clear HB
            go_wp2_with fail
            go_ret2
            exact ⟨by rw [HR.out]; show _ = Ending.returned (.tuple #[.string (strN ((txt S).take i ++ txt M)), .bool true]); rw [HAB.out]; rfl, rfl⟩
          · have HR : Hid (groupN (txt S) (txt P) (txt M) = groupF (txt S) (txt M) m (i + 1)) := by unfold Hid; rw [HST.out, if_neg hb]
            have hbf : begN ((txt S).drop i) (txt M) = false := by simpa using hb
            rw [hbf] at HB
            clear hb hbf HST
            go_wp2_with fail
            refine Calls.mono HB ?_
            rintro _ w' ⟨rfl, hw⟩
            replace hw := hw.symm
            subst hw
            clear HB
            go_wp2_with fail
            go_round
            case rel => exact ⟨i + 1, m, by omega, by go_num, HR.out⟩
            case measure => simp [intOf]; omega
        · have hii : ¬ (i : Int) < (S.size : Int) := by omega
          have HR : Hid (groupN (txt S) (txt P) (txt M) = none) := by unfold Hid; rw [HG.out, show n = 0 by omega]; rfl
          go_wp2_with fail
          go_ret2
          exact ⟨by rw [HR.out]; rfl, rfl⟩
    · have hbf : begN (txt S) (txt P) = false := by simpa using hb
      have HR : Hid (groupN (txt S) (txt P) (txt M) = none) := by unfold Hid groupN; rw [if_pos (.inr hb)]
      rw [hbf] at HB
      clear hb hbf hM
      go_enter Tryd.func21, Tryd.ntmps21
      go_wp2_with fail
      refine Calls.mono HB ?_
      rintro _ w' ⟨rfl, hw⟩
      replace hw := hw.symm
      subst hw
      clear HB
      go_wp2_with fail
      go_ret2
      exact ⟨by rw [HR.out]; rfl, rfl⟩
end Go.Proofs.YtcmfjfbfoilmfaaDoor
