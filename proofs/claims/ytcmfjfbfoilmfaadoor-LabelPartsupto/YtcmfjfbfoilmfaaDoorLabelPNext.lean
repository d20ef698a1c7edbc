/-
  The program's Next, as a plain function of lists.
-/
import Derived.Test.YtcmfjfbfoilmfaaDoorLabelRNext
namespace Go.Proofs.YtcmfjfbfoilmfaaDoor
open Go.ChangeShapes Go.WideShapes Go.ChangeAt Go.RowKit
set_option linter.unusedVariables false
set_option linter.unusedSimpArgs false
set_option maxHeartbeats 4000000 in
theorem next_any (S : ByteArray) (w : World) (hs : S.size ≤ 281474976710656) :
    Calls Tryd.prog 18 #[.string S] w fun e w' => e = .returned (optR (nextN (txt S))) ∧ Below w.heap.size w w' := by
  have HTL : Hid ((txt S).length = S.size) := txt_length S
  go_enter Tryd.func18, Tryd.ntmps18
  go_wp2
  go_loop [8] (fun nv => ∃ i n : Nat, i + n = S.size ∧ nv = .int .i64 i ∧ nextN (txt S) = nextF (txt S) n) (fun nv => S.size - (intOf nv).toNat)
  case atStart => exact ⟨0, S.size, by omega, rfl, by unfold nextN; rw [HTL.out]⟩
  case round =>
    obtain ⟨i, n, hn, rfl, hnx⟩ := hrel
    have HNX : Hid (nextN (txt S) = nextF (txt S) n) := hnx
    clear hnx
    by_cases h0 : n = 0
    · have hni : ¬ (i : Int) < (S.size : Int) := by omega
      have HR : Hid (nextN (txt S) = none) := by unfold Hid; rw [HNX.out, h0]; rfl
      clear h0 hn
      go_wp2
      go_ret2
      exact ⟨by rw [HR.out]; rfl, Below.refl _ _⟩
    · have hni : (i : Int) < (S.size : Int) := by omega
      obtain ⟨k, hk⟩ : ∃ k, n = k + 1 := ⟨n - 1, by omega⟩
      have hki : (S.size : Int) - 1 - (i : Int) = (k : Int) := by omega
      have hks : k < S.size := by omega
      have hksi : (k : Int) < (S.size : Int) := by omega
      have HG : Hid ((S[k]'hks).toNat = (txt S).getD k 0) := get_txt S k hks
      obtain ⟨x, hx⟩ : ∃ x, x = (txt S).getD k 0 := ⟨_, rfl⟩
      have hxs : ((S[k]'hks).toNat : Int) = (x : Int) := by rw [HG.out, hx]
      have hxb : x < 256 := by rw [hx, ← HG.out]; exact (S[k]'hks).toNat_lt
      have HST : Hid (nextN (txt S) = if x = 255 then nextF (txt S) k else some ((txt S).take k ++ [x + 1])) := by unfold Hid; rw [HNX.out, hk, nextF, hx]
      have HIK : Hid (i + 1 + k = S.size) := by unfold Hid; omega
      clear hk hx HNX hn h0
      by_cases hc : x = 255
      · have hcb : ¬ (x : Int) < 255 := by omega
        have HS2 : Hid (nextN (txt S) = nextF (txt S) k) := by unfold Hid; rw [HST.out, if_pos hc]
        clear HST hc
        go_wp2
        go_round
        case rel => exact ⟨i + 1, k, HIK.out, by go_num, HS2.out⟩
        case measure => simp [intOf]; omega
      · have hcb : (x : Int) < 255 := by omega
        have HS2 : Hid (nextN (txt S) = some ((txt S).take k ++ [x + 1])) := by unfold Hid; rw [HST.out, if_neg hc]
        obtain ⟨z, hz⟩ : ∃ z, z = x + 1 := ⟨_, rfl⟩
        have hzi : (x : Int) + 1 = (z : Int) := by omega
        have hzb : z < 256 := by omega
        rw [← hz] at HS2
        have hcv : Sem.run Tryd.prog (convert 34 9 (Value.slice (some ⟨w.heap.size, 0, none⟩) 1 1)) (w.alloc (.cells #[.int .u8 (z : Int)] 5)).drew = .ok (.string (strN [z])) (w.alloc (.cells #[.int .u8 (z : Int)] 5)).drew := conv_row (show RowL .u8 (w.alloc (.cells #[.int .u8 (z : Int)] 5)).drew _ 1 [z] from (Blk.new w 5 .u8 [z]).row) 1
        obtain ⟨A, hA⟩ : ∃ A, A = S.extract 0 k := ⟨_, rfl⟩
        obtain ⟨B, hB⟩ : ∃ B, B = strN [z] := ⟨_, rfl⟩
        have HAB : Hid (strN ((txt S).take k ++ [z]) = A ++ B) := by
          unfold Hid
          have : txt A = (txt S).take k := by rw [hA, txt_extract, List.drop_zero]
          rw [strN_append, ← this, strN_txt, hB]
        have hsum : A.size + B.size ≤ 9223372036854775807 := by
          rw [hA, hB, strN_size, ← txt_length, txt_extract, List.drop_zero, List.length_take]
          simp
          omega
        have hsl : ∀ W, (Instr.slice 9 (.string S) none (some (.int .i64 (k : Nat))) none).run Tryd.prog W = .ok (.string A) W := fun W => by
          rw [hA]
          exact str_to S k .i64 (by omega) W
        rw [← hB] at hcv
        clear hA hB hz HST hc
        go_wp2
        go_region
        go_wp2
        go_ret2
        exact ⟨by rw [HS2.out]; show _ = Ending.returned (.tuple #[.string (strN ((txt S).take k ++ [z])), .bool true]); rw [HAB.out]; rfl, Below.drew (below_new w _)⟩
end Go.Proofs.YtcmfjfbfoilmfaaDoor
