/-
  The program's read: the number that digits are; a text's piece.
-/
import Derived.Test.YtfgdfdjoidpejabDoorWhenForm
import Derived.Test.YtfgdfdjoidpejabDoorTexts
namespace Go.Proofs.YtfgdfdjoidpejabDoor
open Go.ChangeShapes Go.WideShapes Go.ChangeAt Go.RowKit
set_option linter.unusedVariables false
set_option linter.unusedSimpArgs false
theorem numF_from (l : List Nat) (a b : Nat) : ∀ n, a + n ≤ b → numF ((l.take b).drop a) 0 n = numF l a n
  | 0, _ => rfl
  | n + 1, h => by
    rw [numF, numF, numF_from l a b n (by omega)]
    have : ((l.take b).drop a).getD (0 + n) 0 = l.getD (a + n) 0 := by
      simp only [List.getD_eq_getElem?_getD, List.getElem?_drop, List.getElem?_take, Nat.zero_add]
      rw [if_pos (by omega)]
    rw [this]
theorem txt_extract (s : ByteArray) (a b : Nat) : txt (s.extract a b) = ((txt s).take b).drop a := by
  unfold txt
  rw [ByteArray.data_extract, Array.toList_extract, List.extract_eq_take_drop, ← List.map_take, ← List.map_drop]
  congr 1
  rw [List.drop_take]
set_option maxHeartbeats 1000000 in
theorem read_any (D : ByteArray) (w : World) (hs : D.size ≤ 4) (hd : ∀ j, j < D.size → 48 ≤ (txt D).getD j 0 ∧ (txt D).getD j 0 ≤ 57) :
    Calls Tryd.prog 17 #[.string D] w fun e w' => e = .returned (.int .i64 (numF (txt D) 0 D.size : Nat)) ∧ w' = w := by
  have HD : Hid (∀ j, j < D.size → 48 ≤ (txt D).getD j 0 ∧ (txt D).getD j 0 ≤ 57) := hd
  clear hd
  go_enter Tryd.func17, Tryd.ntmps17
  go_wp2
  go_loop [3, 7] (fun nv ix => ∃ i n : Nat, i ≤ D.size ∧ ix = .int .i64 i ∧ nv = .int .i64 n ∧ n = numF (txt D) 0 i) (fun _ ix => D.size - (intOf ix).toNat)
  case atStart => exact ⟨0, 0, by omega, rfl, rfl, rfl⟩
  case round =>
    obtain ⟨i, n, hi, rfl, rfl, hn⟩ := hrel
    have HN : Hid (n = numF (txt D) 0 i) := hn
    have hnb : n ≤ 9999 := by
      have h1 := numF_lt (txt D) 0 i (fun j hj => by rw [Nat.zero_add]; exact HD.out j (by omega))
      have h2 : 10 ^ i ≤ 10 ^ 4 := Nat.pow_le_pow_right (by decide) (by omega)
      omega
    clear hn
    by_cases hlt : i < D.size
    · have hli : (i : Int) < (D.size : Int) := by omega
      have HG : Hid ((D[i]'hlt).toNat = (txt D).getD i 0) := get_txt D i hlt
      obtain ⟨x, hx⟩ : ∃ x, x = (txt D).getD i 0 := ⟨_, rfl⟩
      have hxs : ((D[i]'hlt).toNat : Int) = (x : Int) := by rw [HG.out, hx]
      have hxb := HD.out i hlt
      rw [← hx] at hxb
      obtain ⟨z, hz⟩ : ∃ z, z = x - 48 := ⟨_, rfl⟩
      have hzi : (x : Int) - 48 = (z : Int) := by omega
      have hzb : z ≤ 9 := by omega
      have HN2 : Hid (10 * n + z = numF (txt D) 0 (i + 1)) := by unfold Hid; rw [numF, ← HN.out, Nat.zero_add, ← hx, ← hz]; omega
      clear hz hx HG
      go_wp2
      go_round
      case rel => exact ⟨i + 1, 10 * n + z, by omega, by go_num, by go_num, HN2.out⟩
      case measure => simp [intOf]; omega
    · have hli : ¬ (i : Int) < (D.size : Int) := by omega
      have HF : Hid (numF (txt D) 0 D.size = n) := by unfold Hid; rw [HN.out, show i = D.size by omega]
      clear HN
      go_wp2
      go_ret
      exact ⟨by rw [HF.out]; rfl, rfl⟩
end Go.Proofs.YtfgdfdjoidpejabDoor
