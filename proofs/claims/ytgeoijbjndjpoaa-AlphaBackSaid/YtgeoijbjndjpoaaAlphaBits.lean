/-
  The document's 'bits' of bytes, as a plain function of lists.
-/
import Derived.Test.YtgeoijbjndjpoaaAlphaUnhex
namespace Go.Proofs.Ytgeoijbjndjpoaa
open Go.ChangeShapes Go.WideShapes Go.ChangeAt Go.RowKit
set_option linter.unusedVariables false
set_option linter.unusedSimpArgs false
theorem numI : NumT 40 3 .i64 8 := ⟨by kernel_rfl, Try.underlying40⟩
theorem spread8_snoc : ∀ (l : List Nat) (c : Nat), spread8 (l ++ [c]) = spread8 l ++ to8 c
  | [], c => by simp [spread8]
  | x :: l, c => by rw [List.cons_append, spread8, spread8, spread8_snoc l c, List.append_assoc]
theorem to8_take (c j : Nat) (h : j < 8) : (to8 c).take (j + 1) = (to8 c).take j ++ [c / 2 ^ (7 - j) % 2] := by
  obtain rfl | rfl | rfl | rfl | rfl | rfl | rfl | rfl : j = 0 ∨ j = 1 ∨ j = 2 ∨ j = 3 ∨ j = 4 ∨ j = 5 ∨ j = 6 ∨ j = 7 := by omega
  all_goals simp [to8]
set_option maxHeartbeats 4000000 in
theorem rbits_any (a : Option Addr) (len cap : Nat) (xs : List Nat) (w : World) (hr : RowL .u8 w a len xs) (hx : ∀ j, xs.getD j 0 < 256) (hl : len ≤ 2000000) :
    Calls Try.prog 25 #[.slice a len cap] w fun e w' => ∃ v, e = .returned v ∧ OwnL 3 .i64 w' w.heap.size v (spread8 xs) ∧ Below w.heap.size w w' := by
  have HR : Hid (RowL .u8 w a len xs) := hr
  have HX : Hid (∀ j, xs.getD j 0 < 256) := hx
  have HXL : Hid (xs.length = len) := hr.1
  have HO : Hid (OwnL 3 .i64 (w.alloc (.cells #[] 3)) w.heap.size (.slice (some ⟨w.heap.size, 0, none⟩) 0 0) []) := OwnL.empty _ _ w _ (Nat.le_refl _)
  clear hr hx
  go_enter Try.func25, Try.ntmps25
  go_wp2
  go_loopw [3, 4] (fun v ix wr => ∃ (wz : World) (i : Nat), wz = wr ∧ i ≤ len ∧ ix = .int .i64 i ∧ OwnL 3 .i64 wz w.heap.size v (spread8 (xs.take i)) ∧ Below w.heap.size w wz) (fun _ ix _ => len - (intOf ix).toNat)
  case atStart => exact ⟨_, 0, rfl, Nat.zero_le _, rfl, HO.out, below_new w _⟩
  case round =>
    clear HO
    obtain ⟨wr, i, hwr, hi, rfl, hown, hbe⟩ := hrel
    subst hwr
    have HOWN : Hid (OwnL 3 .i64 wr w.heap.size u3 (spread8 (xs.take i))) := hown
    have HBE : Hid (Below w.heap.size w wr) := hbe
    clear hown hbe
    by_cases hlt : i < len
    · obtain ⟨b, off, rfl, hbl, hcs⟩ := RowL.at HR.out 0 (by omega)
      have HC : Hid (b < w.heap.size ∧ w.cell? ⟨b, off + i, none⟩ = some (.int .u8 (xs.getD i 0 : Nat))) := ⟨hbl, hcs i hlt⟩
      have hcb := HX.out i
      have HTS : Hid (xs.take (i + 1) = xs.take i ++ [xs.getD i 0]) := take_snoc xs i (by rw [HXL.out]; exact hlt)
      have HLN : Hid ((spread8 (xs.take i)).length = 8 * i) := by unfold Hid; rw [spread8_length, List.length_take, HXL.out]; omega
      clear hbl hcs
      generalize xs.getD i 0 = c at *
      have hii : (i : Int) < (len : Int) := by omega
      go_wp2
      go_loopw [3, 5] (fun v ix wq => ∃ (wz : World) (j : Nat), wz = wq ∧ j ≤ 8 ∧ ix = .int .i64 (7 - (j : Int)) ∧ OwnL 3 .i64 wz w.heap.size v (spread8 (xs.take i) ++ (to8 c).take j) ∧ Below w.heap.size w wz) (fun _ ix _ => (intOf ix + 1).toNat)
      case atStart => exact ⟨wr, 0, rfl, by omega, rfl, by rw [List.take_zero, List.append_nil]; exact HOWN.out, HBE.out⟩
      case round =>
        clear HOWN HBE
        obtain ⟨wr, j, hwr, hj, rfl, hown, hbe⟩ := hrel
        subst hwr
        have HBE : Hid (Below w.heap.size w wr) := hbe
        obtain ⟨av, cv, hv, -, -⟩ := own_form hown
        have hL : (spread8 (xs.take i) ++ (to8 c).take j).length = 8 * i + j := by rw [List.length_append, HLN.out, List.length_take]; simp [to8]; omega
        rw [hL] at hv
        subst hv
        have HOWN : Hid (OwnL 3 .i64 wr w.heap.size (.slice av (8 * i + j) cv) (spread8 (xs.take i) ++ (to8 c).take j)) := hown
        have HL : Hid ((spread8 (xs.take i) ++ (to8 c).take j).length = 8 * i + j) := hL
        clear hown hbe hL
        obtain ⟨L, hLL⟩ : ∃ L, L = 8 * i + j := ⟨_, rfl⟩
        rw [← hLL] at HOWN HL ⊢
        have hLb : L ≤ 17000000 := by omega
        clear hLL
        by_cases hlt8 : j < 8
        · have hc : wr.cell? ⟨b, off + i, none⟩ = some (.int .u8 (c : Nat)) := (HBE.out.cell (p := ⟨b, off + i, none⟩) HC.out.1).trans HC.out.2
          obtain ⟨k, hk⟩ : ∃ k, k = 7 - j := ⟨_, rfl⟩
          have hki : (7 : Int) - (j : Int) = (k : Int) := by omega
          have hkb : k < 8 := by omega
          have HTK : Hid ((to8 c).take (j + 1) = (to8 c).take j ++ [c / 2 ^ k % 2]) := by rw [hk]; exact to8_take c j hlt8
          obtain ⟨D, hD⟩ : ∃ D, D = c / 2 ^ k % 2 := ⟨_, rfl⟩
          rw [← hD] at HTK
          obtain ⟨Q, hQ⟩ : ∃ Q, Q = c / 2 ^ k := ⟨_, rfl⟩
          have hQi : (c : Int) / 2 ^ k = (Q : Int) := by rw [hQ]; simp
          have hQb : Q < 256 := by rw [hQ]; exact Nat.lt_of_le_of_lt (Nat.div_le_self _ _) hcb
          have hDi : (Q : Int) % 2 = (D : Int) := by rw [hD, ← hQ]; simp
          have hDt : (Q : Int).tmod 2 = (D : Int) := by rw [Int.tmod_eq_emod_of_nonneg (by omega)]; exact hDi
          clear hQ
          have hsz := HBE.out.size
          clear hk hD
          go_wp2_with (at_builtin; (refine append_num numI wr rfl (.tmp 17) (.tmp 27) rfl w.heap.size (.slice av L cv) (spread8 (xs.take i) ++ (to8 c).take j) rfl HOWN.out D (.int .i64 (D : Nat)) rfl wr.heap.size rfl rfl (by rw [HL.out]; omega) (by rw [HL.out]; unfold maxLen; omega) hsz ?_; intro v5 w5 hown5 hb5))
          go_roundw
          case rel =>
            refine ⟨w5, j + 1, rfl, by omega, by first | (go_num) | (congr 1; omega), ?_, HBE.out.trans hb5⟩
            rw [HTK.out, ← List.append_assoc]
            exact hown5
          case measure => simp [intOf]; omega
        · have e8 : j = 8 := by omega
          have hneg : ¬ (0 : Int) ≤ 7 - (j : Int) := by omega
          have HF : Hid (spread8 (xs.take i) ++ (to8 c).take j = spread8 (xs.take (i + 1))) := by
            unfold Hid
            rw [HTS.out, spread8_snoc, e8]
            rfl
          clear e8
          go_wp2
          go_roundw
          case rel => exact ⟨wr, i + 1, rfl, by omega, by go_num, by rw [← HF.out]; exact HOWN.out, HBE.out⟩
          case measure => simp [intOf]; omega
    · have hil : i = len := by omega
      have hii : ¬ (i : Int) < (len : Int) := by omega
      have HT : Hid (xs.take i = xs) := by unfold Hid; rw [hil, ← HXL.out, List.take_length]
      rw [HT.out] at HOWN
      obtain ⟨av, cv, hv, -, -⟩ := own_form HOWN.out
      subst hv
      clear hil HT
      generalize (spread8 xs).length = n at *
      go_wp2
      go_ret
      exact ⟨_, rfl, HOWN.out, HBE.out⟩
end Go.Proofs.Ytgeoijbjndjpoaa
