/-
  slices.Equal of two slices of as many bytes.
-/
import Derived.Test.YtaahmpabhophfaaDoorFrameCat
import Derived.WalkKit
import Derived.Deep.Draws
import Derived.Deep.LoopGhost
import Derived.Lib.Walk
namespace Go.Proofs.YtaahmpabhophfaaDoor
open Go.ChangeShapes Go.WideShapes Go.ChangeAt Go.RowKit
set_option linter.unusedVariables false
set_option linter.unusedSimpArgs false
theorem ne_at (xs ys : List Nat) (k : Nat) (h : xs.getD k 0 ≠ ys.getD k 0) : decide (xs = ys) = false := by
  rw [decide_eq_false]
  rintro rfl
  exact h rfl
theorem eq_all (xs ys : List Nat) (h : xs.length = ys.length) (he : ∀ j, j < xs.length → xs.getD j 0 = ys.getD j 0) : decide (xs = ys) = true := by
  rw [decide_eq_true]
  apply List.ext_getElem h
  intro i h1 h2
  have := he i h1
  simpa [List.getD, h1, h2] using this
theorem equal_any (b1 o1 b2 o2 n c d : Nat) (xs ys : List Nat) (w : World) (hn : n ≤ 1048576) (hx : RowL .u8 w (some ⟨b1, o1, none⟩) n xs) (hy : RowL .u8 w (some ⟨b2, o2, none⟩) n ys) :
    Calls Tryd.prog 25 #[.slice (some ⟨b1, o1, none⟩) n c, .slice (some ⟨b2, o2, none⟩) n d] w fun e w' => e = .returned (.bool (decide (xs = ys))) ∧ ∃ q, w' = w.drewN q := by
  have hlx := hx.1
  have hly := hy.1
  have HX : Hid (∀ j, j < n → w.cell? ⟨b1, o1 + j, none⟩ = some (.int .u8 (xs.getD j 0 : Nat))) := fun j hj => by
    obtain ⟨b, o, e, -, hc⟩ := hx.at j hj
    cases e
    exact hc j hj
  have HY : Hid (∀ j, j < n → w.cell? ⟨b2, o2 + j, none⟩ = some (.int .u8 (ys.getD j 0 : Nat))) := fun j hj => by
    obtain ⟨b, o, e, -, hc⟩ := hy.at j hj
    cases e
    exact hc j hj
  have HE : Hid ((∀ j, j < n → xs.getD j 0 = ys.getD j 0) → decide (xs = ys) = true) := fun h => eq_all xs ys (by omega) (fun j hj => h j (by omega))
  clear hx hy
  go_enter Tryd.func25, Tryd.ntmps25
  go_wp2
  go_loopg [13] n (fun g s13 wr => ∃ k q : Nat, k ≤ n ∧ n - k ≤ g ∧ s13 = .int .i64 k ∧ wr = w.drewN q ∧ ∀ j, j < k → xs.getD j 0 = ys.getD j 0)
  case atStart => exact ⟨0, 0, Nat.zero_le _, by omega, rfl, rfl, fun j hj => absurd hj (Nat.not_lt_zero _)⟩
  case round =>
    obtain ⟨k, q, hk, hg, rfl, rfl, heq⟩ := hrel
    by_cases hlt : k < n
    · have g1 : w.cell? ⟨b1, o1 + k, none⟩ = some (.int .u8 (xs.getD k 0 : Nat)) := HX.out k hlt
      have g2 : w.cell? ⟨b2, o2 + k, none⟩ = some (.int .u8 (ys.getD k 0 : Nat)) := HY.out k hlt
      have A : Hid (∀ j, j < k → xs.getD j 0 = ys.getD j 0) := heq
      have HN : Hid (xs.getD k 0 ≠ ys.getD k 0 → decide (xs = ys) = false) := ne_at xs ys k
      have B : Hid (xs.getD k 0 = ys.getD k 0 → ∀ j, j < k + 1 → xs.getD j 0 = ys.getD j 0) := fun e j hj => by
        by_cases hjk : j = k
        · subst hjk; exact e
        · exact A.out j (by omega)
      clear heq
      generalize xs.getD k 0 = x at *
      generalize ys.getD k 0 = y at *
      by_cases hxy : x = y
      · have B2 := B.out hxy
        have B3 : Hid (∀ j, j < k + 1 → xs.getD j 0 = ys.getD j 0) := B2
        clear B B2 HN A
        subst hxy
        go_wp2_with fail
        go_region
        go_wp2
        go_roundg (n - (k + 1))
        case measure => omega
        case rel => exact ⟨k + 1, q + 1, by omega, by omega, by go_num, rfl, B3.out⟩
      · have hd := HN.out hxy
        have HD : Hid (decide (xs = ys) = false) := hd
        have hxi : ((x : Int) != (y : Int)) = true := by rw [bne_iff_ne]; omega
        clear hd HN B A hxy
        go_wp2_with fail
        go_region
        go_wp2
        go_ret
        exact ⟨by rw [HD.out]; rfl, q + 1, rfl⟩
    · have hkn : k = n := by omega
      subst hkn
      have HT : Hid (decide (xs = ys) = true) := HE.out heq
      clear heq
      go_wp2
      go_ret
      exact ⟨by rw [HT.out]; rfl, q, rfl⟩
end Go.Proofs.YtaahmpabhophfaaDoor
