/-
  The program's skip and fits.
-/
import Derived.Test.YtehieeahiicnhaaGlobSeek
import Derived.Test.YtehieeahiicnhaaGlobCut
namespace Go.Proofs.Ytehieeahiicnhaa
open Go.ChangeShapes Go.WideShapes Go.ChangeAt Go.RowKit
set_option linter.unusedVariables false
set_option linter.unusedSimpArgs false
theorem slice_one (g off L C : Nat) (h : 1 ≤ L) (hn : L ≤ C) (W : World) : (Instr.slice 34 (.slice (some ⟨g, off, none⟩) L C) (some (.int .i64 1)) none none).run Try.prog W = .ok (.slice (some ⟨g, if C = 1 then off else off + 2, none⟩) (L - 1) (C - 1)) W := by
  have hz : ∀ w, (sizeOf (Try.prog.elem 34)).run Try.prog w = .ok 2 w := fun w => by kernel_rfl
  rw [run_slice_l W 34 _ L C (by kernel_rfl) .i64 1 (by omega) (by omega), hz]
  by_cases e : C = 1
  · simp [sliced, Addr.add, e]
  · simp [sliced, Addr.add, e]
/-- The pieces from k on: at which place of the block, how many, with how much room. -/
def RestAt (n cap k off L C : Nat) : Prop := k ≤ n ∧ n ≤ cap ∧ L = n - k ∧ C = cap - k ∧ (k < n → off = 2 * k)
theorem RestAt.next {n cap k off L C : Nat} (h : RestAt n cap k off L C) (hk : k < n) : RestAt n cap (k + 1) (if C = 1 then off else off + 2) (L - 1) (C - 1) := by
  obtain ⟨h1, h2, h3, h4, h5⟩ := h
  refine ⟨by omega, h2, by omega, by omega, fun h6 => ?_⟩
  rw [if_neg (by omega), h5 hk]
  omega
/-- What skip answers. -/
def SkipR (ps : List (Nat × Nat)) (g n cap k : Nat) (e : Ending) : Prop := ∃ (k' off L C : Nat), e = .returned (.slice (some ⟨g, off, none⟩) L C) ∧ RestAt n cap k' off L C ∧ k ≤ k' ∧ (∀ j, k ≤ j → j < k' → (ps.getD j (0, 0)).1 = 2) ∧ (k' < n → (ps.getD k' (0, 0)).1 ≠ 2)
def lenV : Value → Nat
  | .slice _ l _ => l
  | _ => 0
set_option maxHeartbeats 4000000 in
theorem skip_any (ps : List (Nat × Nat)) (g n cap k off L C : Nat) (w : World) (hn : n = ps.length) (hc : cap ≤ 200) (hrow : RowG w (some ⟨g, 0, none⟩) ps) (hr : RestAt n cap k off L C) :
    Calls Try.prog 22 #[.slice (some ⟨g, off, none⟩) L C] w fun e w' => SkipR ps g n cap k e ∧ w' = w := by
  have HR : Hid (RestAt n cap k off L C) := hr
  have HROW : Hid (RowG w (some ⟨g, 0, none⟩) ps) := hrow
  have HN : Hid (n = ps.length) := hn
  clear hr hrow hn
  go_enter Try.func22, Try.ntmps22
  go_wp2_with fail
  go_loop [0] (fun pv => ∃ (k' off L C : Nat), pv = .slice (some ⟨g, off, none⟩) L C ∧ RestAt n cap k' off L C ∧ k ≤ k' ∧ (∀ j, k ≤ j → j < k' → (ps.getD j (0, 0)).1 = 2)) (fun pv => lenV pv)
  case atStart => exact ⟨k, off, L, C, rfl, HR.out, Nat.le_refl _, fun j h1 h2 => by omega⟩
  case round =>
    clear HR
    obtain ⟨q, off, L, C, rfl, hrest, hkq, hst⟩ := hrel
    have HRE : Hid (RestAt n cap q off L C) := hrest
    have HST : Hid (∀ j, k ≤ j → j < q → (ps.getD j (0, 0)).1 = 2) := hst
    obtain ⟨r1, r2, r3, r4, r5⟩ := hrest
    clear hst
    by_cases hlt : q < n
    · have hL : (0 : Int) < (L : Int) := by omega
      have hL1 : 0 < L := by omega
      have hLC : L ≤ C := by omega
      have hq : q < ps.length := by rw [← HN.out]; exact hlt
      have hoff := r5 hlt
      rcases HROW.out with h0 | ⟨g', ha, hglt, hcl⟩
      · omega
      · cases ha
        have hc0 := (hcl q hq).1
        rw [← hoff] at hc0
        have HSL : Hid (∀ W, _) := slice_one g off L C hL1 hLC
        have HNX : Hid _ := HRE.out.next hlt
        have HK0 : Hid (∀ x, x = (ps.getD q (0, 0)).1 → x = 2 → ∀ j, k ≤ j → j < q + 1 → (ps.getD j (0, 0)).1 = 2) := by
          intro x hx hx2 j h1 h2
          by_cases e : j = q
          · subst e; omega
          · exact HST.out j h1 (by omega)
        have HK1 : Hid (∀ x, x = (ps.getD q (0, 0)).1 → x ≠ 2 → (ps.getD q (0, 0)).1 ≠ 2) := by intro x hx h; omega
        obtain ⟨x, hx⟩ : ∃ x, x = (ps.getD q (0, 0)).1 := ⟨_, rfl⟩
        replace HK0 : Hid _ := HK0.out x hx
        replace HK1 : Hid _ := HK1.out x hx
        rw [← hx] at hc0
        clear hx hcl r1 r2 r3 r4 r5 hoff hq hlt
        have hsl := HSL.out
        generalize (if C = 1 then off else off + 2) = off2 at *
        by_cases h2 : x = 2
        · have c2 : ((x : Int) == 2) = true := by rw [h2]; rfl
          replace HK0 : Hid _ := HK0.out h2
          clear h2 HK1
          go_wp2_with fail
          go_round
          case rel => exact ⟨q + 1, off2, L - 1, C - 1, rfl, HNX.out, by omega, HK0.out⟩
          case measure => simp [lenV]; omega
        · have c2 : ((x : Int) == 2) = false := by rw [beq_eq_false_iff_ne]; omega
          replace HK1 : Hid _ := HK1.out h2
          clear h2 HK0
          go_wp2_with fail
          go_ret
          exact ⟨⟨q, off, L, C, rfl, HRE.out, hkq, HST.out, fun _ => HK1.out⟩, rfl⟩
    · have hL : ¬ (0 : Int) < (L : Int) := by omega
      clear r1 r2 r3 r4 r5
      go_wp2_with fail
      go_ret
      exact ⟨⟨q, off, L, C, rfl, HRE.out, hkq, HST.out, fun h => absurd h hlt⟩, rfl⟩
theorem fits_any (k c x : Nat) (hk : k ≤ 2) (w : World) :
    Calls Try.prog 23 #[.agg #[.int .i64 (k : Nat), .int .u8 (c : Nat)], .int .u8 (x : Nat)] w fun e w' => e = .returned (.bool (fitN (k, c) x)) ∧ Below w.heap.size w w' := by
  have HB : Hid (∀ o, Below w.heap.size w (w.alloc o)) := fun o => below_new w o
  by_cases h1 : k = 1
  · have HF : Hid (fitN (k, c) x = true) := by unfold Hid fitN; rw [h1]; rfl
    have c1 : ((k : Int) == 1) = true := by rw [h1]; rfl
    clear h1
    go_enter Try.func23, Try.ntmps23
    go_wp2_with fail
    go_ret
    exact ⟨by rw [HF.out]; rfl, HB.out _⟩
  · have c1 : ((k : Int) == 1) = false := by rw [beq_eq_false_iff_ne]; omega
    by_cases h0 : k = 0
    · have c0 : ((k : Int) == 0) = true := by rw [h0]; rfl
      by_cases hc : c = x
      · have HF : Hid (fitN (k, c) x = true) := by unfold Hid fitN; rw [h0, hc]; simp
        have c2 : ((c : Int) == (x : Int)) = true := by rw [hc]; simp
        clear h1 h0 hc
        go_enter Try.func23, Try.ntmps23
        go_wp2_with fail
        go_ret
        exact ⟨by rw [HF.out]; rfl, HB.out _⟩
      · have HF : Hid (fitN (k, c) x = false) := by unfold Hid fitN; rw [h0]; simp [hc]
        have c2 : ((c : Int) == (x : Int)) = false := by rw [beq_eq_false_iff_ne]; omega
        clear h1 h0 hc
        go_enter Try.func23, Try.ntmps23
        go_wp2_with fail
        go_ret
        exact ⟨by rw [HF.out]; rfl, HB.out _⟩
    · have c0 : ((k : Int) == 0) = false := by rw [beq_eq_false_iff_ne]; omega
      have HF : Hid (fitN (k, c) x = false) := by unfold Hid fitN; simp [h0, h1]
      clear h1 h0
      go_enter Try.func23, Try.ntmps23
      go_wp2_with fail
      go_ret
      exact ⟨by rw [HF.out]; rfl, HB.out _⟩
end Go.Proofs.Ytehieeahiicnhaa
