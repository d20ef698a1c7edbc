/-
  The landed frame's First, out of what is inside; the document's First.
-/
import Derived.Test.YtaahmpabhophfaaDoorFrameFirst
namespace Go.Proofs.YtaahmpabhophfaaDoor
open Go.ChangeShapes Go.WideShapes Go.ChangeAt Go.RowKit
set_option linter.unusedVariables false
set_option linter.unusedSimpArgs false
theorem first_bad (S : List Nat → Nat) (s : List Nat) (h : (firstN S s).2.2 ≠ 0) : (firstN S s).1 = [] ∧ (firstN S s).2.1 = 0 := by
  unfold firstN at h ⊢
  split
  · exact ⟨rfl, rfl⟩
  · split
    · exact ⟨rfl, rfl⟩
    · split
      · exact ⟨rfl, rfl⟩
      · split
        · rename_i h1 h2 h3 h4
          rw [if_neg h1, if_neg h2, if_neg h3, if_pos h4] at h
          exact absurd rfl h
        · exact ⟨rfl, rfl⟩
theorem first_small (S : List Nat → Nat) (s : List Nat) : (firstN S s).1.length ≤ 16384 := by
  unfold firstN
  split
  · simp
  · split
    · simp
    · split
      · simp
      · split
        · rw [List.length_take]; omega
        · simp
theorem first_err (S : List Nat → Nat) (s : List Nat) : (firstN S s).2.2 ≤ 3 := by
  unfold firstN
  split
  · simp
  · split
    · simp
    · split
      · simp
      · split <;> simp
theorem first_byt (S : List Nat → Nat) (s : List Nat) (h : ∀ c ∈ s, c < 256) : ∀ c ∈ (firstN S s).1, c < 256 := by
  unfold firstN
  split
  · simp
  · split
    · simp
    · split
      · simp
      · split
        · exact drop_take_byt s h 8 _
        · simp
theorem parts1 (w : World) (a : Option Addr) (len cap : Nat) (xs : List Nat) (h3 : RowL .u8 w a len xs) (hn : a = none → len = 0 ∧ cap = 0) :
    PartsC (w.alloc (.cells #[.slice a len cap] 22)) w.heap.size [xs] := by
  refine ⟨by simp, fun i hi => ?_⟩
  match i, hi with
  | 0, _ => exact ⟨a, len, cap, by simp [go_sem], h3.below (below_new w _), hn⟩
theorem first_any (a : Option Addr) (len cap : Nat) (xs : List Nat) (w : World) (hA : BytL w a len cap xs) (hT : HalfTab w) :
    Calls Tryd.prog 10 #[.slice a len cap] w fun e w' => ∃ v, e = .returned (.tuple #[v, .int .i64 ((firstN crcN xs).2.1 : Nat), .int .i64 ((firstN crcN xs).2.2 : Nat)]) ∧ OwnL 5 .u8 w' w.heap.size v (firstN crcN xs).1 ∧ Below w.heap.size w w' := by
  have HI : Hid _ := inside_any a len cap xs w hA hT
  by_cases h0 : (firstN crcN xs).2.2 = 0
  · obtain ⟨h1, h2, h3⟩ := first_le crcN xs h0
    have HLE : Hid ((firstN crcN xs).1.length + 8 = (firstN crcN xs).2.1) := h3
    have HSM : Hid ((firstN crcN xs).1.length ≤ 16384) := first_small crcN xs
    rw [h0] at HI
    have H0 : Hid ((firstN crcN xs).2.2 = 0) := h0
    clear h0 h1 h2 h3 hA hT
    go_enter Tryd.func10, Tryd.ntmps10
    go_wp2_with fail
    refine Calls.mono HI.out ?_
    rintro e w1 ⟨ai, li, ci, rfl, hB, hbel⟩
    have hrow := hB.1
    have hli := hrow.1
    have hsm := HSM.out
    have HP : Hid (PartsC (w1.alloc (.cells #[.slice ai li ci] 22)) w1.heap.size [(firstN crcN xs).1]) := parts1 w1 ai li ci _ hrow hB.2.1
    have HB1 : Hid (Below w.heap.size w (w1.alloc (.cells #[.slice ai li ci] 22))) := hbel.alloc hbel.size _
    have hli2 : li ≤ 16384 := by omega
    have HE : Hid ((li : Int) + 8 = ((firstN crcN xs).2.1 : Nat)) := by have := HLE.out; unfold Hid; omega
    clear hB hrow hbel hli hsm
    go_wp2_with fail
    refine (concat_any _ _ _ HP.out (by simp) (by have := HSM.out; simp; omega)).mono ?_
    rintro e w3 ⟨v, rfl, hown, hbel3⟩
    rw [show [(firstN crcN xs).1].flatten = (firstN crcN xs).1 by simp] at hown
    have HZ : Hid (OwnL 5 .u8 w3 w.heap.size v (firstN crcN xs).1 ∧ Below w.heap.size w w3) := ⟨own_mono hown HB1.out.size, HB1.out.trans (hbel3.mono HB1.out.size)⟩
    clear hown hbel3
    go_wp2_with fail
    go_ret3
    rw [H0.out, ← HE.out]
    exact ⟨v, by rw [Int.add_comm]; rfl, HZ.out.1, HZ.out.2⟩
  · obtain ⟨h1, h2⟩ := first_bad crcN xs h0
    have hle := first_err crcN xs
    have HH : Hid ((firstN crcN xs).1 = [] ∧ (firstN crcN xs).2.1 = 0) := ⟨h1, h2⟩
    obtain ⟨er, her⟩ : ∃ er, er = (firstN crcN xs).2.2 := ⟨_, rfl⟩
    rw [← her] at HI h0 hle
    have HER : Hid ((firstN crcN xs).2.2 = er) := her.symm
    have hi : ((er : Int) != 0) = true := by rw [bne_iff_ne]; omega
    clear h1 h2 hA hT her
    go_enter Tryd.func10, Tryd.ntmps10
    go_wp2_with fail
    refine Calls.mono HI.out ?_
    rintro e w1 ⟨ai, li, ci, rfl, hB, hbel⟩
    have HB : Hid (Below w.heap.size w w1) := hbel
    clear hB hbel
    go_wp2_with fail
    go_ret3
    rw [HER.out, HH.out.1, HH.out.2]
    exact ⟨_, rfl, World.ownsRow_nil _ _ _ _, HB.out⟩
end Go.Proofs.YtaahmpabhophfaaDoor
