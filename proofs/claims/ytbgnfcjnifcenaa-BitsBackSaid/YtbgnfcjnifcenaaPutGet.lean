/-
  Put and Get of package bits and of the document's answer: which bytes, which number, which error, at any input; what is made lies in new memory.
-/
import Derived.Test.YtbgnfcjnifcenaaBytes
namespace Go.Proofs.Ytbgnfcjnifcenaa
open Go.ChangeShapes Go.WideShapes Go.ChangeAt Go.RowKit
set_option linter.unusedVariables false
set_option linter.unusedSimpArgs false
def be (n : Int) : Nat → List Int
  | 0 => []
  | s + 1 => be (n / 256) s ++ [n % 256]
theorem be_length (n : Int) (s : Nat) : (be n s).length = s := by
  induction s generalizing n with
  | zero => rfl
  | succ s ih => simp [be, ih]
set_option maxHeartbeats 2000000 in
theorem put_ok (n : Int) (s : Nat) (w : World) (h0 : 0 ≤ n) (hs : 1 ≤ s ∧ s ≤ 8) (h1 : n < 256 ^ s) :
    Calls Try.prog 8 #[.int .u64 n, .int .i64 s] w fun e w' => e = .returned (.tuple #[.slice (some ⟨w.heap.size, 0, none⟩) s s, .int .i64 0]) ∧ w' = w.alloc (.cells (u8s (be n s)) 5) := by
  have hm := make_u8 w s (by omega)
  obtain rfl | rfl | rfl | rfl | rfl | rfl | rfl | rfl : s = 1 ∨ s = 2 ∨ s = 3 ∨ s = 4 ∨ s = 5 ∨ s = 6 ∨ s = 7 ∨ s = 8 := by omega
  all_goals
    simp at hm h1
    clear hs
    go_enter Try.func8, Try.ntmps8
    go_wp2
    go_rounds 9
    go_ret2
    refine ⟨rfl, congrArg (fun c => w.alloc (.cells c 5)) ?_⟩
    apply Array.toList_inj.1
    simp [be, u8s, List.replicate]
    try omega
set_option maxHeartbeats 2000000 in
theorem rput_ok (n : Int) (s : Nat) (w : World) (h0 : 0 ≤ n) (hs : 1 ≤ s ∧ s ≤ 8) (h1 : n < 256 ^ s) :
    Calls Try.prog 9 #[.int .u64 n, .int .i64 s] w fun e w' => e = .returned (.tuple #[.slice (some ⟨w.heap.size, 0, none⟩) s s, .int .i64 0]) ∧ w' = w.alloc (.cells (u8s (be n s)) 5) := by
  have hm := make_u8 w s (by omega)
  obtain rfl | rfl | rfl | rfl | rfl | rfl | rfl | rfl : s = 1 ∨ s = 2 ∨ s = 3 ∨ s = 4 ∨ s = 5 ∨ s = 6 ∨ s = 7 ∨ s = 8 := by omega
  all_goals
    simp at hm h1
    clear hs
    go_enter Try.func9, Try.ntmps9
    go_wp2
    go_rounds 9
    go_ret2
    refine ⟨rfl, congrArg (fun c => w.alloc (.cells c 5)) ?_⟩
    apply Array.toList_inj.1
    simp [be, u8s, List.replicate]
    try omega
theorem get_bad (a : Option Addr) (len cap : Nat) (w : World) (hm : len ≤ maxLen) (h : len < 1 ∨ 8 < len) :
    Calls Try.prog 10 #[.slice a len cap] w fun e w' => e = .returned (.tuple #[.int .u64 0, .int .i64 1]) ∧ w' = w := by
  unfold maxLen at hm
  rcases h with h | h
  · go_enter Try.func10, Try.ntmps10
    go_wp2
    go_ret2
    exact ⟨rfl, rfl⟩
  · have h' : ¬ (len : Int) < 1 := by omega
    go_enter Try.func10, Try.ntmps10
    go_wp2
    go_ret2
    exact ⟨rfl, rfl⟩
theorem get_ok (a : Option Addr) (len cap : Nat) (xs : List Int) (w : World) (hr : Row w a len xs) (h : 1 ≤ len) (h' : len ≤ 8) :
    Calls Try.prog 10 #[.slice a len cap] w fun e w' => e = .returned (.tuple #[.int .u64 (val xs), .int .i64 0]) ∧ w' = w := by
  obtain ⟨hl, hm, hb, h0 | ⟨b, off, rfl, -, hc⟩⟩ := hr
  · omega
  have hv := val_bound xs hb
  have hX : val (xs.take len) = val xs := by rw [← hl, List.take_length]
  have HX : Hid (val (xs.take len) = val xs) := hX
  clear hX
  have HC : Hid (∀ i, i < len → w.cell? ⟨b, off + i, none⟩ = some (.int .u8 (xs.getD i 0))) := hc
  clear hc
  go_enter Try.func10, Try.ntmps10
  go_wp2
  go_loop [4, 17] (fun n i => ∃ k : Nat, k ≤ len ∧ i = .int .i64 k ∧ n = .int .u64 (val (xs.take k))) (fun _ i => len - (intOf i).toNat)
  case atStart => exact ⟨0, Nat.zero_le _, rfl, rfl⟩
  case round =>
    obtain ⟨k, hk, rfl, rfl⟩ := hrel
    by_cases hlt : k < len
    · have hc : w.cell? ⟨b, off + k, none⟩ = some (.int .u8 (xs.getD k 0)) := HC.out k hlt
      obtain ⟨v0, v1⟩ := hv k (by omega)
      have v2 := pow_le k (by omega)
      obtain ⟨c0, c1⟩ := hb k
      have hS : Hid (val (xs.take (k + 1)) = val (xs.take k) * 256 + xs.getD k 0) := val_take xs k (by omega)
      generalize val (xs.take k) = v at *
      generalize xs.getD k 0 = c at *
      have v3 : v < 72057594037927936 := by omega
      have hor := or_low8 v c v0 v3 c0 c1
      clear v1 v2 hv hb
      go_wp2
      go_round
      case rel => exact ⟨k + 1, by omega, by go_num, by rw [hS.out]⟩
      case measure => simp [intOf]; omega
    · have : k = len := by omega
      subst this
      go_wp2
      go_ret2
      exact ⟨by rw [← HX.out]; rfl, rfl⟩
theorem put_arg (n s : Int) (w : World) (h : s < 1 ∨ 8 < s) :
    Calls Try.prog 8 #[.int .u64 n, .int .i64 s] w fun e w' => e = .returned (.tuple #[.slice none 0 0, .int .i64 1]) ∧ w' = w := by
  rcases h with h | h
  · go_enter Try.func8, Try.ntmps8
    go_wp2
    go_ret2
    exact ⟨rfl, rfl⟩
  · have h' : ¬ s < 1 := by omega
    go_enter Try.func8, Try.ntmps8
    go_wp2
    go_ret2
    exact ⟨rfl, rfl⟩
theorem rput_arg (n s : Int) (w : World) (h : s < 1 ∨ 8 < s) :
    Calls Try.prog 9 #[.int .u64 n, .int .i64 s] w fun e w' => e = .returned (.tuple #[.slice none 0 0, .int .i64 1]) ∧ w' = w := by
  rcases h with h | h
  · go_enter Try.func9, Try.ntmps9
    go_wp2
    go_ret2
    exact ⟨rfl, rfl⟩
  · have h' : ¬ s < 1 := by omega
    go_enter Try.func9, Try.ntmps9
    go_wp2
    go_ret2
    exact ⟨rfl, rfl⟩
set_option maxHeartbeats 2000000 in
theorem put_range (n : Int) (s : Nat) (w : World) (h0 : 0 ≤ n) (hn : n ≤ 18446744073709551615) (hs : 1 ≤ s ∧ s ≤ 8) (h1 : 256 ^ s ≤ n) :
    Calls Try.prog 8 #[.int .u64 n, .int .i64 s] w fun e w' => e = .returned (.tuple #[.slice none 0 0, .int .i64 4]) ∧ w' = w := by
  obtain rfl | rfl | rfl | rfl | rfl | rfl | rfl | rfl : s = 1 ∨ s = 2 ∨ s = 3 ∨ s = 4 ∨ s = 5 ∨ s = 6 ∨ s = 7 ∨ s = 8 := by omega
  all_goals
    simp at h1
    clear hs
    try (exfalso; omega)
  all_goals
    go_enter Try.func8, Try.ntmps8
    go_wp2
    go_ret2
    exact ⟨rfl, rfl⟩
set_option maxHeartbeats 2000000 in
theorem rput_range (n : Int) (s : Nat) (w : World) (h0 : 0 ≤ n) (hn : n ≤ 18446744073709551615) (hs : 1 ≤ s ∧ s ≤ 8) (h1 : 256 ^ s ≤ n) :
    Calls Try.prog 9 #[.int .u64 n, .int .i64 s] w fun e w' => e = .returned (.tuple #[.slice none 0 0, .int .i64 4]) ∧ Below w.heap.size w w' := by
  have hm := make_u8 w s (by omega)
  obtain rfl | rfl | rfl | rfl | rfl | rfl | rfl | rfl : s = 1 ∨ s = 2 ∨ s = 3 ∨ s = 4 ∨ s = 5 ∨ s = 6 ∨ s = 7 ∨ s = 8 := by omega
  all_goals
    simp at h1 hm
    clear hs
    try (exfalso; omega)
  all_goals
    go_enter Try.func9, Try.ntmps9
    go_wp2
    go_rounds 9
    go_ret2
    exact ⟨rfl, by go_grown⟩
theorem rget_bad (a : Option Addr) (len cap : Nat) (w : World) (hm : len ≤ maxLen) (h : len < 1 ∨ 8 < len) :
    Calls Try.prog 11 #[.slice a len cap] w fun e w' => e = .returned (.tuple #[.int .u64 0, .int .i64 1]) ∧ w' = w := by
  unfold maxLen at hm
  rcases h with h | h
  · go_enter Try.func11, Try.ntmps11
    go_wp2
    go_ret2
    exact ⟨rfl, rfl⟩
  · have h' : ¬ (len : Int) < 1 := by omega
    go_enter Try.func11, Try.ntmps11
    go_wp2
    go_ret2
    exact ⟨rfl, rfl⟩
theorem rget_ok (a : Option Addr) (len cap : Nat) (xs : List Int) (w : World) (hr : Row w a len xs) (h : 1 ≤ len) (h' : len ≤ 8) :
    Calls Try.prog 11 #[.slice a len cap] w fun e w' => e = .returned (.tuple #[.int .u64 (val xs), .int .i64 0]) ∧ w' = w := by
  obtain ⟨hl, hm, hb, h0 | ⟨b, off, rfl, -, hc⟩⟩ := hr
  · omega
  have hv := val_bound xs hb
  have hX : val (xs.take len) = val xs := by rw [← hl, List.take_length]
  have HX : Hid (val (xs.take len) = val xs) := hX
  clear hX
  have HC : Hid (∀ i, i < len → w.cell? ⟨b, off + i, none⟩ = some (.int .u8 (xs.getD i 0))) := hc
  clear hc
  go_enter Try.func11, Try.ntmps11
  go_wp2
  go_loop [4, 5] (fun n i => ∃ k : Nat, k ≤ len ∧ i = .int .i64 k ∧ n = .int .u64 (val (xs.take k))) (fun _ i => len - (intOf i).toNat)
  case atStart => exact ⟨0, Nat.zero_le _, rfl, rfl⟩
  case round =>
    obtain ⟨k, hk, rfl, rfl⟩ := hrel
    by_cases hlt : k < len
    · have hc : w.cell? ⟨b, off + k, none⟩ = some (.int .u8 (xs.getD k 0)) := HC.out k hlt
      obtain ⟨v0, v1⟩ := hv k (by omega)
      have v2 := pow_le k (by omega)
      obtain ⟨c0, c1⟩ := hb k
      have hS : Hid (val (xs.take (k + 1)) = val (xs.take k) * 256 + xs.getD k 0) := val_take xs k (by omega)
      generalize val (xs.take k) = v at *
      generalize xs.getD k 0 = c at *
      have v3 : v < 72057594037927936 := by omega
      clear v1 v2 hv hb
      go_wp2
      go_round
      case rel => exact ⟨k + 1, by omega, by go_num, by rw [hS.out]⟩
      case measure => simp [intOf]; omega
    · have : k = len := by omega
      subst this
      go_wp2
      go_ret2
      exact ⟨by rw [← HX.out]; rfl, rfl⟩
def putL (n s : Int) : List Int := if 1 ≤ s ∧ s ≤ 8 ∧ n < 256 ^ s.toNat then be n s.toNat else []
def putErr (n s : Int) : Int := if s < 1 ∨ 8 < s then 1 else if n < 256 ^ s.toNat then 0 else 4
theorem put_all (n s : Int) (w : World) (h0 : 0 ≤ n) (hn : n ≤ 18446744073709551615) :
    Calls Try.prog 8 #[.int .u64 n, .int .i64 s] w fun e w' => ∃ a, e = .returned (.tuple #[.slice a (putL n s).length (putL n s).length, .int .i64 (putErr n s)]) ∧ Made w' a (putL n s).length (putL n s) ∧ Below w.heap.size w w' := by
  by_cases hs : s < 1 ∨ 8 < s
  · have e1 : putL n s = [] := by unfold putL; rw [if_neg (by omega)]
    have e2 : putErr n s = 1 := by unfold putErr; rw [if_pos hs]
    rw [e1, e2]
    refine (put_arg n s w hs).mono ?_
    rintro e w' ⟨rfl, rfl⟩
    exact ⟨none, rfl, ⟨rfl, .inl ⟨rfl, rfl⟩⟩, Below.refl _ _⟩
  · obtain ⟨k, rfl⟩ := Int.eq_ofNat_of_zero_le (show 0 ≤ s by omega)
    by_cases hf : n < 256 ^ k
    · have e1 : putL n k = be n k := by unfold putL; rw [Int.toNat_natCast, if_pos ⟨by omega, by omega, hf⟩]
      have e2 : putErr n k = 0 := by unfold putErr; rw [if_neg hs, Int.toNat_natCast, if_pos hf]
      rw [e1, e2, be_length]
      refine (put_ok n k w h0 (by omega) hf).mono ?_
      rintro e w' ⟨rfl, rfl⟩
      have hm := made_alloc w (be n k)
      rw [be_length] at hm
      exact ⟨_, rfl, hm, by go_grown⟩
    · have e1 : putL n k = [] := by unfold putL; rw [Int.toNat_natCast, if_neg (fun h => hf h.2.2)]
      have e2 : putErr n k = 4 := by unfold putErr; rw [if_neg hs, Int.toNat_natCast, if_neg hf]
      rw [e1, e2]
      refine (put_range n k w h0 hn (by omega) (by omega)).mono ?_
      rintro e w' ⟨rfl, rfl⟩
      exact ⟨none, rfl, ⟨rfl, .inl ⟨rfl, rfl⟩⟩, Below.refl _ _⟩
theorem rput_all (n s : Int) (w : World) (h0 : 0 ≤ n) (hn : n ≤ 18446744073709551615) :
    Calls Try.prog 9 #[.int .u64 n, .int .i64 s] w fun e w' => ∃ a, e = .returned (.tuple #[.slice a (putL n s).length (putL n s).length, .int .i64 (putErr n s)]) ∧ Made w' a (putL n s).length (putL n s) ∧ Below w.heap.size w w' := by
  by_cases hs : s < 1 ∨ 8 < s
  · have e1 : putL n s = [] := by unfold putL; rw [if_neg (by omega)]
    have e2 : putErr n s = 1 := by unfold putErr; rw [if_pos hs]
    rw [e1, e2]
    refine (rput_arg n s w hs).mono ?_
    rintro e w' ⟨rfl, rfl⟩
    exact ⟨none, rfl, ⟨rfl, .inl ⟨rfl, rfl⟩⟩, Below.refl _ _⟩
  · obtain ⟨k, rfl⟩ := Int.eq_ofNat_of_zero_le (show 0 ≤ s by omega)
    by_cases hf : n < 256 ^ k
    · have e1 : putL n k = be n k := by unfold putL; rw [Int.toNat_natCast, if_pos ⟨by omega, by omega, hf⟩]
      have e2 : putErr n k = 0 := by unfold putErr; rw [if_neg hs, Int.toNat_natCast, if_pos hf]
      rw [e1, e2, be_length]
      refine (rput_ok n k w h0 (by omega) hf).mono ?_
      rintro e w' ⟨rfl, rfl⟩
      have hm := made_alloc w (be n k)
      rw [be_length] at hm
      exact ⟨_, rfl, hm, by go_grown⟩
    · have e1 : putL n k = [] := by unfold putL; rw [Int.toNat_natCast, if_neg (fun h => hf h.2.2)]
      have e2 : putErr n k = 4 := by unfold putErr; rw [if_neg hs, Int.toNat_natCast, if_neg hf]
      rw [e1, e2]
      refine (rput_range n k w h0 hn (by omega) (by omega)).mono ?_
      rintro e w' ⟨rfl, hb⟩
      exact ⟨none, rfl, ⟨rfl, .inl ⟨rfl, rfl⟩⟩, hb⟩
def getV (xs : List Int) : Int := if 1 ≤ xs.length ∧ xs.length ≤ 8 then val xs else 0
def getErr (xs : List Int) : Int := if 1 ≤ xs.length ∧ xs.length ≤ 8 then 0 else 1
theorem get_all (a : Option Addr) (len cap : Nat) (xs : List Int) (w : World) (hr : Row w a len xs) :
    Calls Try.prog 10 #[.slice a len cap] w fun e w' => e = .returned (.tuple #[.int .u64 (getV xs), .int .i64 (getErr xs)]) ∧ w' = w := by
  have hl := hr.1
  by_cases h : 1 ≤ xs.length ∧ xs.length ≤ 8
  · have e1 : getV xs = val xs := by unfold getV; rw [if_pos h]
    have e2 : getErr xs = 0 := by unfold getErr; rw [if_pos h]
    rw [e1, e2]
    exact get_ok a len cap xs w hr (by omega) (by omega)
  · have e1 : getV xs = 0 := by unfold getV; rw [if_neg h]
    have e2 : getErr xs = 1 := by unfold getErr; rw [if_neg h]
    rw [e1, e2]
    exact get_bad a len cap w hr.2.1 (by omega)
theorem rget_all (a : Option Addr) (len cap : Nat) (xs : List Int) (w : World) (hr : Row w a len xs) :
    Calls Try.prog 11 #[.slice a len cap] w fun e w' => e = .returned (.tuple #[.int .u64 (getV xs), .int .i64 (getErr xs)]) ∧ w' = w := by
  have hl := hr.1
  by_cases h : 1 ≤ xs.length ∧ xs.length ≤ 8
  · have e1 : getV xs = val xs := by unfold getV; rw [if_pos h]
    have e2 : getErr xs = 0 := by unfold getErr; rw [if_pos h]
    rw [e1, e2]
    exact rget_ok a len cap xs w hr (by omega) (by omega)
  · have e1 : getV xs = 0 := by unfold getV; rw [if_neg h]
    have e2 : getErr xs = 1 := by unfold getErr; rw [if_neg h]
    rw [e1, e2]
    exact rget_bad a len cap w hr.2.1 (by omega)
end Go.Proofs.Ytbgnfcjnifcenaa
