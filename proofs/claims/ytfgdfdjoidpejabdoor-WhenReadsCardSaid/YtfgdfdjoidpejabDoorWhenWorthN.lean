/-
  The worth of a Span's text is its number: plain mathematics; the program's ParseSpan.
-/
import Derived.Test.YtfgdfdjoidpejabDoorWhenWorth
import Derived.Test.YtfgdfdjoidpejabDoorWhenSpan0
namespace Go.Proofs.YtfgdfdjoidpejabDoor
open Go.ChangeShapes Go.WideShapes Go.ChangeAt Go.RowKit
set_option linter.unusedVariables false
set_option linter.unusedSimpArgs false
theorem w64_in {x : Int} (h0 : -9223372036854775808 ≤ x) (h1 : x ≤ 9223372036854775807) : w64 x = x := by unfold w64; rw [IntKind.wrap_i64]; omega
theorem w64_add (a x : Int) : w64 (a + w64 x) = w64 (a + x) := by unfold w64; simp only [IntKind.wrap_i64]; omega
theorem w64_add' (a x : Int) : w64 (w64 a + x) = w64 (a + x) := by unfold w64; simp only [IntKind.wrap_i64]; omega
theorem w64_neg (x : Int) : w64 (-w64 x) = w64 (-x) := by unfold w64; simp only [IntKind.wrap_i64]; omega
theorem wst_digit (a d : Int) (r : Nat) (hr : r < 10) (d0 : 0 ≤ d) (d1 : 10 * d + r ≤ 9223372036854775807) : wst (a, d) (48 + r) = (a, 10 * d + r) := by
  unfold wst
  rw [if_neg (by omega), if_neg (by omega), if_neg (by omega), if_neg (by omega), if_neg (by omega)]
  simp only []
  rw [w64_in (x := 10 * d) (by omega) (by omega), show (48 + r + 208) % 256 = r by omega, w64_in (by omega) (by omega)]
theorem fold_dec (a : Int) : ∀ (k v : Nat), v < 10 ^ (k + 1) → v ≤ 9223372036854775807 → (decF k v).foldl wst (a, 0) = (a, (v : Int))
  | 0, v, h, hv => by
    have h' : v < 10 := by simpa using h
    rw [decF, Nat.mod_eq_of_lt h', List.foldl_cons, List.foldl_nil, wst_digit a 0 v h' (by omega) (by omega)]
    simp
  | k + 1, v, h, hv => by
    rw [decF]
    by_cases hu : v < 10
    · rw [if_pos hu, List.foldl_cons, List.foldl_nil, wst_digit a 0 v hu (by omega) (by omega)]
      simp
    · rw [if_neg hu, List.foldl_append, fold_dec a k (v / 10) (by rw [Nat.pow_succ] at h; omega) (by omega), List.foldl_cons, List.foldl_nil, wst_digit a ((v / 10 : Nat) : Int) (v % 10) (by omega) (by omega) (by omega)]
      congr 1
      omega
theorem fold_decN (a : Int) (v : Nat) (hv : v ≤ 9223372036854775807) : (decN v).foldl wst (a, 0) = (a, (v : Int)) := fold_dec a 20 v (Nat.lt_of_le_of_lt hv (by decide)) hv
theorem fold_part (a : Int) (v c m : Nat) (hc : ∀ d : Int, wst (w64 a, d) c = (w64 (w64 a + w64 (d * m)), 0)) (hv : v ≤ 9223372036854775807) : (partN v c).foldl wst (w64 a, 0) = (w64 (a + v * m), 0) := by
  by_cases h : 0 < v
  · rw [part_yes h, List.foldl_append, fold_decN _ v hv, List.foldl_cons, List.foldl_nil, hc, w64_add, w64_add']
  · rw [part_no h, show v = 0 by omega]
    simp
theorem wst_D (a d : Int) : wst (w64 a, d) 68 = (w64 (w64 a + w64 (d * (86400 : Nat))), 0) := rfl
theorem wst_H (a d : Int) : wst (w64 a, d) 72 = (w64 (w64 a + w64 (d * (3600 : Nat))), 0) := rfl
theorem wst_M (a d : Int) : wst (w64 a, d) 77 = (w64 (w64 a + w64 (d * (60 : Nat))), 0) := rfl
theorem wst_S (a d : Int) : wst (w64 a, d) 83 = (w64 (w64 a + w64 (d * (1 : Nat))), 0) := by
  rw [show wst (w64 a, d) 83 = (w64 (w64 a + d), 0) from rfl, w64_add]
  simp
theorem fold_mark (p : Int × Int) (z : Nat) : (markN z).foldl wst p = p := by
  unfold markN
  split <;> rfl
theorem fold_last (a : Int) (z : Nat) : (lastN z).foldl wst (w64 a, 0) = (w64 (a + (z % 60 : Nat)), 0) := by
  by_cases h : 0 < z % 60 ∨ z = 0
  · unfold lastN
    rw [if_pos h, List.foldl_append, fold_decN _ _ (by omega), List.foldl_cons, List.foldl_nil, wst_S, w64_add, w64_add']
    simp
  · unfold lastN
    rw [if_neg h, show z % 60 = 0 by omega]
    simp
theorem wfo_span (n : Int) (n0 : -9223372036854775808 ≤ n) (n1 : n ≤ 9223372036854775807) : wfo (spanN n) = (w64 (n.natAbs : Int), 0) := by
  have hz : n.natAbs ≤ 9223372036854775808 := by omega
  unfold wfo spanN
  have hhd : (headN n).foldl wst (0, 0) = (w64 0, 0) := by
    unfold headN
    split <;> rfl
  rw [List.foldl_append, List.foldl_append, List.foldl_append, List.foldl_append, List.foldl_append, hhd]
  generalize n.natAbs = z at *
  rw [fold_part 0 _ 68 86400 (wst_D 0) (by omega), fold_mark, fold_part _ _ 72 3600 (wst_H _) (by omega), fold_part _ _ 77 60 (wst_M _) (by omega), fold_last]
  congr 2
  omega
theorem worth_span (n : Int) (n0 : -9223372036854775808 ≤ n) (n1 : n ≤ 9223372036854775807) : worthN (spanN n) = n := by
  unfold worthN
  rw [wfo_span n n0 n1]
  by_cases h : 0 ≤ n
  · have : (spanN n).head? = some 80 := by unfold spanN headN; rw [if_pos h]; rfl
    rw [this, if_neg (by decide)]
    simp only []
    rw [w64_in (by omega) (by omega)]
    omega
  · have : (spanN n).head? = some 45 := by unfold spanN headN; rw [if_neg h]; rfl
    rw [this, if_pos rfl]
    simp only []
    rw [w64_neg, show -((n.natAbs : Nat) : Int) = n by omega, w64_in n0 n1]
theorem dec_small (k v : Nat) : ∀ c ∈ decF k v, c < 256 := by
  induction k generalizing v with
  | zero => intro c hc; simp only [decF, List.mem_cons, List.not_mem_nil, or_false] at hc; omega
  | succ k ih =>
    intro c hc
    rw [decF] at hc
    split at hc
    · simp only [List.mem_cons, List.not_mem_nil, or_false] at hc; omega
    · rw [List.mem_append] at hc
      rcases hc with hc | hc
      · exact ih _ c hc
      · simp only [List.mem_cons, List.not_mem_nil, or_false] at hc; omega
theorem part_small (v : Nat) {x : Nat} (hx : x < 256) : ∀ c ∈ partN v x, c < 256 := by
  intro c hc
  unfold partN at hc
  split at hc
  · rw [List.mem_append] at hc
    rcases hc with hc | hc
    · exact dec_small 20 v c hc
    · simp only [List.mem_cons, List.not_mem_nil, or_false] at hc; omega
  · simp at hc
theorem span_small (n : Int) : ∀ c ∈ spanN n, c < 256 := by
  intro c hc
  unfold spanN at hc
  simp only [List.mem_append] at hc
  rcases hc with ((((hc | hc) | hc) | hc) | hc) | hc
  · unfold headN at hc
    split at hc <;> simp only [List.mem_cons, List.not_mem_nil, or_false] at hc <;> omega
  · exact part_small _ (by decide) c hc
  · unfold markN at hc
    split at hc
    · simp only [List.mem_cons, List.not_mem_nil, or_false] at hc; omega
    · simp at hc
  · exact part_small _ (by decide) c hc
  · exact part_small _ (by decide) c hc
  · unfold lastN at hc
    split at hc
    · rw [List.mem_append] at hc
      rcases hc with hc | hc
      · exact dec_small 20 _ c hc
      · simp only [List.mem_cons, List.not_mem_nil, or_false] at hc; omega
    · simp at hc
theorem span_len (n : Int) : (spanN n).length ≤ 1000 := by
  have h1 := part_len (n.natAbs / 86400) 68
  have h2 := part_len (n.natAbs % 86400 / 3600) 72
  have h3 := part_len (n.natAbs % 3600 / 60) 77
  have h4 : (headN n).length ≤ 2 := by unfold headN; split <;> simp
  have h5 : (markN n.natAbs).length ≤ 1 := by unfold markN; split <;> simp
  have h6 : (lastN n.natAbs).length ≤ 22 := by
    unfold lastN
    split
    · have := dec_len (n.natAbs % 60)
      rw [List.length_append]
      simp
      omega
    · simp
  unfold spanN
  simp only [List.length_append]
  omega
set_option maxHeartbeats 2000000 in
theorem pspan_any (S : ByteArray) (w : World) (hP : TabP w) (hs : S.size ≤ 9223372036854775807) :
    Calls Tryd.prog 4 #[.string S] w fun e w' => ((strN (spanN (worthN (txt S))) = S ∧ e = .returned (.tuple #[.int .i64 (worthN (txt S)), .int .i64 0])) ∨ (strN (spanN (worthN (txt S))) ≠ S ∧ e = .returned (.tuple #[.int .i64 0, .int .i64 5]))) ∧ Below w.heap.size w w' := by
  have HW : Hid _ := worth_any S w hs
  obtain ⟨b0, b1⟩ := worth_bound (txt S)
  generalize worthN (txt S) = v at *
  have HS : Hid _ := span_any v w hP b0 b1
  generalize strN (spanN v) = X at *
  have hse := str_eq X S
  by_cases he : X = S
  · have k1 : (X.toList == S.toList) = true := by rw [he]; simp
    have HE : Hid (X = S) := he
    clear he hse hP
    go_enter Tryd.func4, Tryd.ntmps4
    go_wp2_with fail
    refine Calls.mono HW.out ?_
    rintro _ w' ⟨rfl, hw⟩
    replace hw := hw.symm
    subst hw
    go_wp2_with fail
    refine Calls.mono HS.out ?_
    rintro _ w2 ⟨rfl, hb⟩
    go_wp2_with fail
    go_ret2
    exact ⟨.inl ⟨HE.out, rfl⟩, hb⟩
  · have k1 : (X.toList == S.toList) = false := by
      rw [hse]
      exact decide_eq_false (fun h => he (by rw [← strN_txt X, h, strN_txt]))
    have HE : Hid (X ≠ S) := he
    clear he hse hP
    go_enter Tryd.func4, Tryd.ntmps4
    go_wp2_with fail
    refine Calls.mono HW.out ?_
    rintro _ w' ⟨rfl, hw⟩
    replace hw := hw.symm
    subst hw
    go_wp2_with fail
    refine Calls.mono HS.out ?_
    rintro _ w2 ⟨rfl, hb⟩
    go_wp2_with fail
    go_ret2
    exact ⟨.inr ⟨HE.out, rfl⟩, hb⟩
end Go.Proofs.YtfgdfdjoidpejabDoor
