/-
  Package crc's Sum, and More and Sum of the document's answer, bit by bit: the same plain functions of the bytes.
-/
import Derived.Test.YtaahmpabhophfaaDoorCrcFeed
namespace Go.Proofs.YtaahmpabhophfaaDoor
open Go.ChangeShapes Go.WideShapes Go.ChangeAt Go.RowKit
set_option linter.unusedVariables false
set_option linter.unusedSimpArgs false
theorem feed_snoc (k : Nat) : ∀ r c, Go.Proofs.YtaahmpabhophfaaDoor.feed (k + 1) r c = bst (Go.Proofs.YtaahmpabhophfaaDoor.feed k r c) (c / 2 ^ k % 2) := by
  induction k with
  | zero => intro r c; rw [Nat.pow_zero, Nat.div_one]; rfl
  | succ k ih =>
    intro r c
    rw [Go.Proofs.YtaahmpabhophfaaDoor.feed, ih, Go.Proofs.YtaahmpabhophfaaDoor.feed, Nat.div_div_eq_div_mul, Nat.pow_succ, Nat.mul_comm 2]
theorem feed_lt (k : Nat) (r c : Nat) (h : r < 4294967296) (hc : c < 256) : Go.Proofs.YtaahmpabhophfaaDoor.feed k r c < 4294967296 := by
  rw [feed_eq]
  exact zn_lt k _ (Nat.xor_lt_two_pow (n := 32) h (Nat.lt_of_le_of_lt (Nat.mod_le _ _) (by omega)))
theorem ones_word (S : Nat) (h : S < 4294967296) : bits .xor .u32 (S : Int) 4294967295 = ((S ^^^ ones32 : Nat) : Int) :=
  u32_xor_nat S 4294967295 h (by decide)
theorem poly_word (S : Nat) (h : S < 4294967296) : bits .xor .u32 (S : Int) 2197175160 = ((S ^^^ poly : Nat) : Int) :=
  u32_xor_nat S 2197175160 h (by decide)
theorem bit_tmod (c j : Nat) : ((c : Int) / 2 ^ j).tmod 2 = ((c / 2 ^ j % 2 : Nat) : Int) := by
  have e : (c : Int) / 2 ^ j = ((c / 2 ^ j : Nat) : Int) := by simp
  rw [e, Int.tmod_eq_emod_of_nonneg (Int.natCast_nonneg _)]
  exact (Int.natCast_emod _ _).symm
theorem half_poly (Y : Nat) (h : Y < 4294967296) : bits .xor .u32 ((Y : Int) / 2) 2197175160 = ((Y / 2 ^^^ poly : Nat) : Int) := by
  rw [show (Y : Int) / 2 = ((Y / 2 : Nat) : Int) by omega]
  exact poly_word (Y / 2) (by omega)
/-- Parts in memory: 'len' slices of bytes. -/
def Parts (w : World) (a : Option Addr) (len : Nat) (ps : List (List Nat)) : Prop :=
  ps.length = len ∧ len ≤ maxLen ∧
  (len = 0 ∨ ∃ b off, a = some ⟨b, off, none⟩ ∧ b < w.heap.size ∧ ∀ i, i < len → ∃ ai li ci, w.cell? ⟨b, off + i, none⟩ = some (.slice ai li ci) ∧ Row w ai li (ps.getD i []))
theorem Parts.below {w w' : World} {a : Option Addr} {len : Nat} {ps : List (List Nat)} (h : Parts w a len ps) (hb : Below w.heap.size w w') : Parts w' a len ps := by
  obtain ⟨h1, h2, h4⟩ := h
  refine ⟨h1, h2, ?_⟩
  rcases h4 with h4 | ⟨b, off, ha, hlt, hc⟩
  · exact .inl h4
  · refine .inr ⟨b, off, ha, Nat.lt_of_lt_of_le hlt hb.size, fun i hi => ?_⟩
    obtain ⟨ai, li, ci, h5, h6⟩ := hc i hi
    exact ⟨ai, li, ci, (hb.cell (p := ⟨b, off + i, none⟩) hlt).trans h5, h6.below hb⟩
theorem Parts.nil (w : World) (a : Option Addr) : Parts w a 0 [] := ⟨rfl, Nat.zero_le _, .inl rfl⟩
def sumsN (S : Nat) (ps : List (List Nat)) : Nat := ps.foldl moreN S
theorem sumsN_take (S : Nat) (ps : List (List Nat)) (k : Nat) (h : k < ps.length) : sumsN S (ps.take (k + 1)) = moreN (sumsN S (ps.take k)) (ps.getD k []) := by
  unfold sumsN
  rw [List.take_succ_eq_append_getElem h, List.foldl_append]
  simp [List.getD, h]
theorem sumsN_lt (ps : List (List Nat)) : ∀ S, S < 4294967296 → (∀ xs ∈ ps, ∀ c ∈ xs, c < 256) → sumsN S ps < 4294967296 := by
  induction ps with
  | nil => intro S h _; exact h
  | cons xs ps ih =>
    intro S h hb
    exact ih _ (moreN_lt S xs h (hb xs (List.mem_cons_self ..))) (fun x hx => hb x (List.mem_cons_of_mem _ hx))
theorem Parts.bytes {w : World} {a : Option Addr} {len : Nat} {ps : List (List Nat)} (h : Parts w a len ps) : ∀ xs ∈ ps, ∀ c ∈ xs, c < 256 := by
  obtain ⟨h1, h2, h3⟩ := h
  intro xs hx
  obtain ⟨i, hi, rfl⟩ := List.getElem_of_mem hx
  rcases h3 with h3 | ⟨b, off, ha, hlt, hc⟩
  · omega
  · obtain ⟨ai, li, ci, _, h6⟩ := hc i (by omega)
    have := h6.2.2.1
    simpa [List.getD, hi] using this
theorem sum_any (a : Option Addr) (len cap : Nat) (ps : List (List Nat)) (w : World) (hr : Parts w a len ps) (h : HalfTab w) :
    Calls Tryd.prog 23 #[.slice a len cap] w fun e w' => e = .returned (.int .u32 (sumsN 0 ps : Nat)) ∧ w' = w := by
  have HB : Hid (∀ xs ∈ ps, ∀ c ∈ xs, c < 256) := hr.bytes
  obtain ⟨hl, hm, hc⟩ := hr
  have HC : Hid (len = 0 ∨ ∃ b off, a = some ⟨b, off, none⟩ ∧ b < w.heap.size ∧ ∀ i, i < len → ∃ ai li ci, w.cell? ⟨b, off + i, none⟩ = some (.slice ai li ci) ∧ Row w ai li (ps.getD i [])) := hc
  have HT : Hid (HalfTab w) := h
  have HL : Hid (ps.length = len) := hl
  unfold maxLen at hm
  clear hc h hl
  go_enter Tryd.func23, Tryd.ntmps23
  go_wp2
  go_loop [3, 8] (fun n i => ∃ k : Nat, k ≤ len ∧ i = .int .i64 k ∧ n = .int .u32 (sumsN 0 (ps.take k) : Nat)) (fun _ i => len - (intOf i).toNat)
  case atStart => exact ⟨0, Nat.zero_le _, rfl, rfl⟩
  case round =>
    obtain ⟨k, hk, rfl, rfl⟩ := hrel
    have hr := sumsN_lt (ps.take k) 0 (by decide) (fun xs hx => HB.out xs (List.mem_of_mem_take hx))
    by_cases hlt : k < len
    · obtain h0 | ⟨b, off, rfl, -, hcs⟩ := HC.out
      · omega
      obtain ⟨ai, li, ci, hc, hrow⟩ := hcs k hlt
      clear hcs
      have HR : Hid (Row w ai li (ps.getD k [])) := hrow
      clear hrow
      have hS : Hid (sumsN 0 (ps.take (k + 1)) = moreN (sumsN 0 (ps.take k)) (ps.getD k [])) := sumsN_take 0 ps k (by have := HL.out; omega)
      generalize sumsN 0 (ps.take k) = v at *
      generalize ps.getD k [] = c at *
      go_wp2_with fail
      refine (more_any v ai li ci c _ hr HR.out HT.out).mono ?_
      rintro e w' ⟨rfl, rfl⟩
      rw [← hS.out]
      go_wp2_with fail
      go_round
      case rel => exact ⟨k + 1, by omega, by go_num, rfl⟩
      case measure => simp [intOf]; omega
    · have hkl : k = len := by omega
      subst hkl
      have e : ps.take k = ps := by rw [← HL.out, List.take_length]
      rw [e] at hr ⊢
      go_wp2
      go_ret
      exact ⟨rfl, rfl⟩
def regsN (R : Nat) (ps : List (List Nat)) : Nat := ps.foldl regN R
theorem sums_regs (ps : List (List Nat)) : ∀ S, sumsN S ps = regsN (S ^^^ ones32) ps ^^^ ones32 := by
  induction ps with
  | nil => intro S; show S = (S ^^^ ones32) ^^^ ones32; rw [Nat.xor_assoc, Nat.xor_self, Nat.xor_zero]
  | cons xs ps ih =>
    intro S
    show sumsN (moreN S xs) ps = regsN (regN (S ^^^ ones32) xs) ps ^^^ ones32
    rw [ih]
    unfold moreN
    rw [Nat.xor_assoc (regN (S ^^^ ones32) xs), Nat.xor_self, Nat.xor_zero]
theorem regsN_take (R : Nat) (ps : List (List Nat)) (k : Nat) (h : k < ps.length) : regsN R (ps.take (k + 1)) = regN (regsN R (ps.take k)) (ps.getD k []) := by
  unfold regsN
  rw [List.take_succ_eq_append_getElem h, List.foldl_append]
  simp [List.getD, h]
theorem regsN_lt (ps : List (List Nat)) : ∀ R, R < 4294967296 → (∀ xs ∈ ps, ∀ c ∈ xs, c < 256) → regsN R ps < 4294967296 := by
  induction ps with
  | nil => intro S h _; exact h
  | cons xs ps ih =>
    intro S h hb
    exact ih _ (regN_lt xs S h (hb xs (List.mem_cons_self ..))) (fun x hx => hb x (List.mem_cons_of_mem _ hx))
theorem rsum_any (a : Option Addr) (len cap : Nat) (ps : List (List Nat)) (w : World) (hr : Parts w a len ps) :
    Calls Tryd.prog 19 #[.slice a len cap] w fun e w' => e = .returned (.int .u32 (sumsN 0 ps : Nat)) ∧ w' = w := by
  have HPB : Hid (∀ xs ∈ ps, ∀ c ∈ xs, c < 256) := hr.bytes
  obtain ⟨hl, hm, hc⟩ := hr
  have HP : Hid (len = 0 ∨ ∃ b off, a = some ⟨b, off, none⟩ ∧ b < w.heap.size ∧ ∀ i, i < len → ∃ ai li ci, w.cell? ⟨b, off + i, none⟩ = some (.slice ai li ci) ∧ Row w ai li (ps.getD i [])) := hc
  have HL0 : Hid (ps.length = len) := hl
  have HM : Hid (sumsN 0 ps = regsN ones32 ps ^^^ ones32) := by rw [sums_regs, Nat.zero_xor]; exact rfl
  unfold maxLen at hm
  clear hc hl
  have hO : ones32 < 4294967296 := by decide
  have HO : Hid (ones32 = 4294967295) := rfl
  go_enter Tryd.func19, Tryd.ntmps19
  go_wp2
  go_loop [4, 5] (fun n i => ∃ p : Nat, p ≤ len ∧ i = .int .i64 p ∧ n = .int .u32 (regsN ones32 (ps.take p) : Nat)) (fun _ i => len - (intOf i).toNat)
  case atStart => exact ⟨0, Nat.zero_le _, rfl, rfl⟩
  case round =>
    obtain ⟨p, hp, rfl, rfl⟩ := hrel
    have hR := regsN_lt (ps.take p) ones32 hO (fun xs hx => HPB.out xs (List.mem_of_mem_take hx))
    by_cases hltp : p < len
    · obtain h0 | ⟨pb, poff, rfl, -, hcs⟩ := HP.out
      · omega
      obtain ⟨ai, li, ci, hpc, hrow⟩ := hcs p hltp
      clear hcs
      have HSP : Hid (regsN ones32 (ps.take (p + 1)) = regN (regsN ones32 (ps.take p)) (ps.getD p [])) := regsN_take ones32 ps p (by have := HL0.out; omega)
      generalize regsN ones32 (ps.take p) = R at *
      generalize ps.getD p [] = xs at *
      obtain ⟨hl, hm2, hb, hc⟩ := hrow
      have HC : Hid (li = 0 ∨ ∃ b off, ai = some ⟨b, off, none⟩ ∧ b < w.heap.size ∧ ∀ i, i < li → w.cell? ⟨b, off + i, none⟩ = some (.int .u8 (xs.getD i 0 : Nat))) := hc
      have HB : Hid (∀ c ∈ xs, c < 256) := hb
      have HL : Hid (xs.length = li) := hl
      unfold maxLen at hm2
      clear hc hb hl
      go_wp2
      go_loop [4, 6] (fun n i => ∃ k : Nat, k ≤ li ∧ i = .int .i64 k ∧ n = .int .u32 (regN R (xs.take k) : Nat)) (fun _ i => li - (intOf i).toNat)
      case atStart => exact ⟨0, Nat.zero_le _, rfl, rfl⟩
      case round =>
        obtain ⟨k, hk, rfl, rfl⟩ := hrel
        have hr := regN_lt (xs.take k) R hR (mem_take_lt xs HB.out k)
        by_cases hlt : k < li
        · obtain h0 | ⟨b, off, rfl, -, hcs⟩ := HC.out
          · omega
          have hc := hcs k hlt
          clear hcs
          have hS : Hid (regN R (xs.take (k + 1)) = byteN (regN R (xs.take k)) (xs.getD k 0)) := regN_take R xs k (by have := HL.out; omega)
          have hcb := getD_lt xs HB.out k
          generalize regN R (xs.take k) = v at *
          generalize xs.getD k 0 = c at *
          have HF : Hid (Go.Proofs.YtaahmpabhophfaaDoor.feed 8 v c = byteN v c) := feed_byte v c hcb
          have HFL : Hid (∀ j, Go.Proofs.YtaahmpabhophfaaDoor.feed j v c < 4294967296) := fun j => feed_lt j v c hr hcb
          go_wp2
          go_loop [4, 7] (fun n i => ∃ j : Nat, j ≤ 8 ∧ i = .int .i64 j ∧ n = .int .u32 (Go.Proofs.YtaahmpabhophfaaDoor.feed j v c : Nat)) (fun _ i => 8 - (intOf i).toNat)
          case atStart => exact ⟨0, Nat.zero_le _, rfl, rfl⟩
          case round =>
            obtain ⟨j, hj, rfl, rfl⟩ := hrel
            have hfl := HFL.out j
            by_cases hlt8 : j < 8
            · have HS : Hid (Go.Proofs.YtaahmpabhophfaaDoor.feed (j + 1) v c = bst (Go.Proofs.YtaahmpabhophfaaDoor.feed j v c) (c / 2 ^ j % 2)) := feed_snoc j v c
              generalize Go.Proofs.YtaahmpabhophfaaDoor.feed j v c = Y at *
              have hd := bit_tmod c j
              have hd2 : c / 2 ^ j % 2 < 2 := Nat.mod_lt _ (by decide)
              generalize c / 2 ^ j % 2 = d at *
              by_cases hq : d = Y % 2
              · have hbst : Hid (bst Y d = Y / 2) := by unfold bst; rw [if_pos hq]; exact rfl
                have ht : ((d : Int) != (Y : Int) % 2) = false := by simp; omega
                clear hq
                go_wp2
                go_round
                case rel => exact ⟨j + 1, by omega, by go_num, by rw [HS.out, hbst.out]; go_num⟩
                case measure => simp [intOf]; omega
              · have hbst : Hid (bst Y d = Y / 2 ^^^ poly) := by unfold bst; rw [if_neg hq]; exact rfl
                have ht : ((d : Int) != (Y : Int) % 2) = true := by simp; omega
                have hpw := half_poly Y hfl
                clear hq
                go_wp2
                go_round
                case rel => exact ⟨j + 1, by omega, by go_num, by rw [HS.out, hbst.out]⟩
                case measure => simp [intOf]; omega
            · have hj8 : j = 8 := by omega
              subst hj8
              rw [HF.out, ← hS.out]
              go_wp2
              go_round
              case rel => exact ⟨k + 1, by omega, by go_num, rfl⟩
              case measure => simp [intOf]; omega
        · have hkl : k = li := by omega
          subst hkl
          have e : xs.take k = xs := by rw [← HL.out, List.take_length]
          rw [e] at hr ⊢
          rw [← HSP.out]
          go_wp2
          go_round
          case rel => exact ⟨p + 1, by omega, by go_num, rfl⟩
          case measure => simp [intOf]; omega
    · have hkl : p = len := by omega
      subst hkl
      have e : ps.take p = ps := by rw [← HL0.out, List.take_length]
      rw [e] at hR ⊢
      have hN2 := ones_word (regsN ones32 ps) hR
      rw [← HM.out] at hN2
      go_wp2
      go_ret
      exact ⟨rfl, rfl⟩
end Go.Proofs.YtaahmpabhophfaaDoor
