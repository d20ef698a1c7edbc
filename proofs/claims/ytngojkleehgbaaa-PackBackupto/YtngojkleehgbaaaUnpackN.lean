/-
  The number that bytes begin with, seven bits in each, the lowest first: the answer as plain functions of the bytes; Unpack of package bits and of the document's answer give just that.
-/
import Derived.Test.YtngojkleehgbaaaBytes
namespace Go.Proofs.Ytngojkleehgbaaa
open Go.ChangeShapes Go.WideShapes Go.ChangeAt Go.RowKit
set_option linter.unusedVariables false
set_option linter.unusedSimpArgs false
/-- How many bytes ahead have their highest bit 1. -/
def lead : List Int → Nat
  | [] => 0
  | c :: r => if 128 ≤ c then lead r + 1 else 0
theorem lead_le (xs : List Int) : lead xs ≤ xs.length := by
  induction xs with
  | nil => simp [lead]
  | cons c r ih => rw [lead]; split <;> simp <;> omega
theorem lead_ge (xs : List Int) (k : Nat) (hk : k ≤ xs.length) (h : ∀ j, j < k → 128 ≤ xs.getD j 0) : k ≤ lead xs := by
  induction xs generalizing k with
  | nil => simp at hk; omega
  | cons c r ih =>
    cases k with
    | zero => omega
    | succ k =>
      have h0 := h 0 (by omega)
      simp at h0
      rw [lead, if_pos h0]
      have := ih k (by simpa using hk) (fun j hj => by have := h (j + 1) (by omega); simpa using this)
      omega
theorem lead_at (xs : List Int) (k : Nat) (hk : k < xs.length) (h : ∀ j, j < k → 128 ≤ xs.getD j 0) (hc : xs.getD k 0 < 128) : lead xs = k := by
  induction xs generalizing k with
  | nil => simp at hk
  | cons c r ih =>
    cases k with
    | zero => simp at hc; rw [lead, if_neg (by omega)]
    | succ k =>
      have h0 := h 0 (by omega)
      simp at h0
      rw [lead, if_pos h0, ih k (by simpa using hk) (fun j hj => by have := h (j + 1) (by omega); simpa using this) (by simpa using hc)]
def lvF (d : Nat → Int) (i : Nat) : Nat → Int
  | 0 => 0
  | c + 1 => d i + 128 * lvF d (i + 1) c
theorem lvF_top (d : Nat → Int) (c : Nat) : ∀ i, lvF d i (c + 1) = lvF d i c + 128 ^ c * d (i + c) := by
  induction c with
  | zero => intro i; simp [lvF]
  | succ c ih =>
    intro i
    rw [lvF, ih (i + 1), lvF, Int.pow_succ, show i + 1 + c = i + (c + 1) by omega, Int.mul_add, ← Int.mul_assoc, Int.mul_comm 128 (128 ^ c), Int.add_assoc]
theorem lvF_bound (d : Nat → Int) (hd : ∀ j, 0 ≤ d j ∧ d j ≤ 127) (c : Nat) : ∀ i, 0 ≤ lvF d i c ∧ lvF d i c < 128 ^ c := by
  induction c with
  | zero => intro i; simp [lvF]
  | succ c ih =>
    intro i
    have := ih (i + 1)
    have := hd i
    rw [lvF, Int.pow_succ]
    omega
theorem lvF_bound1 (d : Nat → Int) (hd : ∀ j, 0 ≤ d j ∧ d j ≤ 127) (c i : Nat) (h : d (i + c) ≤ 1) : lvF d i (c + 1) < 2 * 128 ^ c := by
  have h1 := lvF_bound d hd c i
  have h2 := hd (i + c)
  rw [lvF_top]
  obtain h3 | h3 : d (i + c) = 0 ∨ d (i + c) = 1 := by omega
  · rw [h3]; omega
  · rw [h3]; omega
def upE (xs : List Int) : Int := if 10 ≤ lead xs then 2 else if lead xs = xs.length then 3 else if (lead xs = 9 ∧ 1 < xs.getD 9 0) ∨ (0 < lead xs ∧ xs.getD (lead xs) 0 = 0) then 2 else 0
def upV (xs : List Int) : Int := if upE xs = 0 then lvF (fun j => xs.getD j 0 % 128) 0 (lead xs + 1) else 0
def upU (xs : List Int) : Int := if upE xs = 0 then ((lead xs + 1 : Nat) : Int) else 0
/-- All three answers, where there is an error. -/
theorem up_err (xs : List Int) (e : Int) (he : e ≠ 0) (h : upE xs = e) : upE xs = e ∧ upV xs = 0 ∧ upU xs = 0 := by
  refine ⟨h, ?_, ?_⟩
  · unfold upV; rw [if_neg (by omega)]
  · unfold upU; rw [if_neg (by omega)]
theorem up_long (xs : List Int) (h : 10 ≤ lead xs) : upE xs = 2 ∧ upV xs = 0 ∧ upU xs = 0 :=
  up_err xs 2 (by decide) (by unfold upE; rw [if_pos h])
theorem up_short (xs : List Int) (h : ¬ 10 ≤ lead xs) (h1 : lead xs = xs.length) : upE xs = 3 ∧ upV xs = 0 ∧ upU xs = 0 :=
  up_err xs 3 (by decide) (by unfold upE; rw [if_neg h, if_pos h1])
theorem up_form (xs : List Int) (h : ¬ 10 ≤ lead xs) (h1 : lead xs ≠ xs.length) (h2 : (lead xs = 9 ∧ 1 < xs.getD 9 0) ∨ (0 < lead xs ∧ xs.getD (lead xs) 0 = 0)) : upE xs = 2 ∧ upV xs = 0 ∧ upU xs = 0 :=
  up_err xs 2 (by decide) (by unfold upE; rw [if_neg h, if_neg h1, if_pos h2])
theorem up_ok (xs : List Int) (h : ¬ 10 ≤ lead xs) (h1 : lead xs ≠ xs.length) (h2 : ¬ ((lead xs = 9 ∧ 1 < xs.getD 9 0) ∨ (0 < lead xs ∧ xs.getD (lead xs) 0 = 0))) :
    upE xs = 0 ∧ upV xs = lvF (fun j => xs.getD j 0 % 128) 0 (lead xs + 1) ∧ upU xs = ((lead xs + 1 : Nat) : Int) := by
  have e : upE xs = 0 := by unfold upE; rw [if_neg h, if_neg h1, if_neg h2]
  exact ⟨e, by unfold upV; rw [if_pos e], by unfold upU; rw [if_pos e]⟩
theorem and128 (x : Int) (h0 : 0 ≤ x) (h1 : x ≤ 255) : bits .and .u8 x 128 = if 128 ≤ x then 128 else 0 := by
  obtain ⟨n, rfl⟩ := Int.eq_ofNat_of_zero_le h0
  have hall : ∀ n : Fin 256, bits .and .u8 ((n.val : Nat) : Int) 128 = if 128 ≤ ((n.val : Nat) : Int) then 128 else 0 := by decide +kernel
  exact hall ⟨n, by omega⟩
theorem and127 (x : Int) (h0 : 0 ≤ x) (h1 : x ≤ 255) : bits .and .u8 x 127 = x % 128 := by
  obtain ⟨n, rfl⟩ := Int.eq_ofNat_of_zero_le h0
  have hall : ∀ n : Fin 256, bits .and .u8 ((n.val : Nat) : Int) 127 = ((n.val : Nat) : Int) % 128 := by decide +kernel
  exact hall ⟨n, by omega⟩
theorem wraps64 (n : Int) (a : 0 ≤ n) (b : n < 2 ^ 64) : IntKind.u64.wrap n = n := by rw [IntKind.wrap_u64]; omega
theorem or_comm64 (x y : Int) (x0 : 0 ≤ x) (x1 : x < 2 ^ 64) (y0 : 0 ≤ y) (y1 : y < 2 ^ 64) : bits .or .u64 x y = bits .or .u64 y x := by
  obtain ⟨a, rfl⟩ := Int.eq_ofNat_of_zero_le x0
  obtain ⟨b, rfl⟩ := Int.eq_ofNat_of_zero_le y0
  have ha : a < 2 ^ 64 := by omega
  have hb : b < 2 ^ 64 := by omega
  rw [(bits_nat .u64 64 (by decide) wraps64 a b ha hb).2, (bits_nat .u64 64 (by decide) wraps64 b a hb ha).2, Nat.or_comm]
theorem pow7 (k : Nat) : (2 : Int) ^ (7 * k) = 128 ^ k := by rw [Int.pow_mul]; rfl
theorem pow7_le (k : Nat) (h : k ≤ 8) : (128 : Int) ^ k ≤ 72057594037927936 := by
  obtain rfl | rfl | rfl | rfl | rfl | rfl | rfl | rfl | rfl : k = 0 ∨ k = 1 ∨ k = 2 ∨ k = 3 ∨ k = 4 ∨ k = 5 ∨ k = 6 ∨ k = 7 ∨ k = 8 := by omega
  all_goals decide
theorem digit_fits (d : Int) (k : Nat) (d0 : 0 ≤ d) (d1 : d ≤ 127) (h : k ≤ 8 ∨ (k = 9 ∧ d ≤ 1)) : 0 ≤ 128 ^ k * d ∧ 128 ^ k * d < 18446744073709551616 := by
  have hp : (0 : Int) < 128 ^ k := Int.pow_pos (by decide)
  refine ⟨Int.mul_nonneg (by omega) d0, ?_⟩
  rcases h with h | ⟨rfl, h⟩
  · have h1 := pow7_le k h
    have h2 : (128 : Int) ^ k * d ≤ 72057594037927936 * d := Int.mul_le_mul_of_nonneg_right h1 d0
    omega
  · omega
theorem or_add7 (v d : Int) (k : Nat) (v0 : 0 ≤ v) (v1 : v < 128 ^ k) (d0 : 0 ≤ d) (d1 : d ≤ 127) (h : k ≤ 8 ∨ (k = 9 ∧ d ≤ 1)) :
    bits .or .u64 v (IntKind.u64.wrap (d * 2 ^ (7 * k))) = v + 128 ^ k * d := by
  obtain ⟨f0, f1⟩ := digit_fits d k d0 d1 h
  have hk : (128 : Int) ^ k ≤ 18446744073709551616 := by
    rcases h with h | ⟨rfl, _⟩
    · have := pow7_le k h; omega
    · decide
  rw [pow7, Int.mul_comm d, wraps64 _ f0 (by omega), or_comm64 v _ v0 (by omega) f0 (by omega)]
  rw [bits_join .u64 64 (by decide) wraps64 (7 * k) (128 ^ k * d) v f0 (by rw [pow7, Int.mul_emod_right]) (by omega) v0 (by rw [pow7]; exact v1) (by omega), Int.add_comm]
theorem unpack_all (a : Option Addr) (len cap : Nat) (xs : List Int) (w : World) (hr : Row w a len xs) :
    Calls Try.prog 41 #[.slice a len cap] w fun e w' => e = .returned (.tuple #[.int .u64 (upV xs), .int .i64 (upU xs), .int .i64 (upE xs)]) ∧ w' = w := by
  obtain ⟨hl, hm, hb, hrow⟩ := hr
  unfold maxLen at hm
  have hd : ∀ j, 0 ≤ (fun j => xs.getD j 0 % 128) j ∧ (fun j => xs.getD j 0 % 128) j ≤ 127 := fun j => by have := hb j; simp only []; omega
  have hv := lvF_bound _ hd
  have HROW := hrow
  have HR : Hid (len = 0 ∨ ∃ b off, a = some ⟨b, off, none⟩ ∧ b < w.heap.size ∧ ∀ i, i < len → w.cell? ⟨b, off + i, none⟩ = some (.int .u8 (xs.getD i 0))) := hrow
  clear hrow HROW hd
  go_enter Try.func41, Try.ntmps41
  go_wp2
  go_loop [2, 9] (fun n i => ∃ k : Nat, k ≤ len ∧ k ≤ 9 ∧ i = .int .i64 k ∧ n = .int .u64 (lvF (fun j => xs.getD j 0 % 128) 0 k) ∧ ∀ j, j < k → 128 ≤ xs.getD j 0) (fun _ i => len - (intOf i).toNat)
  case atStart => exact ⟨0, Nat.zero_le _, by omega, rfl, rfl, fun j hj => by omega⟩
  case round =>
    obtain ⟨k, hk, hk9, rfl, rfl, hall⟩ := hrel
    have HA : Hid (∀ j, j < k → 128 ≤ xs.getD j 0) := hall
    clear hall
    by_cases hlt : k < len
    · obtain ⟨b, off, rfl, hc⟩ : ∃ b off, a = some ⟨b, off, none⟩ ∧ w.cell? ⟨b, off + k, none⟩ = some (.int .u8 (xs.getD k 0)) := by
        rcases HR.out with h | ⟨b, off, h1, _, h3⟩
        · omega
        · exact ⟨b, off, h1, h3 k hlt⟩
      obtain ⟨c0, c1⟩ := hb k
      obtain ⟨v0, v1⟩ := hv k 0
      have ea := and128 _ c0 c1
      have em := and127 _ c0 c1
      obtain ⟨c, hcq⟩ : ∃ c, c = xs.getD k 0 := ⟨_, rfl⟩
      obtain ⟨v, hvq⟩ : ∃ v, v = lvF (fun j => xs.getD j 0 % 128) 0 k := ⟨_, rfl⟩
      rw [← hcq] at ea em c0 c1 hc
      rw [← hvq] at v0 v1 ⊢
      have HC : Hid (c = xs.getD k 0) := hcq
      have HV : Hid (v = lvF (fun j => xs.getD j 0 % 128) 0 k) := hvq
      clear hcq hvq hb hv
      by_cases hA : k = 9 ∧ 1 < c
      · obtain ⟨rfl, hA⟩ := hA
        have hfin : upE xs = 2 ∧ upV xs = 0 ∧ upU xs = 0 := by
          have hc := HC.out
          by_cases h10 : 128 ≤ c
          · refine up_long xs (lead_ge xs 10 (by omega) fun j hj => ?_)
            by_cases hj9 : j = 9
            · subst hj9; omega
            · exact HA.out j (by omega)
          · have hL := lead_at xs 9 (by omega) HA.out (by omega)
            exact up_form xs (by omega) (by omega) (.inl ⟨hL, by omega⟩)
        have HF : Hid (upE xs = 2 ∧ upV xs = 0 ∧ upU xs = 0) := hfin
        clear hfin
        go_wp2
        go_ret3
        refine ⟨?_, rfl⟩
        rw [HF.out.1, HF.out.2.1, HF.out.2.2]
        rfl
      · have hor := or_add7 v (c % 128) k v0 v1 (by omega) (by omega) (by omega)
        have htop : lvF (fun j => xs.getD j 0 % 128) 0 (k + 1) = v + 128 ^ k * (c % 128) := by
          rw [lvF_top, HV.out, HC.out, Nat.zero_add]
        have HT : Hid (lvF (fun j => xs.getD j 0 % 128) 0 (k + 1) = v + 128 ^ k * (c % 128)) := htop
        have HO : Hid (bits BinOp.or IntKind.u64 v (IntKind.u64.wrap (c % 128 * 2 ^ (7 * k))) = v + 128 ^ k * (c % 128)) := hor
        clear hor htop v1
        by_cases hB : 128 ≤ c
        · rw [if_pos hB] at ea
          have hk' : ¬ (k : Int) = 9 := by omega
          clear hA
          go_wp2
          go_round
          case rel =>
            refine ⟨k + 1, by omega, by omega, by go_num, ?_, fun j hj => ?_⟩
            · rw [HT.out, HO.out]
            · by_cases hjk : j = k
              · subst hjk; have := HC.out; omega
              · exact HA.out j (by omega)
          case measure => simp [intOf]; omega
        · rw [if_neg hB] at ea
          have hL := lead_at xs k (by omega) HA.out (by have := HC.out; omega)
          by_cases h0 : c = 0 ∧ 0 < k
          · have HF : Hid (upE xs = 2 ∧ upV xs = 0 ∧ upU xs = 0) := up_form xs (by omega) (by omega) (.inr ⟨by omega, by rw [hL, ← HC.out]; exact h0.1⟩)
            clear hL
            obtain ⟨rfl, h0⟩ := h0
            go_wp2
            all_goals
              go_ret3
              refine ⟨?_, rfl⟩
              rw [HF.out.1, HF.out.2.1, HF.out.2.2]
              rfl
          · have hfin : upE xs = 0 ∧ upV xs = v + 128 ^ k * (c % 128) ∧ upU xs = (k : Int) + 1 := by
              have hq := HC.out
              have h9 : k = 9 → xs.getD 9 0 = c := fun e => by rw [← e]; exact hq.symm
              have := up_ok xs (by omega) (by omega) (by
                rw [hL, ← hq]
                rintro (⟨h1, h2⟩ | ⟨h1, h2⟩)
                · have := h9 h1; omega
                · exact h0 ⟨h2, h1⟩)
              rw [hL, HT.out] at this
              exact ⟨this.1, this.2.1, by rw [this.2.2]; omega⟩
            have HF : Hid (upE xs = 0 ∧ upV xs = v + 128 ^ k * (c % 128) ∧ upU xs = (k : Int) + 1) := hfin
            clear hfin hL
            by_cases hz : c = 0
            · have hk0 : ¬ 0 < (k : Int) := by omega
              have hz' : (c == 0) = true := by simpa using hz
              have h9' : ((k : Int) == 9) = false := by rw [beq_eq_false_iff_ne]; omega
              clear hA h0 hz
              go_wp2
              all_goals
                go_ret3
                refine ⟨?_, rfl⟩
                rw [HF.out.1, HF.out.2.1, HF.out.2.2, ← HO.out]
                rfl
            · have hz' : (c == 0) = false := by simpa using hz
              by_cases h9 : k = 9
              · have hc1 : ¬ 1 < c := fun h => hA ⟨h9, h⟩
                have h9' : ((k : Int) == 9) = true := by rw [beq_iff_eq]; omega
                clear hA h0 hz h9
                go_wp2
                all_goals
                  go_ret3
                  refine ⟨?_, rfl⟩
                  rw [HF.out.1, HF.out.2.1, HF.out.2.2, ← HO.out]
                  rfl
              · have h9' : ((k : Int) == 9) = false := by rw [beq_eq_false_iff_ne]; omega
                clear hA h0 hz
                go_wp2
                all_goals
                  go_ret3
                  refine ⟨?_, rfl⟩
                  rw [HF.out.1, HF.out.2.1, HF.out.2.2, ← HO.out]
                  rfl
    · have HF : Hid (upE xs = 3 ∧ upV xs = 0 ∧ upU xs = 0) := by
        have hkl : k = xs.length := by omega
        have h1 := lead_le xs
        have h2 := lead_ge xs k (by omega) HA.out
        exact up_short xs (by omega) (by omega)
      go_wp2
      go_ret3
      refine ⟨?_, rfl⟩
      rw [HF.out.1, HF.out.2.1, HF.out.2.2]
      rfl
theorem lv_fits (xs : List Int) (hb : ∀ i, 0 ≤ xs.getD i 0 ∧ xs.getD i 0 ≤ 255) (k j : Nat) (hj : j ≤ k) (hk : k ≤ 8 ∨ (k = 9 ∧ xs.getD 9 0 ≤ 1)) :
    lvF (fun j => xs.getD j 0 % 128) j (k + 1 - j) ≤ 18446744073709551615 := by
  have hd : ∀ j, 0 ≤ (fun j => xs.getD j 0 % 128) j ∧ (fun j => xs.getD j 0 % 128) j ≤ 127 := fun j => by have := hb j; simp only []; omega
  have e : k + 1 - j = (k - j) + 1 := by omega
  rw [e]
  rcases hk with hk | ⟨rfl, hk⟩
  · have h1 := (lvF_bound _ hd (k - j + 1) j).2
    have h2 : (128 : Int) ^ (k - j + 1) ≤ 9223372036854775808 := by
      have := pow7_le (k - j) (by omega)
      rw [Int.pow_succ]; omega
    omega
  · have h1 := lvF_bound1 _ hd (9 - j) j (by rw [show j + (9 - j) = 9 by omega]; have := hb 9; omega)
    have h2 : (2 : Int) * 128 ^ (9 - j) ≤ 18446744073709551616 := by
      obtain h | h : 9 - j ≤ 8 ∨ 9 - j = 9 := by omega
      · have := pow7_le (9 - j) h; omega
      · rw [h]; decide
    omega
set_option maxHeartbeats 1000000 in
theorem runpack_all (a : Option Addr) (len cap : Nat) (xs : List Int) (w : World) (hr : Row w a len xs) :
    Calls Try.prog 43 #[.slice a len cap] w fun e w' => e = .returned (.tuple #[.int .u64 (upV xs), .int .i64 (upU xs), .int .i64 (upE xs)]) ∧ w' = w := by
  obtain ⟨hl, hm, hb, hrow⟩ := hr
  unfold maxLen at hm
  have HB : Hid (∀ i, 0 ≤ xs.getD i 0 ∧ xs.getD i 0 ≤ 255) := hb
  have HR : Hid (len = 0 ∨ ∃ b off, a = some ⟨b, off, none⟩ ∧ b < w.heap.size ∧ ∀ i, i < len → w.cell? ⟨b, off + i, none⟩ = some (.int .u8 (xs.getD i 0))) := hrow
  clear hrow hb
  go_enter Try.func43, Try.ntmps43
  go_wp2
  go_loop [5] (fun i => ∃ k : Nat, k ≤ len ∧ k ≤ 10 ∧ i = .int .i64 k ∧ ∀ j, j < k → 128 ≤ xs.getD j 0) (fun i => len - (intOf i).toNat)
  case atStart => exact ⟨0, Nat.zero_le _, by omega, rfl, fun j hj => by omega⟩
  case round =>
    obtain ⟨k, hk, hk10, rfl, hall⟩ := hrel
    have HA : Hid (∀ j, j < k → 128 ≤ xs.getD j 0) := hall
    clear hall
    by_cases hlt : k < len
    · obtain ⟨b, off, rfl, hcs⟩ : ∃ b off, a = some ⟨b, off, none⟩ ∧ ∀ i, i < len → w.cell? ⟨b, off + i, none⟩ = some (.int .u8 (xs.getD i 0)) := by
        rcases HR.out with h | ⟨b, off, h1, _, h3⟩
        · omega
        · exact ⟨b, off, h1, h3⟩
      have HCS : Hid (∀ i, i < len → w.cell? ⟨b, off + i, none⟩ = some (.int .u8 (xs.getD i 0))) := hcs
      clear hcs HR
      by_cases h10 : k = 10
      · have HF : Hid (upE xs = 2 ∧ upV xs = 0 ∧ upU xs = 0) := up_long xs (by have := lead_ge xs k (by omega) HA.out; omega)
        have hn10 : ¬ (k : Int) < 10 := by omega
        have he10 : ((k : Int) == 10) = true := by rw [beq_iff_eq]; omega
        clear h10
        go_wp2
        go_ret3
        refine ⟨?_, rfl⟩
        rw [HF.out.1, HF.out.2.1, HF.out.2.2]
        rfl
      · have hc := HCS.out k hlt
        obtain ⟨c0, c1⟩ := HB.out k
        obtain ⟨c, hcq⟩ : ∃ c, c = xs.getD k 0 := ⟨_, rfl⟩
        rw [← hcq] at c0 c1 hc
        have HC : Hid (c = xs.getD k 0) := hcq
        clear hcq
        have hlt10 : (k : Int) < 10 := by omega
        by_cases hB : 128 ≤ c
        · clear h10
          go_wp2
          go_round
          case rel =>
            refine ⟨k + 1, by omega, by omega, by go_num, fun j hj => ?_⟩
            by_cases hjk : j = k
            · subst hjk; have := HC.out; omega
            · exact HA.out j (by omega)
          case measure => simp [intOf]; omega
        · have hL := lead_at xs k (by omega) HA.out (by have := HC.out; omega)
          have he10 : ((k : Int) == 10) = false := by rw [beq_eq_false_iff_ne]; omega
          have hel : ((k : Int) == (len : Int)) = false := by rw [beq_eq_false_iff_ne]; omega
          have h9c : k = 9 → xs.getD 9 0 = c := fun e => by rw [← e]; exact HC.out.symm
          have hc9 : 9 < len → w.cell? ⟨b, off + 9, none⟩ = some (.int .u8 (xs.getD 9 0)) := fun h => HCS.out 9 h
          clear h10
          by_cases hF : (k = 9 ∧ 1 < c) ∨ (0 < k ∧ c = 0)
          · have HF : Hid (upE xs = 2 ∧ upV xs = 0 ∧ upU xs = 0) := up_form xs (by omega) (by omega) (by
              rw [hL, ← HC.out]
              rcases hF with ⟨h1, h2⟩ | ⟨h1, h2⟩
              · exact .inl ⟨h1, by rw [h9c h1]; exact h2⟩
              · exact .inr ⟨h1, h2⟩)
            clear hL
            by_cases h9 : k = 9
            · rw [h9c h9] at hc9
              have hc9' := hc9 (by omega)
              have hl9 : 9 < (len : Int) := by omega
              have he9 : ((k : Int) == 9) = true := by rw [beq_iff_eq]; omega
              have hpos : 0 < (k : Int) := by omega
              by_cases hg : 1 < c
              · clear hF h9 h9c hc9
                go_wp2
                go_ret3
                refine ⟨?_, rfl⟩
                rw [HF.out.1, HF.out.2.1, HF.out.2.2]
                rfl
              · have hz : (c == 0) = true := by rw [beq_iff_eq]; omega
                clear hF h9 h9c hc9
                go_wp2
                go_ret3
                refine ⟨?_, rfl⟩
                rw [HF.out.1, HF.out.2.1, HF.out.2.2]
                rfl
            · have he9 : ((k : Int) == 9) = false := by rw [beq_eq_false_iff_ne]; omega
              have hpos : 0 < (k : Int) := by omega
              have hz : (c == 0) = true := by rw [beq_iff_eq]; omega
              clear hF h9 h9c hc9
              go_wp2
              go_ret3
              refine ⟨?_, rfl⟩
              rw [HF.out.1, HF.out.2.1, HF.out.2.2]
              rfl
          · have HF : Hid (upE xs = 0 ∧ upV xs = lvF (fun j => xs.getD j 0 % 128) 0 (k + 1) ∧ upU xs = (k : Int) + 1) := by
              have := up_ok xs (by omega) (by omega) (by
                rw [hL, ← HC.out]
                rintro (⟨h1, h2⟩ | ⟨h1, h2⟩)
                · exact hF (.inl ⟨h1, by rw [← h9c h1]; exact h2⟩)
                · exact hF (.inr ⟨h1, h2⟩))
              rw [hL] at this
              exact ⟨this.1, this.2.1, by rw [this.2.2]; omega⟩
            have HFIT : Hid (∀ j, j ≤ k → lvF (fun j => xs.getD j 0 % 128) j (k + 1 - j) ≤ 18446744073709551615) := fun j hj =>
              lv_fits xs HB.out k j hj (by
                by_cases h9 : k = 9
                · right; refine ⟨h9, ?_⟩; rw [h9c h9]; omega
                · left; omega)
            clear hL
            have hway : (((k : Int) == 9) = true ∧ ¬ 1 < c ∧ 0 < (k : Int) ∧ (c == 0) = false ∧ 9 < (len : Int) ∧ w.cell? ⟨b, off + 9, none⟩ = some (.int .u8 c)) ∨ (((k : Int) == 9) = false ∧ 0 < (k : Int) ∧ (c == 0) = false) ∨ (((k : Int) == 9) = false ∧ ¬ 0 < (k : Int)) := by
              by_cases h9 : k = 9
              · left
                rw [h9c h9] at hc9
                exact ⟨by rw [beq_iff_eq]; omega, by omega, by omega, by rw [beq_eq_false_iff_ne]; omega, by omega, hc9 (by omega)⟩
              · right
                have he9 : ((k : Int) == 9) = false := by rw [beq_eq_false_iff_ne]; omega
                by_cases hk0 : 0 < k
                · left; exact ⟨he9, by omega, by rw [beq_eq_false_iff_ne]; omega⟩
                · right; exact ⟨he9, by omega⟩
            clear hF h9c hc9
            rcases hway with ⟨he9, hgt, hpos, hz, hl9, hc9⟩ | ⟨he9, hpos, hz⟩ | ⟨he9, hpos⟩
            all_goals
              go_wp2
              go_loop [6, 7] (fun n i => ∃ j : Nat, j ≤ k + 1 ∧ i = .int .i64 ((j : Int) - 1) ∧ n = .int .u64 (lvF (fun j => xs.getD j 0 % 128) j (k + 1 - j))) (fun _ i => (intOf i + 1).toNat)
              case atStart => exact ⟨k + 1, by omega, by go_num, by rw [Nat.sub_self]; rfl⟩
              case round =>
                obtain ⟨j, hj, rfl, rfl⟩ := hrel
                cases j with
                | zero =>
                  go_wp2
                  go_ret3
                  refine ⟨?_, rfl⟩
                  rw [HF.out.1, HF.out.2.1, HF.out.2.2]
                  rfl
                | succ j =>
                  have hcj := HCS.out j (by omega)
                  obtain ⟨x0, x1⟩ := HB.out j
                  have hfit := HFIT.out j (by omega)
                  have hstep : lvF (fun j => xs.getD j 0 % 128) j (k + 1 - j) = xs.getD j 0 % 128 + 128 * lvF (fun j => xs.getD j 0 % 128) (j + 1) (k + 1 - (j + 1)) := by
                    rw [show k + 1 - j = (k + 1 - (j + 1)) + 1 by omega, lvF]
                  have hd : ∀ j, 0 ≤ (fun j => xs.getD j 0 % 128) j ∧ (fun j => xs.getD j 0 % 128) j ≤ 127 := fun j => by have := HB.out j; simp only []; omega
                  have hv0 := (lvF_bound _ hd (k + 1 - (j + 1)) (j + 1)).1
                  rw [hstep] at hfit
                  have HST : Hid (lvF (fun j => xs.getD j 0 % 128) j (k + 1 - j) = xs.getD j 0 % 128 + 128 * lvF (fun j => xs.getD j 0 % 128) (j + 1) (k + 1 - (j + 1))) := hstep
                  clear hstep hd
                  rw [show (((j + 1 : Nat) : Int) - 1) = (j : Int) by omega]
                  generalize lvF (fun j => xs.getD j 0 % 128) (j + 1) (k + 1 - (j + 1)) = v at *
                  generalize xs.getD j 0 = x at *
                  go_wp2
                  go_round
                  case rel => exact ⟨j, by omega, by go_num, by rw [HST.out]; go_num⟩
                  case measure => simp [intOf]
    · have hkl : k = xs.length := by omega
      have hn : ¬ (k : Int) < (len : Int) := by omega
      have h1 := lead_le xs
      have h2 := lead_ge xs k (by omega) HA.out
      by_cases h10 : k = 10
      · have HF : Hid (upE xs = 2 ∧ upV xs = 0 ∧ upU xs = 0) := up_long xs (by omega)
        have he10 : ((k : Int) == 10) = true := by rw [beq_iff_eq]; omega
        clear h10 hkl h1 h2
        go_wp2
        go_ret3
        refine ⟨?_, rfl⟩
        rw [HF.out.1, HF.out.2.1, HF.out.2.2]
        rfl
      · have HF : Hid (upE xs = 3 ∧ upV xs = 0 ∧ upU xs = 0) := up_short xs (by omega) (by omega)
        have he10 : ((k : Int) == 10) = false := by rw [beq_eq_false_iff_ne]; omega
        have hel : ((k : Int) == (len : Int)) = true := by rw [beq_iff_eq]; omega
        clear h10 hkl h1 h2
        go_wp2
        go_ret3
        refine ⟨?_, rfl⟩
        rw [HF.out.1, HF.out.2.1, HF.out.2.2]
        rfl
end Go.Proofs.Ytngojkleehgbaaa
