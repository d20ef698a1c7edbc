/-
  Package crc's feed and More, and what bytes in memory are as a list: one byte more is eight steps of the register, where the table's cells are as its text lays them.
-/
import Derived.Test.YtaahmpabhophfaaDoorCrcMath
import Derived.Handy
import Derived.Laws.BytesArg
import Derived.Laws.BitsAllLaws
namespace Go.Proofs.YtaahmpabhophfaaDoor
open Go.ChangeShapes Go.WideShapes Go.ChangeAt Go.RowKit
set_option linter.unusedVariables false
set_option linter.unusedSimpArgs false
/-- The table's sixteen cells. -/
def HalfTab (w : World) : Prop := 0 < w.heap.size ∧ ∀ i, i < 16 → w.cell? ⟨0, i, none⟩ = some (.int .u32 (halfN i : Nat))
theorem HalfTab.below {w w' : World} (h : HalfTab w) (hb : Below w.heap.size w w') : HalfTab w' :=
  ⟨Nat.lt_of_lt_of_le h.1 hb.size, fun i hi => (hb.cell (p := ⟨0, i, none⟩) h.1).trans (h.2 i hi)⟩
theorem and15 (r : Nat) : r &&& 15 = r % 16 := Nat.and_two_pow_sub_one_eq_mod r 4
theorem half_word (r : Nat) (hr : r < 4294967296) : bits .and .u32 (r : Int) 15 = ((r % 16 : Nat) : Int) := by
  have := u32_and_nat r 15 hr (by decide)
  rw [and15] at this
  exact this
theorem half_xor (r : Nat) (hr : r < 4294967296) : bits .xor .u32 ((r : Int) / 16) (halfN (r % 16) : Nat) = (zn 4 r : Nat) := by
  rw [show (r : Int) / 16 = ((r / 16 : Nat) : Int) by omega, u32_xor_nat _ _ (by omega) (half_lt ⟨r % 16, Nat.mod_lt _ (by decide)⟩), half_step]
theorem feed_any (R C : Nat) (w : World) (hR : R < 4294967296) (hC : C < 256) (h : HalfTab w) :
    Calls Tryd.prog 27 #[.int .u32 R, .int .u8 C] w fun e w' => e = .returned (.int .u32 (byteN R C : Nat)) ∧ w' = w := by
  have hX : R ^^^ C < 4294967296 := Nat.xor_lt_two_pow (n := 32) hR (by omega)
  have e0 : bits .xor .u32 (R : Int) (C : Int) = ((R ^^^ C : Nat) : Int) := u32_xor_nat R C hR (by omega)
  have HB : Hid (byteN R C = zn 4 (zn 4 (R ^^^ C))) := byte_halves R C
  generalize R ^^^ C = X at *
  have hY := zn_lt 4 X hX
  have e1 := half_word X hX
  have e2 := half_xor X hX
  have c1 := h.2 (X % 16) (Nat.mod_lt _ (by decide))
  generalize zn 4 X = Y at *
  have e3 := half_word Y hY
  have e4 := half_xor Y hY
  have c2 := h.2 (Y % 16) (Nat.mod_lt _ (by decide))
  go_enter Tryd.func27, Tryd.ntmps27
  go_wp2
  go_ret
  refine ⟨?_, rfl⟩
  rw [HB.out]
  rfl
/-- Bytes in memory: 'len' of them, at an address where there are any. -/
def Row (w : World) (a : Option Addr) (len : Nat) (xs : List Nat) : Prop :=
  xs.length = len ∧ len ≤ maxLen ∧ (∀ c ∈ xs, c < 256) ∧
  (len = 0 ∨ ∃ b off, a = some ⟨b, off, none⟩ ∧ b < w.heap.size ∧ ∀ i, i < len → w.cell? ⟨b, off + i, none⟩ = some (.int .u8 (xs.getD i 0 : Nat)))
theorem Row.below {w w' : World} {a : Option Addr} {len : Nat} {xs : List Nat} (h : Row w a len xs) (hb : Below w.heap.size w w') : Row w' a len xs := by
  obtain ⟨h1, h2, h3, h4⟩ := h
  refine ⟨h1, h2, h3, ?_⟩
  rcases h4 with h4 | ⟨b, off, ha, hlt, hc⟩
  · exact .inl h4
  · exact .inr ⟨b, off, ha, Nat.lt_of_lt_of_le hlt hb.size, fun i hi => (hb.cell (p := ⟨b, off + i, none⟩) hlt).trans (hc i hi)⟩
theorem getD_lt (xs : List Nat) (h : ∀ c ∈ xs, c < 256) (i : Nat) : xs.getD i 0 < 256 := by
  by_cases hi : i < xs.length
  · rw [List.getD_eq_getElem?_getD, List.getElem?_eq_getElem hi]
    exact h _ (List.getElem_mem hi)
  · rw [List.getD_eq_getElem?_getD, List.getElem?_eq_none (by omega)]; simp
theorem regN_take (r : Nat) (xs : List Nat) (k : Nat) (h : k < xs.length) : regN r (xs.take (k + 1)) = byteN (regN r (xs.take k)) (xs.getD k 0) := by
  rw [List.take_succ_eq_append_getElem h, regN_append]
  simp [List.getD, h, regN]
theorem mem_take_lt (xs : List Nat) (h : ∀ c ∈ xs, c < 256) (k : Nat) : ∀ c ∈ xs.take k, c < 256 := fun c hc => h c (List.mem_of_mem_take hc)
def moreN (S : Nat) (xs : List Nat) : Nat := regN (S ^^^ ones32) xs ^^^ ones32
theorem ones_lt (S : Nat) (h : S < 4294967296) : S ^^^ ones32 < 4294967296 := Nat.xor_lt_two_pow (n := 32) h (by decide)
theorem not_word (S : Nat) (h : S < 4294967296) : bits .xor .u32 IntKind.u32.max (S : Int) = ((S ^^^ ones32 : Nat) : Int) := by
  have e : IntKind.u32.max = ((4294967295 : Nat) : Int) := by decide
  rw [e, u32_xor_nat 4294967295 S (by decide) h, Nat.xor_comm]
  rfl
theorem u32_unsigned : IntKind.u32.signed = false := rfl
theorem moreN_lt (S : Nat) (xs : List Nat) (h : S < 4294967296) (hx : ∀ c ∈ xs, c < 256) : moreN S xs < 4294967296 := ones_lt _ (regN_lt xs _ (ones_lt S h) hx)
theorem more_any (S : Nat) (a : Option Addr) (len cap : Nat) (xs : List Nat) (w : World) (hS : S < 4294967296) (hr : Row w a len xs) (h : HalfTab w) :
    Calls Tryd.prog 26 #[.int .u32 S, .slice a len cap] w fun e w' => e = .returned (.int .u32 (moreN S xs : Nat)) ∧ w' = w := by
  obtain ⟨hl, hm, hb, hc⟩ := hr
  have HC : Hid (len = 0 ∨ ∃ b off, a = some ⟨b, off, none⟩ ∧ b < w.heap.size ∧ ∀ i, i < len → w.cell? ⟨b, off + i, none⟩ = some (.int .u8 (xs.getD i 0 : Nat))) := hc
  have HT : Hid (HalfTab w) := h
  have HB : Hid (∀ c ∈ xs, c < 256) := hb
  have HL : Hid (xs.length = len) := hl
  have HM : Hid (moreN S xs = regN (S ^^^ ones32) xs ^^^ ones32) := rfl
  have hN := not_word S hS
  have hu := u32_unsigned
  have hR := ones_lt S hS
  generalize S ^^^ ones32 = R at *
  unfold maxLen at hm
  clear hc h hb hl
  go_enter Tryd.func26, Tryd.ntmps26
  go_wp2
  go_loop [5, 12] (fun n i => ∃ k : Nat, k ≤ len ∧ i = .int .i64 k ∧ n = .int .u32 (regN R (xs.take k) : Nat)) (fun _ i => len - (intOf i).toNat)
  case atStart => exact ⟨0, Nat.zero_le _, rfl, rfl⟩
  case round =>
    clear hN
    obtain ⟨k, hk, rfl, rfl⟩ := hrel
    have hr := regN_lt (xs.take k) R hR (mem_take_lt xs HB.out k)
    by_cases hlt : k < len
    · obtain h0 | ⟨b, off, rfl, -, hcs⟩ := HC.out
      · omega
      have hc := hcs k hlt
      clear hcs
      have hS : Hid (regN R (xs.take (k + 1)) = byteN (regN R (xs.take k)) (xs.getD k 0)) := regN_take R xs k (by have := HL.out; omega)
      have hcb := getD_lt xs HB.out k
      generalize regN R (xs.take k) = v at *
      generalize xs.getD k 0 = c at *
      go_wp2_with fail
      refine (feed_any v c _ hr hcb HT.out).mono ?_
      rintro e w' ⟨rfl, rfl⟩
      rw [← hS.out]
      go_wp2_with fail
      go_round
      case rel => exact ⟨k + 1, by omega, by go_num, rfl⟩
      case measure => simp [intOf]; omega
    · have hkl : k = len := by omega
      subst hkl
      have e : xs.take k = xs := by rw [← HL.out, List.take_length]
      rw [e] at hr ⊢
      have hN2 := not_word (regN R xs) hr
      rw [← HM.out] at hN2
      go_wp2
      go_ret
      exact ⟨rfl, rfl⟩
end Go.Proofs.YtaahmpabhophfaaDoor
