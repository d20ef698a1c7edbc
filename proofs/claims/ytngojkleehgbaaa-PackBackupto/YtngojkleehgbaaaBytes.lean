/-
  Bytes in memory as lists of numbers: what a slice of bytes that came in (or that the call made) holds; the number that bytes are; the document's Bytes on two slices of the same bytes returns true.
-/
import Derived.Test.YtngojkleehgbaaaAwake
namespace Go.Proofs.Ytngojkleehgbaaa
open Go.ChangeShapes Go.WideShapes Go.ChangeAt Go.RowKit
set_option linter.unusedVariables false
set_option linter.unusedSimpArgs false
/-- Bytes that came in (or that the call made): 'len' of them, at an address where there are any. -/
def Row (w : World) (a : Option Addr) (len : Nat) (xs : List Int) : Prop :=
  xs.length = len ∧ len ≤ maxLen ∧ (∀ i, 0 ≤ xs.getD i 0 ∧ xs.getD i 0 ≤ 255) ∧
  (len = 0 ∨ ∃ b off, a = some ⟨b, off, none⟩ ∧ b < w.heap.size ∧ ∀ i, i < len → w.cell? ⟨b, off + i, none⟩ = some (.int .u8 (xs.getD i 0)))
theorem Row.below {w w' : World} {a : Option Addr} {len : Nat} {xs : List Int} (h : Row w a len xs) (hb : Below w.heap.size w w') : Row w' a len xs := by
  obtain ⟨h1, h2, h3, h4⟩ := h
  refine ⟨h1, h2, h3, ?_⟩
  rcases h4 with h4 | ⟨b, off, ha, hlt, hc⟩
  · exact .inl h4
  · exact .inr ⟨b, off, ha, Nat.lt_of_lt_of_le hlt hb.size, fun i hi => (hb.cell (p := ⟨b, off + i, none⟩) hlt).trans (hc i hi)⟩
def val (xs : List Int) : Int := xs.foldl (fun n c => n * 256 + c) 0
theorem val_take (xs : List Int) (k : Nat) (h : k < xs.length) : val (xs.take (k + 1)) = val (xs.take k) * 256 + xs.getD k 0 := by
  unfold val
  rw [List.take_succ_eq_append_getElem h, List.foldl_append]
  simp [List.getD, h]
theorem val_bound (xs : List Int) (hx : ∀ i, 0 ≤ xs.getD i 0 ∧ xs.getD i 0 ≤ 255) : ∀ k, k ≤ xs.length → 0 ≤ val (xs.take k) ∧ val (xs.take k) < 256 ^ k := by
  intro k
  induction k with
  | zero => intro _; simp [val]
  | succ k ih =>
    intro h
    obtain ⟨i1, i2⟩ := ih (by omega)
    have := hx k
    rw [val_take xs k (by omega), Int.pow_succ]
    omega
theorem or_low8 (v c : Int) (h0 : 0 ≤ v) (h1 : v < 72057594037927936) (c0 : 0 ≤ c) (c1 : c ≤ 255) : bits .or .u64 (v * 256) c = v * 256 + c := by
  refine bits_join .u64 64 (by decide) (fun n a b => by rw [IntKind.wrap_u64]; omega) 8 (v * 256) c (by omega) (by omega) ?_ c0 (by omega) ?_ <;> omega
theorem pow_le (k : Nat) (h : k ≤ 7) : (256 : Int) ^ k ≤ 72057594037927936 := by
  obtain rfl | rfl | rfl | rfl | rfl | rfl | rfl | rfl : k = 0 ∨ k = 1 ∨ k = 2 ∨ k = 3 ∨ k = 4 ∨ k = 5 ∨ k = 6 ∨ k = 7 := by omega
  all_goals decide
/-- A slice of bytes that is nil, or whose cells are all there. -/
def Made (w : World) (a : Option Addr) (len : Nat) (xs : List Int) : Prop :=
  xs.length = len ∧ ((a = none ∧ len = 0) ∨ ∃ b off, a = some ⟨b, off, none⟩ ∧ b < w.heap.size ∧ ∀ i, i < len → w.cell? ⟨b, off + i, none⟩ = some (.int .u8 (xs.getD i 0)))
theorem Made.below {w w' : World} {a : Option Addr} {len : Nat} {xs : List Int} (h : Made w a len xs) (hb : Below w.heap.size w w') : Made w' a len xs := by
  obtain ⟨h1, h4⟩ := h
  refine ⟨h1, ?_⟩
  rcases h4 with h4 | ⟨b, off, ha, hlt, hc⟩
  · exact .inl h4
  · exact .inr ⟨b, off, ha, Nat.lt_of_lt_of_le hlt hb.size, fun i hi => (hb.cell (p := ⟨b, off + i, none⟩) hlt).trans (hc i hi)⟩
theorem Made.conv {w : World} {a : Option Addr} {len : Nat} {xs : List Int} (h : Made w a len xs) (cap : Nat) :
    Sem.run Try.prog (convert 41 9 (Value.slice a len cap)) w = .ok (.string (strOfNums xs)) w := by
  obtain ⟨h1, ⟨rfl, rfl⟩ | ⟨b, off, rfl, hlt, hc⟩⟩ := h
  · rw [run_convert_bytes_nil w 41 5 Try.underlying41 Try.underlying5 0 cap 9 Try.underlying9]
    rw [List.eq_nil_of_length_eq_zero h1]
    rfl
  · exact run_convert_bytes_arg w 41 5 Try.underlying41 Try.underlying5 b off len cap xs h1 hc 9 Try.underlying9
def u8s (l : List Int) : Array Value := (l.map (Value.int .u8)).toArray
theorem made_alloc (w : World) (l : List Int) : Made (w.alloc (.cells (u8s l) 5)) (some ⟨w.heap.size, 0, none⟩) l.length l := by
  refine ⟨rfl, .inr ⟨w.heap.size, 0, rfl, by simp, fun i hi => ?_⟩⟩
  simp [u8s, go_sem, hi]
end Go.Proofs.Ytngojkleehgbaaa
