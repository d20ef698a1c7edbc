/-
  The digest as plain functions of numbers: words, the words that a block is spread into, the rounds, the blocks of a text with its end.
-/
import Derived.Test.YtmaaakcfbekboaaDoorWords
namespace Go.Proofs.YtmaaakcfbekboaaDoor
open Go.ChangeShapes Go.WideShapes Go.ChangeAt Go.RowKit
set_option linter.unusedVariables false
set_option linter.unusedSimpArgs false
def M32 : Nat := 4294967296
def trn (x n : Nat) : Nat := x / 2 ^ n ||| (x * 2 ^ (32 - n) % 4294967296)
def s0N (x : Nat) : Nat := trn x 7 ^^^ trn x 18 ^^^ x / 8
def s1N (x : Nat) : Nat := trn x 17 ^^^ trn x 19 ^^^ x / 1024
def e1N (x : Nat) : Nat := trn x 6 ^^^ trn x 11 ^^^ trn x 25
def e0N (x : Nat) : Nat := trn x 2 ^^^ trn x 13 ^^^ trn x 22
def chN (x y z : Nat) : Nat := (x &&& y) ^^^ ((4294967295 ^^^ x) &&& z)
def majN (x y z : Nat) : Nat := (x &&& y) ^^^ (x &&& z) ^^^ (y &&& z)
theorem xor_lt {a b : Nat} (ha : a < 4294967296) (hb : b < 4294967296) : a ^^^ b < 4294967296 := Nat.xor_lt_two_pow (n := 32) ha hb
theorem and_lt {a b : Nat} (ha : a < 4294967296) : a &&& b < 4294967296 := Nat.lt_of_le_of_lt Nat.and_le_left ha
theorem or_lt {a b : Nat} (ha : a < 4294967296) (hb : b < 4294967296) : a ||| b < 4294967296 := Nat.or_lt_two_pow (n := 32) ha hb
theorem trn_lt (x n : Nat) (h : x < 4294967296) : trn x n < 4294967296 :=
  or_lt (Nat.lt_of_le_of_lt (Nat.div_le_self _ _) h) (Nat.mod_lt _ (by decide))
theorem s0N_lt (x : Nat) (h : x < 4294967296) : s0N x < 4294967296 := xor_lt (xor_lt (trn_lt x 7 h) (trn_lt x 18 h)) (by omega)
theorem s1N_lt (x : Nat) (h : x < 4294967296) : s1N x < 4294967296 := xor_lt (xor_lt (trn_lt x 17 h) (trn_lt x 19 h)) (by omega)
theorem e1N_lt (x : Nat) (h : x < 4294967296) : e1N x < 4294967296 := xor_lt (xor_lt (trn_lt x 6 h) (trn_lt x 11 h)) (trn_lt x 25 h)
theorem e0N_lt (x : Nat) (h : x < 4294967296) : e0N x < 4294967296 := xor_lt (xor_lt (trn_lt x 2 h) (trn_lt x 13 h)) (trn_lt x 22 h)
theorem chN_lt (x y z : Nat) (h : x < 4294967296) : chN x y z < 4294967296 := xor_lt (and_lt h) (and_lt (xor_lt (by decide) h))
theorem majN_lt (x y z : Nat) (h : x < 4294967296) (h2 : y < 4294967296) : majN x y z < 4294967296 := xor_lt (xor_lt (and_lt h) (and_lt h)) (and_lt h2)
/-- Four bytes as a word, the highest first. -/
def be4 (b : List Nat) (i : Nat) : Nat := ((b.getD (4 * i) 0 * 16777216 ||| b.getD (4 * i + 1) 0 * 65536) ||| b.getD (4 * i + 2) 0 * 256) ||| b.getD (4 * i + 3) 0
theorem be4_lt (b : List Nat) (i : Nat) (h : ∀ j, b.getD j 0 < 256) : be4 b i < 4294967296 := by
  have h0 := h (4 * i)
  have h1 := h (4 * i + 1)
  have h2 := h (4 * i + 2)
  have h3 := h (4 * i + 3)
  exact or_lt (or_lt (or_lt (by omega) (by omega)) (by omega)) (by omega)
/-- The next word that a block is spread into. -/
def nxw (b l : List Nat) (i : Nat) : Nat :=
  if i < 16 then be4 b i else (l.getD (i - 16) 0 + s0N (l.getD (i - 15) 0) + l.getD (i - 7) 0 + s1N (l.getD (i - 2) 0)) % 4294967296
def sch (b : List Nat) : Nat → List Nat
  | 0 => []
  | i + 1 => sch b i ++ [nxw b (sch b i) i]
theorem sch_length (b : List Nat) : ∀ i, (sch b i).length = i
  | 0 => rfl
  | i + 1 => by rw [sch, List.length_append, sch_length b i]; rfl
theorem getD_snoc_lt {l : List Nat} {x c : Nat} (h : ∀ j, l.getD j 0 < c) (hx : x < c) (h0 : 0 < c) : ∀ j, (l ++ [x]).getD j 0 < c := by
  intro j
  by_cases hj : j < l.length
  · rw [List.getD_eq_getElem?_getD, List.getElem?_append_left hj, ← List.getD_eq_getElem?_getD]
    exact h j
  · rw [List.getD_eq_getElem?_getD, List.getElem?_append_right (by omega)]
    cases j - l.length with
    | zero => exact hx
    | succ n => exact h0
theorem nxw_lt (b l : List Nat) (i : Nat) (h : ∀ j, b.getD j 0 < 256) : nxw b l i < 4294967296 := by
  unfold nxw
  split
  · exact be4_lt b i h
  · exact Nat.mod_lt _ (by decide)
theorem sch_lt (b : List Nat) (h : ∀ j, b.getD j 0 < 256) : ∀ i j, (sch b i).getD j 0 < 4294967296
  | 0, j => by show ([] : List Nat).getD j 0 < _; simp
  | i + 1, j => getD_snoc_lt (sch_lt b h i) (nxw_lt b _ i h) (by decide) j
/-- One round. -/
def one1 (v : List Nat) (k w : Nat) : Nat := (v.getD 7 0 + e1N (v.getD 4 0) + chN (v.getD 4 0) (v.getD 5 0) (v.getD 6 0) + k + w) % 4294967296
def two1 (v : List Nat) : Nat := (e0N (v.getD 0 0) + majN (v.getD 0 0) (v.getD 1 0) (v.getD 2 0)) % 4294967296
def rnd (v : List Nat) (k w : Nat) : List Nat :=
  [(one1 v k w + two1 v) % 4294967296, v.getD 0 0, v.getD 1 0, v.getD 2 0, (v.getD 3 0 + one1 v k w) % 4294967296, v.getD 4 0, v.getD 5 0, v.getD 6 0]
def rnds (ks ws v : List Nat) : Nat → List Nat
  | 0 => v
  | i + 1 => rnd (rnds ks ws v i) (ks.getD i 0) (ws.getD i 0)
theorem rnd_lt (v : List Nat) (k w : Nat) (h : ∀ j, v.getD j 0 < 4294967296) : ∀ j, (rnd v k w).getD j 0 < 4294967296 := by
  intro j
  match j with
  | 0 => exact Nat.mod_lt _ (by decide)
  | 1 => exact h 0
  | 2 => exact h 1
  | 3 => exact h 2
  | 4 => exact Nat.mod_lt _ (by decide)
  | 5 => exact h 4
  | 6 => exact h 5
  | 7 => exact h 6
  | (j + 8) => show 0 < 4294967296; decide
theorem rnds_lt (ks ws v : List Nat) (h : ∀ j, v.getD j 0 < 4294967296) : ∀ i j, (rnds ks ws v i).getD j 0 < 4294967296
  | 0, j => h j
  | i + 1, j => rnd_lt _ _ _ (rnds_lt ks ws v h i) j
theorem rnds_length (ks ws v : List Nat) (h : v.length = 8) : ∀ i, (rnds ks ws v i).length = 8
  | 0 => h
  | i + 1 => rfl
/-- What is added at the end of a block, word by word. -/
def addN (v h : List Nat) : Nat → List Nat
  | 0 => v
  | i + 1 => (addN v h i).set i (((addN v h i).getD i 0 + h.getD i 0) % 4294967296)
theorem addN_length (v h : List Nat) : ∀ i, (addN v h i).length = v.length
  | 0 => rfl
  | i + 1 => by rw [addN, List.length_set, addN_length v h i]
theorem set_lt {l : List Nat} {i x b : Nat} (h : ∀ j, l.getD j 0 < b) (hx : x < b) : ∀ j, (l.set i x).getD j 0 < b := by
  intro j
  by_cases hij : i = j
  · subst hij
    by_cases hi : i < l.length
    · simp [List.getD, hi]; exact hx
    · rw [List.set_eq_of_length_le (by omega)]; exact h i
  · rw [List.getD_eq_getElem?_getD, List.getElem?_set_ne hij, ← List.getD_eq_getElem?_getD]; exact h j
theorem addN_lt (v h : List Nat) (hv : ∀ j, v.getD j 0 < 4294967296) : ∀ i j, (addN v h i).getD j 0 < 4294967296
  | 0, j => hv j
  | i + 1, j => set_lt (addN_lt v h hv i) (Nat.mod_lt _ (by decide)) j
/-- One block mixed in. -/
def blockN (ks h b : List Nat) : List Nat := addN (rnds ks (sch b 64) h 64) h 8
theorem blockN_length (ks h b : List Nat) (hh : h.length = 8) : (blockN ks h b).length = 8 := by
  unfold blockN
  rw [addN_length, rnds_length _ _ _ hh]
theorem blockN_lt (ks h b : List Nat) (hh : ∀ j, h.getD j 0 < 4294967296) (j : Nat) : (blockN ks h b).getD j 0 < 4294967296 := addN_lt _ _ (rnds_lt _ _ _ hh 64) 8 j
/-- Words under ops as the walk spells them. -/
theorem wxor (a b : Nat) (ha : a < 4294967296) (hb : b < 4294967296) : bits .xor .u32 (a : Int) (b : Int) = ((a ^^^ b : Nat) : Int) := u32_xor_nat a b ha hb
theorem wand (a b : Nat) (ha : a < 4294967296) (hb : b < 4294967296) : bits .and .u32 (a : Int) (b : Int) = ((a &&& b : Nat) : Int) := u32_and_nat a b ha hb
theorem wor (a b : Nat) (ha : a < 4294967296) (hb : b < 4294967296) : bits .or .u32 (a : Int) (b : Int) = ((a ||| b : Nat) : Int) := u32_or_nat a b ha hb
end Go.Proofs.YtmaaakcfbekboaaDoor
