/-
  The program's write: a number's digits in all places of a list.
-/
import Derived.Test.YtfgdfdjoidpejabDoorWords
import Derived.Test.YtfgdfdjoidpejabDoorWhenText
namespace Go.Proofs.YtfgdfdjoidpejabDoor
open Go.ChangeShapes Go.WideShapes Go.ChangeAt Go.RowKit
set_option linter.unusedVariables false
set_option linter.unusedSimpArgs false
/-- The list with the last k digits of n in the last of L places from off on. -/
def putK (l : List Nat) (off L n : Nat) : Nat → List Nat
  | 0 => l
  | k + 1 => (putK l off L n k).set (off + (L - 1 - k)) (48 + n / 10 ^ k % 10)
theorem putK_length (l : List Nat) (off L n : Nat) : ∀ k, (putK l off L n k).length = l.length
  | 0 => rfl
  | k + 1 => by rw [putK, List.length_set, putK_length l off L n k]
/-- A block of bytes that is marked behind its end, as a constant's bytes are. -/
def BlkF (w : World) (g F : Nat) (l : List Nat) : Prop := w.heap[g]? = some (.cells (encL .u8 l) 5 (F, F + 1))
theorem BlkF.lt {w : World} {g F : Nat} {l : List Nat} (h : BlkF w g F l) : g < w.heap.size := (Array.getElem?_eq_some_iff.1 h).1
theorem BlkF.cell {w : World} {g F : Nat} {l : List Nat} (h : BlkF w g F l) (i : Nat) (hi : i < l.length) : w.cell? ⟨g, i, none⟩ = some (.int .u8 (l.getD i 0 : Nat)) := by
  rw [cell_of_row w g i _ _ _ h, encL_get .u8 l i hi]
theorem BlkF.frozen {w : World} {g F : Nat} {l : List Nat} (h : BlkF w g F l) (i : Nat) (hi : i < F) : w.frozen? ⟨g, i, none⟩ = false := by
  have h' : w.heap[g]? = some (.cells (encL .u8 l) 5 (F, F + 1)) := h
  unfold World.frozen?
  simp only [h']
  rw [Bool.and_eq_false_iff]
  exact .inl (decide_eq_false (by omega))
theorem BlkF.set {w : World} {g F : Nat} {l : List Nat} (h : BlkF w g F l) (i x : Nat) : BlkF (w.setCell ⟨g, i, none⟩ (.int .u8 (x : Nat))) g F (l.set i x) := by
  unfold BlkF at *
  rw [← encL_set]
  simp [World.setCell, Array.getElem?_modify, h]
theorem BlkF.below {w w' : World} {g F : Nat} {l : List Nat} (h : BlkF w g F l) (hb : Below w.heap.size w w') : BlkF w' g F l := (hb.block g h.lt).trans h
theorem BlkF.row {w : World} {g F : Nat} {l : List Nat} (h : BlkF w g F l) : RowL .u8 w (some ⟨g, 0, none⟩) l.length l :=
  ⟨rfl, .inr ⟨g, 0, rfl, h.lt, fun i hi => by rw [Nat.zero_add]; exact h.cell i hi⟩⟩
set_option maxHeartbeats 1000000 in
theorem write_any (g F off L C n : Nat) (l : List Nat) (w : World) (hB : BlkF w g F l) (hF : l.length ≤ F) (hl : off + L ≤ l.length) (hC : L ≤ C) (hL : L ≤ 100) (hn : n ≤ 9999) :
    Calls Tryd.prog 27 #[.slice (some ⟨g, off, none⟩) L C, .int .i64 (n : Nat)] w fun e w' => e = .returned (.tuple #[]) ∧ BlkF w' g F (putK l off L n L) ∧ Below g w w' := by
  have HB : Hid (BlkF w g F l) := hB
  clear hB
  go_enter Tryd.func27, Tryd.ntmps27
  go_wp2
  go_loopw [1, 7] (fun nv iv wr => ∃ (wz : World) (i m : Nat), wz = wr ∧ iv = .int .i64 (i : Nat) ∧ nv = .int .i64 (m : Nat) ∧ m = n / 10 ^ i ∧ i ≤ L ∧ BlkF wz g F (putK l off L n i) ∧ Below g w wz) (fun _ iv _ => L - (intOf iv).toNat)
  case atStart => exact ⟨_, 0, n, rfl, rfl, rfl, by simp, Nat.zero_le _, HB.out, Below.refl _ _⟩
  case round =>
    clear HB
    obtain ⟨wr, i, m, hwr, rfl, rfl, hm, hi, hb, hbe⟩ := hrel
    subst hwr
    have HM : Hid (m = n / 10 ^ i) := hm
    have HB : Hid (BlkF wr g F (putK l off L n i)) := hb
    have HBE : Hid (Below g w wr) := hbe
    have hmb : m ≤ 9999 := by rw [hm]; exact Nat.le_trans (Nat.div_le_self _ _) hn
    by_cases hlt : i < L
    · have hli : (i : Int) < (L : Int) := by omega
      obtain ⟨p, hp⟩ : ∃ p, p = L - 1 - i := ⟨_, rfl⟩
      have hpi : (L : Int) - 1 - (i : Int) = (p : Int) := by omega
      have hpb : p < L := by omega
      have hc : wr.cell? ⟨g, off + p, none⟩ = some (.int .u8 ((putK l off L n i).getD (off + p) 0 : Nat)) := hb.cell (off + p) (by rw [putK_length]; omega)
      have hfr : wr.frozen? ⟨g, off + p, none⟩ = false := hb.frozen (off + p) (by omega)
      generalize (putK l off L n i).getD (off + p) 0 = old at *
      obtain ⟨q, hq⟩ : ∃ q, q = m % 10 := ⟨_, rfl⟩
      have hqi : (m : Int) % 10 = (q : Int) := by omega
      have hqt : (m : Int).tmod 10 = (q : Int) := by rw [Int.tmod_eq_emod_of_nonneg (by omega)]; exact hqi
      have hqb : q ≤ 9 := by omega
      obtain ⟨z, hz⟩ : ∃ z, z = m / 10 := ⟨_, rfl⟩
      have hzi : (m : Int) / 10 = (z : Int) := by omega
      have HN : Hid (z = n / 10 ^ (i + 1)) := by unfold Hid; rw [hz, hm, Nat.div_div_eq_div_mul, Nat.pow_succ]
      have HS : Hid (BlkF (wr.setCell ⟨g, off + p, none⟩ (.int .u8 ((48 + q : Nat) : Int))) g F (putK l off L n (i + 1))) := by
        have := hb.set (off + p) (48 + q)
        rw [hp, hq, hm] at this
        rw [hp, hq, hm]
        exact this
      have HSB : Hid (Below g w (wr.setCell ⟨g, off + p, none⟩ (.int .u8 ((48 + q : Nat) : Int)))) := Below.setCell HBE.out (Nat.le_refl _) _
      clear hm hb hbe hq hz hp
      go_wp2_with fail
      go_roundw
      case rel => exact ⟨_, i + 1, z, rfl, by go_num, rfl, HN.out, by omega, HS.out, HSB.out⟩
      case measure => simp [intOf]; omega
    · have hli : ¬ (i : Int) < (L : Int) := by omega
      have HF : Hid (BlkF wr g F (putK l off L n L)) := by rw [show i = L by omega] at hb; exact hb
      clear hb hbe hm HB
      go_wp2_with fail
      go_returns
      exact ⟨rfl, HF.out, HBE.out⟩
end Go.Proofs.YtfgdfdjoidpejabDoor
