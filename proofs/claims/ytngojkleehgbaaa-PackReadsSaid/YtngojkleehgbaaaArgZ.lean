/-
  Numbers with signs that come in. (As CabArgZ, for other layers.)
-/
import Derived.Test.YtngojkleehgbaaaPArgs
namespace Go.Proofs.Ytngojkleehgbaaa
open Go.ChangeShapes Go.WideShapes Go.ChangeAt Go.RowKit
set_option linter.unusedVariables false
/-- Numbers with signs in memory. -/
def RowZ (w : World) (a : Option Addr) (len : Nat) (zs : List Int) : Prop :=
  zs.length = len ∧ (len = 0 ∨ ∃ b off, a = some ⟨b, off, none⟩ ∧ b < w.heap.size ∧ ∀ i, i < len → w.cell? ⟨b, off + i, none⟩ = some (.int .i64 (zs.getD i 0)))
/-- What a walk is told of []int that came in. -/
def ArgZ (w : World) (a : Option Addr) (len : Nat) (zs : List Int) : Prop := RowZ w a len zs ∧ (0 < len → ∀ ad, a = some ad → ad.block < w.heap.size) ∧ len ≤ 9223372036854775807
theorem argz_nil (w : World) : ArgZ w none 0 [] := ⟨⟨rfl, .inl rfl⟩, fun h => absurd h (Nat.lt_irrefl _), Nat.zero_le _⟩
theorem argz_at {w : World} {x : Addr} {len cap : Nat} {zs : List Int} (hl : len ≤ cap) (hm : cap ≤ maxLen) (hz : zs.length = cap) (hc : ∀ i, i < zs.length → w.cell? (x.add i) = some (.int .i64 (zs.getD i 0))) : ArgZ w (some x) len (zs.take len) := by
  have hlen : (zs.take len).length = len := by rw [List.length_take]; omega
  have hb : len ≤ 9223372036854775807 := by unfold maxLen at hm; omega
  rcases Nat.eq_zero_or_pos len with h0 | hp
  · exact ⟨⟨hlen, .inl h0⟩, fun h => by omega, hb⟩
  · obtain ⟨b, off, spot⟩ := x
    have c0 := hc 0 (by omega)
    have hspot : spot = none := by simpa [Addr.add] using World.cell?_spot c0
    subst hspot
    have hlt : b < w.heap.size := by simpa [Addr.add] using World.block_lt_of_cell? w _ c0
    refine ⟨⟨hlen, .inr ⟨b, off, rfl, hlt, fun i hi => ?_⟩⟩, fun _ ad e => by cases e; exact hlt, hb⟩
    have := hc i (by omega)
    have hpp : (⟨b, off, none⟩ : Addr).add i = ⟨b, off + i, none⟩ := by unfold Addr.add; split <;> simp_all
    rw [hpp] at this
    rw [this, List.getD_eq_getElem?_getD, List.getD_eq_getElem?_getD, List.getElem?_take, if_pos hi]
end Go.Proofs.Ytngojkleehgbaaa
