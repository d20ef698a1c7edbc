/-
  Tags that come in: slices of structs of two texts, opened.
-/
import Derived.Test.YtbfgkogmojnilaaDoorTagLaws
import Derived.WalkKit
import Derived.SizedLaws
import Derived.ProofKit
import Derived.OpenShut
import Derived.ChangeOld
import Derived.Below
import Derived.Deep.SlicePairs
namespace Go.Proofs.YtbfgkogmojnilaaDoor
open Go.ChangeShapes Go.WideShapes Go.ChangeAt Go.RowKit
set_option linter.unusedVariables false
theorem tag_bytes : Tryd.prog.bytesOf 40 = 32 := by kernel_rfl
theorem tags_open {H : Type} {enc : TypeId × Value → H} {W : World} {base : Nat} {spare : Nat → Bool} {held : Bool} {fuel : Nat} {a : Option Addr} {len cap : Nat} {d : DataW H} {p : List MemPlace}
    (h : DataW.trod enc Tryd.prog W base spare held fuel 22 (Value.slice a len cap).cells.toList = some (d, p))
    (hb : ∀ es sp, d = .slice es sp → (es.length + sp.length) * Tryd.prog.bytesOf 40 ≤ reachBytes) :
    ∃ ts, ArgT W a len cap ts := by
  rcases Deep.open_slice_pairs Tryd.underlying22 Tryd.underlying40 (by kernel_rfl) rfl rfl (by kernel_rfl) (by kernel_rfl) h with ⟨hcs, hd⟩ | ⟨x, l, c, m, n, V0, V1, D0, D1, P0, P1, hcs, _, hl, hm, hmm, hx, hcell⟩
  · simp [Value.cells] at hcs
    obtain ⟨rfl, rfl, rfl⟩ := hcs
    exact ⟨[], .inl rfl, rfl, by omega, (fun i hi => by simp at hi), fun _ => ⟨rfl, rfl⟩⟩
  · simp [Value.cells] at hcs
    obtain ⟨rfl, rfl, rfl⟩ := hcs
    have hlm : len ≤ m := by rw [hmm]; split <;> omega
    have hd := congrArg Prod.fst hx
    simp only [] at hd
    have hb' := hb _ _ hd
    rw [tag_bytes] at hb'
    simp only [List.length_map, List.length_range, reachBytes] at hb'
    have hs : ∀ i, i < m → ∃ q : ByteArray × ByteArray, V0 i = .string q.1 ∧ V1 i = .string q.2 ∧ q.1.size ≤ maxLen ∧ q.2.size ≤ maxLen := by
      intro i hi
      obtain ⟨c0, c1, t0, t1⟩ := hcell i hi
      obtain ⟨s, e0, -, b0⟩ := DataW.trod_string (by kernel_rfl) t0
      obtain ⟨u, e1, -, b1⟩ := DataW.trod_string (by kernel_rfl) t1
      exact ⟨(s, u), by simpa using e0, by simpa using e1, b0, b1⟩
    obtain ⟨q, hq⟩ := Deep.choose_lt hs
    have hat : ∀ i, i < len → tagAt ((List.range len).map q) i = q i := by
      intro i hi
      unfold tagAt
      rw [List.getD_eq_getElem?_getD, List.getElem?_map, List.getElem?_range hi]
      rfl
    refine ⟨(List.range len).map q, ?_, by simp, by omega, ?_, fun h => by cases h⟩
    · by_cases h0 : len = 0
      · exact .inl (by simp [h0])
      · obtain ⟨b, off, spot⟩ := x
        have c0 := (hcell 0 (by omega)).1
        have hspot : spot = none := by simpa [Addr.add] using World.cell?_spot c0
        subst hspot
        refine .inr ⟨b, off, rfl, ?_, fun i hi => ?_⟩
        · simpa [Addr.add] using World.block_lt_of_cell? W _ c0
        · have hi' : i < len := by simpa using hi
          obtain ⟨c0, c1, -, -⟩ := hcell i (by omega)
          obtain ⟨e0, e1, -, -⟩ := hq i (by omega)
          have hp : ∀ k, (⟨b, off, none⟩ : Addr).add k = ⟨b, off + k, none⟩ := fun k => by unfold Addr.add; split <;> simp_all
          rw [hp, e0] at c0
          rw [hp, e1] at c1
          rw [hat i hi']
          exact ⟨c0, c1⟩
    · intro i hi
      have hi' : i < len := by simpa using hi
      obtain ⟨-, -, b0, b1⟩ := hq i (by omega)
      rw [hat i hi']
      unfold maxLen at b0 b1
      omega
end Go.Proofs.YtbfgkogmojnilaaDoor
