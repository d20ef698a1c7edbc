/-
  Fields that come in: slices of structs of a kind, a number, a number with a sign, a text and a digest, opened.
-/
import Derived.Test.YtngojkleehgbaaaPackMath
import Derived.Test.YtngojkleehgbaaaPArgs
import Derived.Deep.Slices
namespace Go.Proofs.Ytngojkleehgbaaa
open Go.ChangeShapes Go.WideShapes Go.ChangeAt Go.RowKit
set_option linter.unusedVariables false
set_option linter.unusedSimpArgs false
def FldOk (x : Fld) : Prop := (-9223372036854775808 ≤ x.1 ∧ x.1 ≤ 9223372036854775807) ∧ x.2.1 ≤ 18446744073709551615 ∧ (-9223372036854775808 ≤ x.2.2.1 ∧ x.2.2.1 ≤ 9223372036854775807) ∧ x.2.2.2.2.length = 32 ∧ Byt x.2.2.2.2
def fldCells (x : Fld) : List Value := .int .i64 x.1 :: .int .u64 (x.2.1 : Nat) :: .int .i64 x.2.2.1 :: .string x.2.2.2.1 :: x.2.2.2.2.map fun c => Value.int .u8 (c : Nat)
def fldAt (fs : List Fld) (i : Nat) : Fld := fs.getD i (0, 0, 0, ByteArray.empty, zeroD)
/-- What a walk is told of fields that came in. -/
def ArgF (W : World) (a : Option Addr) (len : Nat) (fs : List Fld) : Prop :=
  fs.length = len ∧ (∀ i, i < len → FldOk (fldAt fs i)) ∧ (len = 0 ∨ ∃ b off, a = some ⟨b, off, none⟩ ∧ b < W.heap.size ∧ ∀ i, i < len → ∀ j, j < 36 → W.cell? ⟨b, off + i * 36 + j, none⟩ = (fldCells (fldAt fs i))[j]?)
theorem bulk_le {H : Type} : ∀ (ds : List (DataW H)) (d : DataW H), d ∈ ds → Rows.uptoBulk d ≤ Rows.uptoBulkAll ds
  | [], d, h => by cases h
  | x :: r, d, h => by
    rw [Rows.uptoBulkAll]
    rcases List.mem_cons.1 h with h | h
    · subst h; omega
    · have := bulk_le r d h; omega
theorem take_one {α : Type} (l : List α) (i : Nat) (v : α) (h : (l.drop i).take 1 = [v]) : l[i]? = some v := by
  have : ((l.drop i).take 1)[0]? = some v := by rw [h]; rfl
  rw [List.getElem?_take, if_pos (by decide), List.getElem?_drop, Nat.add_zero] at this
  exact this
theorem digest_open {H : Type} {enc : TypeId × Value → H} {W : World} {base : Nat} {spare : Nat → Bool} {held : Bool} {n : Nat} {cs : List Value} {x : DataW H × List MemPlace}
    (h : DataW.trod enc Try.prog W base spare held n 27 cs = some x) : ∃ d : List Nat, d.length = 32 ∧ Byt d ∧ cs = d.map fun c => Value.int .u8 (c : Nat) := by
  obtain ⟨xs, m, -, -, hl, hxl, hf⟩ := DataW.trod_array Try.underlying27 h
  have hce : Try.prog.cellsOf 5 = 1 := by kernel_rfl
  have hcd : Try.prog.cellsOf 27 = 32 := by kernel_rfl
  rw [hcd] at hl
  have each : ∀ i, i < 32 → ∃ c : Nat, c < 256 ∧ cs[i]? = some (.int .u8 (c : Nat)) := by
    intro i hi
    have h1 := hf i hi
    rw [hce, Nat.mul_one, List.getElem?_eq_getElem (by omega)] at h1
    obtain ⟨z, hz, -, hw⟩ := DataW.trod_int Try.underlying5 h1
    have hb := bounds_u8 hw
    refine ⟨z.toNat, by omega, ?_⟩
    rw [take_one cs i _ hz, Int.toNat_of_nonneg hb.1]
  obtain ⟨q, hq⟩ := Deep.choose_lt each
  refine ⟨(List.range 32).map q, by simp, fun c hc => ?_, ?_⟩
  · obtain ⟨i, hi, rfl⟩ := List.mem_map.1 hc
    exact (hq i (List.mem_range.1 hi)).1
  · refine List.ext_getElem? fun i => ?_
    by_cases hi : i < 32
    · rw [(hq i hi).2, List.map_map, List.getElem?_map, List.getElem?_range hi]; rfl
    · rw [List.getElem?_eq_none (by omega), List.getElem?_eq_none (by simp; omega)]
theorem field_open {H : Type} {enc : TypeId × Value → H} {W : World} {base : Nat} {spare : Nat → Bool} {held : Bool} {n : Nat} {cs : List Value} {d : DataW H} {p : List MemPlace}
    (h : DataW.trod enc Try.prog W base spare held n 29 cs = some (d, p)) : ∃ x : Fld, FldOk x ∧ cs = fldCells x ∧ x.2.2.2.1.size ≤ Rows.uptoBulk d := by
  obtain ⟨xs, m, -, hx, hl, hxl, hf⟩ := DataW.trod_struct Try.underlying29 h
  have hcf : Try.prog.cellsOf 29 = 36 := by kernel_rfl
  have c0 : Try.prog.cellsOf 3 = 1 := by kernel_rfl
  have c1 : Try.prog.cellsOf 25 = 1 := by kernel_rfl
  have c2 : Try.prog.cellsOf 2 = 1 := by kernel_rfl
  have c3 : Try.prog.cellsOf 9 = 1 := by kernel_rfl
  have c4 : Try.prog.cellsOf 27 = 32 := by kernel_rfl
  rw [hcf] at hl
  match xs, hxl with
  | [y0, y1, y2, y3, y4], _ =>
    have g0 : DataW.trod enc Try.prog W base spare held m 3 ((cs.drop 0).take (Try.prog.cellsOf 3)) = some y0 := hf 0 _ rfl
    have g1 : DataW.trod enc Try.prog W base spare held m 25 ((cs.drop 1).take (Try.prog.cellsOf 25)) = some y1 := hf 1 _ rfl
    have g2 : DataW.trod enc Try.prog W base spare held m 2 ((cs.drop 2).take (Try.prog.cellsOf 2)) = some y2 := hf 2 _ rfl
    have g3 : DataW.trod enc Try.prog W base spare held m 9 ((cs.drop 3).take (Try.prog.cellsOf 9)) = some y3 := hf 3 _ rfl
    have g4 : DataW.trod enc Try.prog W base spare held m 27 ((cs.drop 4).take (Try.prog.cellsOf 27)) = some y4 := hf 4 _ rfl
    rw [c0] at g0
    rw [c1] at g1
    rw [c2] at g2
    rw [c3] at g3
    rw [c4] at g4
    obtain ⟨z0, e0, -, w0⟩ := DataW.trod_int Try.underlying3 g0
    obtain ⟨z1, e1, -, w1⟩ := DataW.trod_int Try.underlying25 g1
    obtain ⟨z2, e2, -, w2⟩ := DataW.trod_int Try.underlying2 g2
    obtain ⟨s, e3, k3, b3⟩ := DataW.trod_string Try.underlying9 g3
    obtain ⟨dd, l4, b4, e4⟩ := digest_open g4
    have h0 := bounds_i64 w0
    have h1 := bounds_u64 w1
    have h2 := bounds_i64 w2
    refine ⟨(z0, z1.toNat, z2, s, dd), ⟨⟨by simp only []; omega, by simp only []; omega⟩, by simp only []; omega, ⟨by simp only []; omega, by simp only []; omega⟩, l4, b4⟩, ?_, ?_⟩
    · unfold fldCells
      dsimp only
      rw [Int.toNat_of_nonneg h1.1]
      refine List.ext_getElem? fun i => ?_
      match i with
      | 0 => exact take_one cs 0 _ e0
      | 1 => exact take_one cs 1 _ e1
      | 2 => exact take_one cs 2 _ e2
      | 3 => exact take_one cs 3 _ e3
      | i + 4 =>
        show cs[i + 4]? = (dd.map fun c => Value.int .u8 (c : Nat))[i]?
        rw [← e4, List.getElem?_take]
        split
        · rw [List.getElem?_drop, Nat.add_comm]
        · rw [List.getElem?_eq_none (by omega)]
    · have hd := congrArg Prod.fst hx
      dsimp only at hd
      rw [hd, Rows.uptoBulk]
      have := bulk_le ([y0, y1, y2, y3, y4].map (·.1)) y3.1 (by simp)
      have hb3 : Rows.uptoBulk y3.1 = s.data.toList.length + 1 := by rw [k3, Rows.uptoBulk]
      dsimp only
      have hsz : s.data.toList.length = s.size := by rw [Array.length_toList]; rfl
      omega
theorem fields_open {H : Type} {enc : TypeId × Value → H} {W : World} {base : Nat} {spare : Nat → Bool} {held : Bool} {fuel : Nat} {a : Option Addr} {len cap : Nat} {d : DataW H} {p : List MemPlace}
    (h : DataW.trod enc Try.prog W base spare held fuel 22 (Value.slice a len cap).cells.toList = some (d, p)) :
    ∃ fs, ArgF W a len fs ∧ len ≤ cap ∧ cap ≤ maxLen ∧ ∀ i, i < len → (fldAt fs i).2.2.2.1.size ≤ Rows.uptoBulk d := by
  have hcf : Try.prog.cellsOf 29 = 36 := by kernel_rfl
  rcases Deep.open_slice Try.underlying22 h with ⟨hcs, hd⟩ | ⟨x, l, c, m, n, D, Pl, hcs, _, hl, hm, hmm, hx, hcell⟩
  · simp [Value.cells] at hcs
    obtain ⟨rfl, rfl, rfl⟩ := hcs
    exact ⟨[], ⟨rfl, fun i hi => by omega, .inl rfl⟩, Nat.le_refl _, Nat.zero_le _, fun i hi => by omega⟩
  · simp [Value.cells] at hcs
    obtain ⟨rfl, rfl, rfl⟩ := hcs
    have hlm : len ≤ m := by rw [hmm]; split <;> omega
    have each : ∀ i, i < len → ∃ y : Fld, FldOk y ∧ y.2.2.2.1.size ≤ Rows.uptoBulk (D i) ∧ ∀ j, j < 36 → W.cell? ((x.add (i * 36)).add j) = (fldCells y)[j]? := by
      intro i hi
      obtain ⟨cs', h1, h2⟩ := hcell i (by omega)
      rw [hcf] at h1
      obtain ⟨_, hlen, hc⟩ := World.cells?_some h1
      obtain ⟨y, hy, rfl, hb⟩ := field_open h2
      exact ⟨y, hy, hb, fun j hj => hc j hj⟩
    obtain ⟨q, hq⟩ := Deep.choose_lt each
    have hat : ∀ i, i < len → fldAt ((List.range len).map q) i = q i := by
      intro i hi
      unfold fldAt
      rw [List.getD_eq_getElem?_getD, List.getElem?_map, List.getElem?_range hi]
      rfl
    refine ⟨(List.range len).map q, ⟨by simp, fun i hi => by rw [hat i hi]; exact (hq i hi).1, ?_⟩, hl, hm, fun i hi => ?_⟩
    · by_cases h0 : len = 0
      · exact .inl h0
      · obtain ⟨b, off, spot⟩ := x
        have k0 := (hq 0 (by omega)).2.2 0 (by omega)
        have hspot : spot = none := by
          have : (fldCells (q 0))[0]? = some (.int .i64 (q 0).1) := rfl
          rw [this] at k0
          simpa [Addr.add] using World.cell?_spot k0
        subst hspot
        refine .inr ⟨b, off, rfl, ?_, fun i hi j hj => ?_⟩
        · have : (fldCells (q 0))[0]? = some (.int .i64 (q 0).1) := rfl
          rw [this] at k0
          simpa [Addr.add] using World.block_lt_of_cell? W _ k0
        · have hp : ∀ o k, (⟨b, o, none⟩ : Addr).add k = ⟨b, o + k, none⟩ := fun o k => by unfold Addr.add; split <;> simp_all
          have := (hq i hi).2.2 j hj
          rw [hp, hp] at this
          rw [hat i hi, this]
    · rw [hat i hi]
      refine Nat.le_trans (hq i hi).2.1 ?_
      have hd := congrArg Prod.fst hx
      dsimp only at hd
      rw [hd, Rows.uptoBulk]
      have := bulk_le ((List.range len).map D) (D i) (List.mem_map.2 ⟨i, List.mem_range.2 hi, rfl⟩)
      omega
end Go.Proofs.Ytngojkleehgbaaa
