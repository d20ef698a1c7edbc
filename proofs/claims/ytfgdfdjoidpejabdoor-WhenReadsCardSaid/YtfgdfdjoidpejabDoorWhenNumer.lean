/-
  strconv.FormatUint at base 10: the digits of any number, over the shelf's contracts.
-/
import Derived.Test.YtfgdfdjoidpejabDoorShelf
import Derived.Test.YtfgdfdjoidpejabDoorWhenSpan
import Derived.Lib.ItoaMem
import Derived.Lib.ItoaLen
import Derived.Lib.Walk
namespace Go.Proofs.YtfgdfdjoidpejabDoor
open Go.ChangeShapes Go.WideShapes Go.ChangeAt Go.RowKit Go.Sort
set_option linter.unusedVariables false
set_option linter.unusedSimpArgs false
/-- The table of powers, as the program's text lays it. -/
def TabP (w : World) : Prop := Lib.TabIs Tryd.prog w "internal/strconv.uint64pow10" .u64 Lib.pow10Tab
theorem TabP.below {w w' : World} (h : TabP w) (hb : Below w.heap.size w w') : TabP w' := by
  unfold TabP Lib.TabIs World.var? at *
  cases hg : Tryd.prog.globalNamed "internal/strconv.uint64pow10" with
  | none => simp [hg] at h
  | some g =>
    simp only [hg, Option.bind_some] at h ⊢
    have hlt : g < w.heap.size := by
      rcases Nat.lt_or_ge g w.heap.size with h' | h'
      · exact h'
      · rw [Array.getElem?_eq_none h'] at h; simp at h
    rw [hb.block g hlt]
    exact h
theorem dec_same : ∀ (k u : Nat), u < 10 ^ (k + 1) → Lib.decDigits u = (decF k u).map UInt8.ofNat
  | 0, u, h => by
    rw [Lib.decDigits, dif_pos (by simpa using h), decF, Nat.mod_eq_of_lt (by simpa using h)]
    rfl
  | k + 1, u, h => by
    rw [Lib.decDigits, decF]
    by_cases hu : u < 10
    · rw [dif_pos hu, if_pos hu]; rfl
    · rw [dif_neg hu, if_neg hu, dec_same k (u / 10) (by rw [Nat.pow_succ] at h; omega), List.map_append]
      rfl
theorem dec_str (u : Nat) (h : u < 18446744073709551616) : (⟨(Lib.decDigits u).toArray⟩ : ByteArray) = strN (decN u) := by
  unfold strN decN
  rw [dec_same 20 u (Nat.lt_of_lt_of_le h (by decide))]
theorem holds_zero0 (w : World) (T : TypeId) (nd : Nat) (hs : nd ≤ 24) : Holds (fun (b : UInt8) => Value.int .u8 (b.toNat : Int)) (w.alloc (.cells Lib.zeros24 T)) w.heap.size 0 (Array.replicate nd (0 : UInt8)) := fun j hj => by
  have hj' : j < nd := by simpa using hj
  refine ⟨?_, World.frozen?_alloc_new _ _ _ _⟩
  rw [World.cell?_alloc_new, Nat.zero_add, Lib.zeros24_at _ (by omega), getElem!_pos _ j hj]
  simp
theorem fin_zero (w : World) (o : Obj) (dk : Array UInt8) (k : Nat) : ∃ os, (putRow (fun (b : UInt8) => Value.int .u8 (b.toNat : Int)) (w.alloc o) w.heap.size 0 dk).drewN k = grow (w.drewN k) os := by
  rw [alloc_eq_grow]
  obtain ⟨os', _, e⟩ := putRow_grow_new (fun (b : UInt8) => Value.int .u8 (b.toNat : Int)) w #[o] w.heap.size 0 dk (Nat.le_refl _)
  exact ⟨os', by rw [e]; rfl⟩
theorem grow_below (w : World) (os : Array Obj) : Below w.heap.size w (grow w os) := by
  refine ⟨rfl, rfl, rfl, ?_, fun k hk => ?_⟩
  · simp [grow]
  · simp [grow, Array.getElem?_append_left hk]
set_option maxRecDepth 100000 in
set_option maxHeartbeats 6400000 in
theorem ifmt_any (u : Nat) (w : World) (hP : TabP w) (hu64 : u < 18446744073709551616) :
    Calls Tryd.prog 28 #[.int .u64 (u : Nat), .int .i64 10] w fun e w' => e = .returned (.string (strN (decN u))) ∧ Below w.heap.size w w' := by
  have HS : Hid _ := dec_str u hu64
  rw [← HS.out]
  by_cases hs : u < 100
  · have HSM : Hid (∀ W, Calls Tryd.prog 32 #[.int .i64 (u : Nat)] W fun e w' => e = .returned (.string ⟨(Lib.decDigits u).toArray⟩) ∧ w' = W) := fun W => Tryd.internal_strconv_small u hs W
    have hsi : (u : Int) < 100 := by omega
    generalize (⟨(Lib.decDigits u).toArray⟩ : ByteArray) = st at *
    go_enter Tryd.func28, Tryd.ntmps28
    go_wp2_with fail
    refine Calls.mono (HSM.out _) ?_
    rintro _ w' ⟨rfl, hw⟩
    replace hw := hw.symm
    subst hw
    go_wp2_with fail
    go_ret
    exact ⟨rfl, Below.refl _ _⟩
  · have hsi : ¬ (u : Int) < 100 := by omega
    have hu1 : 1 ≤ u := by omega
    have hnd20 : Lib.nDigits u ≤ 20 := Lib.nDigits_le20 u hu64
    have hal : Tryd.prog.arrayLen 57 = 24 := by kernel_rfl
    have HND : Hid _ := Tryd.internal_strconv_numDigits u hu1 hu64 (w.alloc (.cells Lib.zeros24 57)) (Lib.tabIs_alloc hP _)
    have hsl : ∀ W, (Instr.sliceAt 57 (.pointer (some ⟨w.heap.size, 0, none⟩)) none (some (.int .i64 (Lib.nDigits u : Int))) none).run Tryd.prog W = .ok (.slice (some ⟨w.heap.size, 0, none⟩) (Lib.nDigits u) 24) W := fun W => by
      rw [run_sliceAt_array_h W 57 ⟨w.heap.size, 0, none⟩ (by simp [Program.arrayLen, Program.elem, Tryd.underlying57]) .i64 (Lib.nDigits u : Int) (by omega) (by rw [hal]; omega)]
      go_simp
      try omega
    have hH0 := holds_zero0 w 57 (Lib.nDigits u) (by omega)
    have hfmt := Tryd.internal_strconv_formatBase10 w.heap.size 0 24 u (Array.replicate (Lib.nDigits u) 0) (w.alloc (.cells Lib.zeros24 57)) hH0 (by rw [Array.size_replicate]; exact Lib.lt_pow_nDigits u) hu64 (by rw [Array.size_replicate]; omega)
    rw [Array.size_replicate] at hfmt
    have HF : Hid _ := hfmt
    have HH0 : Hid _ := hH0
    clear hH0 hfmt hal
    unfold Lib.zeros24 at HND HF HH0
    go_enter Tryd.func28, Tryd.ntmps28
    go_wp2_with fail
    refine Calls.mono HND.out ?_
    rintro _ w' ⟨rfl, hw⟩
    replace hw := hw.symm
    subst hw
    go_wp2_with fail
    refine Calls.mono HF.out ?_
    rintro _ w2 ⟨rfl, k, v', dk, hw2, hF⟩
    have hcv : (convert 47 9 (.slice (some ⟨w.heap.size, 0, none⟩) (Lib.nDigits u) 24)).run Tryd.prog w2 = .ok (.string ⟨(Lib.decDigits u).toArray⟩) w2 := by
      have h := run_convert_bytes_back (P := Tryd.prog) w2 47 9 5 ⟨w.heap.size, 0, none⟩ 24 (Lib.decDigits u) Tryd.underlying47 Tryd.underlying5 Tryd.underlying9 (fun j hj => by
        rw [Lib.row_is_numeral hF j hj, Lib.add_plain, hw2, World.cell?_drewN]
        exact cell?_putRow (fun (b : UInt8) => Value.int .u8 (b.toNat : Int)) _ w.heap.size 0 _ dk HH0.out (by rw [hF.size, Array.size_replicate]) j (by rw [hF.size]; rw [Lib.decDigits_length] at hj; exact hj))
      rw [Lib.decDigits_length] at h
      exact h
    have hfin : Below w.heap.size w w2 := by
      obtain ⟨os, eo⟩ := fin_zero w (.cells Lib.zeros24 57) dk k
      rw [hw2]
      unfold Lib.zeros24 at eo
      rw [eo]
      exact (below_drew (RowKit.Below.refl w.heap.size w) k).trans (grow_below (w.drewN k) os)
    clear hw2 hF HF HH0 HND
    go_wp2_with fail
    go_ret
    exact ⟨rfl, hfin⟩
theorem fmt_any (u : Nat) (w : World) (hP : TabP w) (hu64 : u < 18446744073709551616) :
    Calls Tryd.prog 22 #[.int .u64 (u : Nat), .int .i64 10] w fun e w' => e = .returned (.string (strN (decN u))) ∧ Below w.heap.size w w' := by
  have HI : Hid _ := ifmt_any u w hP hu64
  generalize strN (decN u) = st at *
  go_enter Tryd.func22, Tryd.ntmps22
  go_wp2_with fail
  refine Calls.mono HI.out ?_
  rintro _ w2 ⟨rfl, hb⟩
  go_wp2_with fail
  go_ret
  exact ⟨rfl, hb⟩
end Go.Proofs.YtfgdfdjoidpejabDoor
