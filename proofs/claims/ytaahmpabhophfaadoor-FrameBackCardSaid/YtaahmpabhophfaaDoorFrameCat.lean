/-
  slices.Grow of nil, slices.Concat of slices of bytes: a slice of the call's own; slices.Equal of bytes.
-/
import Derived.Test.YtaahmpabhophfaaDoorFrameNum
import Derived.Lib.AppendZerosOnto
import Derived.BigRegion
import Derived.Deep.QuietTactic
namespace Go.Proofs.YtaahmpabhophfaaDoor
open Go.ChangeShapes Go.WideShapes Go.ChangeAt Go.RowKit
set_option linter.unusedVariables false
set_option linter.unusedSimpArgs false
theorem byteT : NumT 22 5 .u8 1 := ⟨info_byte, Tryd.underlying22⟩
theorem grow_nil (w : World) : Calls Tryd.prog 21 #[.slice none 0 0, .int .i64 0] w fun e w' => e = .returned (.slice none 0 0) ∧ w' = w := by
  go_enter Tryd.func21, Tryd.ntmps21
  go_wp2
  go_ret
  exact ⟨rfl, rfl⟩
theorem grow_some (w : World) (n : Nat) (h0 : 0 < n) (hn : n ≤ 1048576) : Calls Tryd.prog 21 #[.slice none 0 0, .int .i64 (n : Nat)] w fun e w' =>
    ∃ G, e = .returned (.slice (some ⟨w.heap.size, 0, none⟩) 0 G) ∧ OwnL 5 .u8 w' w.heap.size (.slice (some ⟨w.heap.size, 0, none⟩) 0 G) [] ∧ Below w.heap.size w w' := by
  obtain ⟨i0, hi, hz0, hz1, hz2⟩ := info_parts info_byte
  have hrun : ∀ ty, (Builtin.append_ #[22, 3] ty #[.slice none 0 0, .int .i64 (n : Nat)]).run Tryd.prog w = _ := fun ty =>
    Lib.run_append_nil_zeros w 22 3 ty 5 i0 (.int .u8 0) .i64 .i64 Tryd.underlying22 Tryd.underlying3 hi hz0 n h0 (by omega) (by omega) (by rw [hz2]; omega)
  have hge := grownCap_ge w n 0 5
  have hle := grownCap_le_maxLen w n 0 5 (by unfold maxLen; omega)
  have hown : OwnL 5 .u8 (w.drew.alloc (.cells (Builtin.zeroCells (Value.int .u8 0).cells n ++ Builtin.zeroCells (Value.int .u8 0).cells (grownCap w n 0 5 - n)) 5)) w.heap.size (.slice (some ⟨w.heap.size, 0, none⟩) 0 (grownCap w n 0 5)) [] :=
    World.ownsRow_made w.drew _ _ (Nat.le_refl _) hle (by simp [size_zeroCells, Value.cells]; omega)
  have hbel : Below w.heap.size w (w.drew.alloc (.cells (Builtin.zeroCells (Value.int .u8 0).cells n ++ Builtin.zeroCells (Value.int .u8 0).cells (grownCap w n 0 5 - n)) 5)) := (Below.refl _ _).drew.alloc (Nat.le_refl _) _
  generalize grownCap w n 0 5 = G at *
  generalize (w.drew.alloc (.cells (Builtin.zeroCells (Value.int .u8 0).cells n ++ Builtin.zeroCells (Value.int .u8 0).cells (G - n)) 5)) = w1 at *
  have i1 : ¬ ((n : Int) < 0) := by omega
  have hG : (G : Int) ≤ 9223372036854775807 := by unfold maxLen at hle; omega
  clear hz0 hz1 hz2 hi
  go_enter Tryd.func21, Tryd.ntmps21
  go_wp2_with (at_builtin; refine Lib.wpList_append_run _ rfl _ _ _ _ rfl _ _ rfl rfl _ _ (hrun _) ?_)
  go_ret
  exact ⟨G, rfl, hown, hbel⟩
theorem grow_any (w : World) (n : Nat) (hn : n ≤ 1048576) : Calls Tryd.prog 21 #[.slice none 0 0, .int .i64 (n : Nat)] w fun e w' =>
    ∃ v, e = .returned v ∧ OwnL 5 .u8 w' w.heap.size v [] ∧ Below w.heap.size w w' := by
  by_cases h0 : n = 0
  · subst h0
    refine (grow_nil w).mono ?_
    rintro e w' ⟨rfl, rfl⟩
    exact ⟨_, rfl, World.ownsRow_nil _ _ _ _, Below.refl _ _⟩
  · refine (grow_some w n (by omega) hn).mono ?_
    rintro e w' ⟨G, rfl, ho, hb⟩
    exact ⟨_, rfl, ho, hb⟩
/-- Slices of bytes in a row of their own block. -/
def PartsC (w : World) (g : Nat) (ps : List (List Nat)) : Prop :=
  g < w.heap.size ∧ ∀ i, i < ps.length → ∃ ai li ci, w.cell? ⟨g, i, none⟩ = some (.slice ai li ci) ∧ RowL .u8 w ai li (ps.getD i []) ∧ (ai = none → li = 0 ∧ ci = 0)
theorem PartsC.below {w w' : World} {g : Nat} {ps : List (List Nat)} (h : PartsC w g ps) (hb : Below w.heap.size w w') : PartsC w' g ps := by
  refine ⟨Nat.lt_of_lt_of_le h.1 hb.size, fun i hi => ?_⟩
  obtain ⟨ai, li, ci, h1, h2, h3⟩ := h.2 i hi
  exact ⟨ai, li, ci, (hb.cell (p := ⟨g, i, none⟩) h.1).trans h1, h2.below hb, h3⟩
theorem flat_take (ps : List (List Nat)) (k : Nat) (h : k < ps.length) : (ps.take (k + 1)).flatten = (ps.take k).flatten ++ ps.getD k [] := by
  rw [List.take_succ_eq_append_getElem h, List.flatten_append]
  simp [List.getD, h]
theorem flat_take_le (ps : List (List Nat)) (k : Nat) : (ps.take k).flatten.length ≤ ps.flatten.length := by
  have := congrArg (fun l => l.flatten.length) (List.take_append_drop k ps)
  simp only [List.flatten_append, List.length_append] at this
  omega
theorem concat_any (w : World) (g : Nat) (ps : List (List Nat)) (hP : PartsC w g ps) (hn : ps.length ≤ 1048576) (hf : ps.flatten.length ≤ 1048576) :
    Calls Tryd.prog 15 #[.slice (some ⟨g, 0, none⟩) ps.length ps.length] w fun e w' => ∃ v, e = .returned v ∧ OwnL 5 .u8 w' w.heap.size v ps.flatten ∧ Below w.heap.size w w' := by
  obtain ⟨hg, hc⟩ := hP
  have HC : Hid (∀ i, i < ps.length → ∃ ai li ci, w.cell? ⟨g, i, none⟩ = some (.slice ai li ci) ∧ RowL .u8 w ai li (ps.getD i []) ∧ (ai = none → li = 0 ∧ ci = 0)) := hc
  have HF : Hid (∀ k, (ps.take k).flatten.length ≤ 1048576) := fun k => Nat.le_trans (flat_take_le ps k) hf
  have HA : Hid ((ps.take ps.length).flatten = ps.flatten) := by unfold Hid; rw [List.take_length]
  clear hc
  go_enter Tryd.func15, Tryd.ntmps15
  go_wp2
  go_loop [3, 11] (fun n i => ∃ k : Nat, k ≤ ps.length ∧ i = .int .i64 k ∧ n = .int .i64 ((ps.take k).flatten.length : Nat)) (fun _ i => ps.length - (intOf i).toNat)
  case atStart => exact ⟨0, Nat.zero_le _, rfl, rfl⟩
  case round =>
    obtain ⟨k, hk, rfl, rfl⟩ := hrel
    have hs := HF.out k
    by_cases hlt : k < ps.length
    · obtain ⟨ai, li, ci, hcell, hrow, -⟩ := HC.out k hlt
      have hs2 := HF.out (k + 1)
      have HS : Hid ((ps.take (k + 1)).flatten.length = (ps.take k).flatten.length + li) := by unfold Hid; rw [flat_take ps k hlt, List.length_append, hrow.1]
      rw [HS.out] at hs2
      clear hrow
      generalize (ps.take k).flatten.length = n at *
      have i1 : ¬ ((n : Int) + li < 0) := by omega
      go_wp2
      go_round
      case rel => exact ⟨k + 1, by omega, by go_num, by rw [HS.out]; go_num⟩
      case measure => simp [intOf]; omega
    · have hkl : k = ps.length := by omega
      subst hkl
      rw [HA.out] at hs ⊢
      generalize ps.flatten.length = N at *
      go_wp2_with fail
      refine (grow_any w N hs).mono ?_
      rintro e w1 ⟨v, rfl, hown, hbel⟩
      go_wp2
      go_loopw [6, 27] (fun ov ix wr => ∃ (wz : World) (k : Nat) (v0 : Value), wz = wr ∧ ov = v0 ∧ ix = .int .i64 k ∧ k ≤ ps.length ∧ OwnL 5 .u8 wz w.heap.size v0 (ps.take k).flatten ∧ Below w.heap.size w wz) (fun _ ix _ => ps.length - (intOf ix).toNat)
      case atStart => exact ⟨w1, 0, v, rfl, rfl, rfl, Nat.zero_le _, hown, hbel⟩
      case round =>
        obtain ⟨wr, k, ov, hwr, hov, rfl, hk, hown, hbe⟩ := hrel
        subst hwr
        replace hov := hov.symm
        subst hov
        have HOWN : Hid (OwnL 5 .u8 wr w.heap.size ov (ps.take k).flatten) := hown
        have HBE : Hid (Below w.heap.size w wr) := hbe
        have hsz := hbe.size
        clear hown hbe
        have hs := HF.out k
        by_cases hlt : k < ps.length
        · obtain ⟨ai, li, ci, hcell0, hrow0, hnil⟩ := HC.out k hlt
          have hcell : wr.cell? ⟨g, k, none⟩ = some (.slice ai li ci) := (HBE.out.cell (p := ⟨g, k, none⟩) hg).trans hcell0
          have HROW : Hid (RowL .u8 wr ai li (ps.getD k [])) := hrow0.below HBE.out
          have HFT : Hid ((ps.take (k + 1)).flatten = (ps.take k).flatten ++ ps.getD k []) := flat_take ps k hlt
          have HL : Hid ((ps.take k).flatten.length + li ≤ 1048576) := by
            have := HF.out (k + 1)
            rw [HFT.out, List.length_append, hrow0.1] at this
            exact this
          clear hcell0 hrow0
          generalize (ps.take k).flatten = xs at *
          go_wp2_with (at_builtin; (refine append_nums byteT wr rfl _ _ rfl w.heap.size ov xs (ps.getD k []) rfl HOWN.out ai li ci rfl HROW.out hnil (by have := HL.out; omega) (by have := HL.out; unfold maxLen; omega) hsz ?_; intro v5 w5 hown5 hb5))
          go_roundw
          case rel => exact ⟨w5, k + 1, v5, rfl, rfl, by go_num, by omega, by rw [HFT.out]; exact hown5, HBE.out.trans hb5⟩
          case measure => simp [intOf]; omega
        · have hkl : k = ps.length := by omega
          subst hkl
          rw [List.take_length] at HOWN
          go_wp2
          go_ret
          exact ⟨ov, rfl, HOWN.out, HBE.out⟩
end Go.Proofs.YtaahmpabhophfaaDoor
