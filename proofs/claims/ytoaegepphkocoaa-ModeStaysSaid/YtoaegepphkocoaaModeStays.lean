/-
  ModeStays returns true: compliance is never shortened, nor weakened, nor erased ahead of its time, whoever asks; a hold stays.
-/
import Derived.Test.YtoaegepphkocoaaPArgs
import Derived.Test.YtoaegepphkocoaaModeArgs
import Derived.Test.YtoaegepphkocoaaModeAwake
namespace Go.Proofs.Ytoaegepphkocoaa.modeStays
open Go.ChangeShapes Go.WideShapes Go.ChangeAt Go.RowKit
open Go.ChangeMaps (open_string shut_string)
set_option linter.unusedVariables false
set_option linter.unusedSimpArgs false
theorem stays_ok {m u m2 u2 t : Int} {b : Bool} (he : retainE m u m2 u2 t b = 0) (hs : soundL m u = true) (ht : t < u) : (m = 2 → m2 = 2 ∧ u ≤ u2) ∧ (m = 1 → b = false → m2 ≠ 0 ∧ u ≤ u2) := by
  have hb : m = 2 ∨ m = 1 → bindsL m u t = true := by unfold bindsL; rintro (rfl | rfl) <;> simp [ht]
  unfold retainE at he
  constructor
  · intro hm
    apply Decidable.byContradiction
    intro hc
    have hor : m2 ≠ 2 ∨ u2 < u := by omega
    rw [if_pos (c := bindsL m u t = true ∧ _) ⟨hb (.inl hm), .inl ⟨hm, hor⟩⟩] at he
    split at he
    · cases he
    · split at he <;> cases he
  · intro hm hbb
    apply Decidable.byContradiction
    intro hc
    have hor : m2 = 0 ∨ u2 < u := by omega
    rw [if_pos (c := bindsL m u t = true ∧ _) ⟨hb (.inr hm), .inr ⟨hm, hbb, hor⟩⟩] at he
    split at he
    · cases he
    · split at he <;> cases he
theorem stays_erase {m u t : Int} {h b : Bool} (hs : soundL m u = true) (ht : t < u) (hm : m = 2 ∨ (m = 1 ∧ b = false)) : eraseL m u h t b = 13 := by
  unfold eraseL bindsL
  rcases hm with rfl | ⟨rfl, rfl⟩ <;> cases h <;> simp [hs, ht]
theorem merase_as {m u t : Int} {h b : Bool} {v : Nat} (hv : eraseL m u h t b = v) (w : World) : Calls Try.prog 16 #[lockV m u h, .int .i64 t, .bool b] w fun e w' => e = .returned (.int .i64 (v : Nat)) ∧ Below w.heap.size w w' := by
  have k := merase_any m u h t b w
  rwa [hv] at k
set_option maxHeartbeats 16000000 in
theorem walk (W : World) (m0 u0 : Int) (b0 : Bool) (w0 : i64 m0) (x0 : i64 u0) (a1 : Int) (w1 : (Lit.int .i64 a1).wf = true) (a2 : Int) (w2 : (Lit.int .i64 a2).wf = true) (a3 : Int) (w3 : (Lit.int .i64 a3).wf = true) (a4 : Bool) :
    Calls Try.prog 6 #[lockV m0 u0 b0, .int .i64 a1, .int .i64 a2, .int .i64 a3, .bool a4] W fun e W' => e = .returned (.bool true) ∧ Below W.heap.size W W' := by
  obtain ⟨wA, hwA⟩ : ∃ wA, wA = (W.alloc (.cells #[.int .i64 m0, .int .i64 u0, .bool b0] 23)) := ⟨_, rfl⟩
  have HI0 : Hid (LockB wA (W.heap.size) (m0) (u0) (b0) ∧ Below W.heap.size W wA) := by
    rw [hwA]
    have k0 := LockB.new W (m0) (u0) (b0)
    exact ⟨k0, (below_new W _)⟩
  go_enter Try.func6, Try.ntmps6
  go_wp2_with fail
  rw [← hwA]
  clear hwA
  obtain ⟨E, hE⟩ : ∃ E, E = retainE m0 u0 a1 a2 a3 a4 := ⟨_, rfl⟩
  have HE : Hid (retainE m0 u0 a1 a2 a3 a4 = E) := hE.symm
  have HRV : Hid (retainV m0 u0 b0 a1 a2 a3 a4 = if E = 0 then lockV a1 a2 b0 else lockV 0 0 false) := by unfold Hid retainV; rw [HE.out]
  clear hE
  obtain ⟨nx, ny, nz, hnv⟩ := retain_form m0 u0 b0 a1 a2 a3 a4
  have HNV : Hid (retainV m0 u0 b0 a1 a2 a3 a4 = lockV nx ny nz) := hnv
  clear hnv
  refine Calls.mono (mretain_any m0 u0 b0 a1 a2 a3 a4 _) ?_
  rw [HNV.out, HE.out]
  rintro e v1 ⟨rfl, hb⟩
  have HI1 : Hid (LockB v1 (W.heap.size) (m0) (u0) (b0) ∧ Below W.heap.size W v1) := ⟨HI0.out.1.below hb, HI0.out.2.trans (hb.mono HI0.out.2.size)⟩
  clear hb HI0 
  obtain ⟨g2, hg2⟩ : ∃ g, g = v1.heap.size := ⟨_, rfl⟩
  obtain ⟨x2, hx2⟩ : ∃ w, w = v1.alloc (.cells #[.int .i64 nx, .int .i64 ny, .bool nz] 23) := ⟨_, rfl⟩
  have HI2 : Hid (LockB x2 (W.heap.size) (m0) (u0) (b0) ∧ LockB x2 (g2) (nx) (ny) (nz) ∧ Below W.heap.size W x2) := by
    rw [hg2, hx2]
    exact ⟨HI1.out.1.below (below_new _ _), LockB.new _ _ _ _, HI1.out.2.alloc HI1.out.2.size _⟩
  have HX2 : Hid (v1.alloc (.cells #[.int .i64 nx, .int .i64 ny, .bool nz] 23) = x2 ∧ v1.heap.size = g2) := ⟨hx2.symm, hg2.symm⟩
  clear hg2 hx2 HI1 
  obtain ⟨⟨c00, c01, c02⟩, -⟩ := HI2.out.1.cells
  obtain ⟨⟨c10, c11, c12⟩, -⟩ := HI2.out.2.1.cells
  rw [← HX2.out.1] at c00 c01 c02 c10 c11 c12
  show _
  go_wp2_with fail
  rw [HX2.out.1, HX2.out.2]
  refine Calls.mono (awake_true _) ?_
  rintro e v3 ⟨rfl, hb⟩
  have HI3 : Hid (LockB v3 (W.heap.size) (m0) (u0) (b0) ∧ LockB v3 (g2) (nx) (ny) (nz) ∧ Below W.heap.size W v3) := ⟨HI2.out.1.below hb, HI2.out.2.1.below hb, HI2.out.2.2.trans (hb.mono HI2.out.2.2.size)⟩
  clear hb HI2 c00 c01 c02 c10 c11 c12
  obtain ⟨⟨c00, c01, c02⟩, -⟩ := HI3.out.1.cells
  obtain ⟨⟨c10, c11, c12⟩, -⟩ := HI3.out.2.1.cells
  show _
  go_wp2_with fail
  cases s0 : soundL m0 u0 with
  | false =>
    refine Calls.mono (msound_any m0 u0 b0 _) ?_
    rw [s0]
    rintro e v4 ⟨rfl, hb⟩
    have HI4 : Hid (LockB v4 (W.heap.size) (m0) (u0) (b0) ∧ LockB v4 (g2) (nx) (ny) (nz) ∧ Below W.heap.size W v4) := ⟨HI3.out.1.below hb, HI3.out.2.1.below hb, HI3.out.2.2.trans (hb.mono HI3.out.2.2.size)⟩
    clear hb HI3 c00 c01 c02 c10 c11 c12
    obtain ⟨⟨c00, c01, c02⟩, -⟩ := HI4.out.1.cells
    obtain ⟨⟨c10, c11, c12⟩, -⟩ := HI4.out.2.1.cells
    show _
    go_wp2_with fail
    refine Calls.mono (awake_true _) ?_
    rintro e v5 ⟨rfl, hb⟩
    have HI5 : Hid (LockB v5 (W.heap.size) (m0) (u0) (b0) ∧ LockB v5 (g2) (nx) (ny) (nz) ∧ Below W.heap.size W v5) := ⟨HI4.out.1.below hb, HI4.out.2.1.below hb, HI4.out.2.2.trans (hb.mono HI4.out.2.2.size)⟩
    clear hb HI4 c00 c01 c02 c10 c11 c12
    obtain ⟨⟨c00, c01, c02⟩, -⟩ := HI5.out.1.cells
    obtain ⟨⟨c10, c11, c12⟩, -⟩ := HI5.out.2.1.cells
    show _
    go_wp2_with fail
    go_ret
    exact ⟨rfl, HI5.out.2.2⟩
  | true =>
    by_cases ht : a3 < u0
    · refine Calls.mono (msound_any m0 u0 b0 _) ?_
      rw [s0]
      rintro e v4 ⟨rfl, hb⟩
      have HI4 : Hid (LockB v4 (W.heap.size) (m0) (u0) (b0) ∧ LockB v4 (g2) (nx) (ny) (nz) ∧ Below W.heap.size W v4) := ⟨HI3.out.1.below hb, HI3.out.2.1.below hb, HI3.out.2.2.trans (hb.mono HI3.out.2.2.size)⟩
      clear hb HI3 c00 c01 c02 c10 c11 c12
      obtain ⟨⟨c00, c01, c02⟩, -⟩ := HI4.out.1.cells
      obtain ⟨⟨c10, c11, c12⟩, -⟩ := HI4.out.2.1.cells
      have HEQ : Hid (E = 0 → nx = a1 ∧ ny = a2 ∧ nz = b0) := fun e0 => by
        have h := HNV.out.symm.trans HRV.out
        rw [if_pos e0] at h
        simpa [lockV] using h
      have HOK : Hid (E = 0 → (m0 = 2 → a1 = 2 ∧ u0 ≤ a2) ∧ (m0 = 1 → a4 = false → a1 ≠ 0 ∧ u0 ≤ a2)) := fun e0 => stays_ok (HE.out.trans e0) s0 ht
      have HER : Hid (m0 = 2 ∨ (m0 = 1 ∧ a4 = false) → eraseL m0 u0 b0 a3 a4 = 13) := stays_erase s0 ht
      have hti : ¬ u0 ≤ a3 := by omega
      clear s0 ht
      have hm : m0 = 2 ∨ (m0 = 1 ∧ a4 = false) ∨ (m0 = 1 ∧ a4 = true) ∨ (m0 ≠ 2 ∧ m0 ≠ 1) := by cases a4 <;> simp <;> omega
      by_cases e0 : E = 0
      · rcases hm with hm | hm | hm | hm
        · obtain ⟨hx, hy, hz⟩ := HEQ.out e0
          have eE : ((E : Int) == 0) = true := by rw [e0]; rfl
          have eN : ((E : Int) != 0) = false := by rw [e0]; rfl
          have hzz : (nz == b0) = true := by rw [hz]; simp
          have hzn : (nz != b0) = false := by rw [hz]; simp
          have hE13 : eraseL m0 u0 b0 a3 a4 = 13 := HER.out (.inl hm)
          have m2i : (m0 == 2) = true := beq_iff_eq.2 hm
          obtain ⟨h1, h2⟩ := (HOK.out e0).1 hm
          have nxi : (nx == 2) = true := by rw [hx, h1]; rfl
          have nyi : u0 ≤ ny := by rw [hy]; exact h2
          clear h1 h2
          clear e0 hx hy hz hm
          show _
          go_wp2_with fail
          refine Calls.mono (merase_as hE13 _) ?_
          rintro e v5 ⟨rfl, hb⟩
          have HI5 : Hid (LockB v5 (W.heap.size) (m0) (u0) (b0) ∧ LockB v5 (g2) (nx) (ny) (nz) ∧ Below W.heap.size W v5) := ⟨HI4.out.1.below hb, HI4.out.2.1.below hb, HI4.out.2.2.trans (hb.mono HI4.out.2.2.size)⟩
          clear hb HI4 c00 c01 c02 c10 c11 c12
          obtain ⟨⟨c00, c01, c02⟩, -⟩ := HI5.out.1.cells
          obtain ⟨⟨c10, c11, c12⟩, -⟩ := HI5.out.2.1.cells
          show _
          go_wp2_with fail
          go_ret
          exact ⟨rfl, HI5.out.2.2⟩
        · obtain ⟨hx, hy, hz⟩ := HEQ.out e0
          have eE : ((E : Int) == 0) = true := by rw [e0]; rfl
          have eN : ((E : Int) != 0) = false := by rw [e0]; rfl
          have hzz : (nz == b0) = true := by rw [hz]; simp
          have hzn : (nz != b0) = false := by rw [hz]; simp
          have hE13 : eraseL m0 u0 b0 a3 a4 = 13 := HER.out (.inr hm)
          have m2i : (m0 == 2) = false := by rw [hm.1]; rfl
          have m1i : (m0 == 1) = true := by rw [hm.1]; rfl
          obtain ⟨hm1, rfl⟩ := hm
          obtain ⟨h1, h2⟩ := (HOK.out e0).2 hm1 rfl
          have nxi : (nx != 0) = true := by rw [hx]; exact bne_iff_ne.2 h1
          have nyi : u0 ≤ ny := by rw [hy]; exact h2
          clear h1 h2
          clear hm1
          clear e0 hx hy hz
          show _
          go_wp2_with fail
          refine Calls.mono (merase_as hE13 _) ?_
          rintro e v5 ⟨rfl, hb⟩
          have HI5 : Hid (LockB v5 (W.heap.size) (m0) (u0) (b0) ∧ LockB v5 (g2) (nx) (ny) (nz) ∧ Below W.heap.size W v5) := ⟨HI4.out.1.below hb, HI4.out.2.1.below hb, HI4.out.2.2.trans (hb.mono HI4.out.2.2.size)⟩
          clear hb HI4 c00 c01 c02 c10 c11 c12
          obtain ⟨⟨c00, c01, c02⟩, -⟩ := HI5.out.1.cells
          obtain ⟨⟨c10, c11, c12⟩, -⟩ := HI5.out.2.1.cells
          show _
          go_wp2_with fail
          go_ret
          exact ⟨rfl, HI5.out.2.2⟩
        · obtain ⟨hx, hy, hz⟩ := HEQ.out e0
          have eE : ((E : Int) == 0) = true := by rw [e0]; rfl
          have eN : ((E : Int) != 0) = false := by rw [e0]; rfl
          have hzz : (nz == b0) = true := by rw [hz]; simp
          have hzn : (nz != b0) = false := by rw [hz]; simp
          obtain ⟨hm1, rfl⟩ := hm
          have m2i : (m0 == 2) = false := by rw [hm1]; rfl
          have m1i : (m0 == 1) = true := by rw [hm1]; rfl
          clear hm1
          clear e0 hx hy hz
          show _
          go_wp2_with fail
          go_ret
          exact ⟨rfl, HI4.out.2.2⟩
        · obtain ⟨hx, hy, hz⟩ := HEQ.out e0
          have eE : ((E : Int) == 0) = true := by rw [e0]; rfl
          have eN : ((E : Int) != 0) = false := by rw [e0]; rfl
          have hzz : (nz == b0) = true := by rw [hz]; simp
          have hzn : (nz != b0) = false := by rw [hz]; simp
          have m2i : (m0 == 2) = false := beq_eq_false_iff_ne.2 hm.1
          have m1i : (m0 == 1) = false := beq_eq_false_iff_ne.2 hm.2
          clear e0 hx hy hz hm
          show _
          go_wp2_with fail
          go_ret
          exact ⟨rfl, HI4.out.2.2⟩
      · rcases hm with hm | hm | hm | hm
        · have eE : ((E : Int) == 0) = false := by rw [beq_eq_false_iff_ne]; omega
          have eN : ((E : Int) != 0) = true := by rw [bne_iff_ne]; omega
          have hE13 : eraseL m0 u0 b0 a3 a4 = 13 := HER.out (.inl hm)
          have m2i : (m0 == 2) = true := beq_iff_eq.2 hm
          clear e0 hm
          show _
          go_wp2_with fail
          refine Calls.mono (merase_as hE13 _) ?_
          rintro e v5 ⟨rfl, hb⟩
          have HI5 : Hid (LockB v5 (W.heap.size) (m0) (u0) (b0) ∧ LockB v5 (g2) (nx) (ny) (nz) ∧ Below W.heap.size W v5) := ⟨HI4.out.1.below hb, HI4.out.2.1.below hb, HI4.out.2.2.trans (hb.mono HI4.out.2.2.size)⟩
          clear hb HI4 c00 c01 c02 c10 c11 c12
          obtain ⟨⟨c00, c01, c02⟩, -⟩ := HI5.out.1.cells
          obtain ⟨⟨c10, c11, c12⟩, -⟩ := HI5.out.2.1.cells
          show _
          go_wp2_with fail
          go_ret
          exact ⟨rfl, HI5.out.2.2⟩
        · have eE : ((E : Int) == 0) = false := by rw [beq_eq_false_iff_ne]; omega
          have eN : ((E : Int) != 0) = true := by rw [bne_iff_ne]; omega
          have hE13 : eraseL m0 u0 b0 a3 a4 = 13 := HER.out (.inr hm)
          have m2i : (m0 == 2) = false := by rw [hm.1]; rfl
          have m1i : (m0 == 1) = true := by rw [hm.1]; rfl
          obtain ⟨hm1, rfl⟩ := hm
          clear hm1
          clear e0
          show _
          go_wp2_with fail
          refine Calls.mono (merase_as hE13 _) ?_
          rintro e v5 ⟨rfl, hb⟩
          have HI5 : Hid (LockB v5 (W.heap.size) (m0) (u0) (b0) ∧ LockB v5 (g2) (nx) (ny) (nz) ∧ Below W.heap.size W v5) := ⟨HI4.out.1.below hb, HI4.out.2.1.below hb, HI4.out.2.2.trans (hb.mono HI4.out.2.2.size)⟩
          clear hb HI4 c00 c01 c02 c10 c11 c12
          obtain ⟨⟨c00, c01, c02⟩, -⟩ := HI5.out.1.cells
          obtain ⟨⟨c10, c11, c12⟩, -⟩ := HI5.out.2.1.cells
          show _
          go_wp2_with fail
          go_ret
          exact ⟨rfl, HI5.out.2.2⟩
        · have eE : ((E : Int) == 0) = false := by rw [beq_eq_false_iff_ne]; omega
          have eN : ((E : Int) != 0) = true := by rw [bne_iff_ne]; omega
          obtain ⟨hm1, rfl⟩ := hm
          have m2i : (m0 == 2) = false := by rw [hm1]; rfl
          have m1i : (m0 == 1) = true := by rw [hm1]; rfl
          clear hm1
          clear e0
          show _
          go_wp2_with fail
          go_ret
          exact ⟨rfl, HI4.out.2.2⟩
        · have eE : ((E : Int) == 0) = false := by rw [beq_eq_false_iff_ne]; omega
          have eN : ((E : Int) != 0) = true := by rw [bne_iff_ne]; omega
          have m2i : (m0 == 2) = false := beq_eq_false_iff_ne.2 hm.1
          have m1i : (m0 == 1) = false := beq_eq_false_iff_ne.2 hm.2
          clear e0 hm
          show _
          go_wp2_with fail
          go_ret
          exact ⟨rfl, HI4.out.2.2⟩
    · refine Calls.mono (msound_any m0 u0 b0 _) ?_
      rw [s0]
      rintro e v4 ⟨rfl, hb⟩
      have HI4 : Hid (LockB v4 (W.heap.size) (m0) (u0) (b0) ∧ LockB v4 (g2) (nx) (ny) (nz) ∧ Below W.heap.size W v4) := ⟨HI3.out.1.below hb, HI3.out.2.1.below hb, HI3.out.2.2.trans (hb.mono HI3.out.2.2.size)⟩
      clear hb HI3 c00 c01 c02 c10 c11 c12
      obtain ⟨⟨c00, c01, c02⟩, -⟩ := HI4.out.1.cells
      obtain ⟨⟨c10, c11, c12⟩, -⟩ := HI4.out.2.1.cells
      show _
      go_wp2_with fail
      refine Calls.mono (awake_true _) ?_
      rintro e v5 ⟨rfl, hb⟩
      have HI5 : Hid (LockB v5 (W.heap.size) (m0) (u0) (b0) ∧ LockB v5 (g2) (nx) (ny) (nz) ∧ Below W.heap.size W v5) := ⟨HI4.out.1.below hb, HI4.out.2.1.below hb, HI4.out.2.2.trans (hb.mono HI4.out.2.2.size)⟩
      clear hb HI4 c00 c01 c02 c10 c11 c12
      obtain ⟨⟨c00, c01, c02⟩, -⟩ := HI5.out.1.cells
      obtain ⟨⟨c10, c11, c12⟩, -⟩ := HI5.out.2.1.cells
      show _
      go_wp2_with fail
      go_ret
      exact ⟨rfl, HI5.out.2.2⟩
set_option maxRecDepth 100000 in
theorem contract (H : Type) (enc : TypeId × Value → H) (W : World) (base : Nat) (args : Array Value) (ds gs : List (DataW H)) (before : List MemPlace)
    (hval : ∀ (j : Nat) t v, Try.f6.params[j]? = some t → args[j]? = some v → Value.okWide Try.prog W .any base t v)
    (hW : DataW.Whole enc Try.prog Try.f6.params.toList Rows.modeStaysSpec.vars false W args.toList ds gs before)
    (hsz : (DataW.weightsEach Try.prog (Try.f6.params.toList ++ Rows.modeStaysSpec.plain.varTypes Try.prog) (ds ++ gs)).all (· ≤ reachBytes) = true) :
    Calls Try.prog 6 args W fun e W' => ∃ v, e = .returned v ∧ Rows.modeStaysSpec.post enc Try.prog Try.f6 false true false false W args v W' := by
  have hW' := hW
  obtain ⟨p, q, hA0, hV, rfl, hfz, hnd⟩ := hW
  have hA : DataW.TrodAll enc Try.prog W 0 (fun _ => true) true Try.f6.params.toList args.toList ds p := hA0
  rw [Try.params6] at hA hval hsz
  obtain ⟨v0, vs0, d0, ds0, p0, q0, hargs, rfl, rfl, h0, r0⟩ := trodAll_cons hA
  obtain ⟨v1, vs1, d1, ds1, p1, q1, rfl, rfl, rfl, h1, r1⟩ := trodAll_cons r0
  obtain ⟨v2, vs2, d2, ds2, p2, q2, rfl, rfl, rfl, h2, r2⟩ := trodAll_cons r1
  obtain ⟨v3, vs3, d3, ds3, p3, q3, rfl, rfl, rfl, h3, r3⟩ := trodAll_cons r2
  obtain ⟨v4, vs4, d4, ds4, p4, q4, rfl, rfl, rfl, h4, r4⟩ := trodAll_cons r3
  obtain ⟨rfl, rfl, rfl⟩ := trodAll_nil r4
  obtain rfl : args = #[v0, v1, v2, v3, v4] := by cases args; simp_all
  obtain ⟨rfl, rfl⟩ := trodVars_none hV
  have k0 := h0
  have lt0 : ∀ x ∈ p0, x.block < W.heap.size := by obtain ⟨m, hm⟩ := k0; exact DataW.trod_lt m _ _ _ hm
  obtain ⟨m0, u0, b0, rfl, w0, x0⟩ := lock_open (hval 0 23 v0 rfl rfl) h0
  obtain ⟨a1, rfl, rfl, rfl, w1⟩ := open_int Try.underlying3 (hval 1 3 v1 rfl rfl) h1
  obtain ⟨a2, rfl, rfl, rfl, w2⟩ := open_int Try.underlying2 (hval 2 2 v2 rfl rfl) h2
  obtain ⟨a3, rfl, rfl, rfl, w3⟩ := open_int Try.underlying2 (hval 3 2 v3 rfl rfl) h3
  obtain ⟨a4, rfl, rfl, rfl⟩ := open_bool Try.underlying4 (hval 4 4 v4 rfl rfl) h4
  clear hA0 hsz
  refine (walk W m0 u0 b0 w0 x0 a1 w1 a2 w2 a3 w3 a4).mono fun e W' ⟨he, bel⟩ => ?_
  subst he
  exact ⟨_, rfl, _, _, _, [], _, [], hW', trodAll_mk1 (shut_bool Try.underlying4 _), (trodAll_cons_mk (Below.trod laidOut (by kernel_rfl) (of_decide_eq_true (by kernel_rfl)) k0 bel lt0) (trodAll_cons_mk (shut_int Try.underlying3 w1) (trodAll_cons_mk (shut_int Try.underlying2 w2) (trodAll_cons_mk (shut_int Try.underlying2 w3) (trodAll_cons_mk (shut_bool Try.underlying4 _) trodAll_mk0))))), rfl, bel.frame _, fun h => by cases h⟩
set_option maxRecDepth 100000 in
theorem lifted (os : Os) (started : os.Started) (H : Type) (enc : TypeId × Value → H) :
    ReturnsInHanded {} Try.checked os 6 .any (Rows.modeStaysSpec.pre6 enc Try.prog Try.f6 Rows.modeStaysRow.domain false) (Rows.modeStaysSpec.post enc Try.prog Try.f6 false true false false) := by
  refine returnsInHanded_of_change_sized (C := Try.checked) own started (by kernel_rfl) Try.func6
    (ChangeSpec.witness6 (enc := enc) (C := Try.checked) false ⟨#[], #[.agg #[.int .i64 0, .int .i64 0, .bool false], .int .i64 0, .int .i64 0, .int .i64 0, .bool false], []⟩ 8 (by kernel_rfl) (by kernel_rfl) (by kernel_rfl) (by kernel_rfl)) ?_
  intro W base args ds gs before hval hW _ hsz _
  exact contract H enc W base args ds gs before hval hW hsz
theorem over : Rows.modeStaysRow.holds Try.pinned (OpenSpec.ofChange Rows.modeStaysSpec) :=
  OpenClaim.holds_of_wide 6 Try.f6 rfl rfl rfl rfl rfl rfl rfl ⟨rfl, rfl, rfl, rfl, rfl⟩ rfl rfl rfl rfl rfl (by kernel_rfl) Try.func6 (by kernel_rfl)
    (of_decide_eq_true (by kernel_rfl)) (by unfold Func.isWrapper; first | (rw [if_pos (by decide +kernel)]; kernel_rfl) | (rw [if_neg (by decide +kernel)]; exact ⟨rfl, rfl⟩))
    (fun os started H enc _ => lifted os started H enc)
theorem proved : Rows.ModeStaysSaid := over
end Go.Proofs.Ytoaegepphkocoaa.modeStays
