/-
  It does not matter where a text is cut: for any bytes and any place, where the table of factors is as its text lays it; the input reads as it did.
-/
import Derived.Test.YtmaaakcfbekboaaDoorCards
import Derived.Test.YtmaaakcfbekboaaDoorTie
import Derived.Test.YtmaaakcfbekboaaDoorArgs
import Derived.Test.YtmaaakcfbekboaaDoorShaLaid
import Derived.Test.YtmaaakcfbekboaaDoorShaFlat
import Derived.Test.YtmaaakcfbekboaaDoorShaCut
namespace Go.Proofs.YtmaaakcfbekboaaDoor.shaCuts
open Go.ChangeShapes Go.WideShapes Go.ChangeAt Go.RowKit
set_option linter.unusedVariables false
set_option linter.unusedSimpArgs false
theorem yield_slice {P : Program} {o : Oper} {a : Act} (t : TypeId) (x : Operand) (lo hi mx : Option Operand) (ho : o.op = .slice t x lo hi mx) (v : Value) (w : World) (hr : (Instr.sliceAt t (a.eval x) (lo.map a.eval) (hi.map a.eval) (mx.map a.eval)).run P w = .ok v w) :
    (execOp a.eval o).run P w = .ok (.value v) w := by
  unfold execOp
  simp only [ho, Sem.run_bind, hr, Result.andThen_ok, Sem.run_pure]
theorem slice_upto (a : Option Addr) (len cap k : Nat) (hk : k ≤ cap) (W : World) : (Instr.sliceAt 28 (.slice a len cap) none (some (.int .i64 (k : Nat))) none).run Tryd.prog W = .ok (.slice a k cap) W := by
  have he : Tryd.prog.elem 28 = 5 := by kernel_rfl
  have hu : Tryd.prog.underlying 28 = some (.slice (Tryd.prog.elem 28)) := by rw [he]; exact Tryd.underlying28
  have hs : ∀ w, (sizeOf 5).run Tryd.prog w = .ok 1 w := fun w => by kernel_rfl
  rw [run_sliceAt_slice W _ _ _ _ _ hu, run_slice_h W _ a len cap hu .i64 (k : Nat) (by omega) (by omega), he, hs]
  cases a <;> simp [sliced, Addr.add]
theorem slice_from (w : World) (a : Option Addr) (len cap k : Nat) (xs : List Nat) (h : ArgL w a len cap xs) (hk : k ≤ len) :
    ∃ a2, (∀ W, (Instr.sliceAt 28 (.slice a len cap) (some (.int .i64 (k : Nat))) none none).run Tryd.prog W = .ok (.slice a2 (len - k) (cap - k)) W) ∧ RowL .u8 w a2 (len - k) (xs.drop k) ∧ (a2 = none → len - k = 0 ∧ cap - k = 0) := by
  obtain ⟨h1, h2, h3, h4, h5⟩ := h
  have he : Tryd.prog.elem 28 = 5 := by kernel_rfl
  have hu : Tryd.prog.underlying 28 = some (.slice (Tryd.prog.elem 28)) := by rw [he]; exact Tryd.underlying28
  have hs : ∀ w, (sizeOf 5).run Tryd.prog w = .ok 1 w := fun w => by kernel_rfl
  refine ⟨if cap = k then a else a.map (·.add k), fun W => ?_, ⟨by rw [List.length_drop, h1.1], ?_⟩, ?_⟩
  · rw [run_sliceAt_slice W _ _ _ _ _ hu, run_slice_l W _ a len cap hu .i64 (k : Nat) (by omega) (by omega), he, hs]
    simp [sliced]
  · by_cases h0 : len - k = 0
    · exact .inl h0
    · obtain ⟨b, off, rfl, hlt, hc⟩ := RowL.at h1 0 (by omega)
      rw [if_neg (by omega)]
      refine .inr ⟨b, off + k, by simp [Addr.add_mid], hlt, fun i hi => ?_⟩
      rw [Nat.add_assoc, hc (k + i) (by omega), getD_drop]
  · intro hn
    by_cases hck : cap = k
    · rw [if_pos hck] at hn
      have := h3 hn
      omega
    · rw [if_neg hck] at hn
      cases a with
      | none => have := h3 rfl; omega
      | some x => cases hn
theorem row_take {w : World} {a : Option Addr} {len : Nat} {xs : List Nat} (h : RowL .u8 w a len xs) (k : Nat) (hk : k ≤ len) : RowL .u8 w a k (xs.take k) := by
  refine ⟨by rw [List.length_take, h.1]; omega, ?_⟩
  by_cases h0 : k = 0
  · exact .inl h0
  · obtain ⟨b, off, rfl, hlt, hc⟩ := RowL.at h 0 (by omega)
    refine .inr ⟨b, off, rfl, hlt, fun i hi => ?_⟩
    rw [hc i (by omega), getD_take xs k i hi]
theorem parts4 (w : World) (a a' : Option Addr) (l c l' c' g : Nat) (xs ys : List Nat) (h : RowL .u8 w a l xs) (hn : a = none → l = 0 ∧ c = 0) (h' : RowL .u8 w a' l' ys) (hn' : a' = none → l' = 0 ∧ c' = 0) :
    PartsL (w.alloc (.cells #[.slice a l c, .slice none 0 0, .slice a' l' c', .slice (some ⟨g, 0, none⟩) 0 0] 28)) (some ⟨w.heap.size, 0, none⟩) 4 [xs, [], ys, []] := by
  have hb := below_new w (.cells #[.slice a l c, .slice none 0 0, .slice a' l' c', .slice (some ⟨g, 0, none⟩) 0 0] 28)
  refine ⟨rfl, .inr ⟨w.heap.size, 0, rfl, by simp, fun i hi => ?_⟩⟩
  obtain rfl | rfl | rfl | rfl : i = 0 ∨ i = 1 ∨ i = 2 ∨ i = 3 := by omega
  · exact ⟨a, l, c, by simp [go_sem], h.below hb, hn⟩
  · exact ⟨none, 0, 0, by simp [go_sem], ⟨rfl, .inl rfl⟩, fun _ => ⟨rfl, rfl⟩⟩
  · exact ⟨a', l', c', by simp [go_sem], h'.below hb, hn'⟩
  · exact ⟨some ⟨g, 0, none⟩, 0, 0, by simp [go_sem], ⟨rfl, .inl rfl⟩, fun h => by cases h⟩
set_option maxRecDepth 100000 in
set_option maxHeartbeats 64000000 in
theorem walk (w : World) (hT : Tab w) (a : Option Addr) (len cap : Nat) (xs : List Nat) (hA : ArgL w a len cap xs) (ra : cap ≤ 140737488351232) (q : Int) (hq : (Lit.int .u16 q).wf = true) :
    Calls Tryd.prog 6 #[.slice a len cap, .int .u16 q] w fun e w' => e = .returned (.bool true) ∧ Below w.heap.size w w' := by
  have hqb := bounds_u16 hq
  have hA0 : Hid (ArgL w a len cap xs) := hA
  have hlc : len ≤ cap := hA.2.2.2.1
  have hxl : Hid (xs.length = len) := hA.1.1
  have HT : Hid (Tab w) := hT
  clear hA hT hq
  go_enter Tryd.func6, Tryd.ntmps6
  go_upto_if 8 with fail
  go_cut [5] (fun s5 wx => wx = w ∧ ∃ k : Nat, k ≤ len ∧ s5 = .int .i64 (k : Nat))
  case first =>
    by_cases h0 : len = 0
    · subst h0
      go_wp2_with fail
      go_meet
      exact ⟨rfl, 0, Nat.le_refl _, rfl⟩
    · have h1 : (0 : Int) < (len : Int) := by omega
      obtain ⟨k, hk⟩ : ∃ k : Nat, q % (len : Int) = (k : Int) := ⟨(q % (len : Int)).toNat, (Int.toNat_of_nonneg (Int.emod_nonneg _ (by omega))).symm⟩
      have hkl : k ≤ len := by
        have := Int.emod_lt_of_pos q h1
        omega
      have hkt : Int.tmod q (len : Int) = (k : Int) := by rw [Int.tmod_eq_emod_of_nonneg hqb.1]; exact hk
      go_wp2_with fail
      go_meet
      exact ⟨rfl, k, hkl, by first | rfl | (rw [hkt]) | (rw [hk])⟩
  case rest =>
  obtain ⟨rfl, k, hkl, rfl⟩ := hcut
  obtain ⟨hA1, hA2, hA3, hA4, -⟩ := hA0.out
  obtain ⟨a2, hsf, hR2, hN2⟩ := slice_from _ a len cap k xs hA0.out hkl
  obtain ⟨lr, hlr⟩ : ∃ lr, lr = len - k := ⟨_, rfl⟩
  obtain ⟨cr, hcr⟩ : ∃ cr, cr = cap - k := ⟨_, rfl⟩
  obtain ⟨X1, hX1⟩ : ∃ X1, X1 = xs.take k := ⟨_, rfl⟩
  obtain ⟨X2, hX2⟩ : ∃ X2, X2 = xs.drop k := ⟨_, rfl⟩
  rw [← hlr, ← hcr] at hsf hN2
  rw [← hlr, ← hX2] at hR2
  have hR1 := row_take hA1 k hkl
  rw [← hX1] at hR1
  have HSU : Hid (∀ W, (Instr.sliceAt 28 (.slice a len cap) none (some (.int .i64 (k : Nat))) none).run Tryd.prog W = .ok (.slice a k cap) W) := slice_upto a len cap k (by omega)
  have HSF : Hid (∀ W, (Instr.sliceAt 28 (.slice a len cap) (some (.int .i64 (k : Nat))) none none).run Tryd.prog W = .ok (.slice a2 lr cr) W) := hsf
  have hN1 : a = none → k = 0 ∧ cap = 0 := fun h => by have := hA3 h; omega
  have H1 : Hid (RowL .u8 wc a k X1 ∧ (a = none → k = 0 ∧ cap = 0)) := ⟨hR1, hN1⟩
  have H2 : Hid (RowL .u8 wc a2 lr X2 ∧ (a2 = none → lr = 0 ∧ cr = 0)) := ⟨hR2, hN2⟩
  have HW : Hid (RowL .u8 wc a len xs ∧ (a = none → len = 0 ∧ cap = 0)) := ⟨hA1, hA3⟩
  have b1 : ∀ j, X1.getD j 0 < 256 := fun j => by
    rw [hX1]
    by_cases hj : j < k
    · rw [← getD_take xs k j hj]; exact hA2 j
    · rw [List.getD_eq_getElem?_getD, List.getElem?_eq_none (by rw [List.length_take]; omega)]; decide
  have b2 : ∀ j, X2.getD j 0 < 256 := fun j => by rw [hX2, getD_drop]; exact hA2 _
  have l1 : X1.length ≤ 140737488351232 := by rw [hR1.1]; omega
  have l2 : X2.length ≤ 140737488351232 := by rw [hR2.1]; omega
  have l0 : xs.length ≤ 140737488351232 := by rw [hA1.1]; omega
  have hjoin : X1 ++ X2 = xs := by rw [hX1, hX2]; exact List.take_append_drop _ _
  obtain ⟨D, hD⟩ : ∃ D, D = shaN xs := ⟨_, rfl⟩
  have HEQ : Hid _ := same_digest D (by rw [hD]; exact shaN_length _)
  have HS1 : Hid (∀ w1 g, Below wc.heap.size wc w1 → PartsL w1 (some ⟨g, 0, none⟩) 1 [xs] → Calls Tryd.prog 8 #[.slice (some ⟨g, 0, none⟩) 1 1] w1 fun e w' => e = .returned (.agg (encL .u8 D)) ∧ Below w1.heap.size w1 w') := fun w1 g h1 hp => by
    have := ssum_any _ _ 1 1 [xs] hp (HT.out.below h1 HT.out.1) (by intro ys hx; simp at hx; rw [hx]; exact hA2) (by intro ys hx; simp at hx; rw [hx]; omega) (by decide) (by simp; omega)
    rw [show [xs].flatten = xs by simp, ← hD] at this
    exact this
  have HS2 : Hid (∀ w1 g, Below wc.heap.size wc w1 → PartsL w1 (some ⟨g, 0, none⟩) 2 [X1, X2] → Calls Tryd.prog 8 #[.slice (some ⟨g, 0, none⟩) 2 2] w1 fun e w' => e = .returned (.agg (encL .u8 D)) ∧ Below w1.heap.size w1 w') := fun w1 g h1 hp => by
    have := ssum_any _ _ 2 2 [X1, X2] hp (HT.out.below h1 HT.out.1) (by intro ys hx; simp at hx; rcases hx with rfl | rfl <;> assumption) (by intro ys hx; simp at hx; rcases hx with rfl | rfl <;> omega) (by decide) (by simp; omega)
    rw [show [X1, X2].flatten = X1 ++ X2 by simp, hjoin, ← hD] at this
    exact this
  have HS4 : Hid (∀ w1 g, Below wc.heap.size wc w1 → PartsL w1 (some ⟨g, 0, none⟩) 4 [X1, [], X2, []] → Calls Tryd.prog 8 #[.slice (some ⟨g, 0, none⟩) 4 4] w1 fun e w' => e = .returned (.agg (encL .u8 D)) ∧ Below w1.heap.size w1 w') := fun w1 g h1 hp => by
    have := ssum_any _ _ 4 4 [X1, [], X2, []] hp (HT.out.below h1 HT.out.1) (by intro ys hx; simp at hx; rcases hx with rfl | rfl | rfl | rfl <;> first | assumption | (intro j; simp)) (by intro ys hx; simp at hx; rcases hx with rfl | rfl | rfl | rfl <;> first | omega | simp) (by decide) (by simp; omega)
    rw [show [X1, [], X2, []].flatten = X1 ++ X2 by simp, hjoin, ← hD] at this
    exact this
  clear hA1 hA2 hA3 hA4 hsf hR2 hN2 hlr hcr hX1 hX2 hR1 hN1 b1 b2 l1 l2 l0 hjoin hD hA0 hxl hkl hlc ra
  go_wp2_with fail
  refine wp_region_held_drew (S := fun w' => Below wc.heap.size wc w') (by kernel_rfl) (Below.refl _ _).drew (fun hHeld => ?_)
  refine held_one (i := 0) (by kernel_rfl) rfl rfl (fun K hK => ?_)
  go_simp
  refine Calls.mono (awake_true _ (HT.out.below hHeld HT.out.1)) ?_
  rintro e v1 ⟨rfl, hb1⟩
  dsimp only
  have hH1 : Below wc.heap.size wc v1 := hHeld.trans (hb1.mono hHeld.size)
  refine hK.out _ _ hH1 ?_
  clear hK K hb1
  try simp only [Act.put, List.setIfInBounds_toArray, List.set_cons_zero, List.set_cons_succ]
  refine held_take 1 (some 15) (.bool true) rfl rfl (by kernel_rfl) (by kernel_rfl) (by kernel_rfl) (fun _ _ _ h => h) rfl (fun w' hS => ?_) hH1 ?_
  · clear hS; go_simp
  try simp only [Act.put, List.setIfInBounds_toArray, List.set_cons_zero, List.set_cons_succ]
  refine held_take 2 (some 16) (.slice a len cap) rfl rfl (by kernel_rfl) (by kernel_rfl) (by kernel_rfl) (fun _ _ _ h => h) rfl (fun w' hS => ?_) hH1 ?_
  · clear hS; go_simp
  try simp only [Act.put, List.setIfInBounds_toArray, List.set_cons_zero, List.set_cons_succ]
  refine held_take 3 (some 17) (.int .i64 k) rfl rfl (by kernel_rfl) (by kernel_rfl) (by kernel_rfl) (fun _ _ _ h => h) rfl (fun w' hS => ?_) hH1 ?_
  · clear hS; go_simp
  try simp only [Act.put, List.setIfInBounds_toArray, List.set_cons_zero, List.set_cons_succ]
  refine held_take 4 (some 18) (.slice a k cap) rfl rfl (by kernel_rfl) (by kernel_rfl) (by kernel_rfl) (fun _ _ _ h => h) rfl (fun w' hS => ?_) hH1 ?_
  · exact yield_slice 28 (.tmp 16) none (some (.tmp 17)) none rfl _ _ (HSU.out _)
  try simp only [Act.put, List.setIfInBounds_toArray, List.set_cons_zero, List.set_cons_succ]
  refine held_take 5 (some 19) (.slice a len cap) rfl rfl (by kernel_rfl) (by kernel_rfl) (by kernel_rfl) (fun _ _ _ h => h) rfl (fun w' hS => ?_) hH1 ?_
  · clear hS; go_simp
  try simp only [Act.put, List.setIfInBounds_toArray, List.set_cons_zero, List.set_cons_succ]
  refine held_take 6 (some 20) (.int .i64 k) rfl rfl (by kernel_rfl) (by kernel_rfl) (by kernel_rfl) (fun _ _ _ h => h) rfl (fun w' hS => ?_) hH1 ?_
  · clear hS; go_simp
  try simp only [Act.put, List.setIfInBounds_toArray, List.set_cons_zero, List.set_cons_succ]
  refine held_take 7 (some 21) (.slice a2 lr cr) rfl rfl (by kernel_rfl) (by kernel_rfl) (by kernel_rfl) (fun _ _ _ h => h) rfl (fun w' hS => ?_) hH1 ?_
  · exact yield_slice 28 (.tmp 19) (some (.tmp 20)) none none rfl _ _ (HSF.out _)
  try simp only [Act.put, List.setIfInBounds_toArray, List.set_cons_zero, List.set_cons_succ]
  refine held_take 10 (some 24) (.slice a len cap) rfl rfl (by kernel_rfl) (by kernel_rfl) (by kernel_rfl) (fun _ _ _ h => h) rfl (fun w' hS => ?_) hH1 ?_
  · clear hS; go_simp
  try simp only [Act.put, List.setIfInBounds_toArray, List.set_cons_zero, List.set_cons_succ]
  refine held_two (i := 8) (j := 11) (by kernel_rfl) rfl rfl rfl rfl (fun K hK => ?_) (fun K hK => ?_)
  · go_simp
    have bb2 := below_new v1 (.cells #[.slice a k cap, .slice a2 lr cr] 28)
    have hH2 : Below wc.heap.size wc (World.alloc v1 (.cells #[.slice a k cap, .slice a2 lr cr] 28)) := hH1.trans (bb2.mono hH1.size)
    have q2 := parts2 v1 a a2 k cap lr cr X1 X2 (H1.out.1.below hH1) H1.out.2 (H2.out.1.below hH1) H2.out.2
    refine hK.out _ _ hH2 ?_
    clear hK K bb2
    try simp only [Act.put, List.setIfInBounds_toArray, List.set_cons_zero, List.set_cons_succ]
    generalize World.alloc v1 (.cells #[.slice a k cap, .slice a2 lr cr] 28) = v2 at *
    generalize (World.heap v1).size = g2 at *
    refine held_two (i := 9) (j := 11) (by kernel_rfl) rfl rfl rfl rfl (fun K hK => ?_) (fun K hK => ?_)
    · go_simp
      refine Calls.mono (HS2.out _ g2 hH2 q2) ?_
      rintro e v3 ⟨rfl, hb3⟩
      dsimp only
      have hH3 : Below wc.heap.size wc v3 := hH2.trans (hb3.mono hH2.size)
      have p3A := PartsL.below q2 hb3
      refine hK.out _ _ hH3 ?_
      clear hK K hb3
      try simp only [Act.put, List.setIfInBounds_toArray, List.set_cons_zero, List.set_cons_succ]
      refine held_one (i := 11) (by kernel_rfl) rfl rfl (fun K hK => ?_)
      go_simp
      have bb4 := below_new v3 (.cells #[.slice a len cap] 28)
      have hH4 : Below wc.heap.size wc (World.alloc v3 (.cells #[.slice a len cap] 28)) := hH3.trans (bb4.mono hH3.size)
      have q4 := parts1 v3 a len cap xs (HW.out.1.below hH3) HW.out.2
      refine hK.out _ _ hH4 ?_
      clear hK K bb4
      try simp only [Act.put, List.setIfInBounds_toArray, List.set_cons_zero, List.set_cons_succ]
      generalize World.alloc v3 (.cells #[.slice a len cap] 28) = v4 at *
      generalize (World.heap v3).size = g4 at *
      refine held_one (i := 12) (by kernel_rfl) rfl rfl (fun K hK => ?_)
      go_simp
      refine Calls.mono (HS1.out _ g4 hH4 q4) ?_
      rintro e v5 ⟨rfl, hb5⟩
      dsimp only
      have hH5 : Below wc.heap.size wc v5 := hH4.trans (hb5.mono hH4.size)
      have p5B := PartsL.below q4 hb5
      refine hK.out _ _ hH5 ?_
      clear hK K hb5
      try simp only [Act.put, List.setIfInBounds_toArray, List.set_cons_zero, List.set_cons_succ]
      refine held_take 13 (some 27) (.bool true) rfl rfl (by kernel_rfl) (by kernel_rfl) (by kernel_rfl) (fun _ _ _ h => h) rfl (fun w' hS => ?_) hH5 ?_
      · clear hS; have heq := HEQ.out; go_simp
      try simp only [Act.put, List.setIfInBounds_toArray, List.set_cons_zero, List.set_cons_succ]
      refine held_take 14 (some 28) (.bool true) rfl rfl (by kernel_rfl) (by kernel_rfl) (by kernel_rfl) (fun _ _ _ h => h) rfl (fun w' hS => ?_) hH5 ?_
      · clear hS; go_simp
      try simp only [Act.put, List.setIfInBounds_toArray, List.set_cons_zero, List.set_cons_succ]
      refine held_take 15 (some 29) (.bool true) rfl rfl (by kernel_rfl) (by kernel_rfl) (by kernel_rfl) (fun _ _ _ h => h) rfl (fun w' hS => ?_) hH5 ?_
      · clear hS; go_simp
      try simp only [Act.put, List.setIfInBounds_toArray, List.set_cons_zero, List.set_cons_succ]
      refine held_take 16 (some 30) (.slice a len cap) rfl rfl (by kernel_rfl) (by kernel_rfl) (by kernel_rfl) (fun _ _ _ h => h) rfl (fun w' hS => ?_) hH5 ?_
      · clear hS; go_simp
      try simp only [Act.put, List.setIfInBounds_toArray, List.set_cons_zero, List.set_cons_succ]
      refine held_take 17 (some 31) (.int .i64 k) rfl rfl (by kernel_rfl) (by kernel_rfl) (by kernel_rfl) (fun _ _ _ h => h) rfl (fun w' hS => ?_) hH5 ?_
      · clear hS; go_simp
      try simp only [Act.put, List.setIfInBounds_toArray, List.set_cons_zero, List.set_cons_succ]
      refine held_take 18 (some 32) (.slice a k cap) rfl rfl (by kernel_rfl) (by kernel_rfl) (by kernel_rfl) (fun _ _ _ h => h) rfl (fun w' hS => ?_) hH5 ?_
      · exact yield_slice 28 (.tmp 30) none (some (.tmp 31)) none rfl _ _ (HSU.out _)
      try simp only [Act.put, List.setIfInBounds_toArray, List.set_cons_zero, List.set_cons_succ]
      refine held_take 19 (some 33) (.slice a len cap) rfl rfl (by kernel_rfl) (by kernel_rfl) (by kernel_rfl) (fun _ _ _ h => h) rfl (fun w' hS => ?_) hH5 ?_
      · clear hS; go_simp
      try simp only [Act.put, List.setIfInBounds_toArray, List.set_cons_zero, List.set_cons_succ]
      refine held_take 20 (some 34) (.int .i64 k) rfl rfl (by kernel_rfl) (by kernel_rfl) (by kernel_rfl) (fun _ _ _ h => h) rfl (fun w' hS => ?_) hH5 ?_
      · clear hS; go_simp
      try simp only [Act.put, List.setIfInBounds_toArray, List.set_cons_zero, List.set_cons_succ]
      refine held_take 21 (some 35) (.slice a2 lr cr) rfl rfl (by kernel_rfl) (by kernel_rfl) (by kernel_rfl) (fun _ _ _ h => h) rfl (fun w' hS => ?_) hH5 ?_
      · exact yield_slice 28 (.tmp 33) (some (.tmp 34)) none none rfl _ _ (HSF.out _)
      try simp only [Act.put, List.setIfInBounds_toArray, List.set_cons_zero, List.set_cons_succ]
      refine held_take 25 (some 39) (.slice a len cap) rfl rfl (by kernel_rfl) (by kernel_rfl) (by kernel_rfl) (fun _ _ _ h => h) rfl (fun w' hS => ?_) hH5 ?_
      · clear hS; go_simp
      try simp only [Act.put, List.setIfInBounds_toArray, List.set_cons_zero, List.set_cons_succ]
      refine held_two (i := 22) (j := 26) (by kernel_rfl) rfl rfl rfl rfl (fun K hK => ?_) (fun K hK => ?_)
      · go_simp
        have bb6 := below_new v5 (.cells #[] 5)
        have hH6 : Below wc.heap.size wc (World.alloc v5 (.cells #[] 5)) := hH5.trans (bb6.mono hH5.size)
        refine hK.out _ _ hH6 ?_
        clear hK K bb6
        try simp only [Act.put, List.setIfInBounds_toArray, List.set_cons_zero, List.set_cons_succ]
        generalize World.alloc v5 (.cells #[] 5) = v6 at *
        generalize (World.heap v5).size = g6 at *
        refine held_two (i := 23) (j := 26) (by kernel_rfl) rfl rfl rfl rfl (fun K hK => ?_) (fun K hK => ?_)
        · go_simp
          have bb7 := below_new v6 (.cells #[.slice a k cap, .slice none 0 0, .slice a2 lr cr, .slice (some ⟨g6, 0, none⟩) 0 0] 28)
          have hH7 : Below wc.heap.size wc (World.alloc v6 (.cells #[.slice a k cap, .slice none 0 0, .slice a2 lr cr, .slice (some ⟨g6, 0, none⟩) 0 0] 28)) := hH6.trans (bb7.mono hH6.size)
          have q7 := parts4 v6 a a2 k cap lr cr g6 X1 X2 (H1.out.1.below hH6) H1.out.2 (H2.out.1.below hH6) H2.out.2
          refine hK.out _ _ hH7 ?_
          clear hK K bb7
          try simp only [Act.put, List.setIfInBounds_toArray, List.set_cons_zero, List.set_cons_succ]
          generalize World.alloc v6 (.cells #[.slice a k cap, .slice none 0 0, .slice a2 lr cr, .slice (some ⟨g6, 0, none⟩) 0 0] 28) = v7 at *
          generalize (World.heap v6).size = g7 at *
          refine held_two (i := 24) (j := 26) (by kernel_rfl) rfl rfl rfl rfl (fun K hK => ?_) (fun K hK => ?_)
          · go_simp
            refine Calls.mono (HS4.out _ g7 hH7 q7) ?_
            rintro e v8 ⟨rfl, hb8⟩
            dsimp only
            have hH8 : Below wc.heap.size wc v8 := hH7.trans (hb8.mono hH7.size)
            have p8A := PartsL.below q7 hb8
            refine hK.out _ _ hH8 ?_
            clear hK K hb8
            try simp only [Act.put, List.setIfInBounds_toArray, List.set_cons_zero, List.set_cons_succ]
            refine held_one (i := 26) (by kernel_rfl) rfl rfl (fun K hK => ?_)
            go_simp
            have bb9 := below_new v8 (.cells #[.slice a len cap] 28)
            have hH9 : Below wc.heap.size wc (World.alloc v8 (.cells #[.slice a len cap] 28)) := hH8.trans (bb9.mono hH8.size)
            have q9 := parts1 v8 a len cap xs (HW.out.1.below hH8) HW.out.2
            refine hK.out _ _ hH9 ?_
            clear hK K bb9
            try simp only [Act.put, List.setIfInBounds_toArray, List.set_cons_zero, List.set_cons_succ]
            generalize World.alloc v8 (.cells #[.slice a len cap] 28) = v9 at *
            generalize (World.heap v8).size = g9 at *
            refine held_one (i := 27) (by kernel_rfl) rfl rfl (fun K hK => ?_)
            go_simp
            refine Calls.mono (HS1.out _ g9 hH9 q9) ?_
            rintro e v10 ⟨rfl, hb10⟩
            dsimp only
            have hH10 : Below wc.heap.size wc v10 := hH9.trans (hb10.mono hH9.size)
            have p10B := PartsL.below q9 hb10
            refine hK.out _ _ hH10 ?_
            clear hK K hb10
            try simp only [Act.put, List.setIfInBounds_toArray, List.set_cons_zero, List.set_cons_succ]
            refine held_take 28 (some 42) (.bool true) rfl rfl (by kernel_rfl) (by kernel_rfl) (by kernel_rfl) (fun _ _ _ h => h) rfl (fun w' hS => ?_) hH10 ?_
            · clear hS; have heq := HEQ.out; go_simp
            try simp only [Act.put, List.setIfInBounds_toArray, List.set_cons_zero, List.set_cons_succ]
            refine held_take 29 (some 43) (.bool true) rfl rfl (by kernel_rfl) (by kernel_rfl) (by kernel_rfl) (fun _ _ _ h => h) rfl (fun w' hS => ?_) hH10 ?_
            · clear hS; go_simp
            try simp only [Act.put, List.setIfInBounds_toArray, List.set_cons_zero, List.set_cons_succ]
            refine held_take 30 (some 4) (.bool true) rfl rfl (by kernel_rfl) (by kernel_rfl) (by kernel_rfl) (fun _ _ _ h => h) rfl (fun w' hS => ?_) hH10 ?_
            · clear hS; go_simp
            try simp only [Act.put, List.setIfInBounds_toArray, List.set_cons_zero, List.set_cons_succ]
            refine wpAnyH_done (by kernel_rfl) ?_ _
            have hfin := hH10
            go_wp2_with fail
            go_ret
            exact ⟨rfl, hfin⟩
          · go_simp
            have bb11 := below_new v7 (.cells #[.slice a len cap] 28)
            have hH11 : Below wc.heap.size wc (World.alloc v7 (.cells #[.slice a len cap] 28)) := hH7.trans (bb11.mono hH7.size)
            have p11A := PartsL.below q7 bb11
            have q11 := parts1 v7 a len cap xs (HW.out.1.below hH7) HW.out.2
            refine hK.out _ _ hH11 ?_
            clear hK K bb11
            try simp only [Act.put, List.setIfInBounds_toArray, List.set_cons_zero, List.set_cons_succ]
            generalize World.alloc v7 (.cells #[.slice a len cap] 28) = v11 at *
            generalize (World.heap v7).size = g11 at *
            refine held_one (i := 24) (by kernel_rfl) rfl rfl (fun K hK => ?_)
            go_simp
            refine Calls.mono (HS4.out _ g7 hH11 p11A) ?_
            rintro e v12 ⟨rfl, hb12⟩
            dsimp only
            have hH12 : Below wc.heap.size wc v12 := hH11.trans (hb12.mono hH11.size)
            have p12A := PartsL.below p11A hb12
            have p12B := PartsL.below q11 hb12
            refine hK.out _ _ hH12 ?_
            clear hK K hb12
            try simp only [Act.put, List.setIfInBounds_toArray, List.set_cons_zero, List.set_cons_succ]
            refine held_one (i := 27) (by kernel_rfl) rfl rfl (fun K hK => ?_)
            go_simp
            refine Calls.mono (HS1.out _ g11 hH12 p12B) ?_
            rintro e v13 ⟨rfl, hb13⟩
            dsimp only
            have hH13 : Below wc.heap.size wc v13 := hH12.trans (hb13.mono hH12.size)
            have p13B := PartsL.below p12B hb13
            refine hK.out _ _ hH13 ?_
            clear hK K hb13
            try simp only [Act.put, List.setIfInBounds_toArray, List.set_cons_zero, List.set_cons_succ]
            refine held_take 28 (some 42) (.bool true) rfl rfl (by kernel_rfl) (by kernel_rfl) (by kernel_rfl) (fun _ _ _ h => h) rfl (fun w' hS => ?_) hH13 ?_
            · clear hS; have heq := HEQ.out; go_simp
            try simp only [Act.put, List.setIfInBounds_toArray, List.set_cons_zero, List.set_cons_succ]
            refine held_take 29 (some 43) (.bool true) rfl rfl (by kernel_rfl) (by kernel_rfl) (by kernel_rfl) (fun _ _ _ h => h) rfl (fun w' hS => ?_) hH13 ?_
            · clear hS; go_simp
            try simp only [Act.put, List.setIfInBounds_toArray, List.set_cons_zero, List.set_cons_succ]
            refine held_take 30 (some 4) (.bool true) rfl rfl (by kernel_rfl) (by kernel_rfl) (by kernel_rfl) (fun _ _ _ h => h) rfl (fun w' hS => ?_) hH13 ?_
            · clear hS; go_simp
            try simp only [Act.put, List.setIfInBounds_toArray, List.set_cons_zero, List.set_cons_succ]
            refine wpAnyH_done (by kernel_rfl) ?_ _
            have hfin := hH13
            go_wp2_with fail
            go_ret
            exact ⟨rfl, hfin⟩
        · go_simp
          have bb14 := below_new v6 (.cells #[.slice a len cap] 28)
          have hH14 : Below wc.heap.size wc (World.alloc v6 (.cells #[.slice a len cap] 28)) := hH6.trans (bb14.mono hH6.size)
          have q14 := parts1 v6 a len cap xs (HW.out.1.below hH6) HW.out.2
          refine hK.out _ _ hH14 ?_
          clear hK K bb14
          try simp only [Act.put, List.setIfInBounds_toArray, List.set_cons_zero, List.set_cons_succ]
          generalize World.alloc v6 (.cells #[.slice a len cap] 28) = v14 at *
          generalize (World.heap v6).size = g14 at *
          refine held_one (i := 23) (by kernel_rfl) rfl rfl (fun K hK => ?_)
          go_simp
          have bb15 := below_new v14 (.cells #[.slice a k cap, .slice none 0 0, .slice a2 lr cr, .slice (some ⟨g6, 0, none⟩) 0 0] 28)
          have hH15 : Below wc.heap.size wc (World.alloc v14 (.cells #[.slice a k cap, .slice none 0 0, .slice a2 lr cr, .slice (some ⟨g6, 0, none⟩) 0 0] 28)) := hH14.trans (bb15.mono hH14.size)
          have p15B := PartsL.below q14 bb15
          have q15 := parts4 v14 a a2 k cap lr cr g6 X1 X2 (H1.out.1.below hH14) H1.out.2 (H2.out.1.below hH14) H2.out.2
          refine hK.out _ _ hH15 ?_
          clear hK K bb15
          try simp only [Act.put, List.setIfInBounds_toArray, List.set_cons_zero, List.set_cons_succ]
          generalize World.alloc v14 (.cells #[.slice a k cap, .slice none 0 0, .slice a2 lr cr, .slice (some ⟨g6, 0, none⟩) 0 0] 28) = v15 at *
          generalize (World.heap v14).size = g15 at *
          refine held_one (i := 24) (by kernel_rfl) rfl rfl (fun K hK => ?_)
          go_simp
          refine Calls.mono (HS4.out _ g15 hH15 q15) ?_
          rintro e v16 ⟨rfl, hb16⟩
          dsimp only
          have hH16 : Below wc.heap.size wc v16 := hH15.trans (hb16.mono hH15.size)
          have p16B := PartsL.below p15B hb16
          have p16A := PartsL.below q15 hb16
          refine hK.out _ _ hH16 ?_
          clear hK K hb16
          try simp only [Act.put, List.setIfInBounds_toArray, List.set_cons_zero, List.set_cons_succ]
          refine held_one (i := 27) (by kernel_rfl) rfl rfl (fun K hK => ?_)
          go_simp
          refine Calls.mono (HS1.out _ g14 hH16 p16B) ?_
          rintro e v17 ⟨rfl, hb17⟩
          dsimp only
          have hH17 : Below wc.heap.size wc v17 := hH16.trans (hb17.mono hH16.size)
          have p17B := PartsL.below p16B hb17
          refine hK.out _ _ hH17 ?_
          clear hK K hb17
          try simp only [Act.put, List.setIfInBounds_toArray, List.set_cons_zero, List.set_cons_succ]
          refine held_take 28 (some 42) (.bool true) rfl rfl (by kernel_rfl) (by kernel_rfl) (by kernel_rfl) (fun _ _ _ h => h) rfl (fun w' hS => ?_) hH17 ?_
          · clear hS; have heq := HEQ.out; go_simp
          try simp only [Act.put, List.setIfInBounds_toArray, List.set_cons_zero, List.set_cons_succ]
          refine held_take 29 (some 43) (.bool true) rfl rfl (by kernel_rfl) (by kernel_rfl) (by kernel_rfl) (fun _ _ _ h => h) rfl (fun w' hS => ?_) hH17 ?_
          · clear hS; go_simp
          try simp only [Act.put, List.setIfInBounds_toArray, List.set_cons_zero, List.set_cons_succ]
          refine held_take 30 (some 4) (.bool true) rfl rfl (by kernel_rfl) (by kernel_rfl) (by kernel_rfl) (fun _ _ _ h => h) rfl (fun w' hS => ?_) hH17 ?_
          · clear hS; go_simp
          try simp only [Act.put, List.setIfInBounds_toArray, List.set_cons_zero, List.set_cons_succ]
          refine wpAnyH_done (by kernel_rfl) ?_ _
          have hfin := hH17
          go_wp2_with fail
          go_ret
          exact ⟨rfl, hfin⟩
      · go_simp
        have bb18 := below_new v5 (.cells #[.slice a len cap] 28)
        have hH18 : Below wc.heap.size wc (World.alloc v5 (.cells #[.slice a len cap] 28)) := hH5.trans (bb18.mono hH5.size)
        have q18 := parts1 v5 a len cap xs (HW.out.1.below hH5) HW.out.2
        refine hK.out _ _ hH18 ?_
        clear hK K bb18
        try simp only [Act.put, List.setIfInBounds_toArray, List.set_cons_zero, List.set_cons_succ]
        generalize World.alloc v5 (.cells #[.slice a len cap] 28) = v18 at *
        generalize (World.heap v5).size = g18 at *
        refine held_one (i := 22) (by kernel_rfl) rfl rfl (fun K hK => ?_)
        go_simp
        have bb19 := below_new v18 (.cells #[] 5)
        have hH19 : Below wc.heap.size wc (World.alloc v18 (.cells #[] 5)) := hH18.trans (bb19.mono hH18.size)
        have p19B := PartsL.below q18 bb19
        refine hK.out _ _ hH19 ?_
        clear hK K bb19
        try simp only [Act.put, List.setIfInBounds_toArray, List.set_cons_zero, List.set_cons_succ]
        generalize World.alloc v18 (.cells #[] 5) = v19 at *
        generalize (World.heap v18).size = g19 at *
        refine held_one (i := 23) (by kernel_rfl) rfl rfl (fun K hK => ?_)
        go_simp
        have bb20 := below_new v19 (.cells #[.slice a k cap, .slice none 0 0, .slice a2 lr cr, .slice (some ⟨g19, 0, none⟩) 0 0] 28)
        have hH20 : Below wc.heap.size wc (World.alloc v19 (.cells #[.slice a k cap, .slice none 0 0, .slice a2 lr cr, .slice (some ⟨g19, 0, none⟩) 0 0] 28)) := hH19.trans (bb20.mono hH19.size)
        have p20B := PartsL.below p19B bb20
        have q20 := parts4 v19 a a2 k cap lr cr g19 X1 X2 (H1.out.1.below hH19) H1.out.2 (H2.out.1.below hH19) H2.out.2
        refine hK.out _ _ hH20 ?_
        clear hK K bb20
        try simp only [Act.put, List.setIfInBounds_toArray, List.set_cons_zero, List.set_cons_succ]
        generalize World.alloc v19 (.cells #[.slice a k cap, .slice none 0 0, .slice a2 lr cr, .slice (some ⟨g19, 0, none⟩) 0 0] 28) = v20 at *
        generalize (World.heap v19).size = g20 at *
        refine held_one (i := 24) (by kernel_rfl) rfl rfl (fun K hK => ?_)
        go_simp
        refine Calls.mono (HS4.out _ g20 hH20 q20) ?_
        rintro e v21 ⟨rfl, hb21⟩
        dsimp only
        have hH21 : Below wc.heap.size wc v21 := hH20.trans (hb21.mono hH20.size)
        have p21B := PartsL.below p20B hb21
        have p21A := PartsL.below q20 hb21
        refine hK.out _ _ hH21 ?_
        clear hK K hb21
        try simp only [Act.put, List.setIfInBounds_toArray, List.set_cons_zero, List.set_cons_succ]
        refine held_one (i := 27) (by kernel_rfl) rfl rfl (fun K hK => ?_)
        go_simp
        refine Calls.mono (HS1.out _ g18 hH21 p21B) ?_
        rintro e v22 ⟨rfl, hb22⟩
        dsimp only
        have hH22 : Below wc.heap.size wc v22 := hH21.trans (hb22.mono hH21.size)
        have p22B := PartsL.below p21B hb22
        refine hK.out _ _ hH22 ?_
        clear hK K hb22
        try simp only [Act.put, List.setIfInBounds_toArray, List.set_cons_zero, List.set_cons_succ]
        refine held_take 28 (some 42) (.bool true) rfl rfl (by kernel_rfl) (by kernel_rfl) (by kernel_rfl) (fun _ _ _ h => h) rfl (fun w' hS => ?_) hH22 ?_
        · clear hS; have heq := HEQ.out; go_simp
        try simp only [Act.put, List.setIfInBounds_toArray, List.set_cons_zero, List.set_cons_succ]
        refine held_take 29 (some 43) (.bool true) rfl rfl (by kernel_rfl) (by kernel_rfl) (by kernel_rfl) (fun _ _ _ h => h) rfl (fun w' hS => ?_) hH22 ?_
        · clear hS; go_simp
        try simp only [Act.put, List.setIfInBounds_toArray, List.set_cons_zero, List.set_cons_succ]
        refine held_take 30 (some 4) (.bool true) rfl rfl (by kernel_rfl) (by kernel_rfl) (by kernel_rfl) (fun _ _ _ h => h) rfl (fun w' hS => ?_) hH22 ?_
        · clear hS; go_simp
        try simp only [Act.put, List.setIfInBounds_toArray, List.set_cons_zero, List.set_cons_succ]
        refine wpAnyH_done (by kernel_rfl) ?_ _
        have hfin := hH22
        go_wp2_with fail
        go_ret
        exact ⟨rfl, hfin⟩
    · go_simp
      have bb23 := below_new v2 (.cells #[.slice a len cap] 28)
      have hH23 : Below wc.heap.size wc (World.alloc v2 (.cells #[.slice a len cap] 28)) := hH2.trans (bb23.mono hH2.size)
      have p23A := PartsL.below q2 bb23
      have q23 := parts1 v2 a len cap xs (HW.out.1.below hH2) HW.out.2
      refine hK.out _ _ hH23 ?_
      clear hK K bb23
      try simp only [Act.put, List.setIfInBounds_toArray, List.set_cons_zero, List.set_cons_succ]
      generalize World.alloc v2 (.cells #[.slice a len cap] 28) = v23 at *
      generalize (World.heap v2).size = g23 at *
      refine held_one (i := 9) (by kernel_rfl) rfl rfl (fun K hK => ?_)
      go_simp
      refine Calls.mono (HS2.out _ g2 hH23 p23A) ?_
      rintro e v24 ⟨rfl, hb24⟩
      dsimp only
      have hH24 : Below wc.heap.size wc v24 := hH23.trans (hb24.mono hH23.size)
      have p24A := PartsL.below p23A hb24
      have p24B := PartsL.below q23 hb24
      refine hK.out _ _ hH24 ?_
      clear hK K hb24
      try simp only [Act.put, List.setIfInBounds_toArray, List.set_cons_zero, List.set_cons_succ]
      refine held_one (i := 12) (by kernel_rfl) rfl rfl (fun K hK => ?_)
      go_simp
      refine Calls.mono (HS1.out _ g23 hH24 p24B) ?_
      rintro e v25 ⟨rfl, hb25⟩
      dsimp only
      have hH25 : Below wc.heap.size wc v25 := hH24.trans (hb25.mono hH24.size)
      have p25B := PartsL.below p24B hb25
      refine hK.out _ _ hH25 ?_
      clear hK K hb25
      try simp only [Act.put, List.setIfInBounds_toArray, List.set_cons_zero, List.set_cons_succ]
      refine held_take 13 (some 27) (.bool true) rfl rfl (by kernel_rfl) (by kernel_rfl) (by kernel_rfl) (fun _ _ _ h => h) rfl (fun w' hS => ?_) hH25 ?_
      · clear hS; have heq := HEQ.out; go_simp
      try simp only [Act.put, List.setIfInBounds_toArray, List.set_cons_zero, List.set_cons_succ]
      refine held_take 14 (some 28) (.bool true) rfl rfl (by kernel_rfl) (by kernel_rfl) (by kernel_rfl) (fun _ _ _ h => h) rfl (fun w' hS => ?_) hH25 ?_
      · clear hS; go_simp
      try simp only [Act.put, List.setIfInBounds_toArray, List.set_cons_zero, List.set_cons_succ]
      refine held_take 15 (some 29) (.bool true) rfl rfl (by kernel_rfl) (by kernel_rfl) (by kernel_rfl) (fun _ _ _ h => h) rfl (fun w' hS => ?_) hH25 ?_
      · clear hS; go_simp
      try simp only [Act.put, List.setIfInBounds_toArray, List.set_cons_zero, List.set_cons_succ]
      refine held_take 16 (some 30) (.slice a len cap) rfl rfl (by kernel_rfl) (by kernel_rfl) (by kernel_rfl) (fun _ _ _ h => h) rfl (fun w' hS => ?_) hH25 ?_
      · clear hS; go_simp
      try simp only [Act.put, List.setIfInBounds_toArray, List.set_cons_zero, List.set_cons_succ]
      refine held_take 17 (some 31) (.int .i64 k) rfl rfl (by kernel_rfl) (by kernel_rfl) (by kernel_rfl) (fun _ _ _ h => h) rfl (fun w' hS => ?_) hH25 ?_
      · clear hS; go_simp
      try simp only [Act.put, List.setIfInBounds_toArray, List.set_cons_zero, List.set_cons_succ]
      refine held_take 18 (some 32) (.slice a k cap) rfl rfl (by kernel_rfl) (by kernel_rfl) (by kernel_rfl) (fun _ _ _ h => h) rfl (fun w' hS => ?_) hH25 ?_
      · exact yield_slice 28 (.tmp 30) none (some (.tmp 31)) none rfl _ _ (HSU.out _)
      try simp only [Act.put, List.setIfInBounds_toArray, List.set_cons_zero, List.set_cons_succ]
      refine held_take 19 (some 33) (.slice a len cap) rfl rfl (by kernel_rfl) (by kernel_rfl) (by kernel_rfl) (fun _ _ _ h => h) rfl (fun w' hS => ?_) hH25 ?_
      · clear hS; go_simp
      try simp only [Act.put, List.setIfInBounds_toArray, List.set_cons_zero, List.set_cons_succ]
      refine held_take 20 (some 34) (.int .i64 k) rfl rfl (by kernel_rfl) (by kernel_rfl) (by kernel_rfl) (fun _ _ _ h => h) rfl (fun w' hS => ?_) hH25 ?_
      · clear hS; go_simp
      try simp only [Act.put, List.setIfInBounds_toArray, List.set_cons_zero, List.set_cons_succ]
      refine held_take 21 (some 35) (.slice a2 lr cr) rfl rfl (by kernel_rfl) (by kernel_rfl) (by kernel_rfl) (fun _ _ _ h => h) rfl (fun w' hS => ?_) hH25 ?_
      · exact yield_slice 28 (.tmp 33) (some (.tmp 34)) none none rfl _ _ (HSF.out _)
      try simp only [Act.put, List.setIfInBounds_toArray, List.set_cons_zero, List.set_cons_succ]
      refine held_take 25 (some 39) (.slice a len cap) rfl rfl (by kernel_rfl) (by kernel_rfl) (by kernel_rfl) (fun _ _ _ h => h) rfl (fun w' hS => ?_) hH25 ?_
      · clear hS; go_simp
      try simp only [Act.put, List.setIfInBounds_toArray, List.set_cons_zero, List.set_cons_succ]
      refine held_two (i := 22) (j := 26) (by kernel_rfl) rfl rfl rfl rfl (fun K hK => ?_) (fun K hK => ?_)
      · go_simp
        have bb26 := below_new v25 (.cells #[] 5)
        have hH26 : Below wc.heap.size wc (World.alloc v25 (.cells #[] 5)) := hH25.trans (bb26.mono hH25.size)
        refine hK.out _ _ hH26 ?_
        clear hK K bb26
        try simp only [Act.put, List.setIfInBounds_toArray, List.set_cons_zero, List.set_cons_succ]
        generalize World.alloc v25 (.cells #[] 5) = v26 at *
        generalize (World.heap v25).size = g26 at *
        refine held_two (i := 23) (j := 26) (by kernel_rfl) rfl rfl rfl rfl (fun K hK => ?_) (fun K hK => ?_)
        · go_simp
          have bb27 := below_new v26 (.cells #[.slice a k cap, .slice none 0 0, .slice a2 lr cr, .slice (some ⟨g26, 0, none⟩) 0 0] 28)
          have hH27 : Below wc.heap.size wc (World.alloc v26 (.cells #[.slice a k cap, .slice none 0 0, .slice a2 lr cr, .slice (some ⟨g26, 0, none⟩) 0 0] 28)) := hH26.trans (bb27.mono hH26.size)
          have q27 := parts4 v26 a a2 k cap lr cr g26 X1 X2 (H1.out.1.below hH26) H1.out.2 (H2.out.1.below hH26) H2.out.2
          refine hK.out _ _ hH27 ?_
          clear hK K bb27
          try simp only [Act.put, List.setIfInBounds_toArray, List.set_cons_zero, List.set_cons_succ]
          generalize World.alloc v26 (.cells #[.slice a k cap, .slice none 0 0, .slice a2 lr cr, .slice (some ⟨g26, 0, none⟩) 0 0] 28) = v27 at *
          generalize (World.heap v26).size = g27 at *
          refine held_two (i := 24) (j := 26) (by kernel_rfl) rfl rfl rfl rfl (fun K hK => ?_) (fun K hK => ?_)
          · go_simp
            refine Calls.mono (HS4.out _ g27 hH27 q27) ?_
            rintro e v28 ⟨rfl, hb28⟩
            dsimp only
            have hH28 : Below wc.heap.size wc v28 := hH27.trans (hb28.mono hH27.size)
            have p28A := PartsL.below q27 hb28
            refine hK.out _ _ hH28 ?_
            clear hK K hb28
            try simp only [Act.put, List.setIfInBounds_toArray, List.set_cons_zero, List.set_cons_succ]
            refine held_one (i := 26) (by kernel_rfl) rfl rfl (fun K hK => ?_)
            go_simp
            have bb29 := below_new v28 (.cells #[.slice a len cap] 28)
            have hH29 : Below wc.heap.size wc (World.alloc v28 (.cells #[.slice a len cap] 28)) := hH28.trans (bb29.mono hH28.size)
            have q29 := parts1 v28 a len cap xs (HW.out.1.below hH28) HW.out.2
            refine hK.out _ _ hH29 ?_
            clear hK K bb29
            try simp only [Act.put, List.setIfInBounds_toArray, List.set_cons_zero, List.set_cons_succ]
            generalize World.alloc v28 (.cells #[.slice a len cap] 28) = v29 at *
            generalize (World.heap v28).size = g29 at *
            refine held_one (i := 27) (by kernel_rfl) rfl rfl (fun K hK => ?_)
            go_simp
            refine Calls.mono (HS1.out _ g29 hH29 q29) ?_
            rintro e v30 ⟨rfl, hb30⟩
            dsimp only
            have hH30 : Below wc.heap.size wc v30 := hH29.trans (hb30.mono hH29.size)
            have p30B := PartsL.below q29 hb30
            refine hK.out _ _ hH30 ?_
            clear hK K hb30
            try simp only [Act.put, List.setIfInBounds_toArray, List.set_cons_zero, List.set_cons_succ]
            refine held_take 28 (some 42) (.bool true) rfl rfl (by kernel_rfl) (by kernel_rfl) (by kernel_rfl) (fun _ _ _ h => h) rfl (fun w' hS => ?_) hH30 ?_
            · clear hS; have heq := HEQ.out; go_simp
            try simp only [Act.put, List.setIfInBounds_toArray, List.set_cons_zero, List.set_cons_succ]
            refine held_take 29 (some 43) (.bool true) rfl rfl (by kernel_rfl) (by kernel_rfl) (by kernel_rfl) (fun _ _ _ h => h) rfl (fun w' hS => ?_) hH30 ?_
            · clear hS; go_simp
            try simp only [Act.put, List.setIfInBounds_toArray, List.set_cons_zero, List.set_cons_succ]
            refine held_take 30 (some 4) (.bool true) rfl rfl (by kernel_rfl) (by kernel_rfl) (by kernel_rfl) (fun _ _ _ h => h) rfl (fun w' hS => ?_) hH30 ?_
            · clear hS; go_simp
            try simp only [Act.put, List.setIfInBounds_toArray, List.set_cons_zero, List.set_cons_succ]
            refine wpAnyH_done (by kernel_rfl) ?_ _
            have hfin := hH30
            go_wp2_with fail
            go_ret
            exact ⟨rfl, hfin⟩
          · go_simp
            have bb31 := below_new v27 (.cells #[.slice a len cap] 28)
            have hH31 : Below wc.heap.size wc (World.alloc v27 (.cells #[.slice a len cap] 28)) := hH27.trans (bb31.mono hH27.size)
            have p31A := PartsL.below q27 bb31
            have q31 := parts1 v27 a len cap xs (HW.out.1.below hH27) HW.out.2
            refine hK.out _ _ hH31 ?_
            clear hK K bb31
            try simp only [Act.put, List.setIfInBounds_toArray, List.set_cons_zero, List.set_cons_succ]
            generalize World.alloc v27 (.cells #[.slice a len cap] 28) = v31 at *
            generalize (World.heap v27).size = g31 at *
            refine held_one (i := 24) (by kernel_rfl) rfl rfl (fun K hK => ?_)
            go_simp
            refine Calls.mono (HS4.out _ g27 hH31 p31A) ?_
            rintro e v32 ⟨rfl, hb32⟩
            dsimp only
            have hH32 : Below wc.heap.size wc v32 := hH31.trans (hb32.mono hH31.size)
            have p32A := PartsL.below p31A hb32
            have p32B := PartsL.below q31 hb32
            refine hK.out _ _ hH32 ?_
            clear hK K hb32
            try simp only [Act.put, List.setIfInBounds_toArray, List.set_cons_zero, List.set_cons_succ]
            refine held_one (i := 27) (by kernel_rfl) rfl rfl (fun K hK => ?_)
            go_simp
            refine Calls.mono (HS1.out _ g31 hH32 p32B) ?_
            rintro e v33 ⟨rfl, hb33⟩
            dsimp only
            have hH33 : Below wc.heap.size wc v33 := hH32.trans (hb33.mono hH32.size)
            have p33B := PartsL.below p32B hb33
            refine hK.out _ _ hH33 ?_
            clear hK K hb33
            try simp only [Act.put, List.setIfInBounds_toArray, List.set_cons_zero, List.set_cons_succ]
            refine held_take 28 (some 42) (.bool true) rfl rfl (by kernel_rfl) (by kernel_rfl) (by kernel_rfl) (fun _ _ _ h => h) rfl (fun w' hS => ?_) hH33 ?_
            · clear hS; have heq := HEQ.out; go_simp
            try simp only [Act.put, List.setIfInBounds_toArray, List.set_cons_zero, List.set_cons_succ]
            refine held_take 29 (some 43) (.bool true) rfl rfl (by kernel_rfl) (by kernel_rfl) (by kernel_rfl) (fun _ _ _ h => h) rfl (fun w' hS => ?_) hH33 ?_
            · clear hS; go_simp
            try simp only [Act.put, List.setIfInBounds_toArray, List.set_cons_zero, List.set_cons_succ]
            refine held_take 30 (some 4) (.bool true) rfl rfl (by kernel_rfl) (by kernel_rfl) (by kernel_rfl) (fun _ _ _ h => h) rfl (fun w' hS => ?_) hH33 ?_
            · clear hS; go_simp
            try simp only [Act.put, List.setIfInBounds_toArray, List.set_cons_zero, List.set_cons_succ]
            refine wpAnyH_done (by kernel_rfl) ?_ _
            have hfin := hH33
            go_wp2_with fail
            go_ret
            exact ⟨rfl, hfin⟩
        · go_simp
          have bb34 := below_new v26 (.cells #[.slice a len cap] 28)
          have hH34 : Below wc.heap.size wc (World.alloc v26 (.cells #[.slice a len cap] 28)) := hH26.trans (bb34.mono hH26.size)
          have q34 := parts1 v26 a len cap xs (HW.out.1.below hH26) HW.out.2
          refine hK.out _ _ hH34 ?_
          clear hK K bb34
          try simp only [Act.put, List.setIfInBounds_toArray, List.set_cons_zero, List.set_cons_succ]
          generalize World.alloc v26 (.cells #[.slice a len cap] 28) = v34 at *
          generalize (World.heap v26).size = g34 at *
          refine held_one (i := 23) (by kernel_rfl) rfl rfl (fun K hK => ?_)
          go_simp
          have bb35 := below_new v34 (.cells #[.slice a k cap, .slice none 0 0, .slice a2 lr cr, .slice (some ⟨g26, 0, none⟩) 0 0] 28)
          have hH35 : Below wc.heap.size wc (World.alloc v34 (.cells #[.slice a k cap, .slice none 0 0, .slice a2 lr cr, .slice (some ⟨g26, 0, none⟩) 0 0] 28)) := hH34.trans (bb35.mono hH34.size)
          have p35B := PartsL.below q34 bb35
          have q35 := parts4 v34 a a2 k cap lr cr g26 X1 X2 (H1.out.1.below hH34) H1.out.2 (H2.out.1.below hH34) H2.out.2
          refine hK.out _ _ hH35 ?_
          clear hK K bb35
          try simp only [Act.put, List.setIfInBounds_toArray, List.set_cons_zero, List.set_cons_succ]
          generalize World.alloc v34 (.cells #[.slice a k cap, .slice none 0 0, .slice a2 lr cr, .slice (some ⟨g26, 0, none⟩) 0 0] 28) = v35 at *
          generalize (World.heap v34).size = g35 at *
          refine held_one (i := 24) (by kernel_rfl) rfl rfl (fun K hK => ?_)
          go_simp
          refine Calls.mono (HS4.out _ g35 hH35 q35) ?_
          rintro e v36 ⟨rfl, hb36⟩
          dsimp only
          have hH36 : Below wc.heap.size wc v36 := hH35.trans (hb36.mono hH35.size)
          have p36B := PartsL.below p35B hb36
          have p36A := PartsL.below q35 hb36
          refine hK.out _ _ hH36 ?_
          clear hK K hb36
          try simp only [Act.put, List.setIfInBounds_toArray, List.set_cons_zero, List.set_cons_succ]
          refine held_one (i := 27) (by kernel_rfl) rfl rfl (fun K hK => ?_)
          go_simp
          refine Calls.mono (HS1.out _ g34 hH36 p36B) ?_
          rintro e v37 ⟨rfl, hb37⟩
          dsimp only
          have hH37 : Below wc.heap.size wc v37 := hH36.trans (hb37.mono hH36.size)
          have p37B := PartsL.below p36B hb37
          refine hK.out _ _ hH37 ?_
          clear hK K hb37
          try simp only [Act.put, List.setIfInBounds_toArray, List.set_cons_zero, List.set_cons_succ]
          refine held_take 28 (some 42) (.bool true) rfl rfl (by kernel_rfl) (by kernel_rfl) (by kernel_rfl) (fun _ _ _ h => h) rfl (fun w' hS => ?_) hH37 ?_
          · clear hS; have heq := HEQ.out; go_simp
          try simp only [Act.put, List.setIfInBounds_toArray, List.set_cons_zero, List.set_cons_succ]
          refine held_take 29 (some 43) (.bool true) rfl rfl (by kernel_rfl) (by kernel_rfl) (by kernel_rfl) (fun _ _ _ h => h) rfl (fun w' hS => ?_) hH37 ?_
          · clear hS; go_simp
          try simp only [Act.put, List.setIfInBounds_toArray, List.set_cons_zero, List.set_cons_succ]
          refine held_take 30 (some 4) (.bool true) rfl rfl (by kernel_rfl) (by kernel_rfl) (by kernel_rfl) (fun _ _ _ h => h) rfl (fun w' hS => ?_) hH37 ?_
          · clear hS; go_simp
          try simp only [Act.put, List.setIfInBounds_toArray, List.set_cons_zero, List.set_cons_succ]
          refine wpAnyH_done (by kernel_rfl) ?_ _
          have hfin := hH37
          go_wp2_with fail
          go_ret
          exact ⟨rfl, hfin⟩
      · go_simp
        have bb38 := below_new v25 (.cells #[.slice a len cap] 28)
        have hH38 : Below wc.heap.size wc (World.alloc v25 (.cells #[.slice a len cap] 28)) := hH25.trans (bb38.mono hH25.size)
        have q38 := parts1 v25 a len cap xs (HW.out.1.below hH25) HW.out.2
        refine hK.out _ _ hH38 ?_
        clear hK K bb38
        try simp only [Act.put, List.setIfInBounds_toArray, List.set_cons_zero, List.set_cons_succ]
        generalize World.alloc v25 (.cells #[.slice a len cap] 28) = v38 at *
        generalize (World.heap v25).size = g38 at *
        refine held_one (i := 22) (by kernel_rfl) rfl rfl (fun K hK => ?_)
        go_simp
        have bb39 := below_new v38 (.cells #[] 5)
        have hH39 : Below wc.heap.size wc (World.alloc v38 (.cells #[] 5)) := hH38.trans (bb39.mono hH38.size)
        have p39B := PartsL.below q38 bb39
        refine hK.out _ _ hH39 ?_
        clear hK K bb39
        try simp only [Act.put, List.setIfInBounds_toArray, List.set_cons_zero, List.set_cons_succ]
        generalize World.alloc v38 (.cells #[] 5) = v39 at *
        generalize (World.heap v38).size = g39 at *
        refine held_one (i := 23) (by kernel_rfl) rfl rfl (fun K hK => ?_)
        go_simp
        have bb40 := below_new v39 (.cells #[.slice a k cap, .slice none 0 0, .slice a2 lr cr, .slice (some ⟨g39, 0, none⟩) 0 0] 28)
        have hH40 : Below wc.heap.size wc (World.alloc v39 (.cells #[.slice a k cap, .slice none 0 0, .slice a2 lr cr, .slice (some ⟨g39, 0, none⟩) 0 0] 28)) := hH39.trans (bb40.mono hH39.size)
        have p40B := PartsL.below p39B bb40
        have q40 := parts4 v39 a a2 k cap lr cr g39 X1 X2 (H1.out.1.below hH39) H1.out.2 (H2.out.1.below hH39) H2.out.2
        refine hK.out _ _ hH40 ?_
        clear hK K bb40
        try simp only [Act.put, List.setIfInBounds_toArray, List.set_cons_zero, List.set_cons_succ]
        generalize World.alloc v39 (.cells #[.slice a k cap, .slice none 0 0, .slice a2 lr cr, .slice (some ⟨g39, 0, none⟩) 0 0] 28) = v40 at *
        generalize (World.heap v39).size = g40 at *
        refine held_one (i := 24) (by kernel_rfl) rfl rfl (fun K hK => ?_)
        go_simp
        refine Calls.mono (HS4.out _ g40 hH40 q40) ?_
        rintro e v41 ⟨rfl, hb41⟩
        dsimp only
        have hH41 : Below wc.heap.size wc v41 := hH40.trans (hb41.mono hH40.size)
        have p41B := PartsL.below p40B hb41
        have p41A := PartsL.below q40 hb41
        refine hK.out _ _ hH41 ?_
        clear hK K hb41
        try simp only [Act.put, List.setIfInBounds_toArray, List.set_cons_zero, List.set_cons_succ]
        refine held_one (i := 27) (by kernel_rfl) rfl rfl (fun K hK => ?_)
        go_simp
        refine Calls.mono (HS1.out _ g38 hH41 p41B) ?_
        rintro e v42 ⟨rfl, hb42⟩
        dsimp only
        have hH42 : Below wc.heap.size wc v42 := hH41.trans (hb42.mono hH41.size)
        have p42B := PartsL.below p41B hb42
        refine hK.out _ _ hH42 ?_
        clear hK K hb42
        try simp only [Act.put, List.setIfInBounds_toArray, List.set_cons_zero, List.set_cons_succ]
        refine held_take 28 (some 42) (.bool true) rfl rfl (by kernel_rfl) (by kernel_rfl) (by kernel_rfl) (fun _ _ _ h => h) rfl (fun w' hS => ?_) hH42 ?_
        · clear hS; have heq := HEQ.out; go_simp
        try simp only [Act.put, List.setIfInBounds_toArray, List.set_cons_zero, List.set_cons_succ]
        refine held_take 29 (some 43) (.bool true) rfl rfl (by kernel_rfl) (by kernel_rfl) (by kernel_rfl) (fun _ _ _ h => h) rfl (fun w' hS => ?_) hH42 ?_
        · clear hS; go_simp
        try simp only [Act.put, List.setIfInBounds_toArray, List.set_cons_zero, List.set_cons_succ]
        refine held_take 30 (some 4) (.bool true) rfl rfl (by kernel_rfl) (by kernel_rfl) (by kernel_rfl) (fun _ _ _ h => h) rfl (fun w' hS => ?_) hH42 ?_
        · clear hS; go_simp
        try simp only [Act.put, List.setIfInBounds_toArray, List.set_cons_zero, List.set_cons_succ]
        refine wpAnyH_done (by kernel_rfl) ?_ _
        have hfin := hH42
        go_wp2_with fail
        go_ret
        exact ⟨rfl, hfin⟩
  · go_simp
    have bb43 := below_new v1 (.cells #[.slice a len cap] 28)
    have hH43 : Below wc.heap.size wc (World.alloc v1 (.cells #[.slice a len cap] 28)) := hH1.trans (bb43.mono hH1.size)
    have q43 := parts1 v1 a len cap xs (HW.out.1.below hH1) HW.out.2
    refine hK.out _ _ hH43 ?_
    clear hK K bb43
    try simp only [Act.put, List.setIfInBounds_toArray, List.set_cons_zero, List.set_cons_succ]
    generalize World.alloc v1 (.cells #[.slice a len cap] 28) = v43 at *
    generalize (World.heap v1).size = g43 at *
    refine held_one (i := 8) (by kernel_rfl) rfl rfl (fun K hK => ?_)
    go_simp
    have bb44 := below_new v43 (.cells #[.slice a k cap, .slice a2 lr cr] 28)
    have hH44 : Below wc.heap.size wc (World.alloc v43 (.cells #[.slice a k cap, .slice a2 lr cr] 28)) := hH43.trans (bb44.mono hH43.size)
    have p44B := PartsL.below q43 bb44
    have q44 := parts2 v43 a a2 k cap lr cr X1 X2 (H1.out.1.below hH43) H1.out.2 (H2.out.1.below hH43) H2.out.2
    refine hK.out _ _ hH44 ?_
    clear hK K bb44
    try simp only [Act.put, List.setIfInBounds_toArray, List.set_cons_zero, List.set_cons_succ]
    generalize World.alloc v43 (.cells #[.slice a k cap, .slice a2 lr cr] 28) = v44 at *
    generalize (World.heap v43).size = g44 at *
    refine held_one (i := 9) (by kernel_rfl) rfl rfl (fun K hK => ?_)
    go_simp
    refine Calls.mono (HS2.out _ g44 hH44 q44) ?_
    rintro e v45 ⟨rfl, hb45⟩
    dsimp only
    have hH45 : Below wc.heap.size wc v45 := hH44.trans (hb45.mono hH44.size)
    have p45B := PartsL.below p44B hb45
    have p45A := PartsL.below q44 hb45
    refine hK.out _ _ hH45 ?_
    clear hK K hb45
    try simp only [Act.put, List.setIfInBounds_toArray, List.set_cons_zero, List.set_cons_succ]
    refine held_one (i := 12) (by kernel_rfl) rfl rfl (fun K hK => ?_)
    go_simp
    refine Calls.mono (HS1.out _ g43 hH45 p45B) ?_
    rintro e v46 ⟨rfl, hb46⟩
    dsimp only
    have hH46 : Below wc.heap.size wc v46 := hH45.trans (hb46.mono hH45.size)
    have p46B := PartsL.below p45B hb46
    refine hK.out _ _ hH46 ?_
    clear hK K hb46
    try simp only [Act.put, List.setIfInBounds_toArray, List.set_cons_zero, List.set_cons_succ]
    refine held_take 13 (some 27) (.bool true) rfl rfl (by kernel_rfl) (by kernel_rfl) (by kernel_rfl) (fun _ _ _ h => h) rfl (fun w' hS => ?_) hH46 ?_
    · clear hS; have heq := HEQ.out; go_simp
    try simp only [Act.put, List.setIfInBounds_toArray, List.set_cons_zero, List.set_cons_succ]
    refine held_take 14 (some 28) (.bool true) rfl rfl (by kernel_rfl) (by kernel_rfl) (by kernel_rfl) (fun _ _ _ h => h) rfl (fun w' hS => ?_) hH46 ?_
    · clear hS; go_simp
    try simp only [Act.put, List.setIfInBounds_toArray, List.set_cons_zero, List.set_cons_succ]
    refine held_take 15 (some 29) (.bool true) rfl rfl (by kernel_rfl) (by kernel_rfl) (by kernel_rfl) (fun _ _ _ h => h) rfl (fun w' hS => ?_) hH46 ?_
    · clear hS; go_simp
    try simp only [Act.put, List.setIfInBounds_toArray, List.set_cons_zero, List.set_cons_succ]
    refine held_take 16 (some 30) (.slice a len cap) rfl rfl (by kernel_rfl) (by kernel_rfl) (by kernel_rfl) (fun _ _ _ h => h) rfl (fun w' hS => ?_) hH46 ?_
    · clear hS; go_simp
    try simp only [Act.put, List.setIfInBounds_toArray, List.set_cons_zero, List.set_cons_succ]
    refine held_take 17 (some 31) (.int .i64 k) rfl rfl (by kernel_rfl) (by kernel_rfl) (by kernel_rfl) (fun _ _ _ h => h) rfl (fun w' hS => ?_) hH46 ?_
    · clear hS; go_simp
    try simp only [Act.put, List.setIfInBounds_toArray, List.set_cons_zero, List.set_cons_succ]
    refine held_take 18 (some 32) (.slice a k cap) rfl rfl (by kernel_rfl) (by kernel_rfl) (by kernel_rfl) (fun _ _ _ h => h) rfl (fun w' hS => ?_) hH46 ?_
    · exact yield_slice 28 (.tmp 30) none (some (.tmp 31)) none rfl _ _ (HSU.out _)
    try simp only [Act.put, List.setIfInBounds_toArray, List.set_cons_zero, List.set_cons_succ]
    refine held_take 19 (some 33) (.slice a len cap) rfl rfl (by kernel_rfl) (by kernel_rfl) (by kernel_rfl) (fun _ _ _ h => h) rfl (fun w' hS => ?_) hH46 ?_
    · clear hS; go_simp
    try simp only [Act.put, List.setIfInBounds_toArray, List.set_cons_zero, List.set_cons_succ]
    refine held_take 20 (some 34) (.int .i64 k) rfl rfl (by kernel_rfl) (by kernel_rfl) (by kernel_rfl) (fun _ _ _ h => h) rfl (fun w' hS => ?_) hH46 ?_
    · clear hS; go_simp
    try simp only [Act.put, List.setIfInBounds_toArray, List.set_cons_zero, List.set_cons_succ]
    refine held_take 21 (some 35) (.slice a2 lr cr) rfl rfl (by kernel_rfl) (by kernel_rfl) (by kernel_rfl) (fun _ _ _ h => h) rfl (fun w' hS => ?_) hH46 ?_
    · exact yield_slice 28 (.tmp 33) (some (.tmp 34)) none none rfl _ _ (HSF.out _)
    try simp only [Act.put, List.setIfInBounds_toArray, List.set_cons_zero, List.set_cons_succ]
    refine held_take 25 (some 39) (.slice a len cap) rfl rfl (by kernel_rfl) (by kernel_rfl) (by kernel_rfl) (fun _ _ _ h => h) rfl (fun w' hS => ?_) hH46 ?_
    · clear hS; go_simp
    try simp only [Act.put, List.setIfInBounds_toArray, List.set_cons_zero, List.set_cons_succ]
    refine held_two (i := 22) (j := 26) (by kernel_rfl) rfl rfl rfl rfl (fun K hK => ?_) (fun K hK => ?_)
    · go_simp
      have bb47 := below_new v46 (.cells #[] 5)
      have hH47 : Below wc.heap.size wc (World.alloc v46 (.cells #[] 5)) := hH46.trans (bb47.mono hH46.size)
      refine hK.out _ _ hH47 ?_
      clear hK K bb47
      try simp only [Act.put, List.setIfInBounds_toArray, List.set_cons_zero, List.set_cons_succ]
      generalize World.alloc v46 (.cells #[] 5) = v47 at *
      generalize (World.heap v46).size = g47 at *
      refine held_two (i := 23) (j := 26) (by kernel_rfl) rfl rfl rfl rfl (fun K hK => ?_) (fun K hK => ?_)
      · go_simp
        have bb48 := below_new v47 (.cells #[.slice a k cap, .slice none 0 0, .slice a2 lr cr, .slice (some ⟨g47, 0, none⟩) 0 0] 28)
        have hH48 : Below wc.heap.size wc (World.alloc v47 (.cells #[.slice a k cap, .slice none 0 0, .slice a2 lr cr, .slice (some ⟨g47, 0, none⟩) 0 0] 28)) := hH47.trans (bb48.mono hH47.size)
        have q48 := parts4 v47 a a2 k cap lr cr g47 X1 X2 (H1.out.1.below hH47) H1.out.2 (H2.out.1.below hH47) H2.out.2
        refine hK.out _ _ hH48 ?_
        clear hK K bb48
        try simp only [Act.put, List.setIfInBounds_toArray, List.set_cons_zero, List.set_cons_succ]
        generalize World.alloc v47 (.cells #[.slice a k cap, .slice none 0 0, .slice a2 lr cr, .slice (some ⟨g47, 0, none⟩) 0 0] 28) = v48 at *
        generalize (World.heap v47).size = g48 at *
        refine held_two (i := 24) (j := 26) (by kernel_rfl) rfl rfl rfl rfl (fun K hK => ?_) (fun K hK => ?_)
        · go_simp
          refine Calls.mono (HS4.out _ g48 hH48 q48) ?_
          rintro e v49 ⟨rfl, hb49⟩
          dsimp only
          have hH49 : Below wc.heap.size wc v49 := hH48.trans (hb49.mono hH48.size)
          have p49A := PartsL.below q48 hb49
          refine hK.out _ _ hH49 ?_
          clear hK K hb49
          try simp only [Act.put, List.setIfInBounds_toArray, List.set_cons_zero, List.set_cons_succ]
          refine held_one (i := 26) (by kernel_rfl) rfl rfl (fun K hK => ?_)
          go_simp
          have bb50 := below_new v49 (.cells #[.slice a len cap] 28)
          have hH50 : Below wc.heap.size wc (World.alloc v49 (.cells #[.slice a len cap] 28)) := hH49.trans (bb50.mono hH49.size)
          have q50 := parts1 v49 a len cap xs (HW.out.1.below hH49) HW.out.2
          refine hK.out _ _ hH50 ?_
          clear hK K bb50
          try simp only [Act.put, List.setIfInBounds_toArray, List.set_cons_zero, List.set_cons_succ]
          generalize World.alloc v49 (.cells #[.slice a len cap] 28) = v50 at *
          generalize (World.heap v49).size = g50 at *
          refine held_one (i := 27) (by kernel_rfl) rfl rfl (fun K hK => ?_)
          go_simp
          refine Calls.mono (HS1.out _ g50 hH50 q50) ?_
          rintro e v51 ⟨rfl, hb51⟩
          dsimp only
          have hH51 : Below wc.heap.size wc v51 := hH50.trans (hb51.mono hH50.size)
          have p51B := PartsL.below q50 hb51
          refine hK.out _ _ hH51 ?_
          clear hK K hb51
          try simp only [Act.put, List.setIfInBounds_toArray, List.set_cons_zero, List.set_cons_succ]
          refine held_take 28 (some 42) (.bool true) rfl rfl (by kernel_rfl) (by kernel_rfl) (by kernel_rfl) (fun _ _ _ h => h) rfl (fun w' hS => ?_) hH51 ?_
          · clear hS; have heq := HEQ.out; go_simp
          try simp only [Act.put, List.setIfInBounds_toArray, List.set_cons_zero, List.set_cons_succ]
          refine held_take 29 (some 43) (.bool true) rfl rfl (by kernel_rfl) (by kernel_rfl) (by kernel_rfl) (fun _ _ _ h => h) rfl (fun w' hS => ?_) hH51 ?_
          · clear hS; go_simp
          try simp only [Act.put, List.setIfInBounds_toArray, List.set_cons_zero, List.set_cons_succ]
          refine held_take 30 (some 4) (.bool true) rfl rfl (by kernel_rfl) (by kernel_rfl) (by kernel_rfl) (fun _ _ _ h => h) rfl (fun w' hS => ?_) hH51 ?_
          · clear hS; go_simp
          try simp only [Act.put, List.setIfInBounds_toArray, List.set_cons_zero, List.set_cons_succ]
          refine wpAnyH_done (by kernel_rfl) ?_ _
          have hfin := hH51
          go_wp2_with fail
          go_ret
          exact ⟨rfl, hfin⟩
        · go_simp
          have bb52 := below_new v48 (.cells #[.slice a len cap] 28)
          have hH52 : Below wc.heap.size wc (World.alloc v48 (.cells #[.slice a len cap] 28)) := hH48.trans (bb52.mono hH48.size)
          have p52A := PartsL.below q48 bb52
          have q52 := parts1 v48 a len cap xs (HW.out.1.below hH48) HW.out.2
          refine hK.out _ _ hH52 ?_
          clear hK K bb52
          try simp only [Act.put, List.setIfInBounds_toArray, List.set_cons_zero, List.set_cons_succ]
          generalize World.alloc v48 (.cells #[.slice a len cap] 28) = v52 at *
          generalize (World.heap v48).size = g52 at *
          refine held_one (i := 24) (by kernel_rfl) rfl rfl (fun K hK => ?_)
          go_simp
          refine Calls.mono (HS4.out _ g48 hH52 p52A) ?_
          rintro e v53 ⟨rfl, hb53⟩
          dsimp only
          have hH53 : Below wc.heap.size wc v53 := hH52.trans (hb53.mono hH52.size)
          have p53A := PartsL.below p52A hb53
          have p53B := PartsL.below q52 hb53
          refine hK.out _ _ hH53 ?_
          clear hK K hb53
          try simp only [Act.put, List.setIfInBounds_toArray, List.set_cons_zero, List.set_cons_succ]
          refine held_one (i := 27) (by kernel_rfl) rfl rfl (fun K hK => ?_)
          go_simp
          refine Calls.mono (HS1.out _ g52 hH53 p53B) ?_
          rintro e v54 ⟨rfl, hb54⟩
          dsimp only
          have hH54 : Below wc.heap.size wc v54 := hH53.trans (hb54.mono hH53.size)
          have p54B := PartsL.below p53B hb54
          refine hK.out _ _ hH54 ?_
          clear hK K hb54
          try simp only [Act.put, List.setIfInBounds_toArray, List.set_cons_zero, List.set_cons_succ]
          refine held_take 28 (some 42) (.bool true) rfl rfl (by kernel_rfl) (by kernel_rfl) (by kernel_rfl) (fun _ _ _ h => h) rfl (fun w' hS => ?_) hH54 ?_
          · clear hS; have heq := HEQ.out; go_simp
          try simp only [Act.put, List.setIfInBounds_toArray, List.set_cons_zero, List.set_cons_succ]
          refine held_take 29 (some 43) (.bool true) rfl rfl (by kernel_rfl) (by kernel_rfl) (by kernel_rfl) (fun _ _ _ h => h) rfl (fun w' hS => ?_) hH54 ?_
          · clear hS; go_simp
          try simp only [Act.put, List.setIfInBounds_toArray, List.set_cons_zero, List.set_cons_succ]
          refine held_take 30 (some 4) (.bool true) rfl rfl (by kernel_rfl) (by kernel_rfl) (by kernel_rfl) (fun _ _ _ h => h) rfl (fun w' hS => ?_) hH54 ?_
          · clear hS; go_simp
          try simp only [Act.put, List.setIfInBounds_toArray, List.set_cons_zero, List.set_cons_succ]
          refine wpAnyH_done (by kernel_rfl) ?_ _
          have hfin := hH54
          go_wp2_with fail
          go_ret
          exact ⟨rfl, hfin⟩
      · go_simp
        have bb55 := below_new v47 (.cells #[.slice a len cap] 28)
        have hH55 : Below wc.heap.size wc (World.alloc v47 (.cells #[.slice a len cap] 28)) := hH47.trans (bb55.mono hH47.size)
        have q55 := parts1 v47 a len cap xs (HW.out.1.below hH47) HW.out.2
        refine hK.out _ _ hH55 ?_
        clear hK K bb55
        try simp only [Act.put, List.setIfInBounds_toArray, List.set_cons_zero, List.set_cons_succ]
        generalize World.alloc v47 (.cells #[.slice a len cap] 28) = v55 at *
        generalize (World.heap v47).size = g55 at *
        refine held_one (i := 23) (by kernel_rfl) rfl rfl (fun K hK => ?_)
        go_simp
        have bb56 := below_new v55 (.cells #[.slice a k cap, .slice none 0 0, .slice a2 lr cr, .slice (some ⟨g47, 0, none⟩) 0 0] 28)
        have hH56 : Below wc.heap.size wc (World.alloc v55 (.cells #[.slice a k cap, .slice none 0 0, .slice a2 lr cr, .slice (some ⟨g47, 0, none⟩) 0 0] 28)) := hH55.trans (bb56.mono hH55.size)
        have p56B := PartsL.below q55 bb56
        have q56 := parts4 v55 a a2 k cap lr cr g47 X1 X2 (H1.out.1.below hH55) H1.out.2 (H2.out.1.below hH55) H2.out.2
        refine hK.out _ _ hH56 ?_
        clear hK K bb56
        try simp only [Act.put, List.setIfInBounds_toArray, List.set_cons_zero, List.set_cons_succ]
        generalize World.alloc v55 (.cells #[.slice a k cap, .slice none 0 0, .slice a2 lr cr, .slice (some ⟨g47, 0, none⟩) 0 0] 28) = v56 at *
        generalize (World.heap v55).size = g56 at *
        refine held_one (i := 24) (by kernel_rfl) rfl rfl (fun K hK => ?_)
        go_simp
        refine Calls.mono (HS4.out _ g56 hH56 q56) ?_
        rintro e v57 ⟨rfl, hb57⟩
        dsimp only
        have hH57 : Below wc.heap.size wc v57 := hH56.trans (hb57.mono hH56.size)
        have p57B := PartsL.below p56B hb57
        have p57A := PartsL.below q56 hb57
        refine hK.out _ _ hH57 ?_
        clear hK K hb57
        try simp only [Act.put, List.setIfInBounds_toArray, List.set_cons_zero, List.set_cons_succ]
        refine held_one (i := 27) (by kernel_rfl) rfl rfl (fun K hK => ?_)
        go_simp
        refine Calls.mono (HS1.out _ g55 hH57 p57B) ?_
        rintro e v58 ⟨rfl, hb58⟩
        dsimp only
        have hH58 : Below wc.heap.size wc v58 := hH57.trans (hb58.mono hH57.size)
        have p58B := PartsL.below p57B hb58
        refine hK.out _ _ hH58 ?_
        clear hK K hb58
        try simp only [Act.put, List.setIfInBounds_toArray, List.set_cons_zero, List.set_cons_succ]
        refine held_take 28 (some 42) (.bool true) rfl rfl (by kernel_rfl) (by kernel_rfl) (by kernel_rfl) (fun _ _ _ h => h) rfl (fun w' hS => ?_) hH58 ?_
        · clear hS; have heq := HEQ.out; go_simp
        try simp only [Act.put, List.setIfInBounds_toArray, List.set_cons_zero, List.set_cons_succ]
        refine held_take 29 (some 43) (.bool true) rfl rfl (by kernel_rfl) (by kernel_rfl) (by kernel_rfl) (fun _ _ _ h => h) rfl (fun w' hS => ?_) hH58 ?_
        · clear hS; go_simp
        try simp only [Act.put, List.setIfInBounds_toArray, List.set_cons_zero, List.set_cons_succ]
        refine held_take 30 (some 4) (.bool true) rfl rfl (by kernel_rfl) (by kernel_rfl) (by kernel_rfl) (fun _ _ _ h => h) rfl (fun w' hS => ?_) hH58 ?_
        · clear hS; go_simp
        try simp only [Act.put, List.setIfInBounds_toArray, List.set_cons_zero, List.set_cons_succ]
        refine wpAnyH_done (by kernel_rfl) ?_ _
        have hfin := hH58
        go_wp2_with fail
        go_ret
        exact ⟨rfl, hfin⟩
    · go_simp
      have bb59 := below_new v46 (.cells #[.slice a len cap] 28)
      have hH59 : Below wc.heap.size wc (World.alloc v46 (.cells #[.slice a len cap] 28)) := hH46.trans (bb59.mono hH46.size)
      have q59 := parts1 v46 a len cap xs (HW.out.1.below hH46) HW.out.2
      refine hK.out _ _ hH59 ?_
      clear hK K bb59
      try simp only [Act.put, List.setIfInBounds_toArray, List.set_cons_zero, List.set_cons_succ]
      generalize World.alloc v46 (.cells #[.slice a len cap] 28) = v59 at *
      generalize (World.heap v46).size = g59 at *
      refine held_one (i := 22) (by kernel_rfl) rfl rfl (fun K hK => ?_)
      go_simp
      have bb60 := below_new v59 (.cells #[] 5)
      have hH60 : Below wc.heap.size wc (World.alloc v59 (.cells #[] 5)) := hH59.trans (bb60.mono hH59.size)
      have p60B := PartsL.below q59 bb60
      refine hK.out _ _ hH60 ?_
      clear hK K bb60
      try simp only [Act.put, List.setIfInBounds_toArray, List.set_cons_zero, List.set_cons_succ]
      generalize World.alloc v59 (.cells #[] 5) = v60 at *
      generalize (World.heap v59).size = g60 at *
      refine held_one (i := 23) (by kernel_rfl) rfl rfl (fun K hK => ?_)
      go_simp
      have bb61 := below_new v60 (.cells #[.slice a k cap, .slice none 0 0, .slice a2 lr cr, .slice (some ⟨g60, 0, none⟩) 0 0] 28)
      have hH61 : Below wc.heap.size wc (World.alloc v60 (.cells #[.slice a k cap, .slice none 0 0, .slice a2 lr cr, .slice (some ⟨g60, 0, none⟩) 0 0] 28)) := hH60.trans (bb61.mono hH60.size)
      have p61B := PartsL.below p60B bb61
      have q61 := parts4 v60 a a2 k cap lr cr g60 X1 X2 (H1.out.1.below hH60) H1.out.2 (H2.out.1.below hH60) H2.out.2
      refine hK.out _ _ hH61 ?_
      clear hK K bb61
      try simp only [Act.put, List.setIfInBounds_toArray, List.set_cons_zero, List.set_cons_succ]
      generalize World.alloc v60 (.cells #[.slice a k cap, .slice none 0 0, .slice a2 lr cr, .slice (some ⟨g60, 0, none⟩) 0 0] 28) = v61 at *
      generalize (World.heap v60).size = g61 at *
      refine held_one (i := 24) (by kernel_rfl) rfl rfl (fun K hK => ?_)
      go_simp
      refine Calls.mono (HS4.out _ g61 hH61 q61) ?_
      rintro e v62 ⟨rfl, hb62⟩
      dsimp only
      have hH62 : Below wc.heap.size wc v62 := hH61.trans (hb62.mono hH61.size)
      have p62B := PartsL.below p61B hb62
      have p62A := PartsL.below q61 hb62
      refine hK.out _ _ hH62 ?_
      clear hK K hb62
      try simp only [Act.put, List.setIfInBounds_toArray, List.set_cons_zero, List.set_cons_succ]
      refine held_one (i := 27) (by kernel_rfl) rfl rfl (fun K hK => ?_)
      go_simp
      refine Calls.mono (HS1.out _ g59 hH62 p62B) ?_
      rintro e v63 ⟨rfl, hb63⟩
      dsimp only
      have hH63 : Below wc.heap.size wc v63 := hH62.trans (hb63.mono hH62.size)
      have p63B := PartsL.below p62B hb63
      refine hK.out _ _ hH63 ?_
      clear hK K hb63
      try simp only [Act.put, List.setIfInBounds_toArray, List.set_cons_zero, List.set_cons_succ]
      refine held_take 28 (some 42) (.bool true) rfl rfl (by kernel_rfl) (by kernel_rfl) (by kernel_rfl) (fun _ _ _ h => h) rfl (fun w' hS => ?_) hH63 ?_
      · clear hS; have heq := HEQ.out; go_simp
      try simp only [Act.put, List.setIfInBounds_toArray, List.set_cons_zero, List.set_cons_succ]
      refine held_take 29 (some 43) (.bool true) rfl rfl (by kernel_rfl) (by kernel_rfl) (by kernel_rfl) (fun _ _ _ h => h) rfl (fun w' hS => ?_) hH63 ?_
      · clear hS; go_simp
      try simp only [Act.put, List.setIfInBounds_toArray, List.set_cons_zero, List.set_cons_succ]
      refine held_take 30 (some 4) (.bool true) rfl rfl (by kernel_rfl) (by kernel_rfl) (by kernel_rfl) (fun _ _ _ h => h) rfl (fun w' hS => ?_) hH63 ?_
      · clear hS; go_simp
      try simp only [Act.put, List.setIfInBounds_toArray, List.set_cons_zero, List.set_cons_succ]
      refine wpAnyH_done (by kernel_rfl) ?_ _
      have hfin := hH63
      go_wp2_with fail
      go_ret
      exact ⟨rfl, hfin⟩
theorem contract (H : Type) (enc : TypeId × Value → H) (W : World) (base : Nat) (args : Array Value) (ds gs : List (DataW H)) (before : List MemPlace)
    (hval : ∀ (j : Nat) t v, Tryd.f6.params[j]? = some t → args[j]? = some v → Value.okWide Tryd.prog W .any base t v)
    (hW : DataW.Whole enc Tryd.prog Tryd.f6.params.toList Rows.shaCutsSpec.vars false W args.toList ds gs before)
    (hsz : (DataW.weightsEach Tryd.prog (Tryd.f6.params.toList ++ (OpenSpec.ofChange Rows.shaCutsSpec).bare.plain.varTypes Tryd.prog) (ds ++ gs)).all (· ≤ reachBytes) = true) (hL : laidMetH Tryd.prog Rows.shaCutsRow.laid W) :
    Calls Tryd.prog 6 args W fun e W' => ∃ v, e = .returned v ∧ Rows.shaCutsSpec.post enc Tryd.prog Tryd.f6 false true false false W args v W' := by
  have hW' := hW
  obtain ⟨p, q, hA0, hV, rfl, hfz, hnd⟩ := hW
  have hA : DataW.TrodAll enc Tryd.prog W 0 (fun _ => true) true Tryd.f6.params.toList args.toList ds p := hA0
  rw [Tryd.params6] at hA hval hsz
  obtain ⟨v0, vs0, d0, ds0, p0, q0, hargs, rfl, rfl, h0, r0⟩ := trodAll_cons hA
  obtain ⟨v1, vs1, d1, ds1, p1, q1, rfl, rfl, rfl, h1, r1⟩ := trodAll_cons r0
  obtain ⟨rfl, rfl, rfl⟩ := trodAll_nil r1
  obtain rfl : args = #[v0, v1] := by cases args; simp_all
  obtain ⟨rfl, rfl⟩ := trodVars_none hV
  obtain ⟨a0, len0, cap0, rfl⟩ := okWide_slice Tryd.underlying28 (hval 0 28 v0 rfl rfl)
  have k0 := h0
  have lt0 : ∀ x ∈ p0, x.block < W.heap.size := by obtain ⟨m, hm⟩ := k0; exact DataW.trod_lt m _ _ _ hm
  obtain ⟨x0, w0, re0⟩ : ∃ xs, ArgL W a0 len0 cap0 xs ∧ cap0 ≤ 140737488351232 := by
    obtain ⟨fuel, hf⟩ := h0
    rcases open_ints Tryd.underlying28 Tryd.underlying5 (by kernel_rfl) hf with ⟨hcs, _⟩ | ⟨x, l, c, zs, hcs, _, hl, hm, hz, hx, hcell, hwz⟩
    · simp [Value.cells] at hcs
      obtain ⟨rfl, rfl, rfl⟩ := hcs
      exact ⟨_, arg_at (.inl ⟨rfl, rfl, rfl, rfl⟩), by omega⟩
    · simp [Value.cells] at hcs
      obtain ⟨rfl, rfl, rfl⟩ := hcs
      have hd := congrArg Prod.fst hx
      simp only [] at hd
      have hz' : zs.length = cap0 := by simpa using hz
      have hb := sized_slice hsz (j := 0) (t := 28) (e := 5) rfl (by rw [hd]; rfl) Tryd.underlying28
      have hby : Tryd.prog.bytesOf 5 = 1 := by kernel_rfl
      rw [hby] at hb
      simp only [lits, List.length_map, List.length_take, List.length_drop, reachBytes] at hb
      exact ⟨_, arg_at (.inr ⟨_, rfl, hl, hm, hz', hcell, hwz⟩), by omega⟩
  obtain ⟨a1, rfl, rfl, rfl, w1⟩ := open_int Tryd.underlying37 (hval 1 37 v1 rfl rfl) h1
  clear hA0 hsz
  refine (walk W (table hL) a0 len0 cap0 x0 w0 re0 a1 w1).mono fun e W' ⟨he, bel⟩ => ?_
  subst he
  exact ⟨_, rfl, _, _, _, [], _, [], hW', trodAll_mk1 (shut_bool Tryd.underlying4 _), (trodAll_cons_mk (Below.trod laidOut (by kernel_rfl) (of_decide_eq_true (by kernel_rfl)) k0 bel lt0) (trodAll_cons_mk (shut_int Tryd.underlying37 w1) trodAll_mk0)), rfl, bel.frame _, fun h => by cases h⟩
set_option maxRecDepth 100000 in
theorem lifted (os : Os) (started : os.Started) (H : Type) (enc : TypeId × Value → H) (I : Stop.Interp) :
    ReturnsInHanded {} Tryd.checked os 6 .any ((OpenSpec.ofChange Rows.shaCutsSpec).preRow enc Tryd.prog Tryd.f6 Rows.shaCutsRow.domain false Rows.shaCutsRow.laid) (((OpenSpec.ofChange Rows.shaCutsSpec).at I).post enc Tryd.prog Tryd.f6 false true false false) := by
  refine returnsInHanded_of_row (C := Tryd.checked) (s := (OpenSpec.ofChange Rows.shaCutsSpec)) own started (by kernel_rfl) Tryd.func6
    (witness_row_at (enc := enc) (C := Tryd.checked) false { World.holding Tryd.prog os ⟨#[], #[], []⟩ with heap := (World.holding Tryd.prog os ⟨#[], #[], []⟩).heap.modify 0 fun
        | .cells _ t frozen => .cells #[.int .u32 1116352408, .int .u32 1899447441, .int .u32 3049323471, .int .u32 3921009573, .int .u32 961987163, .int .u32 1508970993, .int .u32 2453635748, .int .u32 2870763221, .int .u32 3624381080, .int .u32 310598401, .int .u32 607225278, .int .u32 1426881987, .int .u32 1925078388, .int .u32 2162078206, .int .u32 2614888103, .int .u32 3248222580, .int .u32 3835390401, .int .u32 4022224774, .int .u32 264347078, .int .u32 604807628, .int .u32 770255983, .int .u32 1249150122, .int .u32 1555081692, .int .u32 1996064986, .int .u32 2554220882, .int .u32 2821834349, .int .u32 2952996808, .int .u32 3210313671, .int .u32 3336571891, .int .u32 3584528711, .int .u32 113926993, .int .u32 338241895, .int .u32 666307205, .int .u32 773529912, .int .u32 1294757372, .int .u32 1396182291, .int .u32 1695183700, .int .u32 1986661051, .int .u32 2177026350, .int .u32 2456956037, .int .u32 2730485921, .int .u32 2820302411, .int .u32 3259730800, .int .u32 3345764771, .int .u32 3516065817, .int .u32 3600352804, .int .u32 4094571909, .int .u32 275423344, .int .u32 430227734, .int .u32 506948616, .int .u32 659060556, .int .u32 883997877, .int .u32 958139571, .int .u32 1322822218, .int .u32 1537002063, .int .u32 1747873779, .int .u32 1955562222, .int .u32 2024104815, .int .u32 2227730452, .int .u32 2361852424, .int .u32 2428436474, .int .u32 2756734187, .int .u32 3204031479, .int .u32 3329325298] t frozen
        | o => o } #[.slice none 0 0, .int .u16 0] rfl (by kernel_rfl) (by kernel_rfl) (by kernel_rfl)
      (OpenSpec.preRow_of_cond 8 (x := ([.nil, .lit (.int .u16 0)], [], [])) (by kernel_rfl) (by kernel_rfl) (fun k hk => by cases hk) (by kernel_rfl) (laidMet_of_run' 8 (by kernel_rfl) (by kernel_rfl)))) ?_
  intro W base args ds gs before hval hW _ hcond hsz hL _ _
  exact contract H enc W base args ds gs before hval hW hsz hL
theorem said : Rows.ShaCutsSaid :=
  OpenClaim.holds_of_cond 6 Tryd.f6 rfl rfl rfl rfl rfl rfl rfl ⟨rfl, rfl, rfl, rfl, rfl⟩ rfl rfl rfl rfl rfl (by kernel_rfl) Tryd.func6 (by kernel_rfl)
    (of_decide_eq_true (by kernel_rfl)) (by unfold Func.isWrapper; first | (rw [if_pos (by decide +kernel)]; kernel_rfl) | (rw [if_neg (by decide +kernel)]; exact ⟨rfl, rfl⟩))
    (fun os started H enc _ I => by rw [OpenClaim.pre_eq_preRow]; exact lifted os started H enc I)
theorem plain (f : FuncId) (fn : Func) (hf : Tryd.pinned.checked.prog.funcNamed Rows.shaCutsRow.func = some f) (hfn : Tryd.pinned.checked.prog.funcs[f]? = some fn) :
    false = Tryd.pinned.checked.prog.looks [] ∧ ∀ (j : Nat) t, fn.params[j]? = some t → Tryd.pinned.checked.prog.wantsStandIn t = false := by
  obtain rfl : f = 6 := Option.some.inj ((show Tryd.prog.funcNamed Rows.shaCutsRow.func = some 6 by kernel_rfl).symm.trans hf) |>.symm
  obtain rfl : fn = Tryd.f6 := (Option.some.inj (Tryd.func6.symm.trans hfn)).symm
  refine ⟨by kernel_rfl, fun j t ht => ?_⟩
  rw [Tryd.params6] at ht
  have hm := Array.mem_of_getElem? ht
  simp only [List.mem_toArray, List.mem_cons, List.not_mem_nil, or_false] at hm
  rcases hm with rfl | rfl
  · exact (show Tryd.prog.wantsStandIn 28 = false by kernel_rfl)
  · exact (show Tryd.prog.wantsStandIn 37 = false by kernel_rfl)
theorem card : Rows.ShaCutsCardSaid :=
  Claim7.holds_tied_plain_at .later [] _ _ _ _ said (fun _ h => by cases h) (by kernel_rfl) (fun _ h => by cases h) shaCuts_row_tie rfl ⟨rfl, rfl⟩ (by kernel_rfl) rfl plain (by kernel_rfl)
#print axioms card
end Go.Proofs.YtmaaakcfbekboaaDoor.shaCuts
