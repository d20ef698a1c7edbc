/-
  The program's mode: binds, Sound, Good, Held, Erase, Covers, refuses, Retain, Begin as functions of numbers.
-/
import Derived.Test.YtoaegepphkocoaaModeRef3
import Derived.Test.YtoaegepphkocoaaWhenClamp
import Derived.Test.YtoaegepphkocoaaHeldMore
namespace Go.Proofs.Ytoaegepphkocoaa
open Go.ChangeShapes Go.WideShapes Go.ChangeAt Go.RowKit
set_option linter.unusedVariables false
set_option linter.unusedSimpArgs false
theorem mbinds_any (m u : Int) (h : Bool) (t : Int) (w : World) :
    Calls Try.prog 26 #[lockV m u h, .int .i64 t] w fun e w' => e = .returned (.bool (bindsL m u t)) ∧ Below w.heap.size w w' := by
  by_cases m0 : m = 0
  · subst m0
    go_enter Try.func26, Try.ntmps26
    go_wp2
    go_ret
    exact ⟨rfl, below_new w _⟩
  · have m0i : (m != 0) = true := bne_iff_ne.2 m0
    have HS : Hid (bindsL m u t = decide (t < u)) := by unfold Hid bindsL; rw [if_neg m0]
    go_enter Try.func26, Try.ntmps26
    go_wp2
    go_ret
    exact ⟨by rw [HS.out]; rfl, below_new w _⟩
theorem mheld_any (m u : Int) (h : Bool) (t : Int) (w : World) :
    Calls Try.prog 14 #[lockV m u h, .int .i64 t] w fun e w' => e = .returned (.bool (heldL m u h t)) ∧ Below w.heap.size w w' := by
  cases h with
  | true =>
    go_enter Try.func14, Try.ntmps14
    go_wp2
    go_ret
    exact ⟨rfl, below_new w _⟩
  | false =>
    go_enter Try.func14, Try.ntmps14
    go_wp2_with fail
    refine (mbinds_any m u false t _).mono ?_
    rintro e w1 ⟨rfl, hb⟩
    have HB : Hid (Below w.heap.size w w1) := (below_new w _).trans (hb.mono (by simp))
    clear hb
    go_wp2_with fail
    go_ret
    exact ⟨rfl, HB.out⟩
theorem mgood_any (m d : Int) (w : World) :
    Calls Try.prog 12 #[defV m d] w fun e w' => e = .returned (.bool (goodD m d)) ∧ Below w.heap.size w w' := by
  go_enter Try.func12, Try.ntmps12
  by_cases m0 : m = 0
  · subst m0
    have HS : Hid (goodD 0 d = (d == 0)) := by unfold Hid goodD; rw [if_pos rfl]; by_cases h : d = 0 <;> simp [h]
    go_wp2
    go_ret
    exact ⟨by rw [HS.out]; rfl, below_new w _⟩
  · by_cases m1 : m = 1
    · subst m1
      have HS : Hid (goodD 1 d = (decide (1 ≤ d) && decide (d ≤ 36500))) := by unfold Hid goodD; simp
      clear m0
      go_wp2
      all_goals (go_ret; exact ⟨by rw [HS.out]; first | rfl | (show Ending.returned (.bool _) = Ending.returned (.bool _); congr 2; simp [*] <;> omega), below_new w _⟩)
    · by_cases m2 : m = 2
      · subst m2
        have HS : Hid (goodD 2 d = (decide (1 ≤ d) && decide (d ≤ 36500))) := by unfold Hid goodD; simp
        clear m0 m1
        go_wp2
        all_goals (go_ret; exact ⟨by rw [HS.out]; first | rfl | (show Ending.returned (.bool _) = Ending.returned (.bool _); congr 2; simp [*] <;> omega), below_new w _⟩)
      · have HS : Hid (goodD m d = false) := by unfold Hid goodD; simp [m0, m1, m2]
        have m0i : (m == 0) = false := beq_eq_false_iff_ne.2 m0
        have m1i : (m == 1) = false := beq_eq_false_iff_ne.2 m1
        have m2i : (m == 2) = false := beq_eq_false_iff_ne.2 m2
        clear m0 m1 m2
        go_wp2
        go_ret
        exact ⟨by rw [HS.out]; rfl, below_new w _⟩
set_option maxHeartbeats 1000000 in
theorem msound_any (m u : Int) (h : Bool) (w : World) :
    Calls Try.prog 10 #[lockV m u h] w fun e w' => e = .returned (.bool (soundL m u)) ∧ Below w.heap.size w w' := by
  by_cases m0 : m = 0
  · subst m0
    have HS : Hid (soundL 0 u = (u == 0)) := sound_zero u
    go_enter Try.func10, Try.ntmps10
    go_wp2
    go_ret
    exact ⟨by rw [HS.out]; rfl, below_new w _⟩
  · have m0i : (m == 0) = false := beq_eq_false_iff_ne.2 m0
    have hS := LockS.new w m u h
    have HSS : Hid (LockS w w.heap.size m u h (w.alloc (.cells #[.int .i64 m, .int .i64 u, .bool h] 23)).drew) := hS
    have hne := InS.some hS
    have q0 : ∀ p : InS (LockS w w.heap.size m u h), p.w.cell? ⟨w.heap.size, 0, none⟩ = some (.int .i64 m) := fun p => p.h.1.1
    have q1 : ∀ p : InS (LockS w w.heap.size m u h), p.w.cell? ⟨w.heap.size, 1, none⟩ = some (.int .i64 u) := fun p => p.h.1.2.1
    have HC : Hid (∀ p : InS (LockS w w.heap.size m u h), Calls Try.prog 25 #[.int .i64 u] p.w fun e w' => e = .returned (.int .i64 (clampN u)) ∧ LockS w w.heap.size m u h w') := fun p =>
      (clamp_any u p.w).mono fun e w' ⟨he, hw⟩ => ⟨he, by rw [hw]; exact p.h⟩
    clear hS
    go_enter Try.func10, Try.ntmps10
    by_cases h12 : m = 1 ∨ m = 2
    · have HS : Hid (soundL m u = (clampN u == u)) := sound_one u h12
      rcases h12 with rfl | rfl <;>
      · go_wp2_with fail
        refine wp_region_in (S := LockS w w.heap.size _ u h) (by kernel_rfl) (by kernel_rfl) HSS.out ?_
        repeat (go_big_quiet_step (refine Calls.in_of (HC.out _)))
        refine wpQuiet_nil ?_
        rintro _ ⟨p, rfl⟩
        have HB : Hid (Below w.heap.size w p.w) := p.h.2.2
        generalize p.w = w1 at *
        clear hne q0 q1 HC
        go_wp2_with fail
        go_ret
        exact ⟨by rw [HS.out]; show Ending.returned (.bool _) = Ending.returned (.bool _); congr 2; exact Bool.beq_comm, HB.out⟩
    · have m1i : (m == 1) = false := beq_eq_false_iff_ne.2 (fun e => h12 (.inl e))
      have m2i : (m == 2) = false := beq_eq_false_iff_ne.2 (fun e => h12 (.inr e))
      have HS : Hid (soundL m u = false) := sound_other u m0 (fun e => h12 (.inl e)) (fun e => h12 (.inr e))
      clear hne q0 q1 HC
      go_wp2_with fail
      go_ret
      exact ⟨by rw [HS.out]; rfl, below_new w _⟩
theorem merase_any (m u : Int) (h : Bool) (t : Int) (b : Bool) (w : World) :
    Calls Try.prog 16 #[lockV m u h, .int .i64 t, .bool b] w fun e w' => e = .returned (.int .i64 (eraseL m u h t b : Nat)) ∧ Below w.heap.size w w' := by
  have HC0 : Hid (LockC (w.alloc (.cells #[.int .i64 m, .int .i64 u, .bool h] 23)) w.heap.size m u h) := LockC.new w m u h
  have HB0 : Hid (Below w.heap.size w (w.alloc (.cells #[.int .i64 m, .int .i64 u, .bool h] 23))) := below_new w _
  go_enter Try.func16, Try.ntmps16
  go_wp2_with fail
  refine (msound_any m u h _).mono ?_
  rintro e w1 ⟨rfl, hb1⟩
  have HC1 : Hid (LockC w1 w.heap.size m u h ∧ Below w.heap.size w w1) := ⟨HC0.out.keep hb1, HB0.out.trans (hb1.mono HB0.out.size)⟩
  clear hb1 HC0 HB0
  show _
  cases hs : soundL m u with
  | false =>
    have HE : Hid (eraseL m u h t b = 2) := by unfold Hid eraseL; rw [if_pos hs]
    clear hs
    go_wp2
    go_ret
    exact ⟨by rw [HE.out]; rfl, HC1.out.2⟩
  | true =>
    have hm : m = 0 ∨ m = 1 ∨ m = 2 := by
      by_cases a0 : m = 0
      · exact .inl a0
      · by_cases a1 : m = 1
        · exact .inr (.inl a1)
        · by_cases a2 : m = 2
          · exact .inr (.inr a2)
          · rw [sound_other u a0 a1 a2] at hs; cases hs
    obtain ⟨⟨k0, k1, k2⟩, -⟩ := HC1.out.1
    cases h with
    | true =>
      have HE : Hid (eraseL m u true t b = 13) := by unfold Hid eraseL; rw [if_neg (by rw [hs]; decide), if_pos rfl]
      clear hs
      go_wp2
      go_ret
      exact ⟨by rw [HE.out]; rfl, HC1.out.2⟩
    | false =>
      have HE : Hid (eraseL m u false t b = if bindsL m u t = true ∧ (m = 2 ∨ b = false) then 13 else 0) := by unfold Hid eraseL; rw [if_neg (by rw [hs]; decide), if_neg (by decide)]
      clear hs
      go_wp2_with fail
      refine (mbinds_any m u false t _).mono ?_
      rintro e w2 ⟨rfl, hb2⟩
      have HC2 : Hid (LockC w2 w.heap.size m u false ∧ Below w.heap.size w w2) := ⟨HC1.out.1.keep hb2, HC1.out.2.trans (hb2.mono HC1.out.2.size)⟩
      clear hb2 k0 k1 k2 HC1
      obtain ⟨⟨k0, k1, k2⟩, -⟩ := HC2.out.1
      show _
      cases hbd : bindsL m u t with
      | false =>
        rw [hbd] at HE
        clear hbd
        go_wp2
        go_ret
        exact ⟨by rw [HE.out]; rfl, HC2.out.2⟩
      | true =>
        rw [hbd] at HE
        rcases hm with rfl | rfl | rfl
        · exact absurd hbd (by simp [bindsL])
        all_goals
          clear hbd
          cases b <;>
          · go_wp2
            all_goals (go_ret; exact ⟨by rw [HE.out]; simp [*], HC2.out.2⟩)
set_option maxHeartbeats 1000000 in
theorem mcovers_any (m u : Int) (h : Bool) (m2 u2 : Int) (h2 : Bool) (t : Int) (w : World) :
    Calls Try.prog 22 #[lockV m u h, lockV m2 u2 h2, .int .i64 t] w fun e w' => e = .returned (.bool (coversL m u h m2 u2 h2 t)) ∧ Below w.heap.size w w' := by
  obtain ⟨w0, hw0⟩ : ∃ w0, w0 = (w.alloc (.cells #[.int .i64 m, .int .i64 u, .bool h] 23)).alloc (.cells #[.int .i64 m2, .int .i64 u2, .bool h2] 23) := ⟨_, rfl⟩
  have HW : Hid (LockB w0 w.heap.size m u h ∧ LockB w0 (w.heap.size + 1) m2 u2 h2 ∧ Below w.heap.size w w0) := by
    rw [hw0]
    have k1 := LockB.new w m u h
    have k2 := LockB.new (w.alloc (.cells #[.int .i64 m, .int .i64 u, .bool h] 23)) m2 u2 h2
    rw [show (w.alloc (.cells #[.int .i64 m, .int .i64 u, .bool h] 23)).heap.size = w.heap.size + 1 by simp] at k2
    exact ⟨k1.below (below_new _ _), k2, (below_new w _).alloc (by simp) _⟩
  by_cases hh : h2 = true ∧ h = false
  · obtain ⟨rfl, rfl⟩ := hh
    go_enter Try.func22, Try.ntmps22
    go_wp2
    rw [← hw0]
    go_ret
    exact ⟨rfl, HW.out.2.2⟩
  · cases h2 <;> cases h
    case true.false => exact absurd ⟨rfl, rfl⟩ hh
    all_goals
      clear hh
      go_enter Try.func22, Try.ntmps22
      go_wp2_with fail
      rw [← hw0]
      refine (mbinds_any m2 u2 _ t w0).mono ?_
      rintro e w1 ⟨rfl, hb1⟩
      have HW1 : Hid _ := And.intro (HW.out.1.below hb1) (And.intro (HW.out.2.1.below hb1) (HW.out.2.2.trans (hb1.mono HW.out.2.2.size)))
      clear hb1 HW hw0
      obtain ⟨⟨k0, k1, k2⟩, -⟩ := HW1.out.1.cells
      obtain ⟨⟨n0, n1, n2⟩, -⟩ := HW1.out.2.1.cells
      show _
      cases hbd : bindsL m2 u2 t <;>
      · go_wp2
        all_goals (go_ret; exact ⟨by show Ending.returned (.bool _) = Ending.returned (.bool _); first | rfl | (congr 2; first | (simp [coversL, *]; done) | (simp [coversL, *]; omega)), HW1.out.2.2⟩)
theorem retain_form (m u : Int) (h : Bool) (m2 u2 t : Int) (b : Bool) : ∃ x y z, retainV m u h m2 u2 t b = lockV x y z := by unfold retainV; split <;> exact ⟨_, _, _, rfl⟩
theorem begin_form (m d t : Int) : ∃ x y z, beginV m d t = lockV x y z := by unfold beginV; split <;> exact ⟨_, _, _, rfl⟩
/-- What a lock refuses to become. -/
def refusesL (m u m2 u2 t : Int) (b : Bool) : Bool := bindsL m u t && (if m = 2 then (m2 != 2) || decide (u2 < u) else (!b) && ((m2 == 0) || decide (u2 < u)))
set_option maxHeartbeats 1000000 in
theorem mrefuses_any (m u : Int) (h : Bool) (m2 u2 : Int) (h2 : Bool) (t : Int) (b : Bool) (w : World) :
    Calls Try.prog 28 #[lockV m u h, lockV m2 u2 h2, .int .i64 t, .bool b] w fun e w' => e = .returned (.bool (refusesL m u m2 u2 t b)) ∧ Below w.heap.size w w' := by
  obtain ⟨w0, hw0⟩ : ∃ w0, w0 = (w.alloc (.cells #[.int .i64 m, .int .i64 u, .bool h] 23)).alloc (.cells #[.int .i64 m2, .int .i64 u2, .bool h2] 23) := ⟨_, rfl⟩
  have HW : Hid (LockB w0 w.heap.size m u h ∧ LockB w0 (w.heap.size + 1) m2 u2 h2 ∧ Below w.heap.size w w0) := by
    rw [hw0]
    have k1 := LockB.new w m u h
    have k2 := LockB.new (w.alloc (.cells #[.int .i64 m, .int .i64 u, .bool h] 23)) m2 u2 h2
    rw [show (w.alloc (.cells #[.int .i64 m, .int .i64 u, .bool h] 23)).heap.size = w.heap.size + 1 by simp] at k2
    exact ⟨k1.below (below_new _ _), k2, (below_new w _).alloc (by simp) _⟩
  go_enter Try.func28, Try.ntmps28
  go_wp2_with fail
  rw [← hw0]
  refine (mbinds_any m u h t w0).mono ?_
  rintro e w1 ⟨rfl, hb1⟩
  have HW1 : Hid _ := And.intro (HW.out.1.below hb1) (And.intro (HW.out.2.1.below hb1) (HW.out.2.2.trans (hb1.mono HW.out.2.2.size)))
  clear hb1 HW hw0
  obtain ⟨⟨k0, k1, k2⟩, -⟩ := HW1.out.1.cells
  obtain ⟨⟨n0, n1, n2⟩, -⟩ := HW1.out.2.1.cells
  show _
  cases hbd : bindsL m u t with
  | false =>
    have HE : Hid (refusesL m u m2 u2 t b = false) := by unfold Hid refusesL; rw [hbd]; rfl
    clear hbd
    go_wp2
    go_ret
    exact ⟨by rw [HE.out]; rfl, HW1.out.2.2⟩
  | true =>
    by_cases c : m = 2
    · subst c
      have HE : Hid (refusesL 2 u m2 u2 t b = ((m2 != 2) || decide (u2 < u))) := by unfold Hid refusesL; rw [hbd, if_pos rfl]; rfl
      clear hbd
      by_cases c2 : m2 = 2
      · subst c2
        go_wp2
        go_ret
        exact ⟨by rw [HE.out]; rfl, HW1.out.2.2⟩
      · have f1 : (m2 != 2) = true := bne_iff_ne.2 c2
        go_wp2
        go_ret
        exact ⟨by rw [HE.out, f1]; rfl, HW1.out.2.2⟩
    · have f0 : (m == 2) = false := beq_eq_false_iff_ne.2 c
      have HE : Hid (refusesL m u m2 u2 t b = ((!b) && ((m2 == 0) || decide (u2 < u)))) := by unfold Hid refusesL; rw [hbd, if_neg c]; rfl
      clear hbd
      cases b with
      | true =>
        go_wp2
        go_ret
        exact ⟨by rw [HE.out]; rfl, HW1.out.2.2⟩
      | false =>
        by_cases c2 : m2 = 0
        · subst c2
          go_wp2
          go_ret
          exact ⟨by rw [HE.out]; rfl, HW1.out.2.2⟩
        · have f1 : (m2 == 0) = false := beq_eq_false_iff_ne.2 c2
          go_wp2
          go_ret
          exact ⟨by rw [HE.out, f1]; rfl, HW1.out.2.2⟩
theorem mret_as {m u : Int} {h : Bool} {m2 u2 t : Int} {b : Bool} {e : Nat} (he : retainE m u m2 u2 t b = e) : retainE m u m2 u2 t b = e ∧ retainV m u h m2 u2 t b = if e = 0 then lockV m2 u2 h else lockV 0 0 false := ⟨he, by unfold retainV; rw [he]⟩
theorem retain_refuses {m u m2 u2 t : Int} {b : Bool} (hs : soundL m u = true) (hs2 : soundL m2 u2 = true) (h4 : ¬ (m2 ≠ 0 ∧ u2 ≤ t)) : retainE m u m2 u2 t b = if refusesL m u m2 u2 t b = true then 13 else 0 := by
  have hm : m = 0 ∨ m = 1 ∨ m = 2 := by
    by_cases a0 : m = 0
    · exact .inl a0
    · by_cases a1 : m = 1
      · exact .inr (.inl a1)
      · by_cases a2 : m = 2
        · exact .inr (.inr a2)
        · rw [sound_other u a0 a1 a2] at hs; cases hs
  unfold retainE
  rw [if_neg (by simp [hs, hs2]), if_neg h4]
  unfold refusesL
  rcases hm with rfl | rfl | rfl
  · simp [bindsL]
  · cases bindsL 1 u t <;> cases b <;> simp
  · cases bindsL 2 u t <;> cases b <;> simp
set_option maxHeartbeats 2000000 in
theorem mretain_any (m u : Int) (h : Bool) (m2 u2 t : Int) (b : Bool) (w : World) :
    Calls Try.prog 18 #[lockV m u h, .int .i64 m2, .int .i64 u2, .int .i64 t, .bool b] w fun e w' => e = .returned (.tuple #[retainV m u h m2 u2 t b, .int .i64 (retainE m u m2 u2 t b : Nat)]) ∧ Below w.heap.size w w' := by
  obtain ⟨w0, hw0⟩ : ∃ w0, w0 = ((w.alloc (.cells #[.int .i64 m, .int .i64 u, .bool h] 23)).alloc (.cells #[.int .i64 0, .int .i64 0, .bool false] 23)).alloc (.cells #[.int .i64 m2, .int .i64 u2, .bool h] 23) := ⟨_, rfl⟩
  have HW : Hid (LockB w0 w.heap.size m u h ∧ LockB w0 (w.heap.size + 1) 0 0 false ∧ LockB w0 (w.heap.size + 1 + 1) m2 u2 h ∧ Below w.heap.size w w0) := by
    rw [hw0]
    have k1 := LockB.new w m u h
    have k2 := LockB.new (w.alloc (.cells #[.int .i64 m, .int .i64 u, .bool h] 23)) 0 0 false
    have k3 := LockB.new ((w.alloc (.cells #[.int .i64 m, .int .i64 u, .bool h] 23)).alloc (.cells #[.int .i64 0, .int .i64 0, .bool false] 23)) m2 u2 h
    rw [show (w.alloc (.cells #[.int .i64 m, .int .i64 u, .bool h] 23)).heap.size = w.heap.size + 1 by simp] at k2
    rw [show ((w.alloc (.cells #[.int .i64 m, .int .i64 u, .bool h] 23)).alloc (.cells #[.int .i64 0, .int .i64 0, .bool false] 23)).heap.size = w.heap.size + 1 + 1 by simp] at k3
    exact ⟨(k1.below (below_new _ _)).below (below_new _ _), k2.below (below_new _ _), k3, ((below_new w _).alloc (by simp) _).alloc (by simp; omega) _⟩
  go_enter Try.func18, Try.ntmps18
  go_wp2_with fail
  rw [← hw0]
  refine (msound_any m u h w0).mono ?_
  rintro e w1 ⟨rfl, hb1⟩
  have HW1 : Hid (LockB w1 w.heap.size m u h ∧ LockB w1 (w.heap.size + 1) 0 0 false ∧ LockB w1 (w.heap.size + 1 + 1) m2 u2 h ∧ Below w.heap.size w w1) := ⟨HW.out.1.below hb1, HW.out.2.1.below hb1, HW.out.2.2.1.below hb1, HW.out.2.2.2.trans (hb1.mono HW.out.2.2.2.size)⟩
  clear hb1 HW hw0
  show _
  obtain ⟨⟨k0, k1, k2⟩, -⟩ := HW1.out.1.cells
  obtain ⟨⟨n0, n1, n2⟩, -⟩ := HW1.out.2.2.1.cells
  cases hs : soundL m u with
  | false =>
    have HE : Hid _ := mret_as (h := h) (show retainE m u m2 u2 t b = 2 by unfold retainE; rw [if_pos (.inl hs)])
    clear hs
    have HS : Hid _ := lock_end (w := w) (R := (w.heap.size + 1)) HW1.out.2.2.2 (by omega) HW1.out.2.1 0 0 false
    go_wp2_with (refine store_op rfl 23 _ _ rfl ⟨w.heap.size + 1, 0, none⟩ rfl _ rfl HS.out.1 ?_)
    refine bodyPost_ret (v := .tuple #[lockV 0 0 false, .int .i64 2]) ?_ rfl ⟨by rw [HE.out.1, HE.out.2]; rfl, HS.out.2.1⟩
    refine (results_ct (fn := Try.f18) rfl _ _ _ (w.heap.size + 1) ?_ _ HS.out.2.2).trans ?_ <;> rfl
  | true =>
    go_wp2_with fail
    refine (msound_any m2 u2 h w1).mono ?_
    rintro e w2 ⟨rfl, hb2⟩
    have HW2 : Hid (LockB w2 w.heap.size m u h ∧ LockB w2 (w.heap.size + 1) 0 0 false ∧ LockB w2 (w.heap.size + 1 + 1) m2 u2 h ∧ Below w.heap.size w w2) := ⟨HW1.out.1.below hb2, HW1.out.2.1.below hb2, HW1.out.2.2.1.below hb2, HW1.out.2.2.2.trans (hb2.mono HW1.out.2.2.2.size)⟩
    clear hb2 HW1 k0 k1 k2 n0 n1 n2
    show _
    obtain ⟨⟨k0, k1, k2⟩, -⟩ := HW2.out.1.cells
    obtain ⟨⟨n0, n1, n2⟩, -⟩ := HW2.out.2.2.1.cells
    cases hs2 : soundL m2 u2 with
    | false =>
      have HE : Hid _ := mret_as (h := h) (show retainE m u m2 u2 t b = 2 by unfold retainE; rw [if_pos (.inr hs2)])
      clear hs hs2
      have HS : Hid _ := lock_end (w := w) (R := (w.heap.size + 1)) HW2.out.2.2.2 (by omega) HW2.out.2.1 0 0 false
      go_wp2_with (refine store_op rfl 23 _ _ rfl ⟨w.heap.size + 1, 0, none⟩ rfl _ rfl HS.out.1 ?_)
      refine bodyPost_ret (v := .tuple #[lockV 0 0 false, .int .i64 2]) ?_ rfl ⟨by rw [HE.out.1, HE.out.2]; rfl, HS.out.2.1⟩
      refine (results_ct (fn := Try.f18) rfl _ _ _ (w.heap.size + 1) ?_ _ HS.out.2.2).trans ?_ <;> rfl
    | true =>
      by_cases h4 : m2 ≠ 0 ∧ u2 ≤ t
      · have q1 : (m2 != 0) = true := bne_iff_ne.2 h4.1
        have q2 : u2 ≤ t := h4.2
        have HE : Hid _ := mret_as (h := h) (show retainE m u m2 u2 t b = 4 by unfold retainE; rw [if_neg (by simp [hs, hs2]), if_pos h4])
        clear hs hs2 h4
        have HS : Hid _ := lock_end (w := w) (R := (w.heap.size + 1)) HW2.out.2.2.2 (by omega) HW2.out.2.1 0 0 false
        go_wp2_with (refine store_op rfl 23 _ _ rfl ⟨w.heap.size + 1, 0, none⟩ rfl _ rfl HS.out.1 ?_)
        refine bodyPost_ret (v := .tuple #[lockV 0 0 false, .int .i64 4]) ?_ rfl ⟨by rw [HE.out.1, HE.out.2]; rfl, HS.out.2.1⟩
        refine (results_ct (fn := Try.f18) rfl _ _ _ (w.heap.size + 1) ?_ _ HS.out.2.2).trans ?_ <;> rfl
      · have HE0 : Hid (retainE m u m2 u2 t b = if refusesL m u m2 u2 t b = true then 13 else 0) := retain_refuses hs hs2 h4
        have q0 : m2 = 0 ∨ (m2 ≠ 0 ∧ ¬ u2 ≤ t) := by omega
        have HB : Hid (Calls Try.prog 28 #[lockV m u h, lockV m2 u2 h, .int .i64 t, .bool b] w2 fun e w' => e = .returned (.bool (refusesL m u m2 u2 t b)) ∧ LockB w' (w.heap.size) m u h ∧ LockB w' (w.heap.size + 1) 0 0 false ∧ LockB w' (w.heap.size + 1 + 1) m2 u2 h ∧ Below w.heap.size w w') := (mrefuses_any m u h m2 u2 h t b w2).mono fun e w' ⟨he, hb⟩ => ⟨he, HW2.out.1.below hb, HW2.out.2.1.below hb, HW2.out.2.2.1.below hb, HW2.out.2.2.2.trans (hb.mono HW2.out.2.2.2.size)⟩
        clear hs hs2 h4
        have q3 : (m2 != 0) = false ∨ ((m2 != 0) = true ∧ ¬ u2 ≤ t) := q0.imp (fun e => by simp [e]) (fun e => ⟨bne_iff_ne.2 e.1, e.2⟩)
        clear q0
        rcases q3 with q2 | ⟨q2, q1⟩ <;>
        · go_wp2_with fail
          refine Calls.mono HB.out ?_
          rintro e w3 ⟨rfl, hw3⟩
          have HW3 : Hid _ := hw3
          clear hw3 HW2 HB k0 k1 k2 n0 n1 n2
          obtain ⟨⟨k0, k1, k2⟩, -⟩ := HW3.out.1.cells
          obtain ⟨⟨n0, n1, n2⟩, -⟩ := HW3.out.2.2.1.cells
          show _
          have HS0 : Hid _ := lock_end (w := w) (R := w.heap.size + 1) HW3.out.2.2.2 (by omega) HW3.out.2.1 0 0 false
          have HS1 : Hid _ := lock_end (w := w) (R := w.heap.size + 1) HW3.out.2.2.2 (by omega) HW3.out.2.1 m2 u2 h
          cases hr : refusesL m u m2 u2 t b with
          | true =>
            have HE : Hid _ := mret_as (h := h) (show retainE m u m2 u2 t b = 13 by rw [HE0.out, hr]; rfl)
            clear hr
            go_wp2_with (refine store_op rfl 23 _ _ rfl ⟨w.heap.size + 1, 0, none⟩ rfl _ rfl HS0.out.1 ?_)
            refine bodyPost_ret (v := .tuple #[lockV 0 0 false, .int .i64 13]) ?_ rfl ⟨by rw [HE.out.1, HE.out.2]; rfl, HS0.out.2.1⟩
            refine (results_ct (fn := Try.f18) rfl _ _ _ (w.heap.size + 1) ?_ _ HS0.out.2.2).trans ?_ <;> rfl
          | false =>
            have HE : Hid _ := mret_as (h := h) (show retainE m u m2 u2 t b = 0 by rw [HE0.out, hr]; rfl)
            clear hr
            go_wp2_with (refine store_op rfl 23 _ _ rfl ⟨w.heap.size + 1, 0, none⟩ rfl _ rfl HS1.out.1 ?_)
            refine bodyPost_ret (v := .tuple #[lockV m2 u2 h, .int .i64 0]) ?_ rfl ⟨by rw [HE.out.1, HE.out.2]; rfl, HS1.out.2.1⟩
            refine (results_ct (fn := Try.f18) rfl _ _ _ (w.heap.size + 1) ?_ _ HS1.out.2.2).trans ?_ <;> rfl
theorem mclamp_clamp (t : Int) : clampN (clampN t) = clampN t := by
  unfold clampN
  repeat' split
  all_goals omega
theorem mdays_clamp (t d : Int) : daysN (clampN t) d = daysN t d := by unfold daysN; rw [mclamp_clamp]
set_option maxHeartbeats 1000000 in
theorem mbegin_any (m d t : Int) (w : World) (d0 : i64 d) :
    Calls Try.prog 20 #[defV m d, .int .i64 t] w fun e w' => e = .returned (.tuple #[beginV m d t, .int .i64 (beginE m d : Nat)]) ∧ Below w.heap.size w w' := by
  obtain ⟨w0, hw0⟩ : ∃ w0, w0 = (w.alloc (.cells #[.int .i64 m, .int .i64 d] 25)).alloc (.cells #[.int .i64 0, .int .i64 0, .bool false] 23) := ⟨_, rfl⟩
  have HW : Hid _ := begin_blocks m d w w0 hw0
  go_enter Try.func20, Try.ntmps20
  go_wp2_with fail
  rw [← hw0]
  refine (mgood_any m d w0).mono ?_
  rintro e w1 ⟨rfl, hb1⟩
  have HW1 : Hid (w1.heap[w.heap.size]? = some (.cells #[.int .i64 m, .int .i64 d] 25 (0, 0)) ∧ LockB w1 (w.heap.size + 1) 0 0 false ∧ Below w.heap.size w w1) := ⟨(hb1.block _ (Array.getElem?_eq_some_iff.1 HW.out.1).1).trans HW.out.1, HW.out.2.1.below hb1, HW.out.2.2.trans (hb1.mono HW.out.2.2.size)⟩
  have k0 : w1.cell? ⟨w.heap.size, 0, none⟩ = some (.int .i64 m) := by rw [cell_of_row _ w.heap.size _ _ _ _ HW1.out.1]; rfl
  have k1 : w1.cell? ⟨w.heap.size, 1, none⟩ = some (.int .i64 d) := by rw [cell_of_row _ w.heap.size _ _ _ _ HW1.out.1]; rfl
  clear hb1 HW hw0
  show _
  have HS0 : Hid _ := lock_end (w := w) (R := w.heap.size + 1) HW1.out.2.2 (by omega) HW1.out.2.1 0 0 false
  cases hg : goodD m d with
  | false =>
    have HE : Hid _ := begin_as (t := t) (show beginE m d = 2 by unfold beginE; rw [hg]; rfl) (show beginV m d t = lockV 0 0 false by unfold beginV; rw [if_neg (by rw [hg]; simp)])
    clear hg
    go_wp2_with (refine store_op rfl 23 _ _ rfl ⟨w.heap.size + 1, 0, none⟩ rfl _ rfl HS0.out.1 ?_)
    refine bodyPost_ret (v := .tuple #[lockV 0 0 false, .int .i64 2]) ?_ rfl ⟨by rw [HE.out.1, HE.out.2]; rfl, HS0.out.2.1⟩
    refine (results_ct (fn := Try.f20) rfl _ _ _ (w.heap.size + 1) ?_ _ HS0.out.2.2).trans ?_ <;> rfl
  | true =>
    by_cases m0 : m = 0
    · have HE : Hid _ := begin_as (t := t) (show beginE m d = 0 by unfold beginE; rw [hg]; rfl) (show beginV m d t = lockV 0 0 false by unfold beginV; rw [if_neg (by rw [m0]; simp)])
      have f1 : (m == 0) = true := beq_iff_eq.2 m0
      clear hg m0
      go_wp2_with (refine store_op rfl 23 _ _ rfl ⟨w.heap.size + 1, 0, none⟩ rfl _ rfl HS0.out.1 ?_)
      refine bodyPost_ret (v := .tuple #[lockV 0 0 false, .int .i64 0]) ?_ rfl ⟨by rw [HE.out.1, HE.out.2]; rfl, HS0.out.2.1⟩
      refine (results_ct (fn := Try.f20) rfl _ _ _ (w.heap.size + 1) ?_ _ HS0.out.2.2).trans ?_ <;> rfl
    · have HE : Hid _ := begin_as (t := t) (show beginE m d = 0 by unfold beginE; rw [hg]; rfl) (show beginV m d t = lockV m (daysN t d) false by unfold beginV; rw [if_pos ⟨hg, m0⟩])
      have f1 : (m == 0) = false := beq_eq_false_iff_ne.2 m0
      have HD : Hid (∀ w, Calls Try.prog 29 #[.int .i64 (clampN t), .int .i64 d] w fun e w' => e = .returned (.int .i64 (daysN t d)) ∧ w' = w) := fun w => by
        have h := pdays_any (clampN t) d w d0.1 d0.2
        rwa [mdays_clamp] at h
      have HC : Hid (∀ w, Calls Try.prog 25 #[.int .i64 t] w fun e w' => e = .returned (.int .i64 (clampN t)) ∧ w' = w) := fun w => clamp_any t w
      clear hg m0
      go_wp2_with fail
      have hS0 : (fun WW : World => WW.cell? ⟨w.heap.size, 0, none⟩ = some (.int .i64 m) ∧ WW.cell? ⟨w.heap.size, 1, none⟩ = some (.int .i64 d) ∧ (∃ a b c, LockB WW (w.heap.size + 1) a b c) ∧ Below w.heap.size w WW) w1.drew := ⟨k0, k1, ⟨0, 0, false, HW1.out.2.1⟩, HW1.out.2.2.drew⟩
      clear k0 k1 HW1 HS0
      refine wp_region_held_drew (S := fun w' => w'.cell? ⟨w.heap.size, 0, none⟩ = some (.int .i64 m) ∧ w'.cell? ⟨w.heap.size, 1, none⟩ = some (.int .i64 d) ∧ (∃ a b c, LockB w' (w.heap.size + 1) a b c) ∧ Below w.heap.size w w') (by kernel_rfl) (hS0) (fun hHeld => ?_)
      refine held_take 0 (some 16) (.pointer (some ⟨w.heap.size, 0, none⟩)) rfl rfl (by kernel_rfl) (by kernel_rfl) (by kernel_rfl) (fun _ _ _ h => h) rfl (fun w' hS => ?_) hHeld ?_
      · clear hS; go_simp
      try simp only [Act.put, List.setIfInBounds_toArray, List.set_cons_zero, List.set_cons_succ]
      refine held_take 1 (some 17) (.int .i64 m) rfl rfl (by kernel_rfl) (by kernel_rfl) (by kernel_rfl) (fun _ _ _ h => h) rfl (fun w' hS => ?_) hHeld ?_
      · have hk := hS.1; clear hS; go_simp
      try simp only [Act.put, List.setIfInBounds_toArray, List.set_cons_zero, List.set_cons_succ]
      refine held_take 2 (some 18) (.int .i64 t) rfl rfl (by kernel_rfl) (by kernel_rfl) (by kernel_rfl) (fun _ _ _ h => h) rfl (fun w' hS => ?_) hHeld ?_
      · clear hS; go_simp
      try simp only [Act.put, List.setIfInBounds_toArray, List.set_cons_zero, List.set_cons_succ]
      refine held_take 4 (some 20) (.pointer (some ⟨w.heap.size, 1, none⟩)) rfl rfl (by kernel_rfl) (by kernel_rfl) (by kernel_rfl) (fun _ _ _ h => h) rfl (fun w' hS => ?_) hHeld ?_
      · clear hS; go_simp
      try simp only [Act.put, List.setIfInBounds_toArray, List.set_cons_zero, List.set_cons_succ]
      refine held_take 5 (some 21) (.int .i64 d) rfl rfl (by kernel_rfl) (by kernel_rfl) (by kernel_rfl) (fun _ _ _ h => h) rfl (fun w' hS => ?_) hHeld ?_
      · have hk := hS.2.1; clear hS; go_simp
      try simp only [Act.put, List.setIfInBounds_toArray, List.set_cons_zero, List.set_cons_succ]
      refine held_one (i := 3) (by kernel_rfl) rfl rfl (fun K hK => ?_)
      go_simp
      refine Calls.mono (HC.out _) ?_
      rintro _ v1 ⟨rfl, rfl⟩
      dsimp only
      refine hK.out _ _ hHeld ?_
      clear hK K
      try simp only [Act.put, List.setIfInBounds_toArray, List.set_cons_zero, List.set_cons_succ]
      refine held_one (i := 6) (by kernel_rfl) rfl rfl (fun K hK => ?_)
      go_simp
      refine Calls.mono (HD.out _) ?_
      rintro _ v1 ⟨rfl, rfl⟩
      dsimp only
      refine hK.out _ _ hHeld ?_
      clear hK K
      try simp only [Act.put, List.setIfInBounds_toArray, List.set_cons_zero, List.set_cons_succ]
      refine held_take 7 (some 23) (lockV m (daysN t d) false) rfl rfl (by kernel_rfl) (by kernel_rfl) (by kernel_rfl) (fun _ _ _ h => h) rfl (fun w' hS => ?_) hHeld ?_
      · clear hS; go_simp
      try simp only [Act.put, List.setIfInBounds_toArray, List.set_cons_zero, List.set_cons_succ]
      obtain ⟨hk0, hk1, ⟨xa, xb, xc, hlk⟩, hbw⟩ := hHeld
      have HS : Hid _ := lock_end (w := w) (R := w.heap.size + 1) hbw (by omega) hlk m (daysN t d) false
      have HK2 : Hid (LockB _ (w.heap.size + 1) m (daysN t d) false) := (hlk.store m (daysN t d) false).2
      have hne : w.heap.size ≠ w.heap.size + 1 := by omega
      refine held_one (i := 8) (by kernel_rfl) rfl rfl (fun K hK => ?_)
      refine held_store 23 _ _ rfl ⟨w.heap.size + 1, 0, none⟩ rfl _ rfl HS.out.1 none rfl ?_
      have hH2 : (fun WW : World => WW.cell? ⟨w.heap.size, 0, none⟩ = some (.int .i64 m) ∧ WW.cell? ⟨w.heap.size, 1, none⟩ = some (.int .i64 d) ∧ (∃ a b c, LockB WW (w.heap.size + 1) a b c) ∧ Below w.heap.size w WW) (w1.drew.setRow (w.heap.size + 1) #[.int .i64 m, .int .i64 (daysN t d), .bool false]) :=
        ⟨(World.cell?_of_block (a := ⟨w.heap.size, 0, none⟩) (setRow_other _ _ _ _ hne)).trans hk0, (World.cell?_of_block (a := ⟨w.heap.size, 1, none⟩) (setRow_other _ _ _ _ hne)).trans hk1, ⟨_, _, _, HK2.out⟩, HS.out.2.1⟩
      refine hK.out _ _ hH2 ?_
      clear hK K hk0 hk1 hlk hbw hne
      try simp only [Act.put, List.setIfInBounds_toArray, List.set_cons_zero, List.set_cons_succ]
      refine held_take 9 (some 5) (.int .i64 0) rfl rfl (by kernel_rfl) (by kernel_rfl) (by kernel_rfl) (fun _ _ _ h => h) rfl (fun w' hS => ?_) hH2 ?_
      · clear hS; go_simp
      try simp only [Act.put, List.setIfInBounds_toArray, List.set_cons_zero, List.set_cons_succ]
      refine wpAnyH_done (by kernel_rfl) ?_ _
      clear hH2 HK2
      go_wp2
      refine bodyPost_ret (v := .tuple #[lockV m (daysN t d) false, .int .i64 0]) ?_ rfl ⟨by rw [HE.out.1, HE.out.2]; rfl, HS.out.2.1⟩
      refine (results_ct (fn := Try.f20) rfl _ _ _ (w.heap.size + 1) ?_ _ HS.out.2.2).trans ?_ <;> rfl
end Go.Proofs.Ytoaegepphkocoaa
