/-
  The document's Retain.
-/
import Derived.Test.YtoaegepphkocoaaModeRef
namespace Go.Proofs.Ytoaegepphkocoaa
open Go.ChangeShapes Go.WideShapes Go.ChangeAt Go.RowKit
set_option linter.unusedVariables false
set_option linter.unusedSimpArgs false
theorem retain_as {m u : Int} {h : Bool} {m2 u2 t : Int} {b : Bool} {e : Nat} (he : retainE m u m2 u2 t b = e) : retainE m u m2 u2 t b = e ∧ retainV m u h m2 u2 t b = if e = 0 then lockV m2 u2 h else lockV 0 0 false := ⟨he, by unfold retainV; rw [he]⟩
set_option maxHeartbeats 2000000 in
theorem mretain_ref (m u : Int) (h : Bool) (m2 u2 t : Int) (b : Bool) (w : World) :
    Calls Try.prog 19 #[lockV m u h, .int .i64 m2, .int .i64 u2, .int .i64 t, .bool b] w fun e w' => e = .returned (.tuple #[retainV m u h m2 u2 t b, .int .i64 (retainE m u m2 u2 t b : Nat)]) ∧ Below w.heap.size w w' := by
  obtain ⟨w0, hw0⟩ : ∃ w0, w0 = ((w.alloc (.cells #[.int .i64 m, .int .i64 u, .bool h] 23)).alloc (.cells #[.int .i64 0, .int .i64 0, .bool false] 23)).alloc (.cells #[.int .i64 m2, .int .i64 u2, .bool h] 23) := ⟨_, rfl⟩
  have HW : Hid (LockB w0 w.heap.size m u h ∧ LockB w0 (w.heap.size + 1) 0 0 false ∧ LockB w0 (w.heap.size + 1 + 1) m2 u2 h ∧ Below w.heap.size w w0) := by
    rw [hw0]
    have k1 := LockB.new w m u h
    have k2 := LockB.new (w.alloc (.cells #[.int .i64 m, .int .i64 u, .bool h] 23)) 0 0 false
    have k3 := LockB.new ((w.alloc (.cells #[.int .i64 m, .int .i64 u, .bool h] 23)).alloc (.cells #[.int .i64 0, .int .i64 0, .bool false] 23)) m2 u2 h
    rw [show (w.alloc (.cells #[.int .i64 m, .int .i64 u, .bool h] 23)).heap.size = w.heap.size + 1 by simp] at k2
    rw [show ((w.alloc (.cells #[.int .i64 m, .int .i64 u, .bool h] 23)).alloc (.cells #[.int .i64 0, .int .i64 0, .bool false] 23)).heap.size = w.heap.size + 1 + 1 by simp] at k3
    exact ⟨(k1.below (below_new _ _)).below (below_new _ _), k2.below (below_new _ _), k3, ((below_new w _).alloc (by simp) _).alloc (by simp; omega) _⟩
  go_enter Try.func19, Try.ntmps19
  go_wp2_with fail
  rw [← hw0]
  refine (msound_ref m u h w0).mono ?_
  rintro e w1 ⟨rfl, hb1⟩
  have HW1 : Hid (LockB w1 w.heap.size m u h ∧ LockB w1 (w.heap.size + 1) 0 0 false ∧ LockB w1 (w.heap.size + 1 + 1) m2 u2 h ∧ Below w.heap.size w w1) := ⟨HW.out.1.below hb1, HW.out.2.1.below hb1, HW.out.2.2.1.below hb1, HW.out.2.2.2.trans (hb1.mono HW.out.2.2.2.size)⟩
  clear hb1 HW hw0
  show _
  obtain ⟨⟨k0, k1, k2⟩, -⟩ := HW1.out.1.cells
  obtain ⟨⟨n0, n1, n2⟩, -⟩ := HW1.out.2.2.1.cells
  cases hs : soundL m u with
  | false =>
    have HE : Hid _ := retain_as (h := h) (show retainE m u m2 u2 t b = 2 by unfold retainE; rw [if_pos (.inl hs)])
    clear hs
    have HS : Hid _ := lock_end (w := w) (R := (w.heap.size + 1)) HW1.out.2.2.2 (by omega) HW1.out.2.1 0 0 false
    go_wp2_with (refine store_op rfl 23 _ _ rfl ⟨w.heap.size + 1, 0, none⟩ rfl _ rfl HS.out.1 ?_)
    refine bodyPost_ret (v := .tuple #[lockV 0 0 false, .int .i64 2]) ?_ rfl ⟨by rw [HE.out.1, HE.out.2]; rfl, HS.out.2.1⟩
    refine (results_ct (fn := Try.f19) rfl _ _ _ (w.heap.size + 1) ?_ _ HS.out.2.2).trans ?_ <;> rfl
  | true =>
    go_wp2_with fail
    refine (msound_ref m2 u2 h w1).mono ?_
    rintro e w2 ⟨rfl, hb2⟩
    have HW2 : Hid (LockB w2 w.heap.size m u h ∧ LockB w2 (w.heap.size + 1) 0 0 false ∧ LockB w2 (w.heap.size + 1 + 1) m2 u2 h ∧ Below w.heap.size w w2) := ⟨HW1.out.1.below hb2, HW1.out.2.1.below hb2, HW1.out.2.2.1.below hb2, HW1.out.2.2.2.trans (hb2.mono HW1.out.2.2.2.size)⟩
    clear hb2 HW1 k0 k1 k2 n0 n1 n2
    show _
    obtain ⟨⟨k0, k1, k2⟩, -⟩ := HW2.out.1.cells
    obtain ⟨⟨n0, n1, n2⟩, -⟩ := HW2.out.2.2.1.cells
    cases hs2 : soundL m2 u2 with
    | false =>
      have HE : Hid _ := retain_as (h := h) (show retainE m u m2 u2 t b = 2 by unfold retainE; rw [if_pos (.inr hs2)])
      clear hs hs2
      have HS : Hid _ := lock_end (w := w) (R := (w.heap.size + 1)) HW2.out.2.2.2 (by omega) HW2.out.2.1 0 0 false
      go_wp2_with (refine store_op rfl 23 _ _ rfl ⟨w.heap.size + 1, 0, none⟩ rfl _ rfl HS.out.1 ?_)
      refine bodyPost_ret (v := .tuple #[lockV 0 0 false, .int .i64 2]) ?_ rfl ⟨by rw [HE.out.1, HE.out.2]; rfl, HS.out.2.1⟩
      refine (results_ct (fn := Try.f19) rfl _ _ _ (w.heap.size + 1) ?_ _ HS.out.2.2).trans ?_ <;> rfl
    | true =>
      by_cases h4 : m2 ≠ 0 ∧ u2 ≤ t
      · have q1 : (m2 != 0) = true := bne_iff_ne.2 h4.1
        have q2 : u2 ≤ t := h4.2
        have HE : Hid _ := retain_as (h := h) (show retainE m u m2 u2 t b = 4 by unfold retainE; rw [if_neg (by simp [hs, hs2]), if_pos h4])
        clear hs hs2 h4
        have HS : Hid _ := lock_end (w := w) (R := (w.heap.size + 1)) HW2.out.2.2.2 (by omega) HW2.out.2.1 0 0 false
        go_wp2_with (refine store_op rfl 23 _ _ rfl ⟨w.heap.size + 1, 0, none⟩ rfl _ rfl HS.out.1 ?_)
        refine bodyPost_ret (v := .tuple #[lockV 0 0 false, .int .i64 4]) ?_ rfl ⟨by rw [HE.out.1, HE.out.2]; rfl, HS.out.2.1⟩
        refine (results_ct (fn := Try.f19) rfl _ _ _ (w.heap.size + 1) ?_ _ HS.out.2.2).trans ?_ <;> rfl
      · have HE0 : Hid (retainE m u m2 u2 t b = if bindsL m u t = true ∧ ((m = 2 ∧ (m2 ≠ 2 ∨ u2 < u)) ∨ (m = 1 ∧ b = false ∧ (m2 = 0 ∨ u2 < u))) then 13 else 0) := by unfold Hid retainE; rw [if_neg (by simp [hs, hs2]), if_neg h4]
        have q0 : m2 = 0 ∨ (m2 ≠ 0 ∧ ¬ u2 ≤ t) := by omega
        have HB : Hid (Calls Try.prog 27 #[lockV m u h, .int .i64 t] w2 fun e w' => e = .returned (.bool (bindsL m u t)) ∧ LockB w' (w.heap.size) m u h ∧ LockB w' (w.heap.size + 1) 0 0 false ∧ LockB w' (w.heap.size + 1 + 1) m2 u2 h ∧ Below w.heap.size w w') := (mbinds_ref m u h t w2).mono fun e w' ⟨he, hb⟩ => ⟨he, HW2.out.1.below hb, HW2.out.2.1.below hb, HW2.out.2.2.1.below hb, HW2.out.2.2.2.trans (hb.mono HW2.out.2.2.2.size)⟩
        clear hs hs2 h4
        rcases q0 with q0 | ⟨q0, q1⟩
        · have q2 : (m2 != 0) = false := by simp [q0]
          clear q0
          go_wp2_with fail
          refine Calls.mono HB.out ?_
          rintro e w3 ⟨rfl, hw3⟩
          have HW3 : Hid _ := hw3
          clear hw3 HW2 HB k0 k1 k2 n0 n1 n2
          obtain ⟨⟨k0, k1, k2⟩, -⟩ := HW3.out.1.cells
          obtain ⟨⟨n0, n1, n2⟩, -⟩ := HW3.out.2.2.1.cells
          show _
          have HS0 : Hid _ := lock_end (w := w) (R := w.heap.size + 1) HW3.out.2.2.2 (by omega) HW3.out.2.1 0 0 false
          have HS1 : Hid _ := lock_end (w := w) (R := w.heap.size + 1) HW3.out.2.2.2 (by omega) HW3.out.2.1 m2 u2 h
          cases hbd : bindsL m u t with
          | false =>
            have HE : Hid _ := retain_as (h := h) (show retainE m u m2 u2 t b = 0 by rw [HE0.out, if_neg (by rw [hbd]; simp)])
            clear hbd
            go_wp2_with (refine store_op rfl 23 _ _ rfl ⟨w.heap.size + 1, 0, none⟩ rfl _ rfl HS1.out.1 ?_)
            refine bodyPost_ret (v := .tuple #[lockV m2 u2 h, .int .i64 0]) ?_ rfl ⟨by rw [HE.out.1, HE.out.2]; rfl, HS1.out.2.1⟩
            refine (results_ct (fn := Try.f19) rfl _ _ _ (w.heap.size + 1) ?_ _ HS1.out.2.2).trans ?_ <;> rfl
          | true =>
            have HE1 : Hid (retainE m u m2 u2 t b = if (m = 2 ∧ (m2 ≠ 2 ∨ u2 < u)) ∨ (m = 1 ∧ b = false ∧ (m2 = 0 ∨ u2 < u)) then 13 else 0) := by rw [Hid, HE0.out, hbd]; simp
            clear hbd HE0
            have lf : (m = 2 ∧ m2 ≠ 2) ∨ (m = 2 ∧ m2 = 2 ∧ u2 < u) ∨ (m = 2 ∧ m2 = 2 ∧ ¬ u2 < u) ∨ (m = 1 ∧ b = true) ∨ (m = 1 ∧ b = false ∧ m2 = 0) ∨ (m = 1 ∧ b = false ∧ m2 ≠ 0 ∧ u2 < u) ∨ (m = 1 ∧ b = false ∧ m2 ≠ 0 ∧ ¬ u2 < u) ∨ (m ≠ 2 ∧ m ≠ 1) := by
              cases b <;> simp <;> omega
            rcases lf with ⟨rfl, c1⟩ | ⟨rfl, c1, c2⟩ | ⟨rfl, c1, c2⟩ | ⟨rfl, rfl⟩ | ⟨rfl, rfl, c1⟩ | ⟨rfl, rfl, c1, c2⟩ | ⟨rfl, rfl, c1, c2⟩ | ⟨c1, c2⟩
            · have f1 : ((m2 : Int) != 2) = true := bne_iff_ne.2 c1
              have HE : Hid _ := retain_as (h := h) (show retainE _ u m2 u2 t _ = 13 by rw [HE1.out]; rw [if_pos (.inl ⟨rfl, .inl c1⟩)])
              clear HE1
              go_wp2_with (refine store_op rfl 23 _ _ rfl ⟨w.heap.size + 1, 0, none⟩ rfl _ rfl HS0.out.1 ?_)
              refine bodyPost_ret (v := .tuple #[lockV 0 0 false, .int .i64 13]) ?_ rfl ⟨by rw [HE.out.1, HE.out.2]; rfl, HS0.out.2.1⟩
              refine (results_ct (fn := Try.f19) rfl _ _ _ (w.heap.size + 1) ?_ _ HS0.out.2.2).trans ?_ <;> rfl
            · have f1 : ((m2 : Int) != 2) = false := by rw [c1]; rfl
              have HE : Hid _ := retain_as (h := h) (show retainE _ u m2 u2 t _ = 13 by rw [HE1.out]; rw [if_pos (.inl ⟨rfl, .inr c2⟩)])
              clear HE1 c1
              go_wp2_with (refine store_op rfl 23 _ _ rfl ⟨w.heap.size + 1, 0, none⟩ rfl _ rfl HS0.out.1 ?_)
              refine bodyPost_ret (v := .tuple #[lockV 0 0 false, .int .i64 13]) ?_ rfl ⟨by rw [HE.out.1, HE.out.2]; rfl, HS0.out.2.1⟩
              refine (results_ct (fn := Try.f19) rfl _ _ _ (w.heap.size + 1) ?_ _ HS0.out.2.2).trans ?_ <;> rfl
            · have f1 : ((m2 : Int) != 2) = false := by rw [c1]; rfl
              have HE : Hid _ := retain_as (h := h) (show retainE _ u m2 u2 t _ = 0 by rw [HE1.out]; rw [if_neg (by omega)])
              clear HE1 c1
              go_wp2_with (refine store_op rfl 23 _ _ rfl ⟨w.heap.size + 1, 0, none⟩ rfl _ rfl HS1.out.1 ?_)
              refine bodyPost_ret (v := .tuple #[lockV m2 u2 h, .int .i64 0]) ?_ rfl ⟨by rw [HE.out.1, HE.out.2]; rfl, HS1.out.2.1⟩
              refine (results_ct (fn := Try.f19) rfl _ _ _ (w.heap.size + 1) ?_ _ HS1.out.2.2).trans ?_ <;> rfl
            · skip
              have HE : Hid _ := retain_as (h := h) (show retainE _ u m2 u2 t _ = 0 by rw [HE1.out]; rw [if_neg (by simp)])
              clear HE1
              go_wp2_with (refine store_op rfl 23 _ _ rfl ⟨w.heap.size + 1, 0, none⟩ rfl _ rfl HS1.out.1 ?_)
              refine bodyPost_ret (v := .tuple #[lockV m2 u2 h, .int .i64 0]) ?_ rfl ⟨by rw [HE.out.1, HE.out.2]; rfl, HS1.out.2.1⟩
              refine (results_ct (fn := Try.f19) rfl _ _ _ (w.heap.size + 1) ?_ _ HS1.out.2.2).trans ?_ <;> rfl
            · have f1 : ((m2 : Int) == 0) = true := beq_iff_eq.2 c1
              have HE : Hid _ := retain_as (h := h) (show retainE _ u m2 u2 t _ = 13 by rw [HE1.out]; rw [if_pos (.inr ⟨rfl, rfl, .inl c1⟩)])
              clear HE1 c1
              go_wp2_with (refine store_op rfl 23 _ _ rfl ⟨w.heap.size + 1, 0, none⟩ rfl _ rfl HS0.out.1 ?_)
              refine bodyPost_ret (v := .tuple #[lockV 0 0 false, .int .i64 13]) ?_ rfl ⟨by rw [HE.out.1, HE.out.2]; rfl, HS0.out.2.1⟩
              refine (results_ct (fn := Try.f19) rfl _ _ _ (w.heap.size + 1) ?_ _ HS0.out.2.2).trans ?_ <;> rfl
            · have f1 : ((m2 : Int) == 0) = false := beq_eq_false_iff_ne.2 c1
              have HE : Hid _ := retain_as (h := h) (show retainE _ u m2 u2 t _ = 13 by rw [HE1.out]; rw [if_pos (.inr ⟨rfl, rfl, .inr c2⟩)])
              clear HE1
              go_wp2_with (refine store_op rfl 23 _ _ rfl ⟨w.heap.size + 1, 0, none⟩ rfl _ rfl HS0.out.1 ?_)
              refine bodyPost_ret (v := .tuple #[lockV 0 0 false, .int .i64 13]) ?_ rfl ⟨by rw [HE.out.1, HE.out.2]; rfl, HS0.out.2.1⟩
              refine (results_ct (fn := Try.f19) rfl _ _ _ (w.heap.size + 1) ?_ _ HS0.out.2.2).trans ?_ <;> rfl
            · have f1 : ((m2 : Int) == 0) = false := beq_eq_false_iff_ne.2 c1
              have HE : Hid _ := retain_as (h := h) (show retainE _ u m2 u2 t _ = 0 by rw [HE1.out]; rw [if_neg (by simp; omega)])
              clear HE1
              go_wp2_with (refine store_op rfl 23 _ _ rfl ⟨w.heap.size + 1, 0, none⟩ rfl _ rfl HS1.out.1 ?_)
              refine bodyPost_ret (v := .tuple #[lockV m2 u2 h, .int .i64 0]) ?_ rfl ⟨by rw [HE.out.1, HE.out.2]; rfl, HS1.out.2.1⟩
              refine (results_ct (fn := Try.f19) rfl _ _ _ (w.heap.size + 1) ?_ _ HS1.out.2.2).trans ?_ <;> rfl
            · have f1 : (m == 2) = false := beq_eq_false_iff_ne.2 c1
              have f2 : (m == 1) = false := beq_eq_false_iff_ne.2 c2
              have HE : Hid _ := retain_as (h := h) (show retainE _ u m2 u2 t _ = 0 by rw [HE1.out]; rw [if_neg (by omega)])
              clear HE1
              go_wp2_with (refine store_op rfl 23 _ _ rfl ⟨w.heap.size + 1, 0, none⟩ rfl _ rfl HS1.out.1 ?_)
              refine bodyPost_ret (v := .tuple #[lockV m2 u2 h, .int .i64 0]) ?_ rfl ⟨by rw [HE.out.1, HE.out.2]; rfl, HS1.out.2.1⟩
              refine (results_ct (fn := Try.f19) rfl _ _ _ (w.heap.size + 1) ?_ _ HS1.out.2.2).trans ?_ <;> rfl
        · have q2 : (m2 != 0) = true := bne_iff_ne.2 q0
          go_wp2_with fail
          refine Calls.mono HB.out ?_
          rintro e w3 ⟨rfl, hw3⟩
          have HW3 : Hid _ := hw3
          clear hw3 HW2 HB k0 k1 k2 n0 n1 n2
          obtain ⟨⟨k0, k1, k2⟩, -⟩ := HW3.out.1.cells
          obtain ⟨⟨n0, n1, n2⟩, -⟩ := HW3.out.2.2.1.cells
          show _
          have HS0 : Hid _ := lock_end (w := w) (R := w.heap.size + 1) HW3.out.2.2.2 (by omega) HW3.out.2.1 0 0 false
          have HS1 : Hid _ := lock_end (w := w) (R := w.heap.size + 1) HW3.out.2.2.2 (by omega) HW3.out.2.1 m2 u2 h
          cases hbd : bindsL m u t with
          | false =>
            have HE : Hid _ := retain_as (h := h) (show retainE m u m2 u2 t b = 0 by rw [HE0.out, if_neg (by rw [hbd]; simp)])
            clear hbd
            go_wp2_with (refine store_op rfl 23 _ _ rfl ⟨w.heap.size + 1, 0, none⟩ rfl _ rfl HS1.out.1 ?_)
            refine bodyPost_ret (v := .tuple #[lockV m2 u2 h, .int .i64 0]) ?_ rfl ⟨by rw [HE.out.1, HE.out.2]; rfl, HS1.out.2.1⟩
            refine (results_ct (fn := Try.f19) rfl _ _ _ (w.heap.size + 1) ?_ _ HS1.out.2.2).trans ?_ <;> rfl
          | true =>
            have HE1 : Hid (retainE m u m2 u2 t b = if (m = 2 ∧ (m2 ≠ 2 ∨ u2 < u)) ∨ (m = 1 ∧ b = false ∧ (m2 = 0 ∨ u2 < u)) then 13 else 0) := by rw [Hid, HE0.out, hbd]; simp
            clear hbd HE0
            have lf : (m = 2 ∧ m2 ≠ 2) ∨ (m = 2 ∧ m2 = 2 ∧ u2 < u) ∨ (m = 2 ∧ m2 = 2 ∧ ¬ u2 < u) ∨ (m = 1 ∧ b = true) ∨ (m = 1 ∧ b = false ∧ m2 = 0) ∨ (m = 1 ∧ b = false ∧ m2 ≠ 0 ∧ u2 < u) ∨ (m = 1 ∧ b = false ∧ m2 ≠ 0 ∧ ¬ u2 < u) ∨ (m ≠ 2 ∧ m ≠ 1) := by
              cases b <;> simp <;> omega
            rcases lf with ⟨rfl, c1⟩ | ⟨rfl, c1, c2⟩ | ⟨rfl, c1, c2⟩ | ⟨rfl, rfl⟩ | ⟨rfl, rfl, c1⟩ | ⟨rfl, rfl, c1, c2⟩ | ⟨rfl, rfl, c1, c2⟩ | ⟨c1, c2⟩
            · have f1 : ((m2 : Int) != 2) = true := bne_iff_ne.2 c1
              have HE : Hid _ := retain_as (h := h) (show retainE _ u m2 u2 t _ = 13 by rw [HE1.out]; rw [if_pos (.inl ⟨rfl, .inl c1⟩)])
              clear HE1
              go_wp2_with (refine store_op rfl 23 _ _ rfl ⟨w.heap.size + 1, 0, none⟩ rfl _ rfl HS0.out.1 ?_)
              refine bodyPost_ret (v := .tuple #[lockV 0 0 false, .int .i64 13]) ?_ rfl ⟨by rw [HE.out.1, HE.out.2]; rfl, HS0.out.2.1⟩
              refine (results_ct (fn := Try.f19) rfl _ _ _ (w.heap.size + 1) ?_ _ HS0.out.2.2).trans ?_ <;> rfl
            · have f1 : ((m2 : Int) != 2) = false := by rw [c1]; rfl
              have HE : Hid _ := retain_as (h := h) (show retainE _ u m2 u2 t _ = 13 by rw [HE1.out]; rw [if_pos (.inl ⟨rfl, .inr c2⟩)])
              clear HE1 c1
              go_wp2_with (refine store_op rfl 23 _ _ rfl ⟨w.heap.size + 1, 0, none⟩ rfl _ rfl HS0.out.1 ?_)
              refine bodyPost_ret (v := .tuple #[lockV 0 0 false, .int .i64 13]) ?_ rfl ⟨by rw [HE.out.1, HE.out.2]; rfl, HS0.out.2.1⟩
              refine (results_ct (fn := Try.f19) rfl _ _ _ (w.heap.size + 1) ?_ _ HS0.out.2.2).trans ?_ <;> rfl
            · have f1 : ((m2 : Int) != 2) = false := by rw [c1]; rfl
              have HE : Hid _ := retain_as (h := h) (show retainE _ u m2 u2 t _ = 0 by rw [HE1.out]; rw [if_neg (by omega)])
              clear HE1 c1
              go_wp2_with (refine store_op rfl 23 _ _ rfl ⟨w.heap.size + 1, 0, none⟩ rfl _ rfl HS1.out.1 ?_)
              refine bodyPost_ret (v := .tuple #[lockV m2 u2 h, .int .i64 0]) ?_ rfl ⟨by rw [HE.out.1, HE.out.2]; rfl, HS1.out.2.1⟩
              refine (results_ct (fn := Try.f19) rfl _ _ _ (w.heap.size + 1) ?_ _ HS1.out.2.2).trans ?_ <;> rfl
            · skip
              have HE : Hid _ := retain_as (h := h) (show retainE _ u m2 u2 t _ = 0 by rw [HE1.out]; rw [if_neg (by simp)])
              clear HE1
              go_wp2_with (refine store_op rfl 23 _ _ rfl ⟨w.heap.size + 1, 0, none⟩ rfl _ rfl HS1.out.1 ?_)
              refine bodyPost_ret (v := .tuple #[lockV m2 u2 h, .int .i64 0]) ?_ rfl ⟨by rw [HE.out.1, HE.out.2]; rfl, HS1.out.2.1⟩
              refine (results_ct (fn := Try.f19) rfl _ _ _ (w.heap.size + 1) ?_ _ HS1.out.2.2).trans ?_ <;> rfl
            · have f1 : ((m2 : Int) == 0) = true := beq_iff_eq.2 c1
              have HE : Hid _ := retain_as (h := h) (show retainE _ u m2 u2 t _ = 13 by rw [HE1.out]; rw [if_pos (.inr ⟨rfl, rfl, .inl c1⟩)])
              clear HE1 c1
              go_wp2_with (refine store_op rfl 23 _ _ rfl ⟨w.heap.size + 1, 0, none⟩ rfl _ rfl HS0.out.1 ?_)
              refine bodyPost_ret (v := .tuple #[lockV 0 0 false, .int .i64 13]) ?_ rfl ⟨by rw [HE.out.1, HE.out.2]; rfl, HS0.out.2.1⟩
              refine (results_ct (fn := Try.f19) rfl _ _ _ (w.heap.size + 1) ?_ _ HS0.out.2.2).trans ?_ <;> rfl
            · have f1 : ((m2 : Int) == 0) = false := beq_eq_false_iff_ne.2 c1
              have HE : Hid _ := retain_as (h := h) (show retainE _ u m2 u2 t _ = 13 by rw [HE1.out]; rw [if_pos (.inr ⟨rfl, rfl, .inr c2⟩)])
              clear HE1
              go_wp2_with (refine store_op rfl 23 _ _ rfl ⟨w.heap.size + 1, 0, none⟩ rfl _ rfl HS0.out.1 ?_)
              refine bodyPost_ret (v := .tuple #[lockV 0 0 false, .int .i64 13]) ?_ rfl ⟨by rw [HE.out.1, HE.out.2]; rfl, HS0.out.2.1⟩
              refine (results_ct (fn := Try.f19) rfl _ _ _ (w.heap.size + 1) ?_ _ HS0.out.2.2).trans ?_ <;> rfl
            · have f1 : ((m2 : Int) == 0) = false := beq_eq_false_iff_ne.2 c1
              have HE : Hid _ := retain_as (h := h) (show retainE _ u m2 u2 t _ = 0 by rw [HE1.out]; rw [if_neg (by simp; omega)])
              clear HE1
              go_wp2_with (refine store_op rfl 23 _ _ rfl ⟨w.heap.size + 1, 0, none⟩ rfl _ rfl HS1.out.1 ?_)
              refine bodyPost_ret (v := .tuple #[lockV m2 u2 h, .int .i64 0]) ?_ rfl ⟨by rw [HE.out.1, HE.out.2]; rfl, HS1.out.2.1⟩
              refine (results_ct (fn := Try.f19) rfl _ _ _ (w.heap.size + 1) ?_ _ HS1.out.2.2).trans ?_ <;> rfl
            · have f1 : (m == 2) = false := beq_eq_false_iff_ne.2 c1
              have f2 : (m == 1) = false := beq_eq_false_iff_ne.2 c2
              have HE : Hid _ := retain_as (h := h) (show retainE _ u m2 u2 t _ = 0 by rw [HE1.out]; rw [if_neg (by omega)])
              clear HE1
              go_wp2_with (refine store_op rfl 23 _ _ rfl ⟨w.heap.size + 1, 0, none⟩ rfl _ rfl HS1.out.1 ?_)
              refine bodyPost_ret (v := .tuple #[lockV m2 u2 h, .int .i64 0]) ?_ rfl ⟨by rw [HE.out.1, HE.out.2]; rfl, HS1.out.2.1⟩
              refine (results_ct (fn := Try.f19) rfl _ _ _ (w.heap.size + 1) ?_ _ HS1.out.2.2).trans ?_ <;> rfl
end Go.Proofs.Ytoaegepphkocoaa
