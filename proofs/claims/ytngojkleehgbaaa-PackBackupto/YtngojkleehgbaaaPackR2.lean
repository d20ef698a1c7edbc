/-
  The Reader's numbers, counts, flags, texts, digests, its end.
-/
import Derived.Test.YtngojkleehgbaaaPackR
namespace Go.Proofs.Ytngojkleehgbaaa
open Go.ChangeShapes Go.WideShapes Go.ChangeAt Go.RowKit
set_option linter.unusedVariables false
set_option linter.unusedSimpArgs false
theorem RowL.toI {w : World} {a : Option Addr} {n : Nat} {xs : List Nat} (h : RowL .u8 w a n xs) (hm : n ≤ maxLen) (hb : Byt xs) : Row w a n (toI xs) := by
  obtain ⟨h1, h4⟩ := h
  refine ⟨by rw [toI_len]; exact h1, hm, hb.toI, ?_⟩
  rcases h4 with h4 | ⟨b, off, ha, hlt, hc⟩
  · exact .inl h4
  · exact .inr ⟨b, off, ha, hlt, fun i hi => by rw [hc i hi, toI_getD]⟩
theorem unpackN_any (w : World) (a : Option Addr) (n cap : Nat) (xs : List Nat) (h : RowL .u8 w a n xs) (hm : n ≤ maxLen) (hb : Byt xs) :
    Calls Try.prog 41 #[.slice a n cap] w fun e w' => e = .returned (.tuple #[.int .u64 (unV xs : Nat), .int .i64 (unU xs : Nat), .int .i64 (unE xs)]) ∧ w' = w := by
  have := unpack_all a n cap (toI xs) w (h.toI hm hb)
  rw [(unV_le xs hb).2, (unU_le xs).2] at this
  exact this
/-- What a call of a Reader leaves. -/
def RdR (w : World) (g r : Nat) (v : Value) (s : RSt) (e : Ending) (w' : World) : Prop := e = .returned v ∧ RdAt w' g r s ∧ Only g w w'
theorem pnum_any (w : World) (g r : Nat) (s : RSt) (hR : RdAt w g r s) :
    Calls Try.prog 22 #[.pointer (some ⟨g, 0, none⟩)] w (RdR w g r (.int .u64 ((numS s).1 : Nat)) (numS s).2) := by
  have HR := hR
  have HE := err_any w g r s HR
  by_cases h0 : s.2 = 0
  · have HT : Hid (numS s = (unV s.1, s.1.drop (unU s.1), unE s.1)) := by unfold Hid numS; rw [if_pos h0]
    generalize numS s = T at *
    obtain ⟨a, cap, h1, h2, h3, h4, h5, h6, h7⟩ := hR
    have hc0 : w.cell? ⟨g, 0, none⟩ = some (.slice a s.1.length cap) := by rw [cell_of_row w g 0 _ _ _ h1]; rfl
    have HU := unpackN_any w a s.1.length cap s.1 h2 (by omega) h7
    have hu := (unU_le s.1).1
    have HF := fail_any w g r s HR (unE s.1)
    rw [if_pos h0] at HF
    rw [h0] at HE
    have HV : Hid (∀ w1, RdAt w1 g r (s.1, unE s.1) → ∃ a cap, w1.cell? ⟨g, 0, none⟩ = some (.slice a s.1.length cap) ∧ w1.frozen? ⟨g, 0, none⟩ = false ∧ s.1.length ≤ cap ∧ cap ≤ maxLen ∧
        (cap = unU s.1 → RdAt (w1.setCell ⟨g, 0, none⟩ (.slice a (s.1.length - unU s.1) 0)) g r (s.1.drop (unU s.1), unE s.1)) ∧
        RdAt (w1.setCell ⟨g, 0, none⟩ (.slice (a.map fun x => x.add (unU s.1)) (s.1.length - unU s.1) (cap - unU s.1))) g r (s.1.drop (unU s.1), unE s.1)) := by
      intro w1 hR1
      obtain ⟨a, cap, h1, h2, h3, h4, h5, h6, h7⟩ := hR1
      obtain ⟨k1, k2⟩ := RdAt.cut h1 h2 h3 h4 h5 h6 h7 (unU s.1) (unU_le s.1).1
      exact ⟨a, cap, by rw [cell_of_row w1 g 0 _ _ _ h1]; rfl, frozen_of_row w1 g 0 _ _ h1, h3, h4, k1, k2⟩
    clear h1 h2 h3 h4 h5 h6 h7
    generalize unU s.1 = U at *
    generalize unV s.1 = V at *
    generalize unE s.1 = E at *
    go_enter Try.func22, Try.ntmps22
    go_wp2_with fail
    refine HE.mono ?_
    rintro e w1 ⟨rfl, rfl⟩
    go_wp2_with fail
    refine HU.mono ?_
    rintro e w1 ⟨rfl, rfl⟩
    go_wp2_with fail
    refine HF.mono ?_
    rintro e w2 ⟨rfl, hR2, ho⟩
    obtain ⟨a2, cap2, c0, f0, l0, m0, k1, k2⟩ := HV.out w2 hR2
    have HK1 : Hid (cap2 = U → RdAt (w2.setCell ⟨g, 0, none⟩ (.slice a2 (s.1.length - U) 0)) g r (s.1.drop U, E)) := k1
    clear HE HU HF HV k1
    go_wp2_with fail
    · go_ret
      have := HT.out
      subst this
      exact ⟨rfl, HK1.out ‹_›, ho.trans (Only.set _ g 0 _)⟩
    · go_ret
      have := HT.out
      subst this
      exact ⟨rfl, k2, ho.trans (Only.set _ g 0 _)⟩
  · have HT : Hid (numS s = (0, s)) := (stay h0).1
    generalize numS s = T at *
    go_enter Try.func22, Try.ntmps22
    go_wp2_with fail
    refine HE.mono ?_
    rintro e w1 ⟨rfl, rfl⟩
    go_wp2_with fail
    go_ret
    have := HT.out
    subst this
    exact ⟨rfl, HR, Only.refl _ _⟩
theorem pint_any (w : World) (g r : Nat) (s : RSt) (hR : RdAt w g r s) :
    Calls Try.prog 24 #[.pointer (some ⟨g, 0, none⟩)] w (RdR w g r (.int .i64 (zagV (numS s).1)) (numS s).2) := by
  have HN := pnum_any w g r s hR
  have hle := (numS_ok hR.byt).2
  have HZ := fun w => zag_any ((numS s).1 : Nat) w (by omega) (by omega)
  generalize numS s = T at *
  go_enter Try.func24, Try.ntmps24
  go_wp2_with fail
  refine HN.mono ?_
  rintro e w1 ⟨rfl, hR1, ho⟩
  have HZ := HZ w1
  generalize zagV (T.1 : Nat) = z at *
  go_wp2_with fail
  refine HZ.mono ?_
  rintro e w2 ⟨rfl, rfl⟩
  go_wp2_with fail
  go_ret
  exact ⟨rfl, hR1, ho⟩
theorem pcount_any (w : World) (g r : Nat) (s : RSt) (hR : RdAt w g r s) (most : Int) (m0 : -9223372036854775808 ≤ most) (m1 : most ≤ 9223372036854775807) :
    Calls Try.prog 31 #[.pointer (some ⟨g, 0, none⟩), .int .i64 most] w (RdR w g r (.int .i64 ((countS most s).1 : Nat)) (countS most s).2) := by
  have HN := pnum_any w g r s hR
  have hle := (numS_ok hR.byt).2
  have HT : Hid (((most < 0 ∨ most < (numS s).1) → (countS most s).1 = 0 ∧ (countS most s).2 = ((numS s).2.1, if (numS s).2.2 = 0 then 17 else (numS s).2.2)) ∧ (¬ (most < 0 ∨ most < (numS s).1) → countS most s = numS s)) := by
    have hbad := numS_bad (s := s)
    unfold Hid countS
    constructor
    · intro h
      by_cases he : (numS s).2.2 = 0
      · rw [if_pos ⟨he, h⟩, if_pos he]; exact ⟨rfl, rfl⟩
      · rw [if_neg (fun hc => he hc.1), if_neg he]; exact ⟨hbad he, rfl⟩
    · intro h
      rw [if_neg (fun hc => h hc.2)]
  generalize countS most s = C at *
  generalize numS s = T at *
  go_enter Try.func31, Try.ntmps31
  go_wp2_with fail
  refine HN.mono ?_
  rintro e w1 ⟨rfl, hR1, ho⟩
  have HF := fail_any w1 g r T.2 hR1 17
  have HO : Hid (Only g w w1 ∧ RdAt w1 g r T.2) := ⟨ho, hR1⟩
  clear HN hR hR1 ho
  by_cases h1 : most < 0
  · obtain ⟨c1, c2⟩ := HT.out.1 (.inl h1)
    rw [← c2] at HF
    clear HT c2
    generalize C.1 = c at *
    subst c1
    go_wp2_with fail
    refine HF.mono ?_
    rintro e w2 ⟨rfl, hR2, ho2⟩
    go_wp2_with fail
    go_ret
    exact ⟨rfl, hR2, HO.out.1.trans ho2⟩
  · by_cases h2 : most < T.1
    · obtain ⟨c1, c2⟩ := HT.out.1 (.inr h2)
      rw [← c2] at HF
      clear HT c2
      generalize C.1 = c at *
      generalize T.1 = t at *
      subst c1
      go_wp2_with fail
      refine HF.mono ?_
      rintro e w2 ⟨rfl, hR2, ho2⟩
      go_wp2_with fail
      go_ret
      exact ⟨rfl, hR2, HO.out.1.trans ho2⟩
    · have := HT.out.2 (by omega)
      subst this
      clear HT HF
      generalize HCE : C.1 = t at *
      go_wp2_with fail
      go_ret
      refine ⟨ret_int ?_, HO.out.2, HO.out.1⟩
      omega
theorem endS_some {s : RSt} (h : 0 < s.1.length) : endS s = (s.1, if s.2 = 0 then 2 else s.2) := by
  have : s.1 ≠ [] := fun e => by rw [e] at h; simp at h
  unfold endS
  by_cases he : s.2 = 0
  · rw [if_pos ⟨this, he⟩, if_pos he]
  · rw [if_neg (fun hc => he hc.2), if_neg he]
theorem endS_none {s : RSt} (h : ¬ 0 < s.1.length) : endS s = s := by
  unfold endS
  rw [if_neg (fun hc => hc.1 (List.eq_nil_of_length_eq_zero (by omega)))]
theorem pend_any (w : World) (g r : Nat) (s : RSt) (hR : RdAt w g r s) : Calls Try.prog 34 #[.pointer (some ⟨g, 0, none⟩)] w (RdR w g r (.int .i64 (endS s).2) (endS s)) := by
  have HR := hR
  have HF := fail_any w g r s hR 2
  obtain ⟨a, cap, h1, -⟩ := hR
  have hc0 : w.cell? ⟨g, 0, none⟩ = some (.slice a s.1.length cap) := by rw [cell_of_row w g 0 _ _ _ h1]; rfl
  clear h1
  by_cases hl : 0 < s.1.length
  · have hs := endS_some hl
    rw [← hs] at HF
    clear hs
    generalize endS s = T at HF ⊢
    have HE := fun w (h : RdAt w g r T) => err_any w g r T h
    generalize s.1.length = n at *
    go_enter Try.func34, Try.ntmps34
    go_wp2_with fail
    refine HF.mono ?_
    rintro e w1 ⟨rfl, hR1, ho⟩
    have HE := HE w1 hR1
    go_wp2_with fail
    refine HE.mono ?_
    rintro e w2 ⟨rfl, rfl⟩
    go_wp2_with fail
    go_ret
    exact ⟨rfl, hR1, ho⟩
  · rw [endS_none hl]
    clear HF
    have HE := err_any w g r s HR
    generalize s.1.length = n at *
    go_enter Try.func34, Try.ntmps34
    go_wp2_with fail
    refine HE.mono ?_
    rintro e w2 ⟨rfl, rfl⟩
    go_wp2_with fail
    go_ret
    exact ⟨rfl, HR, Only.refl _ _⟩
theorem ptext_any (w : World) (g r : Nat) (s : RSt) (hR : RdAt w g r s) : Calls Try.prog 27 #[.pointer (some ⟨g, 0, none⟩)] w (RdR w g r (.string (strN (textS s).1)) (textS s).2) := by
  have HC := pcount_any w g r s hR 16384 (by decide) (by decide)
  have hc := (countS_ok (most := 16384) hR.byt).2
  unfold textS
  generalize countS 16384 s = C at *
  go_enter Try.func27, Try.ntmps27
  go_wp2_with fail
  refine HC.mono ?_
  rintro e w1 ⟨rfl, hR1, ho⟩
  have HK := take_any w1 g r C.2 hR1 C.1 (by omega)
  generalize takeS C.1 C.2 = T at *
  go_wp2_with fail
  refine HK.mono ?_
  rintro e w2 ⟨a, cap, rfl, hr, hn, hoff, hR2, ho2⟩
  have hcv := conv_any hr hn cap
  go_wp2_with fail
  go_ret
  exact ⟨rfl, hR2, ho.trans ho2⟩
theorem beq_one (c : Nat) : ((c : Int) == 1) = decide (c = 1) := by
  by_cases h : c = 1
  · subst h; rfl
  · rw [decide_eq_false h, beq_eq_false_iff_ne]; omega
theorem RdAt.ne {w : World} {g r : Nat} {s : RSt} (h : RdAt w g r s) : r ≠ g ∧ r < w.heap.size := by obtain ⟨a, cap, -, -, -, -, h, -⟩ := h; exact h.2
theorem pflag_any (w : World) (g r : Nat) (s : RSt) (hR : RdAt w g r s) : Calls Try.prog 25 #[.pointer (some ⟨g, 0, none⟩)] w (RdR w g r (.bool (flagS s).1) (flagS s).2) := by
  have HK := take_any w g r s hR 1 (by decide)
  have hRg := hR.ne.1
  have hl : (takeS 1 s).1.length ≤ 1 := by
    unfold takeS; split
    · split
      · simp
      · rw [List.length_take]; omega
    · simp
  have hok : (takeS 1 s).1 ≠ [] → (takeS 1 s).2.2 = 0 := by
    unfold takeS; split
    · split
      · intro h; exact absurd rfl h
      · intro _; rfl
    · intro h; exact absurd rfl h
  have HFS : Hid (flagS s = (decide ((takeS 1 s).1 = [1]), (takeS 1 s).2.1, if 1 < (takeS 1 s).1.getD 0 0 then 2 else (takeS 1 s).2.2)) := rfl
  generalize flagS s = F at *
  generalize takeS 1 s = T at *
  obtain ⟨xs, S⟩ := T
  go_enter Try.func25, Try.ntmps25
  go_wp2_with fail
  refine HK.mono ?_
  rintro e w2 ⟨a, cap, rfl, hr, hn, hoff, hR2, ho2⟩
  clear HK
  cases xs with
  | nil =>
    have HF2 : Hid (F.1 = false ∧ F.2 = S) := by rw [HFS.out]; exact ⟨by simp, by simp⟩
    clear HFS
    obtain ⟨F1, F2⟩ := F
    go_wp2_with fail
    go_ret
    obtain ⟨e1, e2⟩ := HF2.out
    subst e1 e2
    exact ⟨rfl, hR2, ho2⟩
  | cons c xs =>
    obtain rfl : xs = [] := by cases xs with | nil => rfl | cons x l => simp at hl
    obtain ⟨b, off, rfl, hlt, hcell⟩ := hr.at 0 (by simp)
    have hc0 := hcell 0 (by simp)
    rw [Nat.add_zero] at hc0
    simp only [List.getD_cons_zero] at hc0
    clear hcell
    have h0 := hok (by simp)
    have HF := fail_any w2 g r S hR2 2
    rw [if_pos h0] at HF
    have HO : Hid (Only g w w2 ∧ RdAt w2 g r S ∧ S.2 = 0 ∧ (∀ w3, Only g w2 w3 → w3.cell? ⟨b, off, none⟩ = w2.cell? ⟨b, off, none⟩)) := ⟨ho2, hR2, h0, fun w3 ho => World.cell?_of_block (ho.block b hlt (by rw [show b = r from hoff _ rfl]; exact hRg))⟩
    have HF2 : Hid (F.1 = decide (c = 1) ∧ F.2 = (S.1, if 1 < c then 2 else S.2)) := by rw [HFS.out]; exact ⟨by simp, rfl⟩
    obtain ⟨F1, F2⟩ := F
    simp only [List.length_cons, List.length_nil, Nat.zero_add] at *
    clear hR2 ho2 hr hok hl h0 HFS hoff hn hR
    by_cases h1 : 1 < c
    · go_wp2_with fail
      refine HF.mono ?_
      rintro e w3 ⟨rfl, hR3, ho3⟩
      have hc3 := (HO.out.2.2.2 w3 ho3).trans hc0
      clear HF
      go_wp2_with fail
      go_ret
      obtain ⟨e1, e2⟩ := HF2.out
      rw [if_pos h1] at e2
      subst e1 e2
      exact ⟨by simp [beq_one], hR3, HO.out.1.trans ho3⟩
    · clear HF
      go_wp2_with fail
      go_ret
      obtain ⟨e1, e2⟩ := HF2.out
      rw [if_neg h1] at e2
      subst e1 e2
      exact ⟨by simp [beq_one], HO.out.2.1, HO.out.1⟩
end Go.Proofs.Ytngojkleehgbaaa
