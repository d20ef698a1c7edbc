/-
  PackReads: for all bytes, whatever kinds of fields and whatever bound: each value is the document's, and the first thing that is wrong.
-/
import Derived.Test.YtngojkleehgbaaaPArgs
import Derived.Test.YtngojkleehgbaaaPackRefR2
import Derived.Test.YtngojkleehgbaaaPackAwake
import Derived.Test.YtngojkleehgbaaaArgZ
import Derived.Test.YtngojkleehgbaaaInS
namespace Go.Proofs.Ytngojkleehgbaaa.packReads
open Go.ChangeShapes Go.WideShapes Go.ChangeAt Go.RowKit
open Go.ChangeMaps (open_string shut_string)
set_option linter.unusedVariables false
set_option linter.unusedSimpArgs false
/-- Both Readers, alike. -/
def Both (w wr : World) (G H r : Nat) (s : RSt) : Prop := RdAt wr G r s ∧ RfAt wr H s ∧ G ≠ H ∧ r ≠ H ∧ w.heap.size ≤ G ∧ w.heap.size ≤ H ∧ Below w.heap.size w wr
theorem Both.left {w wr w' : World} {G H r : Nat} {s s' : RSt} (h : Both w wr G H r s) (hR : RdAt w' G r s') (ho : Only G wr w') : RdAt w' G r s' ∧ RfAt w' H s ∧ G ≠ H ∧ r ≠ H ∧ w.heap.size ≤ G ∧ w.heap.size ≤ H ∧ Below w.heap.size w w' := by
  obtain ⟨-, h2, h3, h4, h5, h6, h7⟩ := h
  exact ⟨hR, h2.keep (ho.block H h2.lt (Ne.symm h3)), h3, h4, h5, h6, h7.trans (ho.below h5 h7.size)⟩
theorem Both.right {w wr w' : World} {G H r : Nat} {s s' : RSt} (h : RdAt wr G r s' ∧ RfAt wr H s ∧ G ≠ H ∧ r ≠ H ∧ w.heap.size ≤ G ∧ w.heap.size ≤ H ∧ Below w.heap.size w wr) (hR : RfAt w' H s') (ho : Only H wr w') : Both w w' G H r s' := by
  obtain ⟨h1, -, h3, h4, h5, h6, h7⟩ := h
  exact ⟨h1.keep (ho.block G h1.lt h3) (ho.block r h1.ne.2 h4) ho.size, hR, h3, h4, h5, h6, h7.trans (ho.below h6 h7.size)⟩
theorem Both.tail {w wr w' : World} {G H r : Nat} {s s' : RSt} (h : RdAt wr G r s' ∧ RfAt wr H s ∧ G ≠ H ∧ r ≠ H ∧ w.heap.size ≤ G ∧ w.heap.size ≤ H ∧ Below w.heap.size w wr) (hb : Below wr.heap.size wr w') : RdAt w' G r s' ∧ RfAt w' H s ∧ G ≠ H ∧ r ≠ H ∧ w.heap.size ≤ G ∧ w.heap.size ≤ H ∧ Below w.heap.size w w' := by
  obtain ⟨h1, h2, h3, h4, h5, h6, h7⟩ := h
  exact ⟨h1.below hb, h2.keep (hb.block H h2.lt), h3, h4, h5, h6, h7.trans (hb.mono h7.size)⟩
theorem zag_bounds (v : Nat) (h : v ≤ 18446744073709551615) : -9223372036854775808 ≤ zagV (v : Int) ∧ zagV (v : Int) ≤ 9223372036854775807 := by
  unfold zagV; split <;> omega
theorem zig_zag (v : Nat) : zigN (zagV (v : Int)) = v := by
  unfold zigN zagV zigV
  split <;> split <;> omega
theorem str_some {xs : List Nat} (h : xs ≠ []) : (strN xs).toList.isEmpty = false := by
  rw [Bool.eq_false_iff]
  intro e
  rw [List.isEmpty_iff] at e
  have h2 : (strN xs).toList.length = xs.length := by rw [Go.ByteArray.toList_eq]; simp [strN]
  rw [e] at h2
  simp at h2
  exact h (List.eq_nil_of_length_eq_zero h2.symm)
theorem flag_zero (s : RSt) (h : (flagS s).1 = true) : (flagS s).2.2 = 0 := by
  unfold flagS at h ⊢
  dsimp only at h ⊢
  have h1 : (takeS 1 s).1 = [1] := by simpa using h
  rw [h1, if_neg (by decide)]
  unfold takeS at h1 ⊢
  by_cases h0 : s.2 = 0
  · rw [if_pos h0] at h1 ⊢
    by_cases h2 : s.1.length < 1
    · rw [if_pos h2] at h1; cases h1
    · rw [if_neg h2]
  · rw [if_neg h0] at h1; cases h1
set_option maxRecDepth 100000 in
set_option maxHeartbeats 16000000 in
theorem walk (w : World) (a0 : Option Addr) (len0 cap0 : Nat) (x0 : List Nat) (w0 : ArgL w a0 len0 cap0 x0) (re0 : cap0 ≤ 140737488351232) (a1 : Option Addr) (len1 cap1 : Nat) (x1 : List Int) (w1 : ArgZ w a1 len1 x1) (a2 : Int) (w2 : (Lit.int .i64 a2).wf = true) :
    Calls Try.prog 4 #[.slice a0 len0 cap0, .slice a1 len1 cap1, .int .i64 a2] w fun e w' => e = .returned (.bool true) ∧ Below w.heap.size w w' := by
  obtain ⟨m0, m1⟩ := bounds_i64 w2
  obtain ⟨hr0, hb0, hn0, hlc0, hcm0⟩ := w0
  have hbyt : Byt x0 := fun c hc => by
    obtain ⟨i, hi, rfl⟩ := List.getElem_of_mem hc
    have := hb0 i
    rw [List.getD_eq_getElem?_getD, List.getElem?_eq_getElem hi] at this
    exact this
  have hxl : x0.length = len0 := hr0.1
  have hown := OwnL.empty 5 .u8 w w.heap.size (Nat.le_refl _)
  have hr1 := hr0.below (below_new w (.cells #[] 5))
  clear w2
  go_enter Try.func4, Try.ntmps4
  go_wp2_with (first
    | (at_builtin; refine append_nums numT8 _ rfl (.tmp 12) (.tmp 13) rfl w.heap.size _ [] x0 rfl hown a0 len0 cap0 rfl hr1 hn0 (by simp; omega) (by unfold maxLen; simp; omega) (by simp) ?_; intro v' v1 hown' hb'; obtain ⟨a9, c9, hv9, hr9, hc9, -⟩ := hown'.row; subst hv9; rw [List.nil_append] at hown' hr9 hc9))
  have hs1 : w.heap.size < v1.heap.size := by have := hb'.size; simp at this; omega
  obtain ⟨r, hi, hlt, hcm⟩ := hown'.spot w.heap.size hs1
  have B1 : Below w.heap.size w v1 := (below_new w _).trans hb'
  have HRE := read_any v1 a9 c9 x0 hr9 hc9 hcm (fun h => by subst h; exact hown'.none.2) r hi hlt hbyt
  have hrl : w.heap.size ≤ r ∨ a9 = none := by
    cases a9 with
    | none => exact .inr rfl
    | some ad =>
      refine .inl ?_
      have := own_ge hown' (b := ad.block) rfl
      rw [← hi ad rfl]; exact this
  rw [hxl] at HRE
  clear hown' hr9 hc9 hcm hi hb'
  refine HRE.mono ?_
  rintro _ v2 ⟨rfl, hR2, b2⟩
  have B2 : Below w.heap.size w v2 := B1.trans (b2.mono B1.size)
  have hcv := conv_any (hr0.below B2) (fun h => (hn0 h).1) cap0
  have hG : w.heap.size ≤ v1.heap.size ∧ v1.heap.size < v2.heap.size := ⟨B1.size, hR2.lt⟩
  have HB0 : Both w (v2.alloc (.cells #[.string (strN x0), .int .i64 0] 50)) v1.heap.size v2.heap.size r (x0, 0) := by
    refine ⟨hR2.below (below_new v2 _), ⟨heap_alloc_last v2 _, hbyt, by rw [hxl]; omega⟩, by omega, by have := hR2.ne.2; omega, hG.1, B2.size, B2.trans ((below_new v2 _).mono B2.size)⟩
  have HW : Hid (Both w (v2.alloc (.cells #[.string (strN x0), .int .i64 0] 50)) v1.heap.size v2.heap.size r (x0, 0)) := HB0
  generalize v1.heap.size = G at *
  clear HRE hR2 b2 B1 B2 HB0 hs1 hlt hr0 hr1 hn0 hown hrl
  go_wp2_with fail
  have HKEY : Hid (∀ (wz : World), Below w.heap.size w wz → ∀ i, i < len1 → ∃ b off, a1 = some ⟨b, off, none⟩ ∧ wz.cell? ⟨b, off + i, none⟩ = some (.int .i64 (x1.getD i 0))) := by
    intro wz hb i hi
    obtain ⟨⟨hz1, hz2⟩, -, -⟩ := w1
    rcases hz2 with h0 | ⟨b, off, ha, hlt, hc⟩
    · omega
    · exact ⟨b, off, ha, (hb.cell (p := ⟨b, off + i, none⟩) hlt).trans (hc i hi)⟩
  have hl1 := w1.2.2
  clear w1
  generalize v2.heap.size = H at *
  go_loopw [9] (fun ix wr => ∃ (wz : World) (i : Nat) (s : RSt), wz = wr ∧ ix = .int .i64 i ∧ i ≤ 60 ∧ Both w wz G H r s) (fun ix _ => 60 - (intOf ix).toNat)
  case atStart => exact ⟨_, 0, _, rfl, rfl, by omega, HW.out⟩
  case round =>
    clear HW
    obtain ⟨wr, i, s, hwr, rfl, hi60, hBo⟩ := hrel
    subst hwr
    have HB : Hid (Both w wr G H r s) := hBo
    have hok0 : OkS s := hBo.1.byt
    by_cases hin : i < len1 ∧ i < 60
    · obtain ⟨hil, hi6⟩ := hin
      obtain ⟨b1, off1, rfl, hkey⟩ := HKEY.out wr hBo.2.2.2.2.2.2 i hil
      clear hBo HKEY
      generalize x1.getD i 0 = q at *
      by_cases e0 : q = 0
      · subst e0
        have P := pnum_any wr G r s HB.out.1
        have Q := fun z1 (h : RfAt z1 H s) => qnum_any z1 H s h
        obtain ⟨S, hS⟩ : ∃ S, S = numS s := ⟨_, rfl⟩
        rw [← hS] at P
        simp only [← hS] at Q
        clear hS
        obtain ⟨v, S'⟩ := S
        go_wp2_with fail
        refine P.mono ?_
        rintro _ z1 ⟨rfl, hR1, o1⟩
        have hB1 := HB.out.left hR1 o1
        have Q := Q z1 hB1.2.1
        clear HB P hR1 o1
        go_wp2_with fail
        refine Q.mono ?_
        rintro _ z2 ⟨rfl, hR2, o2⟩
        have hB2 := Both.right hB1 hR2 o2
        clear Q hB1 hR2 o2
        go_wp2_with fail
        have hne := InS.some (S := fun W => Both w W G H r S') hB2
        have hSd : Both w z2.drew G H r S' := Both.tail hB2 ((Below.refl _ _).drew)
        have q1 : ∀ p : InS (fun W => Both w W G H r S'), p.w.cell? ⟨H, 1, none⟩ = some (.int .i64 S'.2) := fun p => p.h.2.1.cells.2.1
        have HE : ∀ p : InS (fun W => Both w W G H r S'), Calls Try.prog 33 #[.pointer (some ⟨G, 0, none⟩)] p.w fun e w' => e = .returned (.int .i64 S'.2) ∧ Both w w' G H r S' := fun p => (err_any p.w G r S' p.h.1).mono fun e w' ⟨he, hw⟩ => ⟨he, by rw [hw]; exact p.h⟩
        clear hB2
        refine wp_region_in (S := fun W => Both w W G H r S') (by kernel_rfl) (by kernel_rfl) hSd ?_
        clear hSd
        repeat (go_big_quiet_step (refine Calls.in_of (HE _)))
        refine wpQuiet_nil ?_
        intro _ hw
        obtain ⟨p, hp⟩ := hw
        have HB9 : Hid (Both w p.w G H r S') := p.h
        subst hp
        generalize p.w = z9 at *
        clear q1 HE hne
        go_wp2_with fail
        go_roundw
        case rel => exact ⟨z9, i + 1, S', rfl, rfl, by omega, HB9.out⟩
        case measure => simp [intOf]; omega
      by_cases e1 : q = 1
      · subst e1
        have P := pint_any wr G r s HB.out.1
        have Q := fun z1 (h : RfAt z1 H s) => qnum_any z1 H s h
        have hle := (numS_ok hok0).2
        obtain ⟨S, hS⟩ : ∃ S, S = numS s := ⟨_, rfl⟩
        rw [← hS] at P hle
        simp only [← hS] at Q
        clear hS
        obtain ⟨v, S'⟩ := S
        dsimp only at P Q hle
        have hz := zag_bounds v hle
        have hzz := zig_zag v
        have RI := fun z => rint_any (zagV v) z hz.1 hz.2
        rw [hzz] at RI
        have RN := fun z => rnum_any v z hle
        generalize zagV (v : Int) = a at *
        clear hz hzz
        go_wp2_with fail
        refine P.mono ?_
        rintro _ z1 ⟨rfl, hR1, o1⟩
        have hB1 := HB.out.left hR1 o1
        have RI := RI z1
        clear HB P hR1 o1
        go_wp2_with fail
        refine RI.mono ?_
        rintro _ z1' ⟨rfl, bI⟩
        have hB1' := Both.tail hB1 bI
        have Q := Q z1' hB1'.2.1
        clear hB1 RI bI
        go_wp2_with fail
        refine Q.mono ?_
        rintro _ z2' ⟨rfl, hR2, o2⟩
        have hB2' := Both.right hB1' hR2 o2
        have RN := RN z2'
        clear Q hB1' hR2 o2
        go_wp2_with fail
        refine RN.mono ?_
        rintro _ z2 ⟨rfl, bN⟩
        have hB2 : Both w z2 G H r S' := Both.tail hB2' bN
        clear RN hB2' bN
        go_wp2_with fail
        have hne := InS.some (S := fun W => Both w W G H r S') hB2
        have hSd : Both w z2.drew G H r S' := Both.tail hB2 ((Below.refl _ _).drew)
        have q1 : ∀ p : InS (fun W => Both w W G H r S'), p.w.cell? ⟨H, 1, none⟩ = some (.int .i64 S'.2) := fun p => p.h.2.1.cells.2.1
        have HE : ∀ p : InS (fun W => Both w W G H r S'), Calls Try.prog 33 #[.pointer (some ⟨G, 0, none⟩)] p.w fun e w' => e = .returned (.int .i64 S'.2) ∧ Both w w' G H r S' := fun p => (err_any p.w G r S' p.h.1).mono fun e w' ⟨he, hw⟩ => ⟨he, by rw [hw]; exact p.h⟩
        clear hB2
        refine wp_region_in (S := fun W => Both w W G H r S') (by kernel_rfl) (by kernel_rfl) hSd ?_
        clear hSd
        repeat (go_big_quiet_step (refine Calls.in_of (HE _)))
        refine wpQuiet_nil ?_
        intro _ hw
        obtain ⟨p, hp⟩ := hw
        have HB9 : Hid (Both w p.w G H r S') := p.h
        subst hp
        generalize p.w = z9 at *
        clear q1 HE hne
        go_wp2_with fail
        go_roundw
        case rel => exact ⟨z9, i + 1, S', rfl, rfl, by omega, HB9.out⟩
        case measure => simp [intOf]; omega
      by_cases e2 : q = 2
      · subst e2
        have P := pflag_any wr G r s HB.out.1
        have Q := fun z1 (h : RfAt z1 H s) => qflag_any z1 H s h
        have hfl := flag_zero s
        obtain ⟨S, hS⟩ : ∃ S, S = flagS s := ⟨_, rfl⟩
        rw [← hS] at P hfl
        simp only [← hS] at Q
        clear hS
        obtain ⟨v, S'⟩ := S
        dsimp only at P Q hfl
        go_wp2_with fail
        refine P.mono ?_
        rintro _ z1 ⟨rfl, hR1, o1⟩
        have hB1 := HB.out.left hR1 o1
        have Q := Q z1 hB1.2.1
        clear HB P hR1 o1
        go_wp2_with fail
        refine Q.mono ?_
        rintro _ z2 ⟨rfl, hR2, o2⟩
        have hB2 := Both.right hB1 hR2 o2
        clear Q hB1 hR2 o2
        obtain ⟨-, c1', -, -⟩ := hB2.2.1.cells
        cases v with
        | false =>
          clear hfl
          go_wp2_with fail
          have hne := InS.some (S := fun W => Both w W G H r S') hB2
          have hSd : Both w z2.drew G H r S' := Both.tail hB2 ((Below.refl _ _).drew)
          have q1 : ∀ p : InS (fun W => Both w W G H r S'), p.w.cell? ⟨H, 1, none⟩ = some (.int .i64 S'.2) := fun p => p.h.2.1.cells.2.1
          have HE : ∀ p : InS (fun W => Both w W G H r S'), Calls Try.prog 33 #[.pointer (some ⟨G, 0, none⟩)] p.w fun e w' => e = .returned (.int .i64 S'.2) ∧ Both w w' G H r S' := fun p => (err_any p.w G r S' p.h.1).mono fun e w' ⟨he, hw⟩ => ⟨he, by rw [hw]; exact p.h⟩
          clear hB2
          refine wp_region_in (S := fun W => Both w W G H r S') (by kernel_rfl) (by kernel_rfl) hSd ?_
          clear hSd
          repeat (go_big_quiet_step (refine Calls.in_of (HE _)))
          refine wpQuiet_nil ?_
          intro _ hw
          obtain ⟨p, hp⟩ := hw
          have HB9 : Hid (Both w p.w G H r S') := p.h
          subst hp
          generalize p.w = z9 at *
          clear q1 HE hne
          go_wp2_with fail
          go_roundw
          case rel => exact ⟨z9, i + 1, S', rfl, rfl, by omega, HB9.out⟩
          case measure => simp [intOf]; omega
        | true =>
          have h0 := hfl rfl
          rw [h0] at c1'
          clear hfl
          go_wp2_with fail
          have hne := InS.some (S := fun W => Both w W G H r S') hB2
          have hSd : Both w z2.drew G H r S' := Both.tail hB2 ((Below.refl _ _).drew)
          have q1 : ∀ p : InS (fun W => Both w W G H r S'), p.w.cell? ⟨H, 1, none⟩ = some (.int .i64 S'.2) := fun p => p.h.2.1.cells.2.1
          have HE : ∀ p : InS (fun W => Both w W G H r S'), Calls Try.prog 33 #[.pointer (some ⟨G, 0, none⟩)] p.w fun e w' => e = .returned (.int .i64 S'.2) ∧ Both w w' G H r S' := fun p => (err_any p.w G r S' p.h.1).mono fun e w' ⟨he, hw⟩ => ⟨he, by rw [hw]; exact p.h⟩
          clear hB2
          refine wp_region_in (S := fun W => Both w W G H r S') (by kernel_rfl) (by kernel_rfl) hSd ?_
          clear hSd
          repeat (go_big_quiet_step (refine Calls.in_of (HE _)))
          refine wpQuiet_nil ?_
          intro _ hw
          obtain ⟨p, hp⟩ := hw
          have HB9 : Hid (Both w p.w G H r S') := p.h
          subst hp
          generalize p.w = z9 at *
          clear q1 HE hne
          go_wp2_with fail
          go_roundw
          case rel => exact ⟨z9, i + 1, S', rfl, rfl, by omega, HB9.out⟩
          case measure => simp [intOf]; omega
      by_cases e3 : q = 3
      · subst e3
        have P := ptext_any wr G r s HB.out.1
        have Q := fun z1 (h : RfAt z1 H s) => qtext_any z1 H s h
        obtain ⟨S, hS⟩ : ∃ S, S = textS s := ⟨_, rfl⟩
        rw [← hS] at P
        simp only [← hS] at Q
        clear hS
        obtain ⟨v, S'⟩ := S
        go_wp2_with fail
        refine P.mono ?_
        rintro _ z1 ⟨rfl, hR1, o1⟩
        have hB1 := HB.out.left hR1 o1
        have Q := Q z1 hB1.2.1
        clear HB P hR1 o1
        go_wp2_with fail
        refine Q.mono ?_
        rintro _ z2 ⟨rfl, hR2, o2⟩
        have hB2 := Both.right hB1 hR2 o2
        clear Q hB1 hR2 o2
        go_wp2_with fail
        have hne := InS.some (S := fun W => Both w W G H r S') hB2
        have hSd : Both w z2.drew G H r S' := Both.tail hB2 ((Below.refl _ _).drew)
        have q1 : ∀ p : InS (fun W => Both w W G H r S'), p.w.cell? ⟨H, 1, none⟩ = some (.int .i64 S'.2) := fun p => p.h.2.1.cells.2.1
        have HE : ∀ p : InS (fun W => Both w W G H r S'), Calls Try.prog 33 #[.pointer (some ⟨G, 0, none⟩)] p.w fun e w' => e = .returned (.int .i64 S'.2) ∧ Both w w' G H r S' := fun p => (err_any p.w G r S' p.h.1).mono fun e w' ⟨he, hw⟩ => ⟨he, by rw [hw]; exact p.h⟩
        clear hB2
        refine wp_region_in (S := fun W => Both w W G H r S') (by kernel_rfl) (by kernel_rfl) hSd ?_
        clear hSd
        repeat (go_big_quiet_step (refine Calls.in_of (HE _)))
        refine wpQuiet_nil ?_
        intro _ hw
        obtain ⟨p, hp⟩ := hw
        have HB9 : Hid (Both w p.w G H r S') := p.h
        subst hp
        generalize p.w = z9 at *
        clear q1 HE hne
        go_wp2_with fail
        go_roundw
        case rel => exact ⟨z9, i + 1, S', rfl, rfl, by omega, HB9.out⟩
        case measure => simp [intOf]; omega
      by_cases e4 : q = 4
      · subst e4
        have P := pdigest_any wr G r s HB.out.1
        have Q := fun z1 (h : RfAt z1 H s) => qdigest_any z1 H s h
        have hdl := (digestS_ok hok0).2.2
        obtain ⟨S, hS⟩ : ∃ S, S = digestS s := ⟨_, rfl⟩
        rw [← hS] at P hdl
        simp only [← hS] at Q
        clear hS
        obtain ⟨v, S'⟩ := S
        go_wp2_with fail
        refine P.mono ?_
        rintro _ z1 ⟨rfl, hR1, o1⟩
        have hB1 := HB.out.left hR1 o1
        have Q := Q z1 hB1.2.1
        clear HB P hR1 o1
        go_wp2_with fail
        refine Q.mono ?_
        rintro _ z2 ⟨rfl, hR2, o2⟩
        have hB2 := Both.right hB1 hR2 o2
        clear Q hB1 hR2 o2
        have hsame := fun z => same_digest v hdl z
        go_wp2_with fail
        have hne := InS.some (S := fun W => Both w W G H r S') hB2
        have hSd : Both w z2.drew G H r S' := Both.tail hB2 ((Below.refl _ _).drew)
        have q1 : ∀ p : InS (fun W => Both w W G H r S'), p.w.cell? ⟨H, 1, none⟩ = some (.int .i64 S'.2) := fun p => p.h.2.1.cells.2.1
        have HE : ∀ p : InS (fun W => Both w W G H r S'), Calls Try.prog 33 #[.pointer (some ⟨G, 0, none⟩)] p.w fun e w' => e = .returned (.int .i64 S'.2) ∧ Both w w' G H r S' := fun p => (err_any p.w G r S' p.h.1).mono fun e w' ⟨he, hw⟩ => ⟨he, by rw [hw]; exact p.h⟩
        clear hB2
        refine wp_region_in (S := fun W => Both w W G H r S') (by kernel_rfl) (by kernel_rfl) hSd ?_
        clear hSd
        repeat (go_big_quiet_step (refine Calls.in_of (HE _)))
        refine wpQuiet_nil ?_
        intro _ hw
        obtain ⟨p, hp⟩ := hw
        have HB9 : Hid (Both w p.w G H r S') := p.h
        subst hp
        generalize p.w = z9 at *
        clear q1 HE hne
        go_wp2_with fail
        go_roundw
        case rel => exact ⟨z9, i + 1, S', rfl, rfl, by omega, HB9.out⟩
        case measure => simp [intOf]; omega
      by_cases e5 : q = 5
      · subst e5
        have P := pcount_any wr G r s HB.out.1 a2 m0 m1
        have Q := fun z1 (h : RfAt z1 H s) => qcount_any z1 H s h a2 m0 m1
        obtain ⟨S, hS⟩ : ∃ S, S = countS a2 s := ⟨_, rfl⟩
        rw [← hS] at P
        simp only [← hS] at Q
        clear hS
        obtain ⟨v, S'⟩ := S
        go_wp2_with fail
        refine P.mono ?_
        rintro _ z1 ⟨rfl, hR1, o1⟩
        have hB1 := HB.out.left hR1 o1
        have Q := Q z1 hB1.2.1
        clear HB P hR1 o1
        go_wp2_with fail
        refine Q.mono ?_
        rintro _ z2 ⟨rfl, hR2, o2⟩
        have hB2 := Both.right hB1 hR2 o2
        clear Q hB1 hR2 o2
        go_wp2_with fail
        have hne := InS.some (S := fun W => Both w W G H r S') hB2
        have hSd : Both w z2.drew G H r S' := Both.tail hB2 ((Below.refl _ _).drew)
        have q1 : ∀ p : InS (fun W => Both w W G H r S'), p.w.cell? ⟨H, 1, none⟩ = some (.int .i64 S'.2) := fun p => p.h.2.1.cells.2.1
        have HE : ∀ p : InS (fun W => Both w W G H r S'), Calls Try.prog 33 #[.pointer (some ⟨G, 0, none⟩)] p.w fun e w' => e = .returned (.int .i64 S'.2) ∧ Both w w' G H r S' := fun p => (err_any p.w G r S' p.h.1).mono fun e w' ⟨he, hw⟩ => ⟨he, by rw [hw]; exact p.h⟩
        clear hB2
        refine wp_region_in (S := fun W => Both w W G H r S') (by kernel_rfl) (by kernel_rfl) hSd ?_
        clear hSd
        repeat (go_big_quiet_step (refine Calls.in_of (HE _)))
        refine wpQuiet_nil ?_
        intro _ hw
        obtain ⟨p, hp⟩ := hw
        have HB9 : Hid (Both w p.w G H r S') := p.h
        subst hp
        generalize p.w = z9 at *
        clear q1 HE hne
        go_wp2_with fail
        go_roundw
        case rel => exact ⟨z9, i + 1, S', rfl, rfl, by omega, HB9.out⟩
        case measure => simp [intOf]; omega
      have hB2 := HB.out
      obtain ⟨S', hS'⟩ : ∃ S', S' = s := ⟨_, rfl⟩
      rw [← hS'] at hB2
      obtain ⟨z2, hz2⟩ : ∃ z2, z2 = wr := ⟨_, rfl⟩
      subst hz2
      clear HB hS'
      go_wp2_with fail
      have hne := InS.some (S := fun W => Both w W G H r S') hB2
      have hSd : Both w z2.drew G H r S' := Both.tail hB2 ((Below.refl _ _).drew)
      have q1 : ∀ p : InS (fun W => Both w W G H r S'), p.w.cell? ⟨H, 1, none⟩ = some (.int .i64 S'.2) := fun p => p.h.2.1.cells.2.1
      have HE : ∀ p : InS (fun W => Both w W G H r S'), Calls Try.prog 33 #[.pointer (some ⟨G, 0, none⟩)] p.w fun e w' => e = .returned (.int .i64 S'.2) ∧ Both w w' G H r S' := fun p => (err_any p.w G r S' p.h.1).mono fun e w' ⟨he, hw⟩ => ⟨he, by rw [hw]; exact p.h⟩
      clear hB2
      refine wp_region_in (S := fun W => Both w W G H r S') (by kernel_rfl) (by kernel_rfl) hSd ?_
      clear hSd
      repeat (go_big_quiet_step (refine Calls.in_of (HE _)))
      refine wpQuiet_nil ?_
      intro _ hw
      obtain ⟨p, hp⟩ := hw
      have HB9 : Hid (Both w p.w G H r S') := p.h
      subst hp
      generalize p.w = z9 at *
      clear q1 HE hne
      go_wp2_with fail
      go_roundw
      case rel => exact ⟨z9, i + 1, S', rfl, rfl, by omega, HB9.out⟩
      case measure => simp [intOf]; omega
    · clear HKEY
      obtain ⟨c0, c1, -, -⟩ := hBo.2.1.cells
      obtain ⟨xs, e⟩ := s
      dsimp only at c0 c1
      clear hBo hok0
      by_cases hA : i < len1
      · have hA2 : ¬ ((i : Int) < 60) := by omega
        by_cases h0 : e = 0
        · subst h0
          by_cases hx : xs = []
          · subst hx
            have hstr : (strN []).toList.isEmpty = true := by decide +kernel
            have HE : endS (([], 0) : RSt) = ([], 0) := by decide
            go_wp2_with fail
            refine (awake_any wr).mono ?_
            rintro _ z1 ⟨rfl, bA⟩
            have hB1 : Both w z1 G H r ([], 0) := Both.tail HB.out bA
            have P : Calls Try.prog 34 #[.pointer (some ⟨G, 0, none⟩)] z1 (RdR z1 G r (.int .i64 0) ([], 0)) := by
              have := pend_any z1 G r _ hB1.1
              rw [HE] at this
              exact this
            clear HE c0 c1 HB bA
            go_wp2_with fail
            refine P.mono ?_
            rintro _ z2 ⟨rfl, hR2, o2⟩
            have hB2 := hB1.left hR2 o2
            have P := err_any z2 G r _ hR2
            clear hB1 hR2 o2
            go_wp2_with fail
            refine P.mono ?_
            rintro _ z3 ⟨rfl, rfl⟩
            go_wp2_with fail
            go_ret
            exact ⟨rfl, hB2.2.2.2.2.2.2⟩
          · skip
            have hstr := str_some hx
            have HE : endS ((xs, 0) : RSt) = (xs, 2) := by unfold endS; rw [if_pos ⟨hx, rfl⟩]
            clear hx
            go_wp2_with fail
            refine (awake_any wr).mono ?_
            rintro _ z1 ⟨rfl, bA⟩
            have hB1 : Both w z1 G H r (xs, 0) := Both.tail HB.out bA
            have P : Calls Try.prog 34 #[.pointer (some ⟨G, 0, none⟩)] z1 (RdR z1 G r (.int .i64 2) (xs, 2)) := by
              have := pend_any z1 G r _ hB1.1
              rw [HE] at this
              exact this
            clear HE c0 c1 HB bA
            go_wp2_with fail
            refine P.mono ?_
            rintro _ z2 ⟨rfl, hR2, o2⟩
            have hB2 := hB1.left hR2 o2
            have P := err_any z2 G r _ hR2
            clear hB1 hR2 o2
            go_wp2_with fail
            refine P.mono ?_
            rintro _ z3 ⟨rfl, rfl⟩
            go_wp2_with fail
            go_ret
            exact ⟨rfl, hB2.2.2.2.2.2.2⟩
        · skip
          have HE : endS ((xs, e) : RSt) = (xs, e) := (stay (s := (xs, e)) h0).2.2.2.2.2.2
          have h0 : (e == 0) = false := by simpa using h0
          go_wp2_with fail
          refine (awake_any wr).mono ?_
          rintro _ z1 ⟨rfl, bA⟩
          have hB1 : Both w z1 G H r (xs, e) := Both.tail HB.out bA
          have P : Calls Try.prog 34 #[.pointer (some ⟨G, 0, none⟩)] z1 (RdR z1 G r (.int .i64 e) (xs, e)) := by
            have := pend_any z1 G r _ hB1.1
            rw [HE] at this
            exact this
          clear HE c0 c1 HB bA
          go_wp2_with fail
          refine P.mono ?_
          rintro _ z2 ⟨rfl, hR2, o2⟩
          have hB2 := hB1.left hR2 o2
          have P := err_any z2 G r _ hR2
          clear hB1 hR2 o2
          go_wp2_with fail
          refine P.mono ?_
          rintro _ z3 ⟨rfl, rfl⟩
          go_wp2_with fail
          go_ret
          exact ⟨by simp, hB2.2.2.2.2.2.2⟩
      · have hA2 : ¬ ((i : Int) < (len1 : Int)) := by omega
        by_cases h0 : e = 0
        · subst h0
          by_cases hx : xs = []
          · subst hx
            have hstr : (strN []).toList.isEmpty = true := by decide +kernel
            have HE : endS (([], 0) : RSt) = ([], 0) := by decide
            go_wp2_with fail
            refine (awake_any wr).mono ?_
            rintro _ z1 ⟨rfl, bA⟩
            have hB1 : Both w z1 G H r ([], 0) := Both.tail HB.out bA
            have P : Calls Try.prog 34 #[.pointer (some ⟨G, 0, none⟩)] z1 (RdR z1 G r (.int .i64 0) ([], 0)) := by
              have := pend_any z1 G r _ hB1.1
              rw [HE] at this
              exact this
            clear HE c0 c1 HB bA
            go_wp2_with fail
            refine P.mono ?_
            rintro _ z2 ⟨rfl, hR2, o2⟩
            have hB2 := hB1.left hR2 o2
            have P := err_any z2 G r _ hR2
            clear hB1 hR2 o2
            go_wp2_with fail
            refine P.mono ?_
            rintro _ z3 ⟨rfl, rfl⟩
            go_wp2_with fail
            go_ret
            exact ⟨rfl, hB2.2.2.2.2.2.2⟩
          · skip
            have hstr := str_some hx
            have HE : endS ((xs, 0) : RSt) = (xs, 2) := by unfold endS; rw [if_pos ⟨hx, rfl⟩]
            clear hx
            go_wp2_with fail
            refine (awake_any wr).mono ?_
            rintro _ z1 ⟨rfl, bA⟩
            have hB1 : Both w z1 G H r (xs, 0) := Both.tail HB.out bA
            have P : Calls Try.prog 34 #[.pointer (some ⟨G, 0, none⟩)] z1 (RdR z1 G r (.int .i64 2) (xs, 2)) := by
              have := pend_any z1 G r _ hB1.1
              rw [HE] at this
              exact this
            clear HE c0 c1 HB bA
            go_wp2_with fail
            refine P.mono ?_
            rintro _ z2 ⟨rfl, hR2, o2⟩
            have hB2 := hB1.left hR2 o2
            have P := err_any z2 G r _ hR2
            clear hB1 hR2 o2
            go_wp2_with fail
            refine P.mono ?_
            rintro _ z3 ⟨rfl, rfl⟩
            go_wp2_with fail
            go_ret
            exact ⟨rfl, hB2.2.2.2.2.2.2⟩
        · skip
          have HE : endS ((xs, e) : RSt) = (xs, e) := (stay (s := (xs, e)) h0).2.2.2.2.2.2
          have h0 : (e == 0) = false := by simpa using h0
          go_wp2_with fail
          refine (awake_any wr).mono ?_
          rintro _ z1 ⟨rfl, bA⟩
          have hB1 : Both w z1 G H r (xs, e) := Both.tail HB.out bA
          have P : Calls Try.prog 34 #[.pointer (some ⟨G, 0, none⟩)] z1 (RdR z1 G r (.int .i64 e) (xs, e)) := by
            have := pend_any z1 G r _ hB1.1
            rw [HE] at this
            exact this
          clear HE c0 c1 HB bA
          go_wp2_with fail
          refine P.mono ?_
          rintro _ z2 ⟨rfl, hR2, o2⟩
          have hB2 := hB1.left hR2 o2
          have P := err_any z2 G r _ hR2
          clear hB1 hR2 o2
          go_wp2_with fail
          refine P.mono ?_
          rintro _ z3 ⟨rfl, rfl⟩
          go_wp2_with fail
          go_ret
          exact ⟨by simp, hB2.2.2.2.2.2.2⟩
set_option maxRecDepth 100000 in
theorem contract (H : Type) (enc : TypeId × Value → H) (W : World) (base : Nat) (args : Array Value) (ds gs : List (DataW H)) (before : List MemPlace)
    (hval : ∀ (j : Nat) t v, Try.f4.params[j]? = some t → args[j]? = some v → Value.okWide Try.prog W .any base t v)
    (hW : DataW.Whole enc Try.prog Try.f4.params.toList Rows.packReadsSpec.vars false W args.toList ds gs before)
    (hsz : (DataW.weightsEach Try.prog (Try.f4.params.toList ++ Rows.packReadsSpec.plain.varTypes Try.prog) (ds ++ gs)).all (· ≤ reachBytes) = true) :
    Calls Try.prog 4 args W fun e W' => ∃ v, e = .returned v ∧ Rows.packReadsSpec.post enc Try.prog Try.f4 false true false false W args v W' := by
  have hW' := hW
  obtain ⟨p, q, hA0, hV, rfl, hfz, hnd⟩ := hW
  have hA : DataW.TrodAll enc Try.prog W 0 (fun _ => true) true Try.f4.params.toList args.toList ds p := hA0
  rw [Try.params4] at hA hval hsz
  obtain ⟨v0, vs0, d0, ds0, p0, q0, hargs, rfl, rfl, h0, r0⟩ := trodAll_cons hA
  obtain ⟨v1, vs1, d1, ds1, p1, q1, rfl, rfl, rfl, h1, r1⟩ := trodAll_cons r0
  obtain ⟨v2, vs2, d2, ds2, p2, q2, rfl, rfl, rfl, h2, r2⟩ := trodAll_cons r1
  obtain ⟨rfl, rfl, rfl⟩ := trodAll_nil r2
  obtain rfl : args = #[v0, v1, v2] := by cases args; simp_all
  obtain ⟨rfl, rfl⟩ := trodVars_none hV
  obtain ⟨a0, len0, cap0, rfl⟩ := okWide_slice Try.underlying41 (hval 0 41 v0 rfl rfl)
  have k0 := h0
  have lt0 : ∀ x ∈ p0, x.block < W.heap.size := by obtain ⟨m, hm⟩ := k0; exact DataW.trod_lt m _ _ _ hm
  obtain ⟨x0, w0, re0⟩ : ∃ xs, ArgL W a0 len0 cap0 xs ∧ cap0 ≤ 140737488351232 := by
    obtain ⟨fuel, hf⟩ := h0
    rcases open_ints Try.underlying41 Try.underlying5 (by kernel_rfl) hf with ⟨hcs, _⟩ | ⟨x, l, c, zs, hcs, _, hl, hm, hz, hx, hcell, hwz⟩
    · simp [Value.cells] at hcs
      obtain ⟨rfl, rfl, rfl⟩ := hcs
      exact ⟨_, arg_at (.inl ⟨rfl, rfl, rfl, rfl⟩), by omega⟩
    · simp [Value.cells] at hcs
      obtain ⟨rfl, rfl, rfl⟩ := hcs
      have hd := congrArg Prod.fst hx
      simp only [] at hd
      have hz' : zs.length = cap0 := by simpa using hz
      have hb := sized_slice hsz (j := 0) (t := 41) (e := 5) rfl (by rw [hd]; rfl) Try.underlying41
      have hby : Try.prog.bytesOf 5 = 1 := by kernel_rfl
      rw [hby] at hb
      simp only [lits, List.length_map, List.length_take, List.length_drop, reachBytes] at hb
      exact ⟨_, arg_at (.inr ⟨_, rfl, hl, hm, hz', hcell, hwz⟩), by omega⟩
  obtain ⟨a1, len1, cap1, rfl⟩ := okWide_slice Try.underlying44 (hval 1 44 v1 rfl rfl)
  have k1 := h1
  have lt1 : ∀ x ∈ p1, x.block < W.heap.size := by obtain ⟨m, hm⟩ := k1; exact DataW.trod_lt m _ _ _ hm
  obtain ⟨x1, w1⟩ : ∃ zs, ArgZ W a1 len1 zs := by
    obtain ⟨fuel, hf⟩ := h1
    rcases open_ints Try.underlying44 Try.underlying3 (by kernel_rfl) hf with ⟨hcs, _⟩ | ⟨x, l, c, zs, hcs, _, hl, hm, hz, hx, hcell, hwz⟩
    · simp [Value.cells] at hcs
      obtain ⟨rfl, rfl, rfl⟩ := hcs
      exact ⟨[], argz_nil _⟩
    · simp [Value.cells] at hcs
      obtain ⟨rfl, rfl, rfl⟩ := hcs
      have hz' : zs.length = cap1 := by simpa using hz
      exact ⟨_, argz_at hl hm hz' hcell⟩
  obtain ⟨a2, rfl, rfl, rfl, w2⟩ := open_int Try.underlying3 (hval 2 3 v2 rfl rfl) h2
  clear hA0 hsz
  refine (walk W a0 len0 cap0 x0 w0 re0 a1 len1 cap1 x1 w1 a2 w2).mono fun e W' ⟨he, bel⟩ => ?_
  subst he
  exact ⟨_, rfl, _, _, _, [], _, [], hW', trodAll_mk1 (shut_bool Try.underlying4 _), (trodAll_cons_mk (Below.trod laidOut (by kernel_rfl) (of_decide_eq_true (by kernel_rfl)) k0 bel lt0) (trodAll_cons_mk (Below.trod laidOut (by kernel_rfl) (of_decide_eq_true (by kernel_rfl)) k1 bel lt1) (trodAll_cons_mk (shut_int Try.underlying3 w2) trodAll_mk0))), rfl, bel.frame _, fun h => by cases h⟩
set_option maxRecDepth 100000 in
theorem lifted (os : Os) (started : os.Started) (H : Type) (enc : TypeId × Value → H) :
    ReturnsInHanded {} Try.checked os 4 .any (Rows.packReadsSpec.pre6 enc Try.prog Try.f4 Rows.packReadsRow.domain false) (Rows.packReadsSpec.post enc Try.prog Try.f4 false true false false) := by
  refine returnsInHanded_of_change_sized (C := Try.checked) own started (by kernel_rfl) Try.func4
    (ChangeSpec.witness6 (enc := enc) (C := Try.checked) false ⟨#[], #[.slice none 0 0, .slice none 0 0, .int .i64 0], []⟩ 8 (by kernel_rfl) (by kernel_rfl) (by kernel_rfl) (by kernel_rfl)) ?_
  intro W base args ds gs before hval hW _ hsz _
  exact contract H enc W base args ds gs before hval hW hsz
theorem over : Rows.packReadsRow.holds Try.pinned (OpenSpec.ofChange Rows.packReadsSpec) :=
  OpenClaim.holds_of_wide 4 Try.f4 rfl rfl rfl rfl rfl rfl rfl ⟨rfl, rfl, rfl, rfl, rfl⟩ rfl rfl rfl rfl rfl (by kernel_rfl) Try.func4 (by kernel_rfl)
    (of_decide_eq_true (by kernel_rfl)) (by unfold Func.isWrapper; first | (rw [if_pos (by decide +kernel)]; kernel_rfl) | (rw [if_neg (by decide +kernel)]; exact ⟨rfl, rfl⟩))
    (fun os started H enc _ => lifted os started H enc)
theorem proved : Rows.PackReadsSaid := over
end Go.Proofs.Ytngojkleehgbaaa.packReads
