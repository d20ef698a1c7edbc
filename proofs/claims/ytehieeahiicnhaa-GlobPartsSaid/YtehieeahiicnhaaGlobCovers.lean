/-
  The program's covers and Match; the forms of the answers.
-/
import Derived.Test.YtehieeahiicnhaaGlobSkip
import Derived.Test.YtehieeahiicnhaaGlobPQuote
import Derived.Test.YtehieeahiicnhaaGlobMatch0
import Derived.Test.YtehieeahiicnhaaHeldMore
import Derived.BigQuiet
namespace Go.Proofs.Ytehieeahiicnhaa
open Go.ChangeShapes Go.WideShapes Go.ChangeAt Go.RowKit
set_option linter.unusedVariables false
set_option linter.unusedSimpArgs false
theorem less_star {T f i n L L' : Nat} (hf : f ≤ i) (hL : L' < L) : (T - i) * (n + 1) + L' < (T - f) * (n + 1) + L := by
  have := Nat.mul_le_mul_right (n + 1) (show T - i ≤ T - f by omega)
  omega
theorem less_again {T f n L L' : Nat} (hf : f < T) (hL : L' ≤ n) : (T - (f + 1)) * (n + 1) + L' < (T - f) * (n + 1) + L := by
  obtain ⟨X, hX⟩ : ∃ X, T - f = X + 1 := ⟨T - f - 1, by omega⟩
  rw [hX, show T - (f + 1) = X by omega, Nat.succ_mul]
  omega
/-- What the place to begin again at holds. -/
def AgainR (g n cap r : Nat) (met : Bool) (v : Value) : Prop := met = true → ∃ (off L C : Nat), v = .slice (some ⟨g, off, none⟩) L C ∧ RestAt n cap r off L C
theorem AgainR.none (g n cap r : Nat) (v : Value) : AgainR g n cap r false v := fun h => by cases h
set_option maxRecDepth 100000 in
set_option maxHeartbeats 16000000 in
theorem covers_any (ps : List (Nat × Nat)) (g n cap : Nat) (S : ByteArray) (w : World) (hn : n = ps.length) (hnc : n ≤ cap) (hc : cap ≤ 200) (hrow : RowG w (some ⟨g, 0, none⟩) ps) (hle : ∀ q ∈ ps, q.1 ≤ 2) (hs : S.size ≤ 140737488355328) :
    Calls Try.prog 20 #[.slice (some ⟨g, 0, none⟩) n cap, .string S] w fun e w' => e = .returned (.bool (mAt ps (txt S) 0 0)) ∧ Below w.heap.size w w' := by
  have HROW : Hid (RowG w (some ⟨g, 0, none⟩) ps) := hrow
  have HN : Hid (n = ps.length) := hn
  have HLE : Hid (∀ q ∈ ps, q.1 ≤ 2) := hle
  have HTL : Hid ((txt S).length = S.size) := txt_length S
  have hn2 : n ≤ 200 := by omega
  clear hn hrow hle
  go_enter Try.func20, Try.ntmps20
  go_wp2_with fail
  go_loopw [0, 5, 6, 7, 8] (fun pv av mv fv iv wr => ∃ (wz : World) (k off L C r f i : Nat) (met : Bool) (a0 : Value), wz = wr ∧ pv = .slice (some ⟨g, off, none⟩) L C ∧ av = a0 ∧ mv = .bool met ∧ fv = .int .i64 f ∧ iv = .int .i64 i ∧ RestAt n cap k off L C ∧ AgainR g n cap r met a0 ∧ i ≤ S.size ∧ f ≤ i ∧ Seek ps (txt S) met r f k i ∧ Below w.heap.size w wz) (fun pv _ _ fv _ _ => (S.size - (intOf fv).toNat) * (n + 1) + lenV pv)
  case atStart => exact ⟨_, 0, 0, n, cap, 0, 0, 0, false, _, rfl, rfl, rfl, rfl, rfl, rfl, ⟨Nat.zero_le _, hnc, rfl, rfl, fun _ => rfl⟩, AgainR.none _ _ _ _ _, Nat.zero_le _, Nat.le_refl _, Seek.start _ _ _ _, Below.refl _ _⟩
  case round =>
    obtain ⟨wr, k, off, L, C, r, f, i, met, a0, hwr, rfl, hav, rfl, rfl, rfl, hre, hag, hi, hfi, hsk, hbe⟩ := hrel
    subst hwr
    replace hav := hav.symm
    subst hav
    have HRE : Hid (RestAt n cap k off L C) := hre
    have HAG : Hid (AgainR g n cap r met a0) := hag
    have HSK : Hid (Seek ps (txt S) met r f k i) := hsk
    have HBE : Hid (Below w.heap.size w wr) := hbe
    obtain ⟨r1, r2, r3, r4, r5⟩ := hre
    have hL200 : L ≤ 200 := by omega
    have hLC : L ≤ C := by omega
    clear hag hsk hbe
    by_cases hlt : i < S.size
    · have hii : (i : Int) < (S.size : Int) := by omega
      have hit : i < (txt S).length := by rw [HTL.out]; exact hlt
      have HG : Hid ((S[i]'hlt).toNat = (txt S).getD i 0) := get_txt S i hlt
      by_cases hkn : k < n
      · have hL : (0 : Int) < (L : Int) := by omega
        have hL1 : 0 < L := by omega
        have hkp : k < ps.length := by rw [← HN.out]; exact hkn
        have hoff := r5 hkn
        rcases HROW.out with h0 | ⟨g', ha, hglt, hcl⟩
        · omega
        · cases ha
          have HC0 := (hcl k hkp).1
          have HC1 := (hcl k hkp).2
          rw [← hoff] at HC0 HC1
          have hkd2 : (ps.getD k (0, 0)).1 ≤ 2 := HLE.out _ (by rw [List.getD_eq_getElem?_getD, List.getElem?_eq_getElem hkp]; exact List.getElem_mem hkp)
          obtain ⟨kd, hkd⟩ : ∃ kd, kd = (ps.getD k (0, 0)).1 := ⟨_, rfl⟩
          obtain ⟨cb, hcb⟩ : ∃ cb, cb = (ps.getD k (0, 0)).2 := ⟨_, rfl⟩
          have HPK : Hid (ps.getD k (0, 0) = (kd, cb)) := by unfold Hid; rw [hkd, hcb]
          rw [← hkd] at HC0 hkd2
          rw [← hcb] at HC1
          have HC0 : Hid (w.cell? ⟨g, off, none⟩ = some (.int .i64 (kd : Nat))) := HC0
          have HC1 : Hid (w.cell? ⟨g, off + 1, none⟩ = some (.int .u8 (cb : Nat))) := HC1
          have hcw := (HBE.out.cell (p := ⟨g, off, none⟩) hglt).trans HC0.out
          clear hcl hkd hcb hoff r1 r2 r3 r4 r5
          by_cases h2 : kd = 2
          · have c2 : ((kd : Int) == 2) = true := by rw [h2]; rfl
            have HK2 : Hid ((ps.getD k (0, 0)).1 = 2) := by unfold Hid; rw [HPK.out]; exact h2
            have HSKIP : Hid _ := skip_any ps g n cap k off L C wr HN.out hc (RowG.below HROW.out HBE.out) HRE.out
            clear h2
            go_wp2_with fail
            refine Calls.mono HSKIP.out ?_
            rintro _ w2 ⟨⟨k', off', L', C', rfl, hre', hkk, hst, hno⟩, hw2⟩
            replace hw2 := hw2.symm
            subst hw2
            have hkk' : k < k' := by
              rcases Nat.lt_or_ge k k' with h | h
              · exact h
              · have : k' = k := by omega
                subst this
                exact absurd HK2.out (hno hkn)
            have HRE' : Hid (RestAt n cap k' off' L' C') := hre'
            have HS2 : Hid (Seek ps (txt S) true k' i k' i) := Seek.star HLE.out HSK.out (by omega) hkk' (by rw [← HN.out]; exact hre'.1) hst
            have hLL : L' < L := by have a := hre'.2.2.1; have b := HRE.out.2.2.1; have c := hre'.1; omega
            clear hre' hno hst hkk HSKIP HK2
            go_wp2_with fail
            go_roundw
            case rel => exact ⟨_, k', off', L', C', k', i, i, true, _, rfl, rfl, rfl, rfl, rfl, rfl, HRE'.out, fun _ => ⟨off', L', C', rfl, HRE'.out⟩, hi, Nat.le_refl _, HS2.out, HBE.out⟩
            case measure => simp only [intOf, lenV, Int.toNat_natCast]; exact less_star hfi hLL
          · have c2 : ((kd : Int) == 2) = false := by rw [beq_eq_false_iff_ne]; omega
            have HK2 : Hid ((ps.getD k (0, 0)).1 ≠ 2) := by unfold Hid; rw [HPK.out]; exact h2
            have hxs : ((S[i]'hlt).toNat : Int) = ((txt S).getD i 0 : Nat) := by rw [HG.out]
            have HFT : Hid (fitN (ps.getD k (0, 0)) ((txt S).getD i 0) = fitN (kd, cb) ((txt S).getD i 0)) := by unfold Hid; rw [HPK.out]
            obtain ⟨x, hx⟩ : ∃ x, x = (txt S).getD i 0 := ⟨_, rfl⟩
            have HX : Hid ((txt S).getD i 0 = x) := hx.symm
            rw [← hx] at hxs HFT
            clear hx
            have HSL : Hid (∀ W, _) := slice_one g off L C hL1 hLC
            have HNX : Hid _ := HRE.out.next hkn
            have hLn : L - 1 < L := by omega
            generalize (if C = 1 then off else off + 2) = off2 at *
            have hsl := HSL.out
            clear h2 HG
            obtain ⟨b, hb⟩ : ∃ b, b = fitN (kd, cb) x := ⟨_, rfl⟩
            have HF : Hid (∀ W, Calls Try.prog 23 #[.agg #[.int .i64 (kd : Nat), .int .u8 (cb : Nat)], .int .u8 (x : Nat)] W fun e w' => e = .returned (.bool b) ∧ Below W.heap.size W w') := fun W => by rw [hb]; exact fits_any kd cb x hkd2 W
            rw [← hb] at HFT
            clear hb
            go_wp2_with fail
            refine wp_region_held_drew (S := fun w' => Below w.heap.size w w') (by kernel_rfl) ((HBE.out).drew) (fun hHeld => ?_)
            refine held_take 0 (some 29) (.slice (some ⟨g, off, none⟩) L C) rfl rfl (by kernel_rfl) (by kernel_rfl) (by kernel_rfl) (fun _ _ _ h => h) rfl (fun w' hS => ?_) hHeld ?_
            · clear hS; go_simp
            try simp only [Act.put, List.setIfInBounds_toArray, List.set_cons_zero, List.set_cons_succ]
            refine held_take 1 (some 30) (.int .i64 (L : Nat)) rfl rfl (by kernel_rfl) (by kernel_rfl) (by kernel_rfl) (fun _ _ _ h => h) rfl (fun w' hS => ?_) hHeld ?_
            · clear hS; go_simp
            try simp only [Act.put, List.setIfInBounds_toArray, List.set_cons_zero, List.set_cons_succ]
            refine held_take 2 (some 31) (.bool true) rfl rfl (by kernel_rfl) (by kernel_rfl) (by kernel_rfl) (fun _ _ _ h => h) rfl (fun w' hS => ?_) hHeld ?_
            · clear hS; go_simp
            try simp only [Act.put, List.setIfInBounds_toArray, List.set_cons_zero, List.set_cons_succ]
            refine held_take 3 (some 32) (.bool true) rfl rfl (by kernel_rfl) (by kernel_rfl) (by kernel_rfl) (fun _ _ _ h => h) rfl (fun w' hS => ?_) hHeld ?_
            · clear hS; go_simp
            try simp only [Act.put, List.setIfInBounds_toArray, List.set_cons_zero, List.set_cons_succ]
            refine held_take 4 (some 33) (.slice (some ⟨g, off, none⟩) L C) rfl rfl (by kernel_rfl) (by kernel_rfl) (by kernel_rfl) (fun _ _ _ h => h) rfl (fun w' hS => ?_) hHeld ?_
            · clear hS; go_simp
            try simp only [Act.put, List.setIfInBounds_toArray, List.set_cons_zero, List.set_cons_succ]
            refine held_take 5 (some 34) (.pointer (some ⟨g, off, none⟩)) rfl rfl (by kernel_rfl) (by kernel_rfl) (by kernel_rfl) (fun _ _ _ h => h) rfl (fun w' hS => ?_) hHeld ?_
            · clear hS; go_simp
            try simp only [Act.put, List.setIfInBounds_toArray, List.set_cons_zero, List.set_cons_succ]
            refine held_take 6 (some 35) (.agg #[.int .i64 (kd : Nat), .int .u8 (cb : Nat)]) rfl rfl (by kernel_rfl) (by kernel_rfl) (by kernel_rfl) (fun _ _ _ h => h) rfl (fun w' hS => ?_) hHeld ?_
            · have hq0 := (hS.cell (p := ⟨g, off, none⟩) hglt).trans HC0.out; have hq1 := (hS.cell (p := ⟨g, off + 1, none⟩) hglt).trans HC1.out; clear hS; go_simp
            try simp only [Act.put, List.setIfInBounds_toArray, List.set_cons_zero, List.set_cons_succ]
            refine held_take 7 (some 36) (.string S) rfl rfl (by kernel_rfl) (by kernel_rfl) (by kernel_rfl) (fun _ _ _ h => h) rfl (fun w' hS => ?_) hHeld ?_
            · clear hS; go_simp
            try simp only [Act.put, List.setIfInBounds_toArray, List.set_cons_zero, List.set_cons_succ]
            refine held_take 8 (some 37) (.int .i64 (i : Nat)) rfl rfl (by kernel_rfl) (by kernel_rfl) (by kernel_rfl) (fun _ _ _ h => h) rfl (fun w' hS => ?_) hHeld ?_
            · clear hS; go_simp
            try simp only [Act.put, List.setIfInBounds_toArray, List.set_cons_zero, List.set_cons_succ]
            refine held_take 9 (some 38) (.int .u8 (x : Nat)) rfl rfl (by kernel_rfl) (by kernel_rfl) (by kernel_rfl) (fun _ _ _ h => h) rfl (fun w' hS => ?_) hHeld ?_
            · clear hS; go_simp
            try simp only [Act.put, List.setIfInBounds_toArray, List.set_cons_zero, List.set_cons_succ]
            refine held_one (i := 10) (by kernel_rfl) rfl rfl (fun K hK => ?_)
            go_simp
            refine Calls.mono (HF.out _) ?_
            rintro _ v1 ⟨rfl, hb1⟩
            dsimp only
            have hH1 : Below w.heap.size w v1 := hHeld.trans (hb1.mono hHeld.size)
            refine hK.out _ _ hH1 ?_
            clear hK K hb1 
            try simp only [Act.put, List.setIfInBounds_toArray, List.set_cons_zero, List.set_cons_succ]
            cases b with
            | true =>
              refine held_take 11 (some 40) (.bool true) rfl rfl (by kernel_rfl) (by kernel_rfl) (by kernel_rfl) (fun _ _ _ h => h) rfl (fun w' hS => ?_) hH1 ?_
              · clear hS; go_simp
              try simp only [Act.put, List.setIfInBounds_toArray, List.set_cons_zero, List.set_cons_succ]
              refine held_take 12 (some 28) (.bool true) rfl rfl (by kernel_rfl) (by kernel_rfl) (by kernel_rfl) (fun _ _ _ h => h) rfl (fun w' hS => ?_) hH1 ?_
              · clear hS; go_simp
              try simp only [Act.put, List.setIfInBounds_toArray, List.set_cons_zero, List.set_cons_succ]
              refine wpAnyH_done (by kernel_rfl) ?_ _
              have HFIN : Hid _ := hH1
              clear hH1 hHeld
              have HS2 : Hid (Seek ps (txt S) met r f (k + 1) (i + 1)) := Seek.fit HLE.out HSK.out hit hkp HK2.out (by rw [HX.out]; exact HFT.out)
              go_wp2_with fail
              go_roundw
              case rel => exact ⟨_, k + 1, off2, L - 1, C - 1, r, f, i + 1, met, a0, rfl, rfl, rfl, rfl, rfl, by go_num, HNX.out, HAG.out, by omega, by omega, HS2.out, HFIN.out⟩
              case measure => simp only [intOf, lenV, Int.toNat_natCast]; omega
            | false =>
              refine held_take 11 (some 40) (.bool false) rfl rfl (by kernel_rfl) (by kernel_rfl) (by kernel_rfl) (fun _ _ _ h => h) rfl (fun w' hS => ?_) hH1 ?_
              · clear hS; go_simp
              try simp only [Act.put, List.setIfInBounds_toArray, List.set_cons_zero, List.set_cons_succ]
              refine held_take 12 (some 28) (.bool false) rfl rfl (by kernel_rfl) (by kernel_rfl) (by kernel_rfl) (fun _ _ _ h => h) rfl (fun w' hS => ?_) hH1 ?_
              · clear hS; go_simp
              try simp only [Act.put, List.setIfInBounds_toArray, List.set_cons_zero, List.set_cons_succ]
              refine wpAnyH_done (by kernel_rfl) ?_ _
              have HFIN : Hid _ := hH1
              clear hH1 hHeld
              have HNO : Hid (mAt ps (txt S) k i = false) := mAt_stuck HLE.out hit (fun _ => ⟨HK2.out, by rw [HX.out]; exact HFT.out⟩)
              cases met with
              | true =>
                obtain ⟨offr, Lr, Cr, hav, hrr⟩ := HAG.out rfl
                subst hav
                have HRR : Hid (RestAt n cap r offr Lr Cr) := hrr
                have hLr : Lr ≤ n := by have a := hrr.2.2.1; omega
                have hft : f < S.size := by omega
                have HS2 : Hid (Seek ps (txt S) true r (f + 1) r (f + 1)) := Seek.again HLE.out HSK.out hit HNO.out
                clear hrr
                go_wp2_with fail
                go_roundw
                case rel => exact ⟨_, r, offr, Lr, Cr, r, f + 1, f + 1, true, _, rfl, rfl, rfl, rfl, by go_num, by go_num, HRR.out, fun _ => ⟨offr, Lr, Cr, rfl, HRR.out⟩, by omega, Nat.le_refl _, HS2.out, HFIN.out⟩
                case measure =>
                  have e : ((f : Int) + 1).toNat = f + 1 := by omega
                  simp only [intOf, lenV, Int.toNat_natCast, e]
                  exact less_again hft hLr
              | false =>
                have HA : Hid (mAt ps (txt S) 0 0 = false) := Seek.none HSK.out HNO.out
                go_wp2_with fail
                go_ret
                exact ⟨by rw [HA.out]; rfl, HFIN.out⟩
      · have hL0 : L = 0 := by omega
        have hL : ¬ (0 : Int) < (L : Int) := by omega
        have hLd : decide ((0 : Int) < (L : Int)) = false := decide_eq_false hL
        have HNO : Hid (mAt ps (txt S) k i = false) := mAt_stuck HLE.out hit (fun h => by rw [← HN.out] at h; exact absurd h hkn)
        clear r1 r2 r3 r4 r5 hL0 HG
        go_wp2_with fail
        go_quiet (fail)
        rename_i nq
        have HFIN : Hid (Below w.heap.size w (wr.drewN nq)) := below_drew HBE.out nq
        cases met with
        | true =>
          obtain ⟨offr, Lr, Cr, hav, hrr⟩ := HAG.out rfl
          subst hav
          have HRR : Hid (RestAt n cap r offr Lr Cr) := hrr
          have hLr : Lr ≤ n := by have a := hrr.2.2.1; omega
          have hft : f < S.size := by omega
          have HS2 : Hid (Seek ps (txt S) true r (f + 1) r (f + 1)) := Seek.again HLE.out HSK.out hit HNO.out
          clear hrr
          go_wp2_with fail
          go_roundw
          case rel => exact ⟨_, r, offr, Lr, Cr, r, f + 1, f + 1, true, _, rfl, rfl, rfl, rfl, by go_num, by go_num, HRR.out, fun _ => ⟨offr, Lr, Cr, rfl, HRR.out⟩, by omega, Nat.le_refl _, HS2.out, HFIN.out⟩
          case measure =>
            have e : ((f : Int) + 1).toNat = f + 1 := by omega
            simp only [intOf, lenV, Int.toNat_natCast, e]
            exact less_again hft hLr
        | false =>
          have HA : Hid (mAt ps (txt S) 0 0 = false) := Seek.none HSK.out HNO.out
          go_wp2_with fail
          go_ret
          exact ⟨by rw [HA.out]; rfl, HFIN.out⟩
    · have hii : ¬ (i : Int) < (S.size : Int) := by omega
      have HSKIP : Hid _ := skip_any ps g n cap k off L C wr HN.out hc (RowG.below HROW.out HBE.out) HRE.out
      have HD : Hid (mAt ps (txt S) 0 0 = mAt ps (txt S) k i) := Seek.done HLE.out HSK.out (by rw [HTL.out]; omega)
      clear r1 r2 r3 r4 r5
      go_wp2_with fail
      refine Calls.mono HSKIP.out ?_
      rintro _ w2 ⟨⟨k', off', L', C', rfl, hre', hkk, hst, hno⟩, hw2⟩
      replace hw2 := hw2.symm
      subst hw2
      have hk'n := hre'.1
      have hL' := hre'.2.2.1
      have hnp := HN.out
      by_cases he : L' = 0
      · have HA : Hid (mAt ps (txt S) 0 0 = true) := by
          unfold Hid
          rw [HD.out]
          exact mAt_nil (n - k) k i (by have := HRE.out.1; omega) (by rw [HTL.out]; omega) (fun d hd => hst _ (by omega) (by omega))
        have c1 : ((L' : Int) == 0) = true := by rw [he]; rfl
        clear HSKIP hre' hkk hst hno hk'n hL' hnp he
        go_wp2_with fail
        go_ret
        exact ⟨by rw [HA.out]; rfl, HBE.out⟩
      · have HA : Hid (mAt ps (txt S) 0 0 = false) := by
          unfold Hid
          rw [HD.out]
          refine mAt_not_nil (k' - k) k i (by omega) (by rw [HTL.out]; omega) (fun d hd => hst _ (by omega) (by omega)) ?_
          rw [show k + (k' - k) = k' by omega]
          exact hno (by omega)
        have c1 : ((L' : Int) == 0) = false := by rw [beq_eq_false_iff_ne]; omega
        clear HSKIP hre' hkk hst hno hk'n hL' hnp he
        go_wp2_with fail
        go_ret
        exact ⟨by rw [HA.out]; rfl, HBE.out⟩
theorem leastR_form (p : List Nat) : ∃ (n E : Int), leastR p = .tuple #[.int .i64 n, .int .i64 E] := by
  unfold leastR
  split
  · exact ⟨_, _, rfl⟩
  · exact ⟨_, _, rfl⟩
theorem matchR_form (p s : List Nat) : ∃ (b : Bool) (E : Int), matchR p s = .tuple #[.bool b, .int .i64 E] := by
  unfold matchR
  split
  · exact ⟨_, _, rfl⟩
  · exact ⟨_, _, rfl⟩
theorem optR_form (o : Option (List Nat)) : ∃ (X : ByteArray) (b : Bool), optR o = .tuple #[.string X, .bool b] := by
  cases o with
  | none => exact ⟨_, _, rfl⟩
  | some l => exact ⟨_, _, rfl⟩
set_option maxHeartbeats 4000000 in
theorem gmatch_any (P S : ByteArray) (w : World) (hp : P.size ≤ 562949953421312) (hs : S.size ≤ 140737488355328) :
    Calls Try.prog 9 #[.string P, .string S] w fun e w' => e = .returned (matchR (txt P) (txt S)) ∧ Below w.heap.size w w' := by
  have HP : Hid _ := cut_any P w (by omega)
  go_enter Try.func9, Try.ntmps9
  go_wp2_with fail
  refine Calls.mono HP.out ?_
  rintro _ w1 ⟨⟨h1, rfl⟩ | ⟨h1, g, n, cap, ps, rfl, h2, h3, h4, hcap, h5, h6⟩, hb⟩
  · have HB : Hid (Below w.heap.size w w1) := hb
    have HR : Hid (matchR (txt P) (txt S) = .tuple #[.bool false, .int .i64 2]) := by unfold Hid matchR; rw [h1]; rfl
    clear HP h1 hb
    go_wp2_with fail
    go_ret2
    exact ⟨by rw [HR.out]; rfl, HB.out⟩
  · have HB : Hid (Below w.heap.size w w1) := hb
    have HR : Hid (matchR (txt P) (txt S) = .tuple #[.bool (mAt ps (txt S) 0 0), .int .i64 0]) := by unfold Hid matchR; rw [h1, h6]; rfl
    have HC : Hid _ := covers_any ps g n cap S w1 h2 h4 hcap h5 (pieces_kinds _ _ _ (Nat.le_refl _) h6) hs
    clear HP h1 h2 h3 h4 h5 h6 hb hcap
    go_wp2_with fail
    refine Calls.mono HC.out ?_
    rintro _ w2 ⟨rfl, hb2⟩
    have HB2 : Hid (Below w.heap.size w w2) := HB.out.trans (hb2.mono HB.out.size)
    clear hb2 HC HB
    go_wp2_with fail
    go_ret2
    exact ⟨by rw [HR.out]; rfl, HB2.out⟩
end Go.Proofs.Ytehieeahiicnhaa
