/-
  PackShort: for every number, every text and every cut: of what was written a part is not read to its end without an error, and what is read behind the error is a nought, and no text.
-/
import Derived.Test.YtngojkleehgbaaaPArgs
import Derived.Test.YtngojkleehgbaaaPackAwake
namespace Go.Proofs.Ytngojkleehgbaaa.packShort
open Go.ChangeShapes Go.WideShapes Go.ChangeAt Go.RowKit
open Go.ChangeMaps (open_string shut_string)
set_option linter.unusedVariables false
set_option linter.unusedSimpArgs false
def xsS (n : Nat) (s : ByteArray) : List Nat := ((([] ++ pkN n) ++ textN s) ++ flagN true)
theorem xsS_is (n : Nat) (s : ByteArray) : xsS n s = pkN n ++ (pkN s.size ++ (txt s ++ [1])) := by
  unfold xsS textN flagN
  simp
theorem xsS_byt (n : Nat) (s : ByteArray) (hn : n ≤ 18446744073709551615) (hs : s.size ≤ 18446744073709551615) : Byt (xsS n s) := by
  rw [xsS_is]
  exact (pkN_byt n hn).app ((pkN_byt _ hs).app ((Byt.txt s).app (by intro c hc; simp at hc; subst hc; decide)))
theorem num_short (n : Nat) (hn : n ≤ 18446744073709551615) (k : Nat) (hk : k < (pkN n).length) : (numS ((pkN n).take k, 0)).2.2 = 3 := by
  unfold numS
  rw [if_pos rfl]
  exact un_cut n hn k hk
theorem count_short (n : Nat) (hn : n ≤ 18446744073709551615) (k : Nat) (hk : k < (pkN n).length) (most : Int) : (countS most ((pkN n).take k, 0)).2.2 = 3 := by
  have h := num_short n hn k hk
  unfold countS
  rw [if_neg (by rw [h]; simp)]
  exact h
theorem text_bad {s : RSt} (h : (countS 16384 s).2.2 ≠ 0) : (textS s).2.2 ≠ 0 := by
  unfold textS takeS
  rw [if_neg h]
  exact h
theorem flag_bad {s : RSt} (h : (takeS 1 s).2.2 ≠ 0) : (flagS s).2.2 ≠ 0 := by
  unfold flagS
  dsimp only
  split
  · decide
  · exact h
/-- A part is not read to its end without an error. -/
theorem short_bad (n : Nat) (s : ByteArray) (hn : n ≤ 18446744073709551615) (hs : s.size ≤ 18446744073709551615) (k : Nat) (hk : k < (xsS n s).length) :
    (flagS (textS (numS ((xsS n s).take k, 0)).2).2).2.2 ≠ 0 := by
  have stayF : ∀ t : RSt, t.2 ≠ 0 → (flagS t).2.2 ≠ 0 := fun t ht => by rw [(stay ht).2.2.2.2.1]; exact ht
  have stayT : ∀ t : RSt, t.2 ≠ 0 → (textS t).2.2 ≠ 0 := fun t ht => by rw [(stay ht).2.2.2.1]; exact ht
  rw [xsS_is] at hk ⊢
  by_cases h1 : k < (pkN n).length
  · rw [List.take_append_of_le_length (by omega)]
    exact stayF _ (stayT _ (by rw [num_short n hn k h1]; decide))
  · obtain ⟨k1, rfl⟩ : ∃ k1, k = (pkN n).length + k1 := ⟨k - (pkN n).length, by omega⟩
    rw [List.take_length_add_append, num_read n hn]
    rw [List.length_append] at hk
    dsimp only
    by_cases h2 : k1 < (pkN s.size).length
    · rw [List.take_append_of_le_length (by omega)]
      exact stayF _ (text_bad (by rw [count_short s.size hs k1 h2]; decide))
    · obtain ⟨k2, rfl⟩ : ∃ k2, k1 = (pkN s.size).length + k2 := ⟨k1 - (pkN s.size).length, by omega⟩
      rw [List.take_length_add_append]
      rw [List.length_append] at hk
      by_cases hb : s.size ≤ 16384
      · by_cases h3 : k2 < (txt s).length
        · refine stayF _ ?_
          unfold textS
          rw [count_read s.size hs 16384 (by omega)]
          unfold takeS
          rw [txt_length] at h3
          rw [if_pos rfl, if_pos (by rw [List.length_take]; omega)]
          show (3 : Int) ≠ 0
          decide
        · rw [List.length_append] at hk
          simp only [List.length_cons, List.length_nil] at hk
          obtain rfl : k2 = (txt s).length := by omega
          rw [List.take_left]
          have := text_read s hb []
          rw [List.append_nil] at this
          unfold textN at this
          rw [this]
          show (flagS (([], 0) : RSt)).2.2 ≠ 0
          decide
      · refine stayF _ (text_bad ?_)
        unfold countS
        rw [num_read s.size hs, if_pos ⟨rfl, .inr (by dsimp only; omega)⟩]
        show (17 : Int) ≠ 0
        decide
set_option maxHeartbeats 4000000 in
theorem walk (w : World) (a0 : Int) (w0 : (Lit.int .u64 a0).wf = true) (a1 : ByteArray) (w1 : a1.size ≤ 140737488351232) (a2 : Int) (w2 : (Lit.int .u16 a2).wf = true) :
    Calls Try.prog 6 #[.int .u64 a0, .string a1, .int .u16 a2] w fun e w' => e = .returned (.bool true) ∧ Below w.heap.size w w' := by
  obtain ⟨h0, h1⟩ := bounds_u64 w0
  obtain ⟨n, rfl⟩ := Int.eq_ofNat_of_zero_le h0
  obtain ⟨h2, h3⟩ := bounds_u16 w2
  obtain ⟨c, rfl⟩ := Int.eq_ofNat_of_zero_le h2
  clear w0 w2
  have p1 := pkN_len n
  have p2 := pkN_len a1.size
  have q2 : (textN a1).length = (pkN a1.size).length + a1.size := by unfold textN; rw [List.length_append, txt_length]
  go_enter Try.func6, Try.ntmps6
  go_wp2_with fail
  refine (new_any w).mono ?_
  rintro _ v1 ⟨rfl, hW1, b1⟩
  go_wp2_with fail
  refine (wnum_any v1 _ n _ hW1 (by omega) (by decide)).mono ?_
  rintro _ v2 ⟨rfl, hW2, b2⟩
  go_wp2_with fail
  refine (wtext_any v2 _ a1 _ hW2 (by simp; omega)).mono ?_
  rintro _ v3 ⟨rfl, hW3, b3⟩
  go_wp2_with fail
  refine (wflag_any v3 _ true _ hW3 (by simp [q2]; omega)).mono ?_
  rintro _ v4 ⟨rfl, hW4, b4⟩
  have B4 : Hid (Below w.heap.size w v4) := ((b1.trans b2).trans b3).trans b4
  have hW : WAt v4 w.heap.size (xsS n a1) := hW4
  clear hW1 hW2 hW3 hW4 b1 b2 b3 b4
  have hlen : (xsS n a1).length = (pkN n).length + (pkN a1.size).length + a1.size + 1 := by rw [xsS_is]; simp [txt_length]; omega
  have HBAD : Hid (∀ k, k < (xsS n a1).length → (flagS (textS (numS ((xsS n a1).take k, 0)).2).2).2.2 ≠ 0) := short_bad n a1 (by omega) (by omega)
  have HBYT : Hid (Byt (xsS n a1)) := xsS_byt n a1 (by omega) (by omega)
  have hl1 : 1 ≤ (xsS n a1).length ∧ (xsS n a1).length ≤ 140737488355328 := by omega
  generalize xsS n a1 = xs at *
  clear hlen q2 p1 p2
  go_wp2_with fail
  refine (wout_any v4 _ xs hW hl1.2).mono ?_
  rintro _ v5 ⟨a, cap, r, rfl, hr, hn, hc, hcm, hi, hlt, b5⟩
  have B5 : Hid (Below w.heap.size w v5) := B4.out.trans (b5.mono B4.out.size)
  have HR : Hid (RowL .u8 v5 a xs.length xs ∧ In r a ∧ r < v5.heap.size ∧ (a = none → cap = 0)) := ⟨hr, hi, hlt, fun h => (hn h).2⟩
  clear b5 B4 hr hn hi hlt hW
  go_wp2_with fail
  refine (awake_any v5).mono ?_
  rintro _ v6 ⟨rfl, b6⟩
  have B6 : Hid (Below w.heap.size w v6 ∧ Below v5.heap.size v5 v6) := ⟨B5.out.trans (b6.mono B5.out.size), b6⟩
  clear b6
  obtain ⟨k, hkd⟩ : ∃ k, k = c % xs.length := ⟨_, rfl⟩
  have hkl : k < xs.length := by rw [hkd]; exact Nat.mod_lt _ (by omega)
  have hke : (c : Int) % (xs.length : Int) = (k : Int) := by rw [hkd]; rfl
  have hlk : (xs.take k).length = k := by rw [List.length_take]; omega
  have HK : Hid (∀ w6, Below v5.heap.size v5 w6 → Calls Try.prog 21 #[.slice a k cap] w6 fun e w' => e = .returned (.pointer (some ⟨w6.heap.size, 0, none⟩)) ∧ RdAt w' w6.heap.size r (xs.take k, 0) ∧ Below w6.heap.size w6 w') := by
    intro w6 hb
    have := read_any w6 a cap (xs.take k) (by rw [hlk]; exact (HR.out.1.take k (by omega)).below hb) (by rw [hlk]; omega) hcm HR.out.2.2.2 r HR.out.2.1 (Nat.lt_of_lt_of_le HR.out.2.2.1 hb.size) (HBYT.out.take k)
    rw [hlk] at this
    exact this
  have HB2 : Hid ((flagS (textS (numS (xs.take k, 0)).2).2).2.2 ≠ 0) := HBAD.out k hkl
  have HX := HK.out v6 B6.out.2
  generalize hL : xs.length = L at *
  have hc2 : k ≤ cap := by omega
  clear hkd hlk HBAD HR HBYT hL HK
  generalize xs.take k = ys at *
  have B7 : Hid (Below w.heap.size w v6) := B6.out.1
  clear B6 B5
  go_wp2_with fail
  refine HX.mono ?_
  rintro _ v7 ⟨rfl, hR7, b7⟩
  have B8 : Hid (Below w.heap.size w v7) := B7.out.trans (b7.mono B7.out.size)
  have hG : w.heap.size ≤ v6.heap.size := B7.out.size
  clear B7 HX b7
  generalize v6.heap.size = G at *
  have P := pnum_any v7 G r _ hR7
  generalize numS (ys, 0) = s1 at *
  go_wp2_with fail
  refine P.mono ?_
  rintro _ v8 ⟨rfl, hR8, o8⟩
  have B9 : Hid (Below w.heap.size w v8) := B8.out.trans (o8.below hG B8.out.size)
  clear B8 P hR7 o8
  have P := ptext_any v8 G r _ hR8
  generalize textS s1.2 = s2 at *
  go_wp2_with fail
  refine P.mono ?_
  rintro _ v9 ⟨rfl, hR9, o9⟩
  have B10 : Hid (Below w.heap.size w v9) := B9.out.trans (o9.below hG B9.out.size)
  clear B9 P hR8 o9
  have P := pflag_any v9 G r _ hR9
  generalize flagS s2.2 = s3 at *
  go_wp2_with fail
  refine P.mono ?_
  rintro _ v10 ⟨rfl, hR10, o10⟩
  have B11 : Hid (Below w.heap.size w v10) := B10.out.trans (o10.below hG B10.out.size)
  clear B10 P hR9 o10
  obtain ⟨t1, -, -, t2, -, -, t3⟩ := stay HB2.out
  go_wp2_with fail
  refine (awake_any v10).mono ?_
  rintro _ v11 ⟨rfl, b11⟩
  have hR11 : RdAt v11 G r s3.2 := hR10.below b11
  have B12 : Hid (Below w.heap.size w v11) := B11.out.trans (b11.mono B11.out.size)
  clear B11 b11 hR10
  have P := pend_any v11 G r _ hR11
  rw [t3] at P
  have hne : (s3.2.2 != 0) = true := by simpa using HB2.out
  go_wp2_with fail
  refine P.mono ?_
  rintro _ v12 ⟨rfl, hR12, o12⟩
  have B13 : Hid (Below w.heap.size w v12) := B12.out.trans (o12.below hG B12.out.size)
  clear B12 P hR11 o12
  have P : Calls Try.prog 22 #[.pointer (some ⟨G, 0, none⟩)] v12 (RdR v12 G r (.int .u64 0) s3.2) := by
    have := pnum_any v12 G r _ hR12
    rw [t1] at this
    exact this
  go_wp2_with fail
  refine P.mono ?_
  rintro _ v13 ⟨rfl, hR13, o13⟩
  have B14 : Hid (Below w.heap.size w v13) := B13.out.trans (o13.below hG B13.out.size)
  clear B13 P hR12 o13
  have P : Calls Try.prog 27 #[.pointer (some ⟨G, 0, none⟩)] v13 (RdR v13 G r (.string ⟨#[]⟩) s3.2) := by
    have := ptext_any v13 G r _ hR13
    rw [t2] at this
    exact this
  go_wp2_with fail
  refine P.mono ?_
  rintro _ v14 ⟨rfl, hR14, o14⟩
  have B15 : Hid (Below w.heap.size w v14) := B14.out.trans (o14.below hG B14.out.size)
  go_wp2_with fail
  go_ret
  exact ⟨rfl, B15.out⟩
set_option maxRecDepth 100000 in
theorem contract (H : Type) (enc : TypeId × Value → H) (W : World) (base : Nat) (args : Array Value) (ds gs : List (DataW H)) (before : List MemPlace)
    (hval : ∀ (j : Nat) t v, Try.f6.params[j]? = some t → args[j]? = some v → Value.okWide Try.prog W .any base t v)
    (hW : DataW.Whole enc Try.prog Try.f6.params.toList Rows.packShortSpec.vars false W args.toList ds gs before)
    (hsz : (DataW.weightsEach Try.prog (Try.f6.params.toList ++ Rows.packShortSpec.plain.varTypes Try.prog) (ds ++ gs)).all (· ≤ reachBytes) = true) :
    Calls Try.prog 6 args W fun e W' => ∃ v, e = .returned v ∧ Rows.packShortSpec.post enc Try.prog Try.f6 false true false false W args v W' := by
  have hW' := hW
  obtain ⟨p, q, hA0, hV, rfl, hfz, hnd⟩ := hW
  have hA : DataW.TrodAll enc Try.prog W 0 (fun _ => true) true Try.f6.params.toList args.toList ds p := hA0
  rw [Try.params6] at hA hval hsz
  obtain ⟨v0, vs0, d0, ds0, p0, q0, hargs, rfl, rfl, h0, r0⟩ := trodAll_cons hA
  obtain ⟨v1, vs1, d1, ds1, p1, q1, rfl, rfl, rfl, h1, r1⟩ := trodAll_cons r0
  obtain ⟨v2, vs2, d2, ds2, p2, q2, rfl, rfl, rfl, h2, r2⟩ := trodAll_cons r1
  obtain ⟨rfl, rfl, rfl⟩ := trodAll_nil r2
  obtain rfl : args = #[v0, v1, v2] := by cases args; simp_all
  obtain ⟨rfl, rfl⟩ := trodVars_none hV
  obtain ⟨a0, rfl, rfl, rfl, w0⟩ := open_int Try.underlying25 (hval 0 25 v0 rfl rfl) h0
  obtain ⟨a1, rfl, rfl, rfl, m1⟩ := open_string Try.underlying9 (hval 1 9 v1 rfl rfl) h1
  have w1 : a1.size ≤ 140737488351232 := by
    have := sized_string hsz (j := 1) (t := 9) rfl rfl
    rw [bytes_len] at this
    exact this
  obtain ⟨a2, rfl, rfl, rfl, w2⟩ := open_int Try.underlying58 (hval 2 58 v2 rfl rfl) h2
  clear hA0 hsz
  refine (walk W a0 w0 a1 w1 a2 w2).mono fun e W' ⟨he, bel⟩ => ?_
  subst he
  exact ⟨_, rfl, _, _, _, [], _, [], hW', trodAll_mk1 (shut_bool Try.underlying4 _), (trodAll_cons_mk (shut_int Try.underlying25 w0) (trodAll_cons_mk (shut_string Try.underlying9 m1) (trodAll_cons_mk (shut_int Try.underlying58 w2) trodAll_mk0))), rfl, bel.frame _, fun h => by cases h⟩
set_option maxRecDepth 100000 in
theorem lifted (os : Os) (started : os.Started) (H : Type) (enc : TypeId × Value → H) :
    ReturnsInHanded {} Try.checked os 6 .any (Rows.packShortSpec.pre6 enc Try.prog Try.f6 Rows.packShortRow.domain false) (Rows.packShortSpec.post enc Try.prog Try.f6 false true false false) := by
  refine returnsInHanded_of_change_sized (C := Try.checked) own started (by kernel_rfl) Try.func6
    (ChangeSpec.witness6 (enc := enc) (C := Try.checked) false ⟨#[], #[.int .u64 0, .string ByteArray.empty, .int .u16 0], []⟩ 8 (by kernel_rfl) (by kernel_rfl) (by kernel_rfl) (by kernel_rfl)) ?_
  intro W base args ds gs before hval hW _ hsz _
  exact contract H enc W base args ds gs before hval hW hsz
theorem over : Rows.packShortRow.holds Try.pinned (OpenSpec.ofChange Rows.packShortSpec) :=
  OpenClaim.holds_of_wide 6 Try.f6 rfl rfl rfl rfl rfl rfl rfl ⟨rfl, rfl, rfl, rfl, rfl⟩ rfl rfl rfl rfl rfl (by kernel_rfl) Try.func6 (by kernel_rfl)
    (of_decide_eq_true (by kernel_rfl)) (by unfold Func.isWrapper; first | (rw [if_pos (by decide +kernel)]; kernel_rfl) | (rw [if_neg (by decide +kernel)]; exact ⟨rfl, rfl⟩))
    (fun os started H enc _ => lifted os started H enc)
theorem proved : Rows.PackShortSaid := over
end Go.Proofs.Ytngojkleehgbaaa.packShort
