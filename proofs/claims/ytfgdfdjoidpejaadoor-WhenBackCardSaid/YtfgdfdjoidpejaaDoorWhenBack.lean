/-
  WhenBack: for every moment: its date has that moment, its text (of 20 letters) is read as it, a second later has a greater text and the next second, and behind the last moment Text refuses. Condition: the table of months is laid as the program's text lays it.
-/
import Derived.Test.YtfgdfdjoidpejaaDoorCards
import Derived.Test.YtfgdfdjoidpejaaDoorTie
import Derived.Test.YtfgdfdjoidpejaaDoorCArgs
import Derived.Test.YtfgdfdjoidpejaaDoorWhenLaid
import Derived.Test.YtfgdfdjoidpejaaDoorWhenBoth
namespace Go.Proofs.YtfgdfdjoidpejaaDoor.whenBack
open Go.ChangeShapes Go.WideShapes Go.ChangeAt Go.RowKit
open Go.ChangeMaps (open_string shut_string)
set_option linter.unusedVariables false
set_option linter.unusedSimpArgs false
theorem str_gtr (t : TypeId) (a b : ByteArray) : binOp .gtr t (.string a) (.string b) = pure (.bool !(Op.bytesLess a.toList b.toList || a.toList == b.toList)) := by
  simp [binOp, Op.stringOp]
theorem parse_at {y mo d h mi s : Nat} {T : Nat} (hk : OkD y mo d h mi s) (hs : secN y mo d h mi s = T) (t : Int) (ht : t + 62135596800 = (T : Int)) (W : World) (hW : Tab W) :
    Calls Tryd.prog 18 #[.string (strN (textN y mo d h mi s))] W fun e w' => e = .returned (.tuple #[.int .i64 t, .int .i64 0]) ∧ Below W.heap.size W w' :=
  (pparse_any _ W hW (by rw [strN_size, text_length]; decide)).mono fun e w' ⟨⟨v, h1, h2⟩, h3⟩ => by
    rw [txt_strN _ text_small] at h2
    have := parse_text hk h2
    rw [hs, show ((T : Nat) : Int) - 62135596800 = t by omega] at this
    exact ⟨by rw [h1, this], h3⟩
theorem sec_at {y mo d h mi s : Nat} {T : Nat} (hk : OkD y mo d h mi s) (hs : secN y mo d h mi s = T) (t : Int) (ht : t + 62135596800 = (T : Int)) (W : World) (hW : Tab W) :
    Calls Tryd.prog 9 #[.agg (encL .i64 [y, mo, d, h, mi, s])] W fun e w' => e = .returned (.tuple #[.int .i64 t, .int .i64 0]) ∧ Below W.heap.size W w' := by
  have := sec_good y mo d h mi s W hW hk
  rw [hs, show ((T : Nat) : Int) - 62135596800 = t by omega] at this
  exact this
set_option maxRecDepth 100000 in
set_option maxHeartbeats 16000000 in
theorem walk (W : World) (hT : Tab W) (n : Int) (wn : (Lit.int .u64 n).wf = true) :
    Calls Tryd.prog 6 #[.int .u64 n] W fun e W' => e = .returned (.bool true) ∧ Below W.heap.size W W' := by
  have bn := bounds_u64 wn
  obtain ⟨N, hN⟩ : ∃ N : Nat, n % 315537897600 = (N : Int) := ⟨(n % 315537897600).toNat, by omega⟩
  have hNb : N < 315537897600 := by omega
  obtain ⟨m, rfl⟩ : ∃ m : Nat, n = (m : Int) := ⟨n.toNat, by omega⟩
  obtain ⟨t, ht⟩ : ∃ t : Int, (N : Int) - 62135596800 = t := ⟨_, rfl⟩
  have ht' : t + 62135596800 = (N : Int) := by omega
  have hmt : (m : Int).tmod 315537897600 = (N : Int) := by rw [Int.tmod_eq_emod_of_nonneg (by omega)]; exact hN
  have htb : -62135596800 ≤ t ∧ t ≤ 253402300799 := by omega
  have hmb : m < 18446744073709551616 := by omega
  clear hN wn bn
  obtain ⟨y, mo, d, h, mi, s, hk, hs⟩ := date_some N hNb
  have HF1 : Hid (∀ V, Tab V → _) := fld_at hk hs t ht' hNb
  have HS1 : Hid (∀ V, Tab V → _) := sec_at hk hs t ht'
  have HT1 : Hid (∀ V, Tab V → _) := text_at hk hs t ht' hNb
  have HP1 : Hid (∀ V, Tab V → _) := parse_at hk hs t ht'
  have hlen : (strN (textN y mo d h mi s)).size = 20 := by rw [strN_size, text_length]
  have HTS : Hid (txt (strN (textN y mo d h mi s)) = textN y mo d h mi s) := txt_strN _ text_small
  have HA : Hid (∀ V, Tab V → _) := awake_true
  obtain ⟨u, hu⟩ : ∃ u, t + 1 = u := ⟨_, rfl⟩
  have hs1 := (sec_parts hk).1
  rw [hs] at hs1
  have hsb := (ok_small hk).2.2.2.2.2.2
  by_cases hc : t = 253402300799
  · have HT2 : Hid (∀ V, Calls Tryd.prog 16 #[.int .i64 u] V fun e w' => e = .returned (.tuple #[.string (strN []), .int .i64 4]) ∧ Below V.heap.size V w') := fun V => ptext_bad u V (by omega)
    have hcb : (t == 253402300799) = true := by rw [hc]; rfl
    generalize strN (textN y mo d h mi s) = st at *
    clear hk hs ht' hs1 hsb hc
    go_enter Tryd.func6, Tryd.ntmps6
    go_wp2_with fail
    refine Calls.mono (HF1.out _ hT) ?_
    rintro _ w2 ⟨rfl, hb⟩
    obtain ⟨st2, bk2, bl2⟩ := store_date whenT y mo d h mi s hb
    rw [show dateV (y : Int) mo d h mi s = .agg (encL .i64 [y, mo, d, h, mi, s]) from rfl]
    have hT2 := hT.own bl2
    have hB2 := bl2
    have ST2 : Hid _ := st2
    have LD2 : Hid _ := agg_load bk2 whenT rfl
    clear hb bl2 hT st2
    go_wp2_with (first
      | (refine store_op rfl 26 _ _ rfl ⟨w2.heap.size, 0, none⟩ rfl _ rfl ST2.out ?_)
      | (refine load_op rfl 26 _ rfl ⟨w2.heap.size, 0, none⟩ rfl _ LD2.out ?_))
    generalize ((w2.alloc (.cells #[.int .i64 0, .int .i64 0, .int .i64 0, .int .i64 0, .int .i64 0, .int .i64 0] 26)).setRow w2.heap.size (encL .i64 [y, mo, d, h, mi, s])) = v2 at *
    generalize w2.heap.size = g2 at *
    clear ST2 LD2
    refine Calls.mono (HS1.out _ hT2) ?_
    rintro _ w3 ⟨rfl, hb⟩
    have hT3 := hT2.own hb
    have hB3 := hB2.trans (hb.mono hB2.size)
    have bk3 := bk2.below hb
    clear hb hT2 hB2 bk2
    go_wp2_with fail
    refine Calls.mono (HT1.out _ hT3) ?_
    rintro _ w4 ⟨rfl, hb⟩
    have hT4 := hT3.own hb
    have hB4 := hB3.trans (hb.mono hB3.size)
    have bk4 := bk3.below hb
    clear hb hT3 hB3 bk3
    go_wp2_with fail
    refine Calls.mono (HP1.out _ hT4) ?_
    rintro _ w5 ⟨rfl, hb⟩
    have hT5 := hT4.own hb
    have hB5 := hB4.trans (hb.mono hB4.size)
    have bk5 := bk4.below hb
    clear hb hT4 hB4 bk4
    go_wp2_with fail
    refine Calls.mono (HA.out _ hT5) ?_
    rintro _ w6 ⟨rfl, hb⟩
    have hT6 := hT5.own hb
    have hB6 := hB5.trans (hb.mono hB5.size)
    have bk6 := bk5.below hb
    clear hb hT5 hB5 bk5
    go_wp2_with fail
    refine Calls.mono (HT2.out _) ?_
    rintro _ w7 ⟨rfl, hb⟩
    have hB7 := hB6.trans (hb.mono hB6.size)
    clear hb hT6 hB6 bk6
    go_wp2_with fail
    go_ret
    exact ⟨rfl, hB7⟩
  · have hcb : (t == 253402300799) = false := by rw [beq_eq_false_iff_ne]; exact hc
    have hu' : u + 62135596800 = ((N + 1 : Nat) : Int) := by omega
    obtain ⟨y', mo', d', h', mi', s', hk', hs'⟩ := date_some (N + 1) (by omega)
    have HT2 : Hid (∀ V, Tab V → _) := text_at hk' hs' u hu' (by omega)
    have HF2 : Hid (∀ V, Tab V → _) := fld_at hk' hs' u hu' (by omega)
    have hlt := text_lex hk hk' (sec_lex hk hk' (by omega))
    have hless : Op.bytesLess (strN (textN y' mo' d' h' mi' s')).toList (strN (textN y mo d h mi s)).toList = false := by
      rw [str_less, txt_strN _ text_small, txt_strN _ text_small]
      exact decide_eq_false (List.lt_asymm hlt)
    have hsame : ((strN (textN y' mo' d' h' mi' s')).toList == (strN (textN y mo d h mi s)).toList) = false := by
      rw [str_eq, txt_strN _ text_small, txt_strN _ text_small]
      exact decide_eq_false (fun h => by rw [h] at hlt; exact List.lt_irrefl _ hlt)
    have HLESS : Hid (_ = _) := hless
    have HSAME : Hid (_ = _) := hsame
    clear hlt hless hsame
    have hs2 := (sec_parts hk').1
    rw [hs'] at hs2
    have hub : u ≤ 253402300799 := by omega
    generalize strN (textN y mo d h mi s) = st at *
    generalize strN (textN y' mo' d' h' mi' s') = su at *
    have hcase : (s' = s + 1) ∨ (s' ≠ s + 1 ∧ s' = 0 ∧ s = 59) := by omega
    clear hk hs ht' hs1 hk' hs' hu' hs2 hc
    rcases hcase with hx | ⟨hx, hx0, hx59⟩
    · obtain ⟨z, hz⟩ : ∃ z, s + 1 = z := ⟨_, rfl⟩
      rw [hz] at hx
      have hzi : (s : Int) + 1 = (z : Int) := by omega
      subst hx
      clear hz
      go_enter Tryd.func6, Tryd.ntmps6
      go_wp2_with fail
      refine Calls.mono (HF1.out _ hT) ?_
      rintro _ w2 ⟨rfl, hb⟩
      obtain ⟨st2, bk2, bl2⟩ := store_date whenT y mo d h mi s hb
      rw [show dateV (y : Int) mo d h mi s = .agg (encL .i64 [y, mo, d, h, mi, s]) from rfl]
      have hT2 := hT.own bl2
      have hB2 := bl2
      have ST2 : Hid _ := st2
      have LD2 : Hid _ := agg_load bk2 whenT rfl
      clear hb bl2 hT st2
      go_wp2_with (first
        | (refine store_op rfl 26 _ _ rfl ⟨w2.heap.size, 0, none⟩ rfl _ rfl ST2.out ?_)
        | (refine load_op rfl 26 _ rfl ⟨w2.heap.size, 0, none⟩ rfl _ LD2.out ?_))
      generalize ((w2.alloc (.cells #[.int .i64 0, .int .i64 0, .int .i64 0, .int .i64 0, .int .i64 0, .int .i64 0] 26)).setRow w2.heap.size (encL .i64 [y, mo, d, h, mi, s])) = v2 at *
      generalize w2.heap.size = g2 at *
      clear ST2 LD2
      refine Calls.mono (HS1.out _ hT2) ?_
      rintro _ w3 ⟨rfl, hb⟩
      have hT3 := hT2.own hb
      have hB3 := hB2.trans (hb.mono hB2.size)
      have bk3 := bk2.below hb
      clear hb hT2 hB2 bk2
      go_wp2_with fail
      refine Calls.mono (HT1.out _ hT3) ?_
      rintro _ w4 ⟨rfl, hb⟩
      have hT4 := hT3.own hb
      have hB4 := hB3.trans (hb.mono hB3.size)
      have bk4 := bk3.below hb
      clear hb hT3 hB3 bk3
      go_wp2_with fail
      refine Calls.mono (HP1.out _ hT4) ?_
      rintro _ w5 ⟨rfl, hb⟩
      have hT5 := hT4.own hb
      have hB5 := hB4.trans (hb.mono hB4.size)
      have bk5 := bk4.below hb
      clear hb hT4 hB4 bk4
      go_wp2_with fail
      refine Calls.mono (HA.out _ hT5) ?_
      rintro _ w6 ⟨rfl, hb⟩
      have hT6 := hT5.own hb
      have hB6 := hB5.trans (hb.mono hB5.size)
      have bk6 := bk5.below hb
      clear hb hT5 hB5 bk5
      go_wp2_with fail
      refine Calls.mono (HT2.out _ hT6) ?_
      rintro _ w7 ⟨rfl, hb⟩
      have hT7 := hT6.own hb
      have hB7 := hB6.trans (hb.mono hB6.size)
      have bk7 := bk6.below hb
      clear hb hT6 hB6 bk6
      go_wp2_with fail
      refine Calls.mono (HF2.out _ hT7) ?_
      rintro _ w8 ⟨rfl, hb⟩
      obtain ⟨st8, bk8, bl8⟩ := store_date whenT y' mo' d' h' mi' s' hb
      rw [show dateV (y' : Int) mo' d' h' mi' s' = .agg (encL .i64 [y', mo', d', h', mi', s']) from rfl]
      have hB8 := hB7.trans (bl8.mono hB7.size)
      have bk78 := bk7.below bl8
      have ST8 : Hid _ := st8
      clear hb bl8 hT7 hB7 st8 bk7
      have c5 := bk78.cell 5 (by simp)
      have e5 := bk8.cell 5 (by simp)
      simp only [List.getD_cons_succ, List.getD_cons_zero] at c5 e5
      clear bk78 bk8 HF1 HF2 HS1 HT1 HT2 HP1 HA
      have HGT : Hid (∀ V, (binOp .gtr 9 (.string su) (.string st)).run Tryd.prog V = .ok (.bool true) V) := fun V => by
        rw [str_gtr, HLESS.out, HSAME.out]; rfl
      clear HLESS HSAME
      generalize hv8 : ((w8.alloc (.cells #[.int .i64 0, .int .i64 0, .int .i64 0, .int .i64 0, .int .i64 0, .int .i64 0] 26)).setRow w8.heap.size (encL .i64 [y', mo', d', h', mi', s'])) = v8 at *
      clear hv8
      go_wp2_with (refine store_op rfl 26 _ _ rfl ⟨w8.heap.size, 0, none⟩ rfl _ rfl ST8.out ?_)
      rw [HGT.out]
      clear HGT ST8
      go_wp2_with fail
      go_ret
      exact ⟨rfl, hB8⟩
    · obtain ⟨z, hz⟩ : ∃ z, s + 1 = z := ⟨_, rfl⟩
      have hzi : (s : Int) + 1 = (z : Int) := by omega
      have k1 : ((s' : Int) == (z : Int)) = false := by rw [beq_eq_false_iff_ne]; omega
      have k2 : ((s' : Int) == 0) = true := by rw [beq_iff_eq]; omega
      have k3 : ((s : Int) == 59) = true := by rw [beq_iff_eq]; omega
      clear hx hx0 hx59 hz
      go_enter Tryd.func6, Tryd.ntmps6
      go_wp2_with fail
      refine Calls.mono (HF1.out _ hT) ?_
      rintro _ w2 ⟨rfl, hb⟩
      obtain ⟨st2, bk2, bl2⟩ := store_date whenT y mo d h mi s hb
      rw [show dateV (y : Int) mo d h mi s = .agg (encL .i64 [y, mo, d, h, mi, s]) from rfl]
      have hT2 := hT.own bl2
      have hB2 := bl2
      have ST2 : Hid _ := st2
      have LD2 : Hid _ := agg_load bk2 whenT rfl
      clear hb bl2 hT st2
      go_wp2_with (first
        | (refine store_op rfl 26 _ _ rfl ⟨w2.heap.size, 0, none⟩ rfl _ rfl ST2.out ?_)
        | (refine load_op rfl 26 _ rfl ⟨w2.heap.size, 0, none⟩ rfl _ LD2.out ?_))
      generalize ((w2.alloc (.cells #[.int .i64 0, .int .i64 0, .int .i64 0, .int .i64 0, .int .i64 0, .int .i64 0] 26)).setRow w2.heap.size (encL .i64 [y, mo, d, h, mi, s])) = v2 at *
      generalize w2.heap.size = g2 at *
      clear ST2 LD2
      refine Calls.mono (HS1.out _ hT2) ?_
      rintro _ w3 ⟨rfl, hb⟩
      have hT3 := hT2.own hb
      have hB3 := hB2.trans (hb.mono hB2.size)
      have bk3 := bk2.below hb
      clear hb hT2 hB2 bk2
      go_wp2_with fail
      refine Calls.mono (HT1.out _ hT3) ?_
      rintro _ w4 ⟨rfl, hb⟩
      have hT4 := hT3.own hb
      have hB4 := hB3.trans (hb.mono hB3.size)
      have bk4 := bk3.below hb
      clear hb hT3 hB3 bk3
      go_wp2_with fail
      refine Calls.mono (HP1.out _ hT4) ?_
      rintro _ w5 ⟨rfl, hb⟩
      have hT5 := hT4.own hb
      have hB5 := hB4.trans (hb.mono hB4.size)
      have bk5 := bk4.below hb
      clear hb hT4 hB4 bk4
      go_wp2_with fail
      refine Calls.mono (HA.out _ hT5) ?_
      rintro _ w6 ⟨rfl, hb⟩
      have hT6 := hT5.own hb
      have hB6 := hB5.trans (hb.mono hB5.size)
      have bk6 := bk5.below hb
      clear hb hT5 hB5 bk5
      go_wp2_with fail
      refine Calls.mono (HT2.out _ hT6) ?_
      rintro _ w7 ⟨rfl, hb⟩
      have hT7 := hT6.own hb
      have hB7 := hB6.trans (hb.mono hB6.size)
      have bk7 := bk6.below hb
      clear hb hT6 hB6 bk6
      go_wp2_with fail
      refine Calls.mono (HF2.out _ hT7) ?_
      rintro _ w8 ⟨rfl, hb⟩
      obtain ⟨st8, bk8, bl8⟩ := store_date whenT y' mo' d' h' mi' s' hb
      rw [show dateV (y' : Int) mo' d' h' mi' s' = .agg (encL .i64 [y', mo', d', h', mi', s']) from rfl]
      have hB8 := hB7.trans (bl8.mono hB7.size)
      have bk78 := bk7.below bl8
      have ST8 : Hid _ := st8
      clear hb bl8 hT7 hB7 st8 bk7
      have c5 := bk78.cell 5 (by simp)
      have e5 := bk8.cell 5 (by simp)
      simp only [List.getD_cons_succ, List.getD_cons_zero] at c5 e5
      clear bk78 bk8 HF1 HF2 HS1 HT1 HT2 HP1 HA
      have HGT : Hid (∀ V, (binOp .gtr 9 (.string su) (.string st)).run Tryd.prog V = .ok (.bool true) V) := fun V => by
        rw [str_gtr, HLESS.out, HSAME.out]; rfl
      clear HLESS HSAME
      generalize hv8 : ((w8.alloc (.cells #[.int .i64 0, .int .i64 0, .int .i64 0, .int .i64 0, .int .i64 0, .int .i64 0] 26)).setRow w8.heap.size (encL .i64 [y', mo', d', h', mi', s'])) = v8 at *
      clear hv8
      go_wp2_with (refine store_op rfl 26 _ _ rfl ⟨w8.heap.size, 0, none⟩ rfl _ rfl ST8.out ?_)
      rw [HGT.out]
      clear HGT ST8
      go_wp2_with fail
      go_ret
      exact ⟨rfl, hB8⟩
theorem contract (H : Type) (enc : TypeId × Value → H) (W : World) (base : Nat) (args : Array Value) (ds gs : List (DataW H)) (before : List MemPlace)
    (hval : ∀ (j : Nat) t v, Tryd.f6.params[j]? = some t → args[j]? = some v → Value.okWide Tryd.prog W .any base t v)
    (hW : DataW.Whole enc Tryd.prog Tryd.f6.params.toList Rows.whenBackSpec.vars false W args.toList ds gs before)
    (hsz : (DataW.weightsEach Tryd.prog (Tryd.f6.params.toList ++ (OpenSpec.ofChange Rows.whenBackSpec).bare.plain.varTypes Tryd.prog) (ds ++ gs)).all (· ≤ reachBytes) = true) (hL : laidMetH Tryd.prog Rows.whenBackRow.laid W) :
    Calls Tryd.prog 6 args W fun e W' => ∃ v, e = .returned v ∧ Rows.whenBackSpec.post enc Tryd.prog Tryd.f6 false true false false W args v W' := by
  have hW' := hW
  obtain ⟨p, q, hA0, hV, rfl, hfz, hnd⟩ := hW
  have hA : DataW.TrodAll enc Tryd.prog W 0 (fun _ => true) true Tryd.f6.params.toList args.toList ds p := hA0
  rw [Tryd.params6] at hA hval hsz
  obtain ⟨v0, vs0, d0, ds0, p0, q0, hargs, rfl, rfl, h0, r0⟩ := trodAll_cons hA
  obtain ⟨rfl, rfl, rfl⟩ := trodAll_nil r0
  obtain rfl : args = #[v0] := by cases args; simp_all
  obtain ⟨rfl, rfl⟩ := trodVars_none hV
  obtain ⟨a0, rfl, rfl, rfl, w0⟩ := open_int Tryd.underlying44 (hval 0 44 v0 rfl rfl) h0
  clear hA0 hsz
  refine (walk W (table hL) a0 w0).mono fun e W' ⟨he, bel⟩ => ?_
  subst he
  exact ⟨_, rfl, _, _, _, [], _, [], hW', trodAll_mk1 (shut_bool Tryd.underlying4 _), (trodAll_cons_mk (shut_int Tryd.underlying44 w0) trodAll_mk0), rfl, bel.frame _, fun h => by cases h⟩
set_option maxRecDepth 100000 in
theorem lifted (os : Os) (started : os.Started) (H : Type) (enc : TypeId × Value → H) (I : Stop.Interp) :
    ReturnsInHanded {} Tryd.checked os 6 .any ((OpenSpec.ofChange Rows.whenBackSpec).preRow enc Tryd.prog Tryd.f6 Rows.whenBackRow.domain false Rows.whenBackRow.laid) (((OpenSpec.ofChange Rows.whenBackSpec).at I).post enc Tryd.prog Tryd.f6 false true false false) := by
  refine returnsInHanded_of_row (C := Tryd.checked) (s := (OpenSpec.ofChange Rows.whenBackSpec)) own started (by kernel_rfl) Tryd.func6
    (witness_row_at (enc := enc) (C := Tryd.checked) false { World.holding Tryd.prog os ⟨#[], #[], []⟩ with heap := (World.holding Tryd.prog os ⟨#[], #[], []⟩).heap.modify 0 fun
        | .cells _ t frozen => .cells #[.int .i64 0, .int .i64 31, .int .i64 59, .int .i64 90, .int .i64 120, .int .i64 151, .int .i64 181, .int .i64 212, .int .i64 243, .int .i64 273, .int .i64 304, .int .i64 334, .int .i64 365] t frozen
        | o => o } #[.int .u64 0] rfl (by kernel_rfl) (by kernel_rfl) (by kernel_rfl)
      (OpenSpec.preRow_of_cond 8 (x := ([.lit (.int .u64 0)], [], [])) (by kernel_rfl) (by kernel_rfl) (fun k hk => by cases hk) (by kernel_rfl) (laidMet_of_run' 8 (by kernel_rfl) (by kernel_rfl)))) ?_
  intro W base args ds gs before hval hW _ hcond hsz hL _ _
  exact contract H enc W base args ds gs before hval hW hsz hL
theorem said : Rows.WhenBackSaid :=
  OpenClaim.holds_of_cond 6 Tryd.f6 rfl rfl rfl rfl rfl rfl rfl ⟨rfl, rfl, rfl, rfl, rfl⟩ rfl rfl rfl rfl rfl (by kernel_rfl) Tryd.func6 (by kernel_rfl)
    (of_decide_eq_true (by kernel_rfl)) (by unfold Func.isWrapper; first | (rw [if_pos (by decide +kernel)]; kernel_rfl) | (rw [if_neg (by decide +kernel)]; exact ⟨rfl, rfl⟩))
    (fun os started H enc _ I => by rw [OpenClaim.pre_eq_preRow]; exact lifted os started H enc I)
theorem plain (f : FuncId) (fn : Func) (hf : Tryd.pinned.checked.prog.funcNamed Rows.whenBackRow.func = some f) (hfn : Tryd.pinned.checked.prog.funcs[f]? = some fn) :
    false = Tryd.pinned.checked.prog.looks [] ∧ ∀ (j : Nat) t, fn.params[j]? = some t → Tryd.pinned.checked.prog.wantsStandIn t = false := by
  obtain rfl : f = 6 := Option.some.inj ((show Tryd.prog.funcNamed Rows.whenBackRow.func = some 6 by kernel_rfl).symm.trans hf) |>.symm
  obtain rfl : fn = Tryd.f6 := (Option.some.inj (Tryd.func6.symm.trans hfn)).symm
  refine ⟨by kernel_rfl, fun j t ht => ?_⟩
  rw [Tryd.params6] at ht
  have hm := Array.mem_of_getElem? ht
  simp only [List.mem_toArray, List.mem_cons, List.not_mem_nil, or_false] at hm
  subst hm
  · exact (show Tryd.prog.wantsStandIn 44 = false by kernel_rfl)
theorem card : Rows.WhenBackCardSaid :=
  Claim7.holds_tied_plain_at .later [] _ _ _ _ said (fun _ h => by cases h) (by kernel_rfl) (fun _ h => by cases h) whenBack_row_tie rfl ⟨rfl, rfl⟩ (by kernel_rfl) rfl plain (by kernel_rfl)
#print axioms card
end Go.Proofs.YtfgdfdjoidpejaaDoor.whenBack
