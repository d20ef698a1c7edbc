/-
  WhenWeeks: for every moment and any two numbers of days of up to 65535 each: seven days later is the same weekday at the same hour and second, or the last moment; days behind one another are added up; seven days earlier is no later. Condition: the table of months is laid as the program's text lays it.
-/
import Derived.Test.YtfgdfdjoidpejaaDoorCards
import Derived.Test.YtfgdfdjoidpejaaDoorTie
import Derived.Test.YtfgdfdjoidpejaaDoorCArgs
import Derived.Test.YtfgdfdjoidpejaaDoorWhenLaid
import Derived.Test.YtfgdfdjoidpejaaDoorWhenBoth
namespace Go.Proofs.YtfgdfdjoidpejaaDoor.whenWeeks
open Go.ChangeShapes Go.WideShapes Go.ChangeAt Go.RowKit
open Go.ChangeMaps (open_string shut_string)
set_option linter.unusedVariables false
set_option linter.unusedSimpArgs false
set_option maxRecDepth 100000 in
set_option maxHeartbeats 8000000 in
theorem walk (W : World) (hT : Tab W) (n : Int) (wn : (Lit.int .u64 n).wf = true) (a : Int) (wa : (Lit.int .u16 a).wf = true) (b : Int) (wb : (Lit.int .u16 b).wf = true) :
    Calls Tryd.prog 7 #[.int .u64 n, .int .u16 a, .int .u16 b] W fun e W' => e = .returned (.bool true) ∧ Below W.heap.size W W' := by
  have bn := bounds_u64 wn
  have ba := bounds_u16 wa
  have bb := bounds_u16 wb
  obtain ⟨N, hN⟩ : ∃ N : Nat, n % 315537897600 = (N : Int) := ⟨(n % 315537897600).toNat, by omega⟩
  have hNb : N < 315537897600 := by omega
  obtain ⟨m, rfl⟩ : ∃ m : Nat, n = (m : Int) := ⟨n.toNat, by omega⟩
  obtain ⟨p, rfl⟩ : ∃ p : Nat, a = (p : Int) := ⟨a.toNat, by omega⟩
  obtain ⟨q, rfl⟩ : ∃ q : Nat, b = (q : Int) := ⟨b.toNat, by omega⟩
  obtain ⟨t, ht⟩ : ∃ t : Int, (N : Int) - 62135596800 = t := ⟨_, rfl⟩
  have ht' : t + 62135596800 = (N : Int) := by omega
  have hmt : (m : Int).tmod 315537897600 = (N : Int) := by rw [Int.tmod_eq_emod_of_nonneg (by omega)]; exact hN
  have htb : -62135596800 ≤ t ∧ t ≤ 253402300799 := by omega
  have hpb : p ≤ 65535 := by omega
  have hqb : q ≤ 65535 := by omega
  have hmb : m < 18446744073709551616 := by omega
  have HD7 : Hid (∀ V, Calls Tryd.prog 20 #[.int .i64 t, .int .i64 7] V fun e w' => e = .returned (.int .i64 (daysN t 7)) ∧ w' = V) := fun V => pdays_any t 7 V (by decide) (by decide)
  have HDp : Hid (∀ V, Calls Tryd.prog 20 #[.int .i64 t, .int .i64 (p : Int)] V fun e w' => e = .returned (.int .i64 (daysN t p)) ∧ w' = V) := fun V => pdays_any t p V (by omega) (by omega)
  have HDq : Hid (∀ V, Calls Tryd.prog 20 #[.int .i64 (daysN t p), .int .i64 (q : Int)] V fun e w' => e = .returned (.int .i64 (daysN (daysN t p) q)) ∧ w' = V) := fun V => pdays_any _ q V (by omega) (by omega)
  have HDs : Hid (∀ V, Calls Tryd.prog 20 #[.int .i64 t, .int .i64 ((p : Int) + (q : Int))] V fun e w' => e = .returned (.int .i64 (daysN t ((p : Int) + (q : Int)))) ∧ w' = V) := fun V => pdays_any t _ V (by omega) (by omega)
  have HDm : Hid (∀ V, Calls Tryd.prog 20 #[.int .i64 t, .int .i64 (-7)] V fun e w' => e = .returned (.int .i64 (daysN t (-7))) ∧ w' = V) := fun V => pdays_any t (-7) V (by decide) (by decide)
  have hadd : daysN (daysN t p) q = daysN t ((p : Int) + (q : Int)) := days_add htb.1 htb.2 (by omega) (by omega) (by omega) (by omega)
  have hback := days_back htb.1 htb.2
  have hweek := days_week htb.1 htb.2
  rw [hadd] at HDq
  generalize daysN t p = P at *
  generalize daysN t ((p : Int) + (q : Int)) = Q at *
  generalize daysN t (-7) = R at *
  clear hadd
  have hgt : ¬ t < R := by omega
  have HA : Hid (∀ V, Tab V → _) := awake_true
  clear hback hN wn wa wb bn ba bb
  by_cases hc : t + 604800 ≤ 253402300799
  · rw [if_pos hc] at hweek
    obtain ⟨u, hu⟩ : ∃ u, t + 604800 = u := ⟨_, rfl⟩
    rw [hu] at hweek
    rw [hweek] at HD7
    have hut : u - t = 604800 := by omega
    obtain ⟨y, mo, d, h, mi, s, hk, hs⟩ := date_some N hNb
    obtain ⟨y', mo', d', h', mi', s', hk', hs'⟩ := date_some (N + 604800) (by omega)
    have hu' : u + 62135596800 = ((N + 604800 : Nat) : Int) := by omega
    have HF1 : Hid (∀ V, Tab V → _) := fld_at hk hs t ht' hNb
    have HF2 : Hid (∀ V, Tab V → _) := fld_at hk' hs' u hu' (by omega)
    have HW1 : Hid (∀ V, Calls Tryd.prog 13 #[.int .i64 t] V fun e w' => e = .returned (.tuple #[.int .i64 (weekN t), .int .i64 0]) ∧ w' = V) := fun V => week_good N t V ht' hNb
    have HW2 : Hid (∀ V, Calls Tryd.prog 13 #[.int .i64 u] V fun e w' => e = .returned (.tuple #[.int .i64 (weekN t), .int .i64 0]) ∧ w' = V) := fun V => by
      have := week_good (N + 604800) u V hu' (by omega)
      rw [show weekN u = weekN t by rw [← hu]; exact week_same t] at this
      exact this
    have hs1 := sec_parts hk
    have hs2 := sec_parts hk'
    rw [hs] at hs1
    rw [hs'] at hs2
    have hhh : h' = h := by omega
    have hss : s' = s := by omega
    subst hhh
    subst hss
    generalize weekN t = wk at *
    clear hu hu' hs1 hs2 hk hk' hs hs' ht' hweek hc
    go_enter Tryd.func7, Tryd.ntmps7
    go_wp2_with fail
    refine Calls.mono (HD7.out _) ?_
    rintro _ w' ⟨rfl, hw⟩
    replace hw := hw.symm
    subst hw
    go_wp2_with fail
    refine Calls.mono (HA.out _ hT) ?_
    rintro _ w1 ⟨rfl, hb1⟩
    have hT1 := hT.own hb1
    go_wp2_with fail
    refine Calls.mono (HDp.out _) ?_
    rintro _ w' ⟨rfl, hw⟩
    replace hw := hw.symm
    subst hw
    go_wp2_with fail
    refine Calls.mono (HDq.out _) ?_
    rintro _ w' ⟨rfl, hw⟩
    replace hw := hw.symm
    subst hw
    go_wp2_with fail
    refine Calls.mono (HDs.out _) ?_
    rintro _ w' ⟨rfl, hw⟩
    replace hw := hw.symm
    subst hw
    go_wp2_with fail
    refine Calls.mono (HDm.out _) ?_
    rintro _ w' ⟨rfl, hw⟩
    replace hw := hw.symm
    subst hw
    go_wp2_with fail
    refine Calls.mono (HW1.out _) ?_
    rintro _ w' ⟨rfl, hw⟩
    replace hw := hw.symm
    subst hw
    go_wp2_with fail
    refine Calls.mono (HW2.out _) ?_
    rintro _ w' ⟨rfl, hw⟩
    replace hw := hw.symm
    subst hw
    go_wp2_with fail
    refine Calls.mono (HF1.out _ hT1) ?_
    rintro _ w2 ⟨rfl, hb⟩
    obtain ⟨st2, bk2, bl2⟩ := store_date whenT y mo d h' mi s' hb
    rw [show dateV (y : Int) mo d h' mi s' = .agg (encL .i64 [y, mo, d, h', mi, s']) from rfl]
    have hT2 := hT1.own bl2
    have hB2 := hb1.trans (bl2.mono hb1.size)
    have ST2 : Hid _ := st2
    clear hb bl2 hT1 hb1 st2
    go_wp2_with (refine store_op rfl 26 _ _ rfl ⟨w2.heap.size, 0, none⟩ rfl _ rfl ST2.out ?_)
    generalize ((w2.alloc (.cells #[.int .i64 0, .int .i64 0, .int .i64 0, .int .i64 0, .int .i64 0, .int .i64 0] 26)).setRow w2.heap.size (encL .i64 [y, mo, d, h', mi, s'])) = v2 at *
    generalize w2.heap.size = g2 at *
    refine Calls.mono (HF2.out _ hT2) ?_
    rintro _ w3 ⟨rfl, hb⟩
    obtain ⟨st3, bk3, bl3⟩ := store_date whenT y' mo' d' h' mi' s' hb
    rw [show dateV (y' : Int) mo' d' h' mi' s' = .agg (encL .i64 [y', mo', d', h', mi', s']) from rfl]
    have hB3 := hB2.trans (bl3.mono hB2.size)
    have bk23 := bk2.below bl3
    have ST3 : Hid _ := st3
    clear hb bl3 hT2 hB2 st3 bk2 ST2
    have c3 := bk23.cell 3 (by simp)
    have c5 := bk23.cell 5 (by simp)
    have e3 := bk3.cell 3 (by simp)
    have e5 := bk3.cell 5 (by simp)
    simp only [List.getD_cons_succ, List.getD_cons_zero] at c3 c5 e3 e5
    clear bk23 bk3 HF1 HF2 HW1 HW2 HD7 HDp HDq HDs HDm HA
    generalize hv3 : ((w3.alloc (.cells #[.int .i64 0, .int .i64 0, .int .i64 0, .int .i64 0, .int .i64 0, .int .i64 0] 26)).setRow w3.heap.size (encL .i64 [y', mo', d', h', mi', s'])) = v3 at *
    clear hv3
    go_wp2_with (refine store_op rfl 26 _ _ rfl ⟨w3.heap.size, 0, none⟩ rfl _ rfl ST3.out ?_)
    go_ret
    exact ⟨rfl, hB3⟩
  · rw [if_neg hc] at hweek
    rw [hweek] at HD7
    have hut : (253402300799 - t != 604800) = true := by rw [bne_iff_ne]; omega
    clear hweek ht'
    go_enter Tryd.func7, Tryd.ntmps7
    go_wp2_with fail
    refine Calls.mono (HD7.out _) ?_
    rintro _ w' ⟨rfl, hw⟩
    replace hw := hw.symm
    subst hw
    go_wp2_with fail
    refine Calls.mono (HA.out _ hT) ?_
    rintro _ w1 ⟨rfl, hb1⟩
    have hT1 := hT.own hb1
    go_wp2_with fail
    refine Calls.mono (HDp.out _) ?_
    rintro _ w' ⟨rfl, hw⟩
    replace hw := hw.symm
    subst hw
    go_wp2_with fail
    refine Calls.mono (HDq.out _) ?_
    rintro _ w' ⟨rfl, hw⟩
    replace hw := hw.symm
    subst hw
    go_wp2_with fail
    refine Calls.mono (HDs.out _) ?_
    rintro _ w' ⟨rfl, hw⟩
    replace hw := hw.symm
    subst hw
    go_wp2_with fail
    refine Calls.mono (HDm.out _) ?_
    rintro _ w' ⟨rfl, hw⟩
    replace hw := hw.symm
    subst hw
    go_wp2_with fail
    go_ret
    exact ⟨rfl, hb1⟩
theorem contract (H : Type) (enc : TypeId × Value → H) (W : World) (base : Nat) (args : Array Value) (ds gs : List (DataW H)) (before : List MemPlace)
    (hval : ∀ (j : Nat) t v, Tryd.f7.params[j]? = some t → args[j]? = some v → Value.okWide Tryd.prog W .any base t v)
    (hW : DataW.Whole enc Tryd.prog Tryd.f7.params.toList Rows.whenWeeksSpec.vars false W args.toList ds gs before)
    (hsz : (DataW.weightsEach Tryd.prog (Tryd.f7.params.toList ++ (OpenSpec.ofChange Rows.whenWeeksSpec).bare.plain.varTypes Tryd.prog) (ds ++ gs)).all (· ≤ reachBytes) = true) (hL : laidMetH Tryd.prog Rows.whenWeeksRow.laid W) :
    Calls Tryd.prog 7 args W fun e W' => ∃ v, e = .returned v ∧ Rows.whenWeeksSpec.post enc Tryd.prog Tryd.f7 false true false false W args v W' := by
  have hW' := hW
  obtain ⟨p, q, hA0, hV, rfl, hfz, hnd⟩ := hW
  have hA : DataW.TrodAll enc Tryd.prog W 0 (fun _ => true) true Tryd.f7.params.toList args.toList ds p := hA0
  rw [Tryd.params7] at hA hval hsz
  obtain ⟨v0, vs0, d0, ds0, p0, q0, hargs, rfl, rfl, h0, r0⟩ := trodAll_cons hA
  obtain ⟨v1, vs1, d1, ds1, p1, q1, rfl, rfl, rfl, h1, r1⟩ := trodAll_cons r0
  obtain ⟨v2, vs2, d2, ds2, p2, q2, rfl, rfl, rfl, h2, r2⟩ := trodAll_cons r1
  obtain ⟨rfl, rfl, rfl⟩ := trodAll_nil r2
  obtain rfl : args = #[v0, v1, v2] := by cases args; simp_all
  obtain ⟨rfl, rfl⟩ := trodVars_none hV
  obtain ⟨a0, rfl, rfl, rfl, w0⟩ := open_int Tryd.underlying44 (hval 0 44 v0 rfl rfl) h0
  obtain ⟨a1, rfl, rfl, rfl, w1⟩ := open_int Tryd.underlying46 (hval 1 46 v1 rfl rfl) h1
  obtain ⟨a2, rfl, rfl, rfl, w2⟩ := open_int Tryd.underlying46 (hval 2 46 v2 rfl rfl) h2
  clear hA0 hsz
  refine (walk W (table hL) a0 w0 a1 w1 a2 w2).mono fun e W' ⟨he, bel⟩ => ?_
  subst he
  exact ⟨_, rfl, _, _, _, [], _, [], hW', trodAll_mk1 (shut_bool Tryd.underlying4 _), (trodAll_cons_mk (shut_int Tryd.underlying44 w0) (trodAll_cons_mk (shut_int Tryd.underlying46 w1) (trodAll_cons_mk (shut_int Tryd.underlying46 w2) trodAll_mk0))), rfl, bel.frame _, fun h => by cases h⟩
set_option maxRecDepth 100000 in
theorem lifted (os : Os) (started : os.Started) (H : Type) (enc : TypeId × Value → H) (I : Stop.Interp) :
    ReturnsInHanded {} Tryd.checked os 7 .any ((OpenSpec.ofChange Rows.whenWeeksSpec).preRow enc Tryd.prog Tryd.f7 Rows.whenWeeksRow.domain false Rows.whenWeeksRow.laid) (((OpenSpec.ofChange Rows.whenWeeksSpec).at I).post enc Tryd.prog Tryd.f7 false true false false) := by
  refine returnsInHanded_of_row (C := Tryd.checked) (s := (OpenSpec.ofChange Rows.whenWeeksSpec)) own started (by kernel_rfl) Tryd.func7
    (witness_row_at (enc := enc) (C := Tryd.checked) false { World.holding Tryd.prog os ⟨#[], #[], []⟩ with heap := (World.holding Tryd.prog os ⟨#[], #[], []⟩).heap.modify 0 fun
        | .cells _ t frozen => .cells #[.int .i64 0, .int .i64 31, .int .i64 59, .int .i64 90, .int .i64 120, .int .i64 151, .int .i64 181, .int .i64 212, .int .i64 243, .int .i64 273, .int .i64 304, .int .i64 334, .int .i64 365] t frozen
        | o => o } #[.int .u64 0, .int .u16 0, .int .u16 0] rfl (by kernel_rfl) (by kernel_rfl) (by kernel_rfl)
      (OpenSpec.preRow_of_cond 8 (x := ([.lit (.int .u64 0), .lit (.int .u16 0), .lit (.int .u16 0)], [], [])) (by kernel_rfl) (by kernel_rfl) (fun k hk => by cases hk) (by kernel_rfl) (laidMet_of_run' 8 (by kernel_rfl) (by kernel_rfl)))) ?_
  intro W base args ds gs before hval hW _ hcond hsz hL _ _
  exact contract H enc W base args ds gs before hval hW hsz hL
theorem said : Rows.WhenWeeksSaid :=
  OpenClaim.holds_of_cond 7 Tryd.f7 rfl rfl rfl rfl rfl rfl rfl ⟨rfl, rfl, rfl, rfl, rfl⟩ rfl rfl rfl rfl rfl (by kernel_rfl) Tryd.func7 (by kernel_rfl)
    (of_decide_eq_true (by kernel_rfl)) (by unfold Func.isWrapper; first | (rw [if_pos (by decide +kernel)]; kernel_rfl) | (rw [if_neg (by decide +kernel)]; exact ⟨rfl, rfl⟩))
    (fun os started H enc _ I => by rw [OpenClaim.pre_eq_preRow]; exact lifted os started H enc I)
theorem plain (f : FuncId) (fn : Func) (hf : Tryd.pinned.checked.prog.funcNamed Rows.whenWeeksRow.func = some f) (hfn : Tryd.pinned.checked.prog.funcs[f]? = some fn) :
    false = Tryd.pinned.checked.prog.looks [] ∧ ∀ (j : Nat) t, fn.params[j]? = some t → Tryd.pinned.checked.prog.wantsStandIn t = false := by
  obtain rfl : f = 7 := Option.some.inj ((show Tryd.prog.funcNamed Rows.whenWeeksRow.func = some 7 by kernel_rfl).symm.trans hf) |>.symm
  obtain rfl : fn = Tryd.f7 := (Option.some.inj (Tryd.func7.symm.trans hfn)).symm
  refine ⟨by kernel_rfl, fun j t ht => ?_⟩
  rw [Tryd.params7] at ht
  have hm := Array.mem_of_getElem? ht
  simp only [List.mem_toArray, List.mem_cons, List.not_mem_nil, or_false] at hm
  rcases hm with rfl | rfl | rfl
  · exact (show Tryd.prog.wantsStandIn 44 = false by kernel_rfl)
  · exact (show Tryd.prog.wantsStandIn 46 = false by kernel_rfl)
  · exact (show Tryd.prog.wantsStandIn 46 = false by kernel_rfl)
theorem card : Rows.WhenWeeksCardSaid :=
  Claim7.holds_tied_plain_at .later [] _ _ _ _ said (fun _ h => by cases h) (by kernel_rfl) (fun _ h => by cases h) whenWeeks_row_tie rfl ⟨rfl, rfl⟩ (by kernel_rfl) rfl plain (by kernel_rfl)
#print axioms card
end Go.Proofs.YtfgdfdjoidpejaaDoor.whenWeeks
