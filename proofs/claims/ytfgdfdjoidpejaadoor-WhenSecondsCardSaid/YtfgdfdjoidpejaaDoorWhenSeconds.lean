/-
  WhenSeconds: for every date's six numbers and every moment the program's Seconds, Fields and Weekday answer what the document's do. Condition: the table of months is laid as the program's text lays it.
-/
import Derived.Test.YtfgdfdjoidpejaaDoorCards
import Derived.Test.YtfgdfdjoidpejaaDoorTie
import Derived.Test.YtfgdfdjoidpejaaDoorCArgs
import Derived.Test.YtfgdfdjoidpejaaDoorWhenLaid
import Derived.Test.YtfgdfdjoidpejaaDoorWhenBoth
namespace Go.Proofs.YtfgdfdjoidpejaaDoor.whenSeconds
open Go.ChangeShapes Go.WideShapes Go.ChangeAt Go.RowKit
open Go.ChangeMaps (open_string shut_string)
set_option linter.unusedVariables false
set_option linter.unusedSimpArgs false
set_option maxRecDepth 100000 in
set_option maxHeartbeats 8000000 in
theorem walk (W : World) (hT : Tab W) (y : Int) (wy : (Lit.int .i64 y).wf = true) (mo : Int) (wmo : (Lit.int .i64 mo).wf = true) (d : Int) (wd : (Lit.int .i64 d).wf = true) (h : Int) (wh : (Lit.int .i64 h).wf = true) (mi : Int) (wmi : (Lit.int .i64 mi).wf = true) (s : Int) (ws : (Lit.int .i64 s).wf = true) (t : Int) (wt : (Lit.int .i64 t).wf = true) :
    Calls Tryd.prog 3 #[.int .i64 y, .int .i64 mo, .int .i64 d, .int .i64 h, .int .i64 mi, .int .i64 s, .int .i64 t] W fun e W' => e = .returned (.bool true) ∧ Below W.heap.size W W' := by
  obtain ⟨t0, t1⟩ := b64 wt
  obtain ⟨A, E, HA, HB⟩ := sec_both y mo d h mi s
  obtain ⟨fy, fm, fd, fh, fi, fs, G, HC, HD⟩ := fld_both t
  obtain ⟨V, K, HE, HF⟩ := week_both t t0 t1
  have HA : Hid _ := HA
  have HB : Hid _ := HB
  have HC : Hid _ := HC
  have HD : Hid _ := HD
  have HE : Hid _ := HE
  have HF : Hid _ := HF
  have hTW := hT
  have hBW := Below.refl W.heap.size W
  clear wy wmo wd wh wmi ws wt hT t0 t1
  unfold dateV at HA HB
  go_enter Tryd.func3, Tryd.ntmps3
  go_wp2_with fail
  refine Calls.mono (HA.out _ hTW) ?_
  rintro _ w1 ⟨rfl, hb⟩
  have hTw1 := hTW.own hb
  have hBw1 := hBW.trans (hb.mono hBW.size)
  clear hb hTW hBW
  go_wp2_with fail
  refine Calls.mono (HB.out _) ?_
  rintro _ w2 ⟨rfl, hb⟩
  have hTw2 := hTw1.own hb
  have hBw2 := hBw1.trans (hb.mono hBw1.size)
  clear hb hTw1 hBw1
  go_wp2_with fail
  refine Calls.mono (HC.out _ hTw2) ?_
  rintro _ w3 ⟨rfl, hb⟩
  obtain ⟨st3, bk3, bl3⟩ := store_date whenT fy fm fd fh fi fs hb
  rw [show dateV (fy : Int) fm fd fh fi fs = .agg (encL .i64 [fy, fm, fd, fh, fi, fs]) from rfl]
  have hTw3 := hTw2.own bl3
  have hBw3 := hBw2.trans (bl3.mono hBw2.size)
  have ST3 : Hid _ := st3
  clear hb bl3 hTw2 hBw2 st3
  go_wp2_with (refine store_op rfl 26 _ _ rfl ⟨w3.heap.size, 0, none⟩ rfl _ rfl ST3.out ?_)
  generalize ((w3.alloc (.cells #[.int .i64 0, .int .i64 0, .int .i64 0, .int .i64 0, .int .i64 0, .int .i64 0] 26)).setRow w3.heap.size (encL .i64 [fy, fm, fd, fh, fi, fs])) = v3 at *
  generalize w3.heap.size = g3 at *
  refine Calls.mono (HD.out _) ?_
  rintro _ w4 ⟨rfl, hb⟩
  obtain ⟨st4, bk4, bl4⟩ := store_date dateT fy fm fd fh fi fs hb
  rw [show dateV (fy : Int) fm fd fh fi fs = .agg (encL .i64 [fy, fm, fd, fh, fi, fs]) from rfl]
  have hTw4 := hTw3.own bl4
  have hBw4 := hBw3.trans (bl4.mono hBw3.size)
  have bk34 := bk3.below bl4
  have ST4 : Hid _ := st4
  clear hb bl4 hTw3 hBw3 st4 bk3 ST3
  go_wp2_with (refine store_op rfl 28 _ _ rfl ⟨w4.heap.size, 0, none⟩ rfl _ rfl ST4.out ?_)
  generalize ((w4.alloc (.cells #[.int .i64 0, .int .i64 0, .int .i64 0, .int .i64 0, .int .i64 0, .int .i64 0] 28)).setRow w4.heap.size (encL .i64 [fy, fm, fd, fh, fi, fs])) = v4 at *
  generalize w4.heap.size = g4 at *
  refine Calls.mono (HE.out _) ?_
  rintro _ w' ⟨rfl, hw⟩
  replace hw := hw.symm
  subst hw
  go_wp2_with fail
  refine Calls.mono (HF.out _) ?_
  rintro _ w' ⟨rfl, hw⟩
  replace hw := hw.symm
  subst hw
  go_wp2_with fail
  refine Calls.mono (awake_true _ hTw4) ?_
  rintro _ w5 ⟨rfl, hb⟩
  have hfin := hBw4.trans (hb.mono hBw4.size)
  have b3 := bk34.below hb
  have b4 := bk4.below hb
  have c30 : w5.cell? ⟨g3, 0, none⟩ = some (.int .i64 (fy : Int)) := b3.cell 0 (by simp)
  have c31 : w5.cell? ⟨g3, 1, none⟩ = some (.int .i64 (fm : Int)) := b3.cell 1 (by simp)
  have c32 : w5.cell? ⟨g3, 2, none⟩ = some (.int .i64 (fd : Int)) := b3.cell 2 (by simp)
  have c33 : w5.cell? ⟨g3, 3, none⟩ = some (.int .i64 (fh : Int)) := b3.cell 3 (by simp)
  have c34 : w5.cell? ⟨g3, 4, none⟩ = some (.int .i64 (fi : Int)) := b3.cell 4 (by simp)
  have c35 : w5.cell? ⟨g3, 5, none⟩ = some (.int .i64 (fs : Int)) := b3.cell 5 (by simp)
  have c40 : w5.cell? ⟨g4, 0, none⟩ = some (.int .i64 (fy : Int)) := b4.cell 0 (by simp)
  have c41 : w5.cell? ⟨g4, 1, none⟩ = some (.int .i64 (fm : Int)) := b4.cell 1 (by simp)
  have c42 : w5.cell? ⟨g4, 2, none⟩ = some (.int .i64 (fd : Int)) := b4.cell 2 (by simp)
  have c43 : w5.cell? ⟨g4, 3, none⟩ = some (.int .i64 (fh : Int)) := b4.cell 3 (by simp)
  have c44 : w5.cell? ⟨g4, 4, none⟩ = some (.int .i64 (fi : Int)) := b4.cell 4 (by simp)
  have c45 : w5.cell? ⟨g4, 5, none⟩ = some (.int .i64 (fs : Int)) := b4.cell 5 (by simp)
  clear hb hBw4 hTw4 bk34 bk4 b3 b4 ST4 HA HB HC HD HE HF
  go_wp2_with fail
  go_ret
  exact ⟨rfl, hfin⟩
theorem contract (H : Type) (enc : TypeId × Value → H) (W : World) (base : Nat) (args : Array Value) (ds gs : List (DataW H)) (before : List MemPlace)
    (hval : ∀ (j : Nat) t v, Tryd.f3.params[j]? = some t → args[j]? = some v → Value.okWide Tryd.prog W .any base t v)
    (hW : DataW.Whole enc Tryd.prog Tryd.f3.params.toList Rows.whenSecondsSpec.vars false W args.toList ds gs before)
    (hsz : (DataW.weightsEach Tryd.prog (Tryd.f3.params.toList ++ (OpenSpec.ofChange Rows.whenSecondsSpec).bare.plain.varTypes Tryd.prog) (ds ++ gs)).all (· ≤ reachBytes) = true) (hL : laidMetH Tryd.prog Rows.whenSecondsRow.laid W) :
    Calls Tryd.prog 3 args W fun e W' => ∃ v, e = .returned v ∧ Rows.whenSecondsSpec.post enc Tryd.prog Tryd.f3 false true false false W args v W' := by
  have hW' := hW
  obtain ⟨p, q, hA0, hV, rfl, hfz, hnd⟩ := hW
  have hA : DataW.TrodAll enc Tryd.prog W 0 (fun _ => true) true Tryd.f3.params.toList args.toList ds p := hA0
  rw [Tryd.params3] at hA hval hsz
  obtain ⟨v0, vs0, d0, ds0, p0, q0, hargs, rfl, rfl, h0, r0⟩ := trodAll_cons hA
  obtain ⟨v1, vs1, d1, ds1, p1, q1, rfl, rfl, rfl, h1, r1⟩ := trodAll_cons r0
  obtain ⟨v2, vs2, d2, ds2, p2, q2, rfl, rfl, rfl, h2, r2⟩ := trodAll_cons r1
  obtain ⟨v3, vs3, d3, ds3, p3, q3, rfl, rfl, rfl, h3, r3⟩ := trodAll_cons r2
  obtain ⟨v4, vs4, d4, ds4, p4, q4, rfl, rfl, rfl, h4, r4⟩ := trodAll_cons r3
  obtain ⟨v5, vs5, d5, ds5, p5, q5, rfl, rfl, rfl, h5, r5⟩ := trodAll_cons r4
  obtain ⟨v6, vs6, d6, ds6, p6, q6, rfl, rfl, rfl, h6, r6⟩ := trodAll_cons r5
  obtain ⟨rfl, rfl, rfl⟩ := trodAll_nil r6
  obtain rfl : args = #[v0, v1, v2, v3, v4, v5, v6] := by cases args; simp_all
  obtain ⟨rfl, rfl⟩ := trodVars_none hV
  obtain ⟨a0, rfl, rfl, rfl, w0⟩ := open_int Tryd.underlying3 (hval 0 3 v0 rfl rfl) h0
  obtain ⟨a1, rfl, rfl, rfl, w1⟩ := open_int Tryd.underlying3 (hval 1 3 v1 rfl rfl) h1
  obtain ⟨a2, rfl, rfl, rfl, w2⟩ := open_int Tryd.underlying3 (hval 2 3 v2 rfl rfl) h2
  obtain ⟨a3, rfl, rfl, rfl, w3⟩ := open_int Tryd.underlying3 (hval 3 3 v3 rfl rfl) h3
  obtain ⟨a4, rfl, rfl, rfl, w4⟩ := open_int Tryd.underlying3 (hval 4 3 v4 rfl rfl) h4
  obtain ⟨a5, rfl, rfl, rfl, w5⟩ := open_int Tryd.underlying3 (hval 5 3 v5 rfl rfl) h5
  obtain ⟨a6, rfl, rfl, rfl, w6⟩ := open_int Tryd.underlying2 (hval 6 2 v6 rfl rfl) h6
  clear hA0 hsz
  refine (walk W (table hL) a0 w0 a1 w1 a2 w2 a3 w3 a4 w4 a5 w5 a6 w6).mono fun e W' ⟨he, bel⟩ => ?_
  subst he
  exact ⟨_, rfl, _, _, _, [], _, [], hW', trodAll_mk1 (shut_bool Tryd.underlying4 _), (trodAll_cons_mk (shut_int Tryd.underlying3 w0) (trodAll_cons_mk (shut_int Tryd.underlying3 w1) (trodAll_cons_mk (shut_int Tryd.underlying3 w2) (trodAll_cons_mk (shut_int Tryd.underlying3 w3) (trodAll_cons_mk (shut_int Tryd.underlying3 w4) (trodAll_cons_mk (shut_int Tryd.underlying3 w5) (trodAll_cons_mk (shut_int Tryd.underlying2 w6) trodAll_mk0))))))), rfl, bel.frame _, fun h => by cases h⟩
set_option maxRecDepth 100000 in
theorem lifted (os : Os) (started : os.Started) (H : Type) (enc : TypeId × Value → H) (I : Stop.Interp) :
    ReturnsInHanded {} Tryd.checked os 3 .any ((OpenSpec.ofChange Rows.whenSecondsSpec).preRow enc Tryd.prog Tryd.f3 Rows.whenSecondsRow.domain false Rows.whenSecondsRow.laid) (((OpenSpec.ofChange Rows.whenSecondsSpec).at I).post enc Tryd.prog Tryd.f3 false true false false) := by
  refine returnsInHanded_of_row (C := Tryd.checked) (s := (OpenSpec.ofChange Rows.whenSecondsSpec)) own started (by kernel_rfl) Tryd.func3
    (witness_row_at (enc := enc) (C := Tryd.checked) false { World.holding Tryd.prog os ⟨#[], #[], []⟩ with heap := (World.holding Tryd.prog os ⟨#[], #[], []⟩).heap.modify 0 fun
        | .cells _ t frozen => .cells #[.int .i64 0, .int .i64 31, .int .i64 59, .int .i64 90, .int .i64 120, .int .i64 151, .int .i64 181, .int .i64 212, .int .i64 243, .int .i64 273, .int .i64 304, .int .i64 334, .int .i64 365] t frozen
        | o => o } #[.int .i64 0, .int .i64 0, .int .i64 0, .int .i64 0, .int .i64 0, .int .i64 0, .int .i64 0] rfl (by kernel_rfl) (by kernel_rfl) (by kernel_rfl)
      (OpenSpec.preRow_of_cond 8 (x := ([.lit (.int .i64 0), .lit (.int .i64 0), .lit (.int .i64 0), .lit (.int .i64 0), .lit (.int .i64 0), .lit (.int .i64 0), .lit (.int .i64 0)], [], [])) (by kernel_rfl) (by kernel_rfl) (fun k hk => by cases hk) (by kernel_rfl) (laidMet_of_run' 8 (by kernel_rfl) (by kernel_rfl)))) ?_
  intro W base args ds gs before hval hW _ hcond hsz hL _ _
  exact contract H enc W base args ds gs before hval hW hsz hL
theorem said : Rows.WhenSecondsSaid :=
  OpenClaim.holds_of_cond 3 Tryd.f3 rfl rfl rfl rfl rfl rfl rfl ⟨rfl, rfl, rfl, rfl, rfl⟩ rfl rfl rfl rfl rfl (by kernel_rfl) Tryd.func3 (by kernel_rfl)
    (of_decide_eq_true (by kernel_rfl)) (by unfold Func.isWrapper; first | (rw [if_pos (by decide +kernel)]; kernel_rfl) | (rw [if_neg (by decide +kernel)]; exact ⟨rfl, rfl⟩))
    (fun os started H enc _ I => by rw [OpenClaim.pre_eq_preRow]; exact lifted os started H enc I)
theorem plain (f : FuncId) (fn : Func) (hf : Tryd.pinned.checked.prog.funcNamed Rows.whenSecondsRow.func = some f) (hfn : Tryd.pinned.checked.prog.funcs[f]? = some fn) :
    false = Tryd.pinned.checked.prog.looks [] ∧ ∀ (j : Nat) t, fn.params[j]? = some t → Tryd.pinned.checked.prog.wantsStandIn t = false := by
  obtain rfl : f = 3 := Option.some.inj ((show Tryd.prog.funcNamed Rows.whenSecondsRow.func = some 3 by kernel_rfl).symm.trans hf) |>.symm
  obtain rfl : fn = Tryd.f3 := (Option.some.inj (Tryd.func3.symm.trans hfn)).symm
  refine ⟨by kernel_rfl, fun j t ht => ?_⟩
  rw [Tryd.params3] at ht
  have hm := Array.mem_of_getElem? ht
  simp only [List.mem_toArray, List.mem_cons, List.not_mem_nil, or_false] at hm
  rcases hm with rfl | rfl | rfl | rfl | rfl | rfl | rfl
  · exact (show Tryd.prog.wantsStandIn 3 = false by kernel_rfl)
  · exact (show Tryd.prog.wantsStandIn 3 = false by kernel_rfl)
  · exact (show Tryd.prog.wantsStandIn 3 = false by kernel_rfl)
  · exact (show Tryd.prog.wantsStandIn 3 = false by kernel_rfl)
  · exact (show Tryd.prog.wantsStandIn 3 = false by kernel_rfl)
  · exact (show Tryd.prog.wantsStandIn 3 = false by kernel_rfl)
  · exact (show Tryd.prog.wantsStandIn 2 = false by kernel_rfl)
theorem card : Rows.WhenSecondsCardSaid :=
  Claim7.holds_tied_plain_at .later [] _ _ _ _ said (fun _ h => by cases h) (by kernel_rfl) (fun _ h => by cases h) whenSeconds_row_tie rfl ⟨rfl, rfl⟩ (by kernel_rfl) rfl plain (by kernel_rfl)
#print axioms card
end Go.Proofs.YtfgdfdjoidpejaaDoor.whenSeconds
