/-
  For any word, any places, any value and any number: bits that are set are read again and the others stay; a word turned and turned back, or twice in the other order, is as it was, with as many ones; the table of swaps reads as the program's text lays it (the card ties it).
-/
import Derived.Test.YtbgnfcjnifcenabDoorCards
import Derived.Test.YtbgnfcjnifcenabDoorTie
import Derived.Test.YtbgnfcjnifcenabDoorSetsN
import Derived.Test.YtbgnfcjnifcenabDoorLaidSets
import Derived.WalkKit
import Derived.ProofKit
import Derived.OpenShut
import Derived.Deep.DeepHandedRow
namespace Go.Proofs.YtbgnfcjnifcenabDoor.bitsSets
open Go.ChangeShapes Go.WideShapes Go.ChangeAt Go.RowKit
set_option linter.unusedVariables false
theorem own : ownKnob Tryd.prog.godebug = none := by kernel_rfl
theorem field_lt64 (W i k : Nat) (h : i + k ≤ 64) : fieldN W i k < 18446744073709551616 := by
  have h1 := fieldN_lt W i k
  have h2 : 2 ^ k ≤ 2 ^ 64 := Nat.pow_le_pow_right (by decide) (by omega)
  omega
theorem below_drewN (B : Nat) (w : World) (n : Nat) : Below B w (w.drewN n) := ⟨rfl, rfl, rfl, Nat.le_refl _, fun _ _ => rfl⟩
set_option maxRecDepth 100000 in
set_option maxHeartbeats 2000000 in
/-- The law's body at any input, where the table lies in its cells. -/
theorem walk (a0 : Int) (a1 : Int) (a2 : Int) (a3 : Int) (a4 : Int) (w0 : (Lit.int .u64 a0).wf = true) (w1 : (Lit.int .u8 a1).wf = true) (w2 : (Lit.int .u8 a2).wf = true) (w3 : (Lit.int .u64 a3).wf = true) (w4 : (Lit.int .i64 a4).wf = true) (w : World) (htab : SwapTab w) :
    Calls Tryd.prog 3 #[.int .u64 a0, .int .u8 a1, .int .u8 a2, .int .u64 a3, .int .i64 a4] w fun e w' => e = .returned (.bool true) ∧ Grown w w' := by
  obtain ⟨l0, h0⟩ := bounds_u64 w0
  obtain ⟨l1, h1⟩ := bounds_u8 w1
  obtain ⟨l2, h2⟩ := bounds_u8 w2
  obtain ⟨l3, h3⟩ := bounds_u64 w3
  obtain ⟨l4, h4⟩ := bounds_i64 w4
  clear w0 w1 w2 w3 w4
  obtain ⟨W, rfl⟩ := Int.eq_ofNat_of_zero_le l0
  obtain ⟨V, rfl⟩ := Int.eq_ofNat_of_zero_le l3
  have hW : W < 18446744073709551616 := by omega
  have hV : V < 18446744073709551616 := by omega
  have HT : Hid (SwapTab w) := htab
  clear htab
  obtain ⟨X, hXe, hX⟩ : ∃ X : Nat, (W : Int) % 4294967296 = (X : Int) ∧ X < 4294967296 := ⟨W % 4294967296, by omega, by omega⟩
  obtain ⟨i, hie, hi⟩ : ∃ i : Nat, a1 % 65 = (i : Int) ∧ i ≤ 64 := ⟨(a1 % 65).toNat, by omega, by omega⟩
  obtain ⟨k0, hke, hk0⟩ : ∃ k : Nat, a2 % 65 = (k : Int) ∧ k ≤ 64 := ⟨(a2 % 65).toNat, by omega, by omega⟩
  have m0 : -31 ≤ a4.tmod 32 ∧ a4.tmod 32 ≤ 31 := by
    by_cases h : 0 ≤ a4
    · rw [Int.tmod_eq_emod_of_nonneg h]; omega
    · have e : a4.tmod 32 = -((-a4) % 32) := by rw [← Int.tmod_eq_emod_of_nonneg (by omega : 0 ≤ -a4), Int.neg_tmod]; omega
      rw [e]; omega
  obtain ⟨m1, m2⟩ := m0
  obtain ⟨k, hik, hway⟩ : ∃ k : Nat, i + k ≤ 64 ∧ ((k = k0) ∨ (64 - (i : Int) < (k0 : Int) ∧ 64 - (i : Int) = (k : Int))) := by
    by_cases h : k0 ≤ 64 - i
    · exact ⟨k0, by omega, .inl rfl⟩
    · exact ⟨64 - i, by omega, .inr ⟨by omega, by omega⟩⟩
  have HB : Hid (V < 2 ^ k ∨ 2 ^ k ≤ V) := by show _ ∨ _; omega
  clear l0 h0 l3 h3
  rcases hway with rfl | ⟨c1, c2⟩
  all_goals
    go_enter Tryd.func3, Tryd.ntmps3
    go_wp2_with fail
    refine (field_N W i k _ hW hik).mono ?_
    rintro e w1 ⟨rfl, n1, rfl⟩
    go_wp2_with fail
    refine (set_ok W (fieldN W i k) i k _ hW (field_lt64 W i k hik) hik (fieldN_lt W i k)).mono ?_
    rintro e w2 ⟨rfl, n2, rfl⟩
    rw [set_same W i k hW hik]
    generalize hFq : fieldN W i k = F
    have HF : Hid (fieldN W i k = F) := hFq
    clear hFq
    go_wp2_with fail
    refine (awake_true _).mono ?_
    rintro e w3 ⟨rfl, hg3, hb3⟩
    have HT3 : Hid (SwapTab w3) := (HT.out.below (below_drewN _ w _)).below hb3
    have HG3 : Hid (Grown w w3) := hg3
    clear hg3 hb3
    go_wp2_with fail
    rcases HB.out with hr | hr
    · have HR : Hid (V < 2 ^ k) := hr
      clear hr HB
      refine (set_ok W V i k _ hW hV hik HR.out).mono ?_
      rintro e w4 ⟨rfl, n4, rfl⟩
      generalize hSq : setN W i k V = S
      have HSq : Hid (setN W i k V = S) := hSq
      clear hSq
      go_wp2_with fail
      refine (field_N S i k _ (by rw [← HSq.out]; exact setN_lt W i k V hW hik HR.out) hik).mono ?_
      rintro e w5 ⟨rfl, n5, rfl⟩
      rw [show fieldN S i k = V by rw [← HSq.out]; exact field_set W i k V hW hik HR.out]
      go_wp2_with fail
      refine (set_ok S F i k _ (by rw [← HSq.out]; exact setN_lt W i k V hW hik HR.out) (by rw [← HF.out]; exact field_lt64 W i k hik) hik (by rw [← HF.out]; exact fieldN_lt W i k)).mono ?_
      rintro e w6 ⟨rfl, n6, rfl⟩
      rw [show setN S i k F = W by rw [← HSq.out, ← HF.out]; exact set_back W i k V hW hik HR.out]
      clear HR HSq HF
      go_wp2_with fail
      refine (swap_any X _ hX (SwapTab.below HT3.out (below_drewN _ w3 _))).mono ?_
      rintro e w7 ⟨rfl, hg7, hb7⟩
      have HG7 : Hid (Grown w w7) := grown_trans HG3.out hg7
      have HT7 : Hid (SwapTab w7) := SwapTab.below (SwapTab.below HT3.out (below_drewN _ w3 _)) hb7
      clear hg7 hb7 HG3 HT3 HT
      generalize hYq : swN X 5 = Y
      have HY : Hid (swN X 5 = Y) := hYq
      have hYl : Y < 4294967296 := by rw [← hYq]; exact swN_lt X 5 hX
      clear hYq
      go_wp2_with fail
      refine (swap_any Y _ hYl HT7.out).mono ?_
      rintro e w8 ⟨rfl, hg8, hb8⟩
      rw [show swN Y 5 = X by rw [← HY.out]; exact swap_swap X hX]
      have HG8 : Hid (Grown w w8) := grown_trans HG7.out hg8
      have HT8 : Hid (SwapTab w8) := HT7.out.below hb8
      clear hg8 hb8 HG7 HT7
      go_wp2_with fail
      refine (turn_any X (a4.tmod 32) _ hX).mono ?_
      rintro e w9 ⟨rfl, rfl⟩
      generalize hRq : rotN X (a4.tmod 32 % 32).toNat = R
      have HR : Hid (rotN X (a4.tmod 32 % 32).toNat = R) := hRq
      clear hRq
      go_wp2_with fail
      refine (turn_any R (-(a4.tmod 32)) _ (by rw [← HR.out]; exact rotN_lt X _ hX (by omega))).mono ?_
      rintro e w9 ⟨rfl, rfl⟩
      rw [show rotN R ((-(a4.tmod 32)) % 32).toNat = X by rw [← HR.out]; exact turn_back X (a4.tmod 32) hX]
      clear HR
      go_wp2_with fail
      refine (swap_any X _ hX HT8.out).mono ?_
      rintro e w9 ⟨rfl, hg9, -⟩
      rw [HY.out]
      have HG9 : Hid (Grown w w9) := grown_trans HG8.out hg9
      clear hg9 HG8 HT8
      go_wp2_with fail
      refine (ones_any Y _ (by omega)).mono ?_
      rintro e w10 ⟨rfl, rfl⟩
      rw [show pop64 Y = pop64 X by rw [← HY.out]; exact ones_swap X hX]
      generalize hOq : pop64 X = O
      have HO : Hid (pop64 X = O) := hOq
      clear hOq HY
      go_wp2_with fail
      refine (ones_any X _ (by omega)).mono ?_
      rintro e w10 ⟨rfl, rfl⟩
      rw [HO.out]
      clear HO
      go_wp2_with fail
      go_ret
      exact ⟨rfl, HG9.out⟩
    · have HR : Hid (2 ^ k ≤ V) := hr
      clear hr HB
      refine (set_range W V i k _ hV hik HR.out).mono ?_
      rintro e w4 ⟨rfl, rfl⟩
      clear HR HF
      go_wp2_with fail
      refine (swap_any X _ hX (HT3.out)).mono ?_
      rintro e w7 ⟨rfl, hg7, hb7⟩
      have HG7 : Hid (Grown w w7) := grown_trans HG3.out hg7
      have HT7 : Hid (SwapTab w7) := SwapTab.below (HT3.out) hb7
      clear hg7 hb7 HG3 HT3 HT
      generalize hYq : swN X 5 = Y
      have HY : Hid (swN X 5 = Y) := hYq
      have hYl : Y < 4294967296 := by rw [← hYq]; exact swN_lt X 5 hX
      clear hYq
      go_wp2_with fail
      refine (swap_any Y _ hYl HT7.out).mono ?_
      rintro e w8 ⟨rfl, hg8, hb8⟩
      rw [show swN Y 5 = X by rw [← HY.out]; exact swap_swap X hX]
      have HG8 : Hid (Grown w w8) := grown_trans HG7.out hg8
      have HT8 : Hid (SwapTab w8) := HT7.out.below hb8
      clear hg8 hb8 HG7 HT7
      go_wp2_with fail
      refine (turn_any X (a4.tmod 32) _ hX).mono ?_
      rintro e w9 ⟨rfl, rfl⟩
      generalize hRq : rotN X (a4.tmod 32 % 32).toNat = R
      have HR : Hid (rotN X (a4.tmod 32 % 32).toNat = R) := hRq
      clear hRq
      go_wp2_with fail
      refine (turn_any R (-(a4.tmod 32)) _ (by rw [← HR.out]; exact rotN_lt X _ hX (by omega))).mono ?_
      rintro e w9 ⟨rfl, rfl⟩
      rw [show rotN R ((-(a4.tmod 32)) % 32).toNat = X by rw [← HR.out]; exact turn_back X (a4.tmod 32) hX]
      clear HR
      go_wp2_with fail
      refine (swap_any X _ hX HT8.out).mono ?_
      rintro e w9 ⟨rfl, hg9, -⟩
      rw [HY.out]
      have HG9 : Hid (Grown w w9) := grown_trans HG8.out hg9
      clear hg9 HG8 HT8
      go_wp2_with fail
      refine (ones_any Y _ (by omega)).mono ?_
      rintro e w10 ⟨rfl, rfl⟩
      rw [show pop64 Y = pop64 X by rw [← HY.out]; exact ones_swap X hX]
      generalize hOq : pop64 X = O
      have HO : Hid (pop64 X = O) := hOq
      clear hOq HY
      go_wp2_with fail
      refine (ones_any X _ (by omega)).mono ?_
      rintro e w10 ⟨rfl, rfl⟩
      rw [HO.out]
      clear HO
      go_wp2_with fail
      go_ret
      exact ⟨rfl, HG9.out⟩
theorem contract (H : Type) (enc : TypeId × Value → H) (W : World) (base : Nat) (args : Array Value) (ds gs : List (DataW H)) (before : List MemPlace)
    (hval : ∀ (j : Nat) t v, Tryd.f3.params[j]? = some t → args[j]? = some v → Value.okWide Tryd.prog W .any base t v)
    (hW : DataW.Whole enc Tryd.prog Tryd.f3.params.toList Rows.bitsSetsSpec.vars false W args.toList ds gs before) (hL : laidMetH Tryd.prog Rows.bitsSetsRow.laid W) :
    Calls Tryd.prog 3 args W fun e W' => ∃ v, e = .returned v ∧ Rows.bitsSetsSpec.post enc Tryd.prog Tryd.f3 false true false false W args v W' := by
  have hW' := hW
  obtain ⟨p, q, hA0, hV, rfl, hfz, hnd⟩ := hW
  have hA : DataW.TrodAll enc Tryd.prog W 0 (fun _ => true) true Tryd.f3.params.toList args.toList ds p := hA0
  rw [Tryd.params3] at hA hval
  obtain ⟨v0, vs0, d0, ds0, p0, q0, hargs, rfl, rfl, h0, r0⟩ := trodAll_cons hA
  obtain ⟨v1, vs1, d1, ds1, p1, q1, rfl, rfl, rfl, h1, r1⟩ := trodAll_cons r0
  obtain ⟨v2, vs2, d2, ds2, p2, q2, rfl, rfl, rfl, h2, r2⟩ := trodAll_cons r1
  obtain ⟨v3, vs3, d3, ds3, p3, q3, rfl, rfl, rfl, h3, r3⟩ := trodAll_cons r2
  obtain ⟨v4, vs4, d4, ds4, p4, q4, rfl, rfl, rfl, h4, r4⟩ := trodAll_cons r3
  obtain ⟨rfl, rfl, rfl⟩ := trodAll_nil r4
  obtain rfl : args = #[v0, v1, v2, v3, v4] := by cases args; simp_all
  obtain ⟨rfl, rfl⟩ := trodVars_none hV
  obtain ⟨a0, rfl, rfl, rfl, w0⟩ := open_int Tryd.underlying22 (hval 0 22 v0 rfl rfl) h0
  obtain ⟨a1, rfl, rfl, rfl, w1⟩ := open_int Tryd.underlying5 (hval 1 5 v1 rfl rfl) h1
  obtain ⟨a2, rfl, rfl, rfl, w2⟩ := open_int Tryd.underlying5 (hval 2 5 v2 rfl rfl) h2
  obtain ⟨a3, rfl, rfl, rfl, w3⟩ := open_int Tryd.underlying22 (hval 3 22 v3 rfl rfl) h3
  obtain ⟨a4, rfl, rfl, rfl, w4⟩ := open_int Tryd.underlying3 (hval 4 3 v4 rfl rfl) h4
  clear hA0
  simp only [List.append_nil] at hW'
  refine (walk a0 a1 a2 a3 a4 w0 w1 w2 w3 w4 W (table hL)).mono fun e W' ⟨he, hg⟩ => ?_
  subst he
  exact ⟨_, rfl, post_of_same (pa := []) (pv := []) hW' (fun _ _ _ => trodAll_cons_mk (shut_bool Tryd.underlying4 _) trodAll_mk0) (fun _ _ => trodAll_cons_mk (shut_int Tryd.underlying22 w0) (trodAll_cons_mk (shut_int Tryd.underlying5 w1) (trodAll_cons_mk (shut_int Tryd.underlying5 w2) (trodAll_cons_mk (shut_int Tryd.underlying22 w3) (trodAll_cons_mk (shut_int Tryd.underlying3 w4) trodAll_mk0))))) (fun _ _ => rfl) rfl
    (hg.frame _) hg.2.1 (ok_one (by kernel_rfl) rfl (okWide_bool_mk Tryd.underlying4 _))⟩
set_option maxRecDepth 100000 in
theorem lifted (os : Os) (started : os.Started) (H : Type) (enc : TypeId × Value → H) (F : Stop.Interp) :
    ReturnsInHanded {} Tryd.checked os 3 .any ((OpenSpec.ofChange Rows.bitsSetsSpec).preRow enc Tryd.prog Tryd.f3 Rows.bitsSetsRow.domain false Rows.bitsSetsRow.laid) (((OpenSpec.ofChange Rows.bitsSetsSpec).at F).post enc Tryd.prog Tryd.f3 false true false false) := by
  refine returnsInHanded_of_row (C := Tryd.checked) (s := OpenSpec.ofChange Rows.bitsSetsSpec) own started (by kernel_rfl) Tryd.func3
    (witness_row_at (enc := enc) (C := Tryd.checked) false { World.holding Tryd.prog os ⟨#[], #[], []⟩ with heap := (World.holding Tryd.prog os ⟨#[], #[], []⟩).heap.modify 0 fun
        | .cells _ t frozen => .cells #[.int .u32 1431655765, .int .u64 1, .int .u32 858993459, .int .u64 2, .int .u32 252645135, .int .u64 4, .int .u32 16711935, .int .u64 8, .int .u32 65535, .int .u64 16] t frozen
        | o => o } #[.int .u64 0, .int .u8 0, .int .u8 0, .int .u64 0, .int .i64 0] rfl (by kernel_rfl) (by kernel_rfl) (by kernel_rfl)
      (OpenSpec.preRow_of_cond 8 (x := ([.lit (.int .u64 0), .lit (.int .u8 0), .lit (.int .u8 0), .lit (.int .u64 0), .lit (.int .i64 0)], [], [])) (by kernel_rfl) (by kernel_rfl) (fun k hk => by cases hk) (by kernel_rfl) (laidMet_of_run' 8 (by kernel_rfl) (by kernel_rfl)))) ?_
  intro W base args ds gs before hval hW _ _ _ hL _ _
  exact contract H enc W base args ds gs before hval hW hL
theorem said : Rows.BitsSetsSaid :=
  OpenClaim.holds_of_cond 3 Tryd.f3 rfl rfl rfl rfl rfl rfl rfl ⟨rfl, rfl, rfl, rfl, rfl⟩ rfl rfl rfl rfl rfl (by kernel_rfl) Tryd.func3 (by kernel_rfl)
    (of_decide_eq_true (by kernel_rfl)) (by unfold Func.isWrapper; first | (rw [if_pos (by decide +kernel)]; kernel_rfl) | (rw [if_neg (by decide +kernel)]; exact ⟨rfl, rfl⟩))
    (fun os started H enc _ F => by rw [OpenClaim.pre_eq_preRow]; exact lifted os started H enc F)
theorem plain (f : FuncId) (fn : Func) (hf : Tryd.pinned.checked.prog.funcNamed Rows.bitsSetsRow.func = some f) (hfn : Tryd.pinned.checked.prog.funcs[f]? = some fn) :
    false = Tryd.pinned.checked.prog.looks [] ∧ ∀ (j : Nat) t, fn.params[j]? = some t → Tryd.pinned.checked.prog.wantsStandIn t = false := by
  obtain rfl : f = 3 := Option.some.inj ((show Tryd.prog.funcNamed Rows.bitsSetsRow.func = some 3 by kernel_rfl).symm.trans hf) |>.symm
  obtain rfl : fn = Tryd.f3 := (Option.some.inj (Tryd.func3.symm.trans hfn)).symm
  refine ⟨by kernel_rfl, fun j t ht => ?_⟩
  rw [Tryd.params3] at ht
  have hm := Array.mem_of_getElem? ht
  simp only [List.mem_toArray, List.mem_cons, List.not_mem_nil, or_false] at hm
  have s1 : Tryd.prog.wantsStandIn 22 = false := by kernel_rfl
  have s2 : Tryd.prog.wantsStandIn 5 = false := by kernel_rfl
  have s3 : Tryd.prog.wantsStandIn 3 = false := by kernel_rfl
  rcases hm with rfl | rfl | rfl | rfl | rfl <;> first | exact s1 | exact s2 | exact s3
theorem card : Rows.BitsSetsCardSaid :=
  Claim7.holds_tied_plain_at .later [] _ _ _ _ said (fun _ h => by cases h) (by kernel_rfl) (fun _ h => by cases h) bitsSets_row_tie rfl ⟨rfl, rfl⟩ (by kernel_rfl) rfl plain (by kernel_rfl)
#print axioms card
end Go.Proofs.YtbgnfcjnifcenabDoor.bitsSets
