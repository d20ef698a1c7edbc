/-
  FramePuts returns true: any bytes as a frame, and the frame that any bytes begin with, are the document's (where the table of crc lies as its text lays it).
-/
import Derived.Test.YtaahmpabhophfaaDoorCards
import Derived.Test.YtaahmpabhophfaaDoorTie
import Derived.Test.YtaahmpabhophfaaDoorFrameArgs
import Derived.Test.YtaahmpabhophfaaDoorFrameAwake
namespace Go.Proofs.YtaahmpabhophfaaDoor.framePuts
open Go.ChangeShapes Go.WideShapes Go.ChangeAt Go.RowKit
set_option linter.unusedVariables false
set_option linter.unusedSimpArgs false
set_option maxHeartbeats 1000000 in
theorem walk (W : World) (hT : HalfTab W) (a0 : Option Addr) (len0 cap0 : Nat) (x0 : List Nat) (w0 : ArgL W a0 len0 cap0 x0) (re0 : cap0 ≤ 140737488351232) (a1 : Option Addr) (len1 cap1 : Nat) (x1 : List Nat) (w1 : ArgL W a1 len1 cap1 x1) (re1 : cap1 ≤ 140737488351232) :
    Calls Tryd.prog 3 #[.slice a0 len0 cap0, .slice a1 len1 cap1] W fun e W' => e = .returned (.bool true) ∧ Below W.heap.size W W' := by
  have HT : Hid (HalfTab W) := hT
  have HA0 : Hid (BytL W a0 len0 cap0 x0) := w0
  have HA1 : Hid (BytL W a1 len1 cap1 x1) := w1
  clear hT w0 w1
  go_enter Tryd.func3, Tryd.ntmps3
  go_wp2_with fail
  refine Calls.mono (put_any a0 len0 cap0 x0 W HA0.out HT.out) ?_
  rintro e w1 ⟨v1, rfl, hown1, hb1⟩
  obtain ⟨P, hP⟩ : ∃ P, P = putN x0 := ⟨_, rfl⟩
  have hPB : ∀ c ∈ (putN x0).1, c < 256 := by
    unfold putN
    split
    · simp
    · exact frN_byt x0 HA0.out.2.2.1
  rw [← hP] at hown1 hPB ⊢
  have HP : Hid (putN x0 = P) := hP.symm
  obtain ⟨b1, c1, rfl, hB1, -⟩ := hown1.byt hPB
  have HB1 : Hid (Below W.heap.size W w1 ∧ BytL w1 b1 P.1.length c1 P.1) := ⟨hb1, hB1⟩
  obtain ⟨t0, ht0⟩ : ∃ t, t = strN x0 := ⟨_, rfl⟩
  have hcv0 := conv_any (HA0.out.1.below hb1) (fun h => (HA0.out.2.1 h).1) cap0
  rw [← ht0] at hcv0
  have HT0 : Hid (txt t0 = x0 ∧ t0.size = x0.length) := by rw [ht0]; exact ⟨txt_strN _ HA0.out.2.2.1, strN_size _⟩
  have HX0 : Hid (x0.length = len0 ∧ len0 ≤ cap0) := ⟨HA0.out.1.1, HA0.out.2.2.2.1⟩
  have HRP : Hid _ := rput_any t0 w1 (by rw [HT0.out.2, HX0.out.1]; have := HX0.out.2; omega)
  rw [HT0.out.1, HP.out] at HRP
  clear hown1 hPB hP hb1 hB1 ht0
  show _
  go_wp2_with fail
  refine Calls.mono HRP.out ?_
  rintro e w2 ⟨rfl, hb2⟩
  have HB2 : Hid (Below W.heap.size W w2 ∧ BytL w2 b1 P.1.length c1 P.1) := ⟨HB1.out.1.trans (hb2.mono HB1.out.1.size), HB1.out.2.below hb2⟩
  obtain ⟨t1, ht1⟩ : ∃ t, t = strN P.1 := ⟨_, rfl⟩
  rw [← ht1]
  have HT1 : Hid (strN P.1 = t1) := ht1.symm
  clear hb2 HB1 HRP hcv0 ht1
  show _
  go_wp2_with fail
  refine Calls.mono (first_any a1 len1 cap1 x1 w2 (HA1.out.below HB2.out.1) (HT.out.below HB2.out.1)) ?_
  rintro e w3 ⟨v3, rfl, hown3, hb3⟩
  obtain ⟨b3, c3, rfl, hB3, -⟩ := hown3.byt (first_byt crcN x1 HA1.out.2.2.1)
  have HB3 : Hid (Below W.heap.size W w3 ∧ BytL w3 b1 P.1.length c1 P.1 ∧ BytL w3 b3 (firstN crcN x1).1.length c3 (firstN crcN x1).1) := ⟨HB2.out.1.trans (hb3.mono HB2.out.1.size), HB2.out.2.below hb3, hB3⟩
  obtain ⟨t2, ht2⟩ : ∃ t, t = strN x1 := ⟨_, rfl⟩
  have hcv1 := conv_any (HA1.out.1.below HB3.out.1) (fun h => (HA1.out.2.1 h).1) cap1
  rw [← ht2] at hcv1
  have HT2 : Hid (txt t2 = x1 ∧ t2.size = x1.length) := by rw [ht2]; exact ⟨txt_strN _ HA1.out.2.2.1, strN_size _⟩
  have HX1 : Hid (x1.length = len1 ∧ len1 ≤ cap1) := ⟨HA1.out.1.1, HA1.out.2.2.2.1⟩
  have HRF : Hid _ := rfirst_any t2 w3 (by rw [HT2.out.2, HX1.out.1]; have := HX1.out.2; omega)
  rw [HT2.out.1] at HRF
  clear hown3 hb3 hB3 ht2 HB2
  obtain ⟨F, hF⟩ : ∃ F, F = firstN crcN x1 := ⟨_, rfl⟩
  rw [← hF] at HRF HB3 ⊢
  clear hF
  show _
  go_wp2_with fail
  refine Calls.mono HRF.out ?_
  rintro e w4 ⟨rfl, hb4⟩
  have HB4 : Hid (Below W.heap.size W w4 ∧ BytL w4 b1 P.1.length c1 P.1 ∧ BytL w4 b3 F.1.length c3 F.1) := ⟨HB3.out.1.trans (hb4.mono HB3.out.1.size), HB3.out.2.1.below hb4, HB3.out.2.2.below hb4⟩
  clear hb4 HB3 HRF hcv1
  obtain ⟨t3, ht3⟩ : ∃ t, t = strN F.1 := ⟨_, rfl⟩
  rw [← ht3]
  have HT3 : Hid (strN F.1 = t3) := ht3.symm
  clear ht3
  show _
  go_wp2_with fail
  refine Calls.mono (awake_true w4 (HT.out.below HB4.out.1)) ?_
  rintro e w5 ⟨rfl, hb5⟩
  have HB5 : Hid (Below W.heap.size W w5) := HB4.out.1.trans (hb5.mono HB4.out.1.size)
  have h1 := HB4.out.2.1.below hb5
  have h2 := HB4.out.2.2.below hb5
  have hc1 := conv_any h1.1 (fun h => (h1.2.1 h).1) c1
  have hc2 := conv_any h2.1 (fun h => (h2.2.1 h).1) c3
  rw [HT1.out] at hc1
  rw [HT3.out] at hc2
  clear h1 h2 hb5 HB4
  generalize P.1.length = n1 at *
  generalize F.1.length = n2 at *
  generalize P.2 = p2 at *
  generalize F.2.1 = f1 at *
  generalize F.2.2 = f2 at *
  go_wp2
  go_ret
  exact ⟨rfl, HB5.out⟩
theorem contract (H : Type) (enc : TypeId × Value → H) (W : World) (base : Nat) (args : Array Value) (ds gs : List (DataW H)) (before : List MemPlace)
    (hval : ∀ (j : Nat) t v, Tryd.f3.params[j]? = some t → args[j]? = some v → Value.okWide Tryd.prog W .any base t v)
    (hW : DataW.Whole enc Tryd.prog Tryd.f3.params.toList Rows.framePutsSpec.vars false W args.toList ds gs before)
    (hsz : (DataW.weightsEach Tryd.prog (Tryd.f3.params.toList ++ (OpenSpec.ofChange Rows.framePutsSpec).bare.plain.varTypes Tryd.prog) (ds ++ gs)).all (· ≤ reachBytes) = true) (hL : laidMetH Tryd.prog Rows.framePutsRow.laid W) :
    Calls Tryd.prog 3 args W fun e W' => ∃ v, e = .returned v ∧ Rows.framePutsSpec.post enc Tryd.prog Tryd.f3 false true false false W args v W' := by
  have hW' := hW
  obtain ⟨p, q, hA0, hV, rfl, hfz, hnd⟩ := hW
  have hA : DataW.TrodAll enc Tryd.prog W 0 (fun _ => true) true Tryd.f3.params.toList args.toList ds p := hA0
  rw [Tryd.params3] at hA hval hsz
  obtain ⟨v0, vs0, d0, ds0, p0, q0, hargs, rfl, rfl, h0, r0⟩ := trodAll_cons hA
  obtain ⟨v1, vs1, d1, ds1, p1, q1, rfl, rfl, rfl, h1, r1⟩ := trodAll_cons r0
  obtain ⟨rfl, rfl, rfl⟩ := trodAll_nil r1
  obtain rfl : args = #[v0, v1] := by cases args; simp_all
  obtain ⟨rfl, rfl⟩ := trodVars_none hV
  obtain ⟨a0, len0, cap0, rfl⟩ := okWide_slice Tryd.underlying22 (hval 0 22 v0 rfl rfl)
  have k0 := h0
  have lt0 : ∀ x ∈ p0, x.block < W.heap.size := by obtain ⟨m, hm⟩ := k0; exact DataW.trod_lt m _ _ _ hm
  obtain ⟨x0, w0, re0⟩ : ∃ xs, ArgL W a0 len0 cap0 xs ∧ cap0 ≤ 140737488351232 := by
    obtain ⟨fuel, hf⟩ := h0
    rcases open_ints Tryd.underlying22 Tryd.underlying5 (by kernel_rfl) hf with ⟨hcs, _⟩ | ⟨x, l, c, zs, hcs, _, hl, hm, hz, hx, hcell, hwz⟩
    · simp [Value.cells] at hcs
      obtain ⟨rfl, rfl, rfl⟩ := hcs
      exact ⟨_, arg_at (.inl ⟨rfl, rfl, rfl, rfl⟩), by omega⟩
    · simp [Value.cells] at hcs
      obtain ⟨rfl, rfl, rfl⟩ := hcs
      have hd := congrArg Prod.fst hx
      simp only [] at hd
      have hz' : zs.length = cap0 := by simpa using hz
      have hb := sized_slice hsz (j := 0) (t := 22) (e := 5) rfl (by rw [hd]; rfl) Tryd.underlying22
      have hby : Tryd.prog.bytesOf 5 = 1 := by kernel_rfl
      rw [hby] at hb
      simp only [lits, List.length_map, List.length_take, List.length_drop, reachBytes] at hb
      exact ⟨_, arg_at (.inr ⟨_, rfl, hl, hm, hz', hcell, hwz⟩), by omega⟩
  obtain ⟨a1, len1, cap1, rfl⟩ := okWide_slice Tryd.underlying22 (hval 1 22 v1 rfl rfl)
  have k1 := h1
  have lt1 : ∀ x ∈ p1, x.block < W.heap.size := by obtain ⟨m, hm⟩ := k1; exact DataW.trod_lt m _ _ _ hm
  obtain ⟨x1, w1, re1⟩ : ∃ xs, ArgL W a1 len1 cap1 xs ∧ cap1 ≤ 140737488351232 := by
    obtain ⟨fuel, hf⟩ := h1
    rcases open_ints Tryd.underlying22 Tryd.underlying5 (by kernel_rfl) hf with ⟨hcs, _⟩ | ⟨x, l, c, zs, hcs, _, hl, hm, hz, hx, hcell, hwz⟩
    · simp [Value.cells] at hcs
      obtain ⟨rfl, rfl, rfl⟩ := hcs
      exact ⟨_, arg_at (.inl ⟨rfl, rfl, rfl, rfl⟩), by omega⟩
    · simp [Value.cells] at hcs
      obtain ⟨rfl, rfl, rfl⟩ := hcs
      have hd := congrArg Prod.fst hx
      simp only [] at hd
      have hz' : zs.length = cap1 := by simpa using hz
      have hb := sized_slice hsz (j := 1) (t := 22) (e := 5) rfl (by rw [hd]; rfl) Tryd.underlying22
      have hby : Tryd.prog.bytesOf 5 = 1 := by kernel_rfl
      rw [hby] at hb
      simp only [lits, List.length_map, List.length_take, List.length_drop, reachBytes] at hb
      exact ⟨_, arg_at (.inr ⟨_, rfl, hl, hm, hz', hcell, hwz⟩), by omega⟩
  clear hA0 hsz
  refine (walk W (table hL) a0 len0 cap0 x0 w0 re0 a1 len1 cap1 x1 w1 re1).mono fun e W' ⟨he, bel⟩ => ?_
  subst he
  exact ⟨_, rfl, _, _, _, [], _, [], hW', trodAll_mk1 (shut_bool Tryd.underlying4 _), (trodAll_cons_mk (Below.trod laidOut (by kernel_rfl) (of_decide_eq_true (by kernel_rfl)) k0 bel lt0) (trodAll_cons_mk (Below.trod laidOut (by kernel_rfl) (of_decide_eq_true (by kernel_rfl)) k1 bel lt1) trodAll_mk0)), rfl, bel.frame _, fun h => by cases h⟩
set_option maxRecDepth 100000 in
theorem lifted (os : Os) (started : os.Started) (H : Type) (enc : TypeId × Value → H) (I : Stop.Interp) :
    ReturnsInHanded {} Tryd.checked os 3 .any ((OpenSpec.ofChange Rows.framePutsSpec).preRow enc Tryd.prog Tryd.f3 Rows.framePutsRow.domain false Rows.framePutsRow.laid) (((OpenSpec.ofChange Rows.framePutsSpec).at I).post enc Tryd.prog Tryd.f3 false true false false) := by
  refine returnsInHanded_of_row (C := Tryd.checked) (s := (OpenSpec.ofChange Rows.framePutsSpec)) own started (by kernel_rfl) Tryd.func3
    (witness_row_at (enc := enc) (C := Tryd.checked) false { World.holding Tryd.prog os ⟨#[], #[], []⟩ with heap := (World.holding Tryd.prog os ⟨#[], #[], []⟩).heap.modify 0 fun
        | .cells _ t frozen => .cells #[.int .u32 0, .int .u32 274646895, .int .u32 549293790, .int .u32 820201905, .int .u32 1098587580, .int .u32 1361435347, .int .u32 1640403810, .int .u32 1905808397, .int .u32 2197175160, .int .u32 2460548119, .int .u32 2722870694, .int .u32 2987750089, .int .u32 3280807620, .int .u32 3553878443, .int .u32 3811616794, .int .u32 4084100981] t frozen
        | o => o } #[.slice none 0 0, .slice none 0 0] rfl (by kernel_rfl) (by kernel_rfl) (by kernel_rfl)
      (OpenSpec.preRow_of_cond 8 (x := ([.nil, .nil], [], [])) (by kernel_rfl) (by kernel_rfl) (fun k hk => by cases hk) (by kernel_rfl) (laidMet_of_run' 8 (by kernel_rfl) (by kernel_rfl)))) ?_
  intro W base args ds gs before hval hW _ hcond hsz hL _ _
  exact contract H enc W base args ds gs before hval hW hsz hL
theorem said : Rows.FramePutsSaid :=
  OpenClaim.holds_of_cond 3 Tryd.f3 rfl rfl rfl rfl rfl rfl rfl ⟨rfl, rfl, rfl, rfl, rfl⟩ rfl rfl rfl rfl rfl (by kernel_rfl) Tryd.func3 (by kernel_rfl)
    (of_decide_eq_true (by kernel_rfl)) (by unfold Func.isWrapper; first | (rw [if_pos (by decide +kernel)]; kernel_rfl) | (rw [if_neg (by decide +kernel)]; exact ⟨rfl, rfl⟩))
    (fun os started H enc _ I => by rw [OpenClaim.pre_eq_preRow]; exact lifted os started H enc I)
theorem plain (f : FuncId) (fn : Func) (hf : Tryd.pinned.checked.prog.funcNamed Rows.framePutsRow.func = some f) (hfn : Tryd.pinned.checked.prog.funcs[f]? = some fn) :
    false = Tryd.pinned.checked.prog.looks [] ∧ ∀ (j : Nat) t, fn.params[j]? = some t → Tryd.pinned.checked.prog.wantsStandIn t = false := by
  obtain rfl : f = 3 := Option.some.inj ((show Tryd.prog.funcNamed Rows.framePutsRow.func = some 3 by kernel_rfl).symm.trans hf) |>.symm
  obtain rfl : fn = Tryd.f3 := (Option.some.inj (Tryd.func3.symm.trans hfn)).symm
  refine ⟨by kernel_rfl, fun j t ht => ?_⟩
  rw [Tryd.params3] at ht
  have hm := Array.mem_of_getElem? ht
  simp only [List.mem_toArray, List.mem_cons, List.not_mem_nil, or_false] at hm
  rcases hm with rfl | rfl
  · exact (show Tryd.prog.wantsStandIn 22 = false by kernel_rfl)
  · exact (show Tryd.prog.wantsStandIn 22 = false by kernel_rfl)
theorem card : Rows.FramePutsCardSaid :=
  Claim7.holds_tied_plain_at .later [] _ _ _ _ said (fun _ h => by cases h) (by kernel_rfl) (fun _ h => by cases h) framePuts_row_tie rfl ⟨rfl, rfl⟩ (by kernel_rfl) rfl plain (by kernel_rfl)
#print axioms card
end Go.Proofs.YtaahmpabhophfaaDoor.framePuts
