/-
  For any two texts Join of both sums, with the second one's length, is the sum of both texts by the document; the table of halves reads as the program's text lays it (the card ties it).
-/
import Derived.Test.YtlfcgdcahfcanaaDoorCards
import Derived.Test.YtlfcgdcahfcanaaDoorTie
import Derived.Test.YtlfcgdcahfcanaaDoorCrcArg
namespace Go.Proofs.YtlfcgdcahfcanaaDoor.crcJoins
open Go.ChangeShapes Go.WideShapes Go.ChangeAt Go.RowKit
set_option linter.unusedVariables false
set_option linter.unusedSimpArgs false
/-- The law's body at any input, where the table lies in its cells. -/
theorem walk (w : World) (htab : HalfTab w) (a0 : Option Addr) (len0 cap0 : Nat) (x0 : List Nat) (w0 : Arg w a0 len0 cap0 x0) (re0 : cap0 ≤ 140737488351232) (a1 : Option Addr) (len1 cap1 : Nat) (x1 : List Nat) (w1 : Arg w a1 len1 cap1 x1) (re1 : cap1 ≤ 140737488351232) :
    Calls Tryd.prog 6 #[.slice a0 len0 cap0, .slice a1 len1 cap1] w fun e w' => e = .returned (.bool true) ∧ Below w.heap.size w w' := by
  have HT : Hid (HalfTab w) := htab
  have HR0 : Hid (Row w a0 len0 x0) := w0.1
  have HR1 : Hid (Row w a1 len1 x1) := w1.1
  have hl1 : len1 ≤ 140737488351232 := Nat.le_trans w1.2.2.2 re1
  have HL1 : Hid (x1.length = len1) := w1.1.1
  have hs0 : sumsN 0 [x0] < 4294967296 := sumsN_lt _ 0 (by decide) (fun xs hx => by rw [List.mem_singleton] at hx; subst hx; exact w0.1.2.2.1)
  have hs1 : sumsN 0 [x1] < 4294967296 := sumsN_lt _ 0 (by decide) (fun xs hx => by rw [List.mem_singleton] at hx; subst hx; exact w1.1.2.2.1)
  have HJ : Hid (zn (8 * len1) (sumsN 0 [x0]) ^^^ sumsN 0 [x1] = sumsN 0 [x0, x1]) := by
    have := sums_join x0 x1
    rw [w1.1.1] at this
    exact this
  clear w0 w1 htab re0 re1
  go_enter Tryd.func6, Tryd.ntmps6
  go_wp2_with fail
  refine (awake_true w HT.out).mono ?_
  rintro e w1 ⟨rfl, hb1⟩
  have HT1 : Hid (HalfTab w1) := HalfTab.below HT.out hb1
  have HA0 : Hid (Row w1 a0 len0 x0) := Row.below HR0.out hb1
  have HA1 : Hid (Row w1 a1 len1 x1) := Row.below HR1.out hb1
  have HB : Hid (Below w.heap.size w w1) := hb1
  clear HT HR0 HR1 hb1
  go_wp2_with fail
  have hb2 := below_new w1 (.cells #[.slice a0 len0 cap0] 23)
  have HP2 : Hid (Parts (w1.alloc (.cells #[.slice a0 len0 cap0] 23)) (some ⟨w1.heap.size, 0, none⟩) 1 [x0]) := parts_alloc1 w1 a0 len0 cap0 x0 HA0.out
  have HT2 : Hid (HalfTab (w1.alloc (.cells #[.slice a0 len0 cap0] 23))) := HalfTab.below HT1.out hb2
  have HA02 : Hid (Row (w1.alloc (.cells #[.slice a0 len0 cap0] 23)) a0 len0 x0) := Row.below HA0.out hb2
  have HA12 : Hid (Row (w1.alloc (.cells #[.slice a0 len0 cap0] 23)) a1 len1 x1) := Row.below HA1.out hb2
  have HB2 : Hid (Below w.heap.size w (w1.alloc (.cells #[.slice a0 len0 cap0] 23))) := HB.out.trans (hb2.mono HB.out.size)
  clear hb2 HB HT1 HA0 HA1
  generalize w1.alloc (.cells #[.slice a0 len0 cap0] 23) = w2 at *
  refine (sum_any _ 1 1 [x0] w2 HP2.out HT2.out).mono ?_
  rintro e w3 ⟨rfl, rfl⟩
  clear HP2
  go_wp2_with fail
  have hb4 := below_new w3 (.cells #[.slice a1 len1 cap1] 23)
  have HP4 : Hid (Parts (w3.alloc (.cells #[.slice a1 len1 cap1] 23)) (some ⟨w3.heap.size, 0, none⟩) 1 [x1]) := parts_alloc1 w3 a1 len1 cap1 x1 HA12.out
  have HT4 : Hid (HalfTab (w3.alloc (.cells #[.slice a1 len1 cap1] 23))) := HalfTab.below HT2.out hb4
  have HA04 : Hid (Row (w3.alloc (.cells #[.slice a1 len1 cap1] 23)) a0 len0 x0) := Row.below HA02.out hb4
  have HA14 : Hid (Row (w3.alloc (.cells #[.slice a1 len1 cap1] 23)) a1 len1 x1) := Row.below HA12.out hb4
  have HB4 : Hid (Below w.heap.size w (w3.alloc (.cells #[.slice a1 len1 cap1] 23))) := HB2.out.trans (hb4.mono HB2.out.size)
  clear hb4 HB2 HT2 HA02 HA12
  generalize w3.alloc (.cells #[.slice a1 len1 cap1] 23) = w4 at *
  refine (sum_any _ 1 1 [x1] w4 HP4.out HT4.out).mono ?_
  rintro e w5 ⟨rfl, rfl⟩
  clear HP4
  generalize sumsN 0 [x0] = S0 at *
  generalize sumsN 0 [x1] = S1 at *
  go_wp2_with fail
  refine (join_any S0 S1 (len1 : Nat) w5 hs0 hs1 (by omega) (by omega)).mono ?_
  rintro e w6 ⟨rfl, hb6⟩
  rw [Int.toNat_natCast, HJ.out]
  have HA06 : Hid (Row w6 a0 len0 x0) := Row.below HA04.out hb6
  have HA16 : Hid (Row w6 a1 len1 x1) := Row.below HA14.out hb6
  have HB6 : Hid (Below w.heap.size w w6) := HB4.out.trans (hb6.mono HB4.out.size)
  clear hb6 HB4 HA04 HA14 HT4
  go_wp2_with fail
  have HP7 : Hid (Parts (w6.alloc (.cells #[.slice a0 len0 cap0, .slice a1 len1 cap1] 23)) (some ⟨w6.heap.size, 0, none⟩) 2 [x0, x1]) := parts_alloc2 w6 a0 a1 len0 cap0 len1 cap1 x0 x1 HA06.out HA16.out
  have HB7 : Hid (Below w.heap.size w (w6.alloc (.cells #[.slice a0 len0 cap0, .slice a1 len1 cap1] 23))) := Below.alloc HB6.out HB6.out.size _
  generalize w6.alloc (.cells #[.slice a0 len0 cap0, .slice a1 len1 cap1] 23) = w7 at *
  refine (rsum_any _ 2 2 [x0, x1] w7 HP7.out).mono ?_
  rintro e w8 ⟨rfl, rfl⟩
  clear HP7 HJ
  generalize sumsN 0 [x0, x1] = S2 at *
  go_wp2_with fail
  go_ret
  exact ⟨rfl, HB7.out⟩
theorem contract (H : Type) (enc : TypeId × Value → H) (W : World) (base : Nat) (args : Array Value) (ds gs : List (DataW H)) (before : List MemPlace)
    (hval : ∀ (j : Nat) t v, Tryd.f6.params[j]? = some t → args[j]? = some v → Value.okWide Tryd.prog W .any base t v)
    (hW : DataW.Whole enc Tryd.prog Tryd.f6.params.toList Rows.crcJoinsSpec.vars false W args.toList ds gs before)
    (hsz : (DataW.weightsEach Tryd.prog (Tryd.f6.params.toList ++ (OpenSpec.ofChange Rows.crcJoinsSpec).bare.plain.varTypes Tryd.prog) (ds ++ gs)).all (· ≤ reachBytes) = true) (hL : laidMetH Tryd.prog Rows.crcJoinsRow.laid W) :
    Calls Tryd.prog 6 args W fun e W' => ∃ v, e = .returned v ∧ Rows.crcJoinsSpec.post enc Tryd.prog Tryd.f6 false true false false W args v W' := by
  have hW' := hW
  obtain ⟨p, q, hA0, hV, rfl, hfz, hnd⟩ := hW
  have hA : DataW.TrodAll enc Tryd.prog W 0 (fun _ => true) true Tryd.f6.params.toList args.toList ds p := hA0
  rw [Tryd.params6] at hA hval hsz
  obtain ⟨v0, vs0, d0, ds0, p0, q0, hargs, rfl, rfl, h0, r0⟩ := trodAll_cons hA
  obtain ⟨v1, vs1, d1, ds1, p1, q1, rfl, rfl, rfl, h1, r1⟩ := trodAll_cons r0
  obtain ⟨rfl, rfl, rfl⟩ := trodAll_nil r1
  obtain rfl : args = #[v0, v1] := by cases args; simp_all
  obtain ⟨rfl, rfl⟩ := trodVars_none hV
  obtain ⟨a0, len0, cap0, rfl⟩ := okWide_slice Tryd.underlying23 (hval 0 23 v0 rfl rfl)
  have k0 := h0
  have lt0 : ∀ x ∈ p0, x.block < W.heap.size := by obtain ⟨m, hm⟩ := k0; exact DataW.trod_lt m _ _ _ hm
  obtain ⟨z0, y0, re0⟩ : ∃ zs, IsRow .u8 W a0 len0 cap0 zs ∧ cap0 ≤ 140737488351232 := by
    obtain ⟨fuel, hf⟩ := h0
    rcases open_ints Tryd.underlying23 Tryd.underlying5 (by kernel_rfl) hf with ⟨hcs, _⟩ | ⟨x, l, c, zs, hcs, _, hl, hm, hz, hx, hcell, hwz⟩
    · simp [Value.cells] at hcs
      obtain ⟨rfl, rfl, rfl⟩ := hcs
      exact ⟨[], .inl ⟨rfl, rfl, rfl, rfl⟩, by omega⟩
    · simp [Value.cells] at hcs
      obtain ⟨rfl, rfl, rfl⟩ := hcs
      have hd := congrArg Prod.fst hx
      simp only [] at hd
      have hz' : zs.length = cap0 := by simpa using hz
      have hb := sized_slice hsz (j := 0) (t := 23) (e := 5) rfl (by rw [hd]; rfl) Tryd.underlying23
      have hby : Tryd.prog.bytesOf 5 = 1 := by kernel_rfl
      rw [hby] at hb
      simp only [lits, List.length_map, List.length_take, List.length_drop, reachBytes] at hb
      exact ⟨zs, .inr ⟨_, rfl, hl, hm, hz', hcell, hwz⟩, by omega⟩
  obtain ⟨x0, w0⟩ := arg_of y0
  obtain ⟨a1, len1, cap1, rfl⟩ := okWide_slice Tryd.underlying23 (hval 1 23 v1 rfl rfl)
  have k1 := h1
  have lt1 : ∀ x ∈ p1, x.block < W.heap.size := by obtain ⟨m, hm⟩ := k1; exact DataW.trod_lt m _ _ _ hm
  obtain ⟨z1, y1, re1⟩ : ∃ zs, IsRow .u8 W a1 len1 cap1 zs ∧ cap1 ≤ 140737488351232 := by
    obtain ⟨fuel, hf⟩ := h1
    rcases open_ints Tryd.underlying23 Tryd.underlying5 (by kernel_rfl) hf with ⟨hcs, _⟩ | ⟨x, l, c, zs, hcs, _, hl, hm, hz, hx, hcell, hwz⟩
    · simp [Value.cells] at hcs
      obtain ⟨rfl, rfl, rfl⟩ := hcs
      exact ⟨[], .inl ⟨rfl, rfl, rfl, rfl⟩, by omega⟩
    · simp [Value.cells] at hcs
      obtain ⟨rfl, rfl, rfl⟩ := hcs
      have hd := congrArg Prod.fst hx
      simp only [] at hd
      have hz' : zs.length = cap1 := by simpa using hz
      have hb := sized_slice hsz (j := 1) (t := 23) (e := 5) rfl (by rw [hd]; rfl) Tryd.underlying23
      have hby : Tryd.prog.bytesOf 5 = 1 := by kernel_rfl
      rw [hby] at hb
      simp only [lits, List.length_map, List.length_take, List.length_drop, reachBytes] at hb
      exact ⟨zs, .inr ⟨_, rfl, hl, hm, hz', hcell, hwz⟩, by omega⟩
  obtain ⟨x1, w1⟩ := arg_of y1
  clear hA0 hsz
  refine (walk W (table hL) a0 len0 cap0 x0 w0 re0 a1 len1 cap1 x1 w1 re1).mono fun e W' ⟨he, bel⟩ => ?_
  subst he
  exact ⟨_, rfl, _, _, _, [], _, [], hW', trodAll_mk1 (shut_bool Tryd.underlying4 _), (trodAll_cons_mk (Below.trod laidOut (by kernel_rfl) (of_decide_eq_true (by kernel_rfl)) k0 bel lt0) (trodAll_cons_mk (Below.trod laidOut (by kernel_rfl) (of_decide_eq_true (by kernel_rfl)) k1 bel lt1) trodAll_mk0)), rfl, bel.frame _, fun h => by cases h⟩
set_option maxRecDepth 100000 in
theorem lifted (os : Os) (started : os.Started) (H : Type) (enc : TypeId × Value → H) (I : Stop.Interp) :
    ReturnsInHanded {} Tryd.checked os 6 .any ((OpenSpec.ofChange Rows.crcJoinsSpec).preRow enc Tryd.prog Tryd.f6 Rows.crcJoinsRow.domain false Rows.crcJoinsRow.laid) (((OpenSpec.ofChange Rows.crcJoinsSpec).at I).post enc Tryd.prog Tryd.f6 false true false false) := by
  refine returnsInHanded_of_row (C := Tryd.checked) (s := OpenSpec.ofChange Rows.crcJoinsSpec) own started (by kernel_rfl) Tryd.func6
    (witness_row_at (enc := enc) (C := Tryd.checked) false { World.holding Tryd.prog os ⟨#[], #[], []⟩ with heap := (World.holding Tryd.prog os ⟨#[], #[], []⟩).heap.modify 0 fun
        | .cells _ t frozen => .cells #[.int .u32 0, .int .u32 274646895, .int .u32 549293790, .int .u32 820201905, .int .u32 1098587580, .int .u32 1361435347, .int .u32 1640403810, .int .u32 1905808397, .int .u32 2197175160, .int .u32 2460548119, .int .u32 2722870694, .int .u32 2987750089, .int .u32 3280807620, .int .u32 3553878443, .int .u32 3811616794, .int .u32 4084100981] t frozen
        | o => o } #[.slice none 0 0, .slice none 0 0] rfl (by kernel_rfl) (by kernel_rfl) (by kernel_rfl)
      (OpenSpec.preRow_of_cond 8 (x := ([.nil, .nil], [], [])) (by kernel_rfl) (by kernel_rfl) (fun k hk => by cases hk) (by kernel_rfl) (laidMet_of_run' 8 (by kernel_rfl) (by kernel_rfl)))) ?_
  intro W base args ds gs before hval hW _ _ hsz hL _ _
  exact contract H enc W base args ds gs before hval hW hsz hL
theorem said : Rows.CrcJoinsSaid :=
  OpenClaim.holds_of_cond 6 Tryd.f6 rfl rfl rfl rfl rfl rfl rfl ⟨rfl, rfl, rfl, rfl, rfl⟩ rfl rfl rfl rfl rfl (by kernel_rfl) Tryd.func6 (by kernel_rfl)
    (of_decide_eq_true (by kernel_rfl)) (by unfold Func.isWrapper; first | (rw [if_pos (by decide +kernel)]; kernel_rfl) | (rw [if_neg (by decide +kernel)]; exact ⟨rfl, rfl⟩))
    (fun os started H enc _ I => by rw [OpenClaim.pre_eq_preRow]; exact lifted os started H enc I)
theorem plain (f : FuncId) (fn : Func) (hf : Tryd.pinned.checked.prog.funcNamed Rows.crcJoinsRow.func = some f) (hfn : Tryd.pinned.checked.prog.funcs[f]? = some fn) :
    false = Tryd.pinned.checked.prog.looks [] ∧ ∀ (j : Nat) t, fn.params[j]? = some t → Tryd.pinned.checked.prog.wantsStandIn t = false := by
  obtain rfl : f = 6 := Option.some.inj ((show Tryd.prog.funcNamed Rows.crcJoinsRow.func = some 6 by kernel_rfl).symm.trans hf) |>.symm
  obtain rfl : fn = Tryd.f6 := (Option.some.inj (Tryd.func6.symm.trans hfn)).symm
  refine ⟨by kernel_rfl, fun j t ht => ?_⟩
  rw [Tryd.params6] at ht
  have hm := Array.mem_of_getElem? ht
  simp only [List.mem_toArray, List.mem_cons, List.not_mem_nil, or_false] at hm
  rcases hm with rfl | rfl
  · exact (show Tryd.prog.wantsStandIn 23 = false by kernel_rfl)
  · exact (show Tryd.prog.wantsStandIn 23 = false by kernel_rfl)
theorem card : Rows.CrcJoinsCardSaid :=
  Claim7.holds_tied_plain_at .later [] _ _ _ _ said (fun _ h => by cases h) (by kernel_rfl) (fun _ h => by cases h) crcJoins_row_tie rfl ⟨rfl, rfl⟩ (by kernel_rfl) rfl plain (by kernel_rfl)
#print axioms card
end Go.Proofs.YtlfcgdcahfcanaaDoor.crcJoins
