/-
  For any parts and any bytes behind them the program's Sum and More answer as the document's Sum does; the table of halves reads as the program's text lays it (the card ties it).
-/
import Derived.Test.YtlfcgdcahfcanaaDoorCards
import Derived.Test.YtlfcgdcahfcanaaDoorTie
import Derived.Test.YtlfcgdcahfcanaaDoorCrcArg
import Derived.Test.YtlfcgdcahfcanaaDoorCrcParts
namespace Go.Proofs.YtlfcgdcahfcanaaDoor.crcSums
open Go.ChangeShapes Go.WideShapes Go.ChangeAt Go.RowKit
set_option linter.unusedVariables false
set_option linter.unusedSimpArgs false
theorem sums_snoc (ps : List (List Nat)) (x : List Nat) : sumsN 0 (ps ++ [x]) = moreN (sumsN 0 ps) x := by
  unfold sumsN
  rw [List.foldl_append]
  rfl
theorem cell_below {w w' : World} (h : Below w.heap.size w w') {p : Addr} {v : Value} (hc : w.cell? p = some v) : w'.cell? p = some v :=
  (h.cell (World.block_lt_of_cell? w p hc)).trans hc
theorem new_cell (w : World) (v : Value) : ∀ ad, some (⟨w.heap.size, 0, none⟩ : Addr) = some ad → ∀ (j : Nat) (u : Value), [v][j]? = some u → (w.alloc (.cells #[v] 23)).cell? (ad.add j) = some u := by
  intro ad had j u hj
  cases had
  match j, hj with
  | 0, hj => simp at hj; subst hj; simp [Addr.add, go_sem]
/-- The law's body at any input, where the table lies in its cells. -/
theorem walk (w : World) (htab : HalfTab w) (a0 : Option Addr) (len0 cap0 : Nat) (ps0 : List (List Nat)) (vs0 : List Value) (w0 : PArg w a0 len0 cap0 ps0 vs0) (re0 : cap0 * 24 ≤ 140737488351232) (a1 : Option Addr) (len1 cap1 : Nat) (x1 : List Nat) (w1 : Arg w a1 len1 cap1 x1) (re1 : cap1 ≤ 140737488351232) :
    Calls Tryd.prog 3 #[.slice a0 len0 cap0, .slice a1 len1 cap1] w fun e w' => e = .returned (.bool true) ∧ Below w.heap.size w w' := by
  have HT : Hid (HalfTab w) := htab
  have HP : Hid (PArg w a0 len0 cap0 ps0 vs0) := w0
  have HR : Hid (Row w a1 len1 x1) := w1.1
  have hl0 : len0 * 24 ≤ 140737488351232 := by have := w0.2.2.2.2.2; omega
  have hs0 : sumsN 0 ps0 < 4294967296 := sumsN_lt _ 0 (by decide) w0.1.bytes
  clear w0 w1 htab re0 re1
  go_enter Tryd.func3, Tryd.ntmps3
  go_wp2_with fail
  refine (sum_any a0 len0 cap0 ps0 w HP.out.1 HT.out).mono ?_
  rintro e w1 ⟨rfl, rfl⟩
  go_wp2_with fail
  refine (awake_true _ HT.out).mono ?_
  rintro e w2 ⟨rfl, hb2⟩
  have HT2 : Hid (HalfTab w2) := HalfTab.below HT.out hb2
  have HP2 : Hid (Parts w2 a0 len0 ps0) := Parts.below HP.out.1 hb2
  have HR2 : Hid (Row w2 a1 len1 x1) := Row.below HR.out hb2
  have HB2 : Hid (Below w1.heap.size w1 w2) := hb2
  clear hb2
  go_wp2_with fail
  refine (rsum_any a0 len0 cap0 ps0 w2 HP2.out).mono ?_
  rintro e w3 ⟨rfl, rfl⟩
  have HSN : Hid (sumsN 0 (ps0 ++ [x1]) = moreN (sumsN 0 ps0) x1) := sums_snoc ps0 x1
  generalize sumsN 0 ps0 = S at *
  go_wp2_with fail
  refine (more_any S a1 len1 cap1 x1 w3 hs0 HR2.out HT2.out).mono ?_
  rintro e w4 ⟨rfl, rfl⟩
  rw [← HSN.out]
  have hsz := HB2.out.size
  have HO : Hid (OwnS (w4.alloc (.cells #[] 23)) w1.heap.size (.slice (some ⟨w4.heap.size, 0, none⟩) 0 0) []) := World.ownsRow_lit w4 #[] 0 hsz (by decide) rfl
  have HN : Hid (a0 = none → len0 = 0 ∧ cap0 = 0) := HP.out.2.2.2.1
  have HVL : Hid (vs0.length = len0) := HP.out.2.1
  have HC : Hid (∀ ad, a0 = some ad → ∀ (j : Nat) (u : Value), vs0[j]? = some u → (w4.alloc (.cells #[] 23)).cell? (ad.add j) = some u) := fun ad had j u hj =>
    cell_below (Below.alloc HB2.out hsz _) (HP.out.2.2.2.2.1 ad had j u hj)
  have HV1 : Hid (∀ u ∈ vs0, u.oneCell' = true) := by
    intro u hu
    obtain ⟨i, hi, rfl⟩ := List.getElem_of_mem hu
    obtain ⟨ai, li, ci, q1, -⟩ := HP.out.2.2.1 i (by have := HP.out.2.1; omega)
    rw [List.getElem?_eq_getElem hi] at q1
    rw [Option.some.inj q1]
    rfl
  have hsza : w1.heap.size ≤ (w4.alloc (.cells #[] 23)).heap.size := by simp; omega
  have HB4 : Hid (Below w1.heap.size w1 (w4.alloc (.cells #[] 23))) := Below.alloc HB2.out hsz _
  obtain ⟨Y, hY⟩ : ∃ Y, Y = sumsN 0 (ps0 ++ [x1]) := ⟨_, rfl⟩
  rw [← hY]
  have HY : Hid (Y = sumsN 0 (ps0 ++ [x1])) := hY
  clear hY HSN HT2 HP2 HR2
  go_wp2_with (first
    | (refine append_parts _ rfl (.tmp 19) (.tmp 20) rfl w1.heap.size (.slice (some ⟨w4.heap.size, 0, none⟩) 0 0) [] vs0 rfl HO.out a0 len0 cap0 rfl HVL.out HN.out HC.out HV1.out (by simp; omega) hsza ?_; intro v5 w5 hown5 hb5)
    | (refine append_parts _ rfl (.tmp 21) (.tmp 23) rfl w1.heap.size v5 ([] ++ vs0) [.slice a1 len1 cap1] rfl (World.ownsRow.alloc hown5 _) (some ⟨w5.heap.size, 0, none⟩) 1 1 rfl rfl (fun h => by cases h) (new_cell w5 _) (fun u hu => by rw [List.mem_singleton] at hu; subst hu; rfl) (by have := HVL.out; simp; omega) (Nat.le_trans (Nat.le_trans hsza hb5.size) (by simp)) ?_; intro v6 w6 hown6 hb6))
  have hb15 : Below w1.heap.size w1 w5 := HB4.out.trans hb5
  have hb16 : Below w1.heap.size w1 w6 := (Below.alloc hb15 hb15.size _).trans hb6
  rw [List.nil_append] at hown6
  have hvl : (vs0 ++ [Value.slice a1 len1 cap1]).length = len0 + 1 := by have := HVL.out; simp; omega
  have hpl : ps0.length = len0 := HP.out.1.1
  obtain ⟨av, cv, rfl, hpv⟩ := OwnS.parts (ps := ps0 ++ [x1]) hown6 (by rw [hvl]; unfold maxLen; omega) (by rw [hvl]; simp; omega) (by
    intro i hi
    rw [hvl] at hi
    by_cases h : i < len0
    · obtain ⟨ai, li, ci, q1, q2⟩ := HP.out.2.2.1 i h
      have e1 : (vs0 ++ [Value.slice a1 len1 cap1])[i]? = vs0[i]? := List.getElem?_append_left (by have := HVL.out; omega)
      have e2 : (ps0 ++ [x1]).getD i [] = ps0.getD i [] := by
        rw [List.getD_eq_getElem?_getD, List.getD_eq_getElem?_getD, List.getElem?_append_left (by omega)]
      exact ⟨ai, li, ci, by rw [e1]; exact q1, by rw [e2]; exact Row.below q2 hb16⟩
    · obtain rfl : len0 = i := by omega
      refine ⟨a1, len1, cap1, ?_, ?_⟩
      · rw [List.getElem?_append_right (by have := HVL.out; omega), HVL.out, Nat.sub_self]
        rfl
      · have e2 : (ps0 ++ [x1]).getD len0 [] = x1 := by
          rw [List.getD_eq_getElem?_getD, List.getElem?_append_right (by omega), hpl, Nat.sub_self]
          rfl
        rw [e2]
        exact Row.below HR.out hb16)
  rw [hvl] at hpv ⊢
  have HPV : Hid (Parts w6 av (len0 + 1) (ps0 ++ [x1])) := hpv
  have HB6 : Hid (Below w1.heap.size w1 w6) := hb16
  clear hpv hb16 hb15 hown6 hown5 hb5 hb6 HO HN HC HV1 HVL HP HT HR HB4 HB2
  refine (rsum_any av (len0 + 1) cv (ps0 ++ [x1]) w6 HPV.out).mono ?_
  rintro e w7 ⟨rfl, rfl⟩
  rw [← HY.out]
  clear HY HPV
  go_wp2_with fail
  go_ret
  exact ⟨rfl, HB6.out⟩
theorem contract (H : Type) (enc : TypeId × Value → H) (W : World) (base : Nat) (args : Array Value) (ds gs : List (DataW H)) (before : List MemPlace)
    (hval : ∀ (j : Nat) t v, Tryd.f3.params[j]? = some t → args[j]? = some v → Value.okWide Tryd.prog W .any base t v)
    (hW : DataW.Whole enc Tryd.prog Tryd.f3.params.toList Rows.crcSumsSpec.vars false W args.toList ds gs before)
    (hsz : (DataW.weightsEach Tryd.prog (Tryd.f3.params.toList ++ (OpenSpec.ofChange Rows.crcSumsSpec).bare.plain.varTypes Tryd.prog) (ds ++ gs)).all (· ≤ reachBytes) = true) (hL : laidMetH Tryd.prog Rows.crcSumsRow.laid W) :
    Calls Tryd.prog 3 args W fun e W' => ∃ v, e = .returned v ∧ Rows.crcSumsSpec.post enc Tryd.prog Tryd.f3 false true false false W args v W' := by
  have hW' := hW
  obtain ⟨p, q, hA0, hV, rfl, hfz, hnd⟩ := hW
  have hA : DataW.TrodAll enc Tryd.prog W 0 (fun _ => true) true Tryd.f3.params.toList args.toList ds p := hA0
  rw [Tryd.params3] at hA hval hsz
  obtain ⟨v0, vs0, d0, ds0, p0, q0, hargs, rfl, rfl, h0, r0⟩ := trodAll_cons hA
  obtain ⟨v1, vs1, d1, ds1, p1, q1, rfl, rfl, rfl, h1, r1⟩ := trodAll_cons r0
  obtain ⟨rfl, rfl, rfl⟩ := trodAll_nil r1
  obtain rfl : args = #[v0, v1] := by cases args; simp_all
  obtain ⟨rfl, rfl⟩ := trodVars_none hV
  obtain ⟨a0, len0, cap0, rfl⟩ := okWide_slice Tryd.underlying22 (hval 0 22 v0 rfl rfl)
  have k0 := h0
  have lt0 : ∀ x ∈ p0, x.block < W.heap.size := by obtain ⟨m, hm⟩ := k0; exact DataW.trod_lt m _ _ _ hm
  obtain ⟨ps0, vs0, w0, re0⟩ : ∃ ps vs, PArg W a0 len0 cap0 ps vs ∧ cap0 * 24 ≤ 140737488351232 := by
    obtain ⟨fuel, hf⟩ := h0
    rcases Deep.open_int_rows Tryd.underlying22 Tryd.underlying23 Tryd.underlying5 (by kernel_rfl) (by kernel_rfl) hf with ⟨hcs, _⟩ | ⟨x, l, c, A, L, C, Z, hcs, _, hl, hm, hx, hall⟩
    · simp [Value.cells] at hcs
      obtain ⟨rfl, rfl, rfl⟩ := hcs
      exact ⟨[], [], parg_nil W, by omega⟩
    · simp [Value.cells] at hcs
      obtain ⟨rfl, rfl, rfl⟩ := hcs
      have hd := congrArg Prod.fst hx
      simp only [] at hd
      have hb := sized_slice hsz (j := 0) (t := 22) (e := 23) rfl (by rw [hd]; rfl) Tryd.underlying22
      have hby : Tryd.prog.bytesOf 23 = 24 := by kernel_rfl
      rw [hby] at hb
      simp only [List.length_map, List.length_range, reachBytes] at hb
      obtain ⟨ps, vs, hp⟩ := parg_of hl hm hall
      exact ⟨ps, vs, hp, by omega⟩
  obtain ⟨a1, len1, cap1, rfl⟩ := okWide_slice Tryd.underlying23 (hval 1 23 v1 rfl rfl)
  have k1 := h1
  have lt1 : ∀ x ∈ p1, x.block < W.heap.size := by obtain ⟨m, hm⟩ := k1; exact DataW.trod_lt m _ _ _ hm
  obtain ⟨z1, y1, re1⟩ : ∃ zs, IsRow .u8 W a1 len1 cap1 zs ∧ cap1 ≤ 140737488351232 := by
    obtain ⟨fuel, hf⟩ := h1
    rcases open_ints Tryd.underlying23 Tryd.underlying5 (by kernel_rfl) hf with ⟨hcs, _⟩ | ⟨x, l, c, zs, hcs, _, hl, hm, hz, hx, hcell, hwz⟩
    · simp [Value.cells] at hcs
      obtain ⟨rfl, rfl, rfl⟩ := hcs
      exact ⟨[], .inl ⟨rfl, rfl, rfl, rfl⟩, by omega⟩
    · simp [Value.cells] at hcs
      obtain ⟨rfl, rfl, rfl⟩ := hcs
      have hd := congrArg Prod.fst hx
      simp only [] at hd
      have hz' : zs.length = cap1 := by simpa using hz
      have hb := sized_slice hsz (j := 1) (t := 23) (e := 5) rfl (by rw [hd]; rfl) Tryd.underlying23
      have hby : Tryd.prog.bytesOf 5 = 1 := by kernel_rfl
      rw [hby] at hb
      simp only [lits, List.length_map, List.length_take, List.length_drop, reachBytes] at hb
      exact ⟨zs, .inr ⟨_, rfl, hl, hm, hz', hcell, hwz⟩, by omega⟩
  obtain ⟨x1, w1⟩ := arg_of y1
  clear hA0 hsz
  refine (walk W (table hL) a0 len0 cap0 ps0 vs0 w0 re0 a1 len1 cap1 x1 w1 re1).mono fun e W' ⟨he, bel⟩ => ?_
  subst he
  exact ⟨_, rfl, _, _, _, [], _, [], hW', trodAll_mk1 (shut_bool Tryd.underlying4 _), (trodAll_cons_mk (Below.trod laidOut (by kernel_rfl) (of_decide_eq_true (by kernel_rfl)) k0 bel lt0) (trodAll_cons_mk (Below.trod laidOut (by kernel_rfl) (of_decide_eq_true (by kernel_rfl)) k1 bel lt1) trodAll_mk0)), rfl, bel.frame _, fun h => by cases h⟩
set_option maxRecDepth 100000 in
theorem lifted (os : Os) (started : os.Started) (H : Type) (enc : TypeId × Value → H) (I : Stop.Interp) :
    ReturnsInHanded {} Tryd.checked os 3 .any ((OpenSpec.ofChange Rows.crcSumsSpec).preRow enc Tryd.prog Tryd.f3 Rows.crcSumsRow.domain false Rows.crcSumsRow.laid) (((OpenSpec.ofChange Rows.crcSumsSpec).at I).post enc Tryd.prog Tryd.f3 false true false false) := by
  refine returnsInHanded_of_row (C := Tryd.checked) (s := OpenSpec.ofChange Rows.crcSumsSpec) own started (by kernel_rfl) Tryd.func3
    (witness_row_at (enc := enc) (C := Tryd.checked) false { World.holding Tryd.prog os ⟨#[], #[], []⟩ with heap := (World.holding Tryd.prog os ⟨#[], #[], []⟩).heap.modify 0 fun
        | .cells _ t frozen => .cells #[.int .u32 0, .int .u32 274646895, .int .u32 549293790, .int .u32 820201905, .int .u32 1098587580, .int .u32 1361435347, .int .u32 1640403810, .int .u32 1905808397, .int .u32 2197175160, .int .u32 2460548119, .int .u32 2722870694, .int .u32 2987750089, .int .u32 3280807620, .int .u32 3553878443, .int .u32 3811616794, .int .u32 4084100981] t frozen
        | o => o } #[.slice none 0 0, .slice none 0 0] rfl (by kernel_rfl) (by kernel_rfl) (by kernel_rfl)
      (OpenSpec.preRow_of_cond 8 (x := ([.nil, .nil], [], [])) (by kernel_rfl) (by kernel_rfl) (fun k hk => by cases hk) (by kernel_rfl) (laidMet_of_run' 8 (by kernel_rfl) (by kernel_rfl)))) ?_
  intro W base args ds gs before hval hW _ _ hsz hL _ _
  exact contract H enc W base args ds gs before hval hW hsz hL
theorem said : Rows.CrcSumsSaid :=
  OpenClaim.holds_of_cond 3 Tryd.f3 rfl rfl rfl rfl rfl rfl rfl ⟨rfl, rfl, rfl, rfl, rfl⟩ rfl rfl rfl rfl rfl (by kernel_rfl) Tryd.func3 (by kernel_rfl)
    (of_decide_eq_true (by kernel_rfl)) (by unfold Func.isWrapper; first | (rw [if_pos (by decide +kernel)]; kernel_rfl) | (rw [if_neg (by decide +kernel)]; exact ⟨rfl, rfl⟩))
    (fun os started H enc _ I => by rw [OpenClaim.pre_eq_preRow]; exact lifted os started H enc I)
theorem plain (f : FuncId) (fn : Func) (hf : Tryd.pinned.checked.prog.funcNamed Rows.crcSumsRow.func = some f) (hfn : Tryd.pinned.checked.prog.funcs[f]? = some fn) :
    false = Tryd.pinned.checked.prog.looks [] ∧ ∀ (j : Nat) t, fn.params[j]? = some t → Tryd.pinned.checked.prog.wantsStandIn t = false := by
  obtain rfl : f = 3 := Option.some.inj ((show Tryd.prog.funcNamed Rows.crcSumsRow.func = some 3 by kernel_rfl).symm.trans hf) |>.symm
  obtain rfl : fn = Tryd.f3 := (Option.some.inj (Tryd.func3.symm.trans hfn)).symm
  refine ⟨by kernel_rfl, fun j t ht => ?_⟩
  rw [Tryd.params3] at ht
  have hm := Array.mem_of_getElem? ht
  simp only [List.mem_toArray, List.mem_cons, List.not_mem_nil, or_false] at hm
  rcases hm with rfl | rfl
  · exact (show Tryd.prog.wantsStandIn 22 = false by kernel_rfl)
  · exact (show Tryd.prog.wantsStandIn 23 = false by kernel_rfl)
theorem card : Rows.CrcSumsCardSaid :=
  Claim7.holds_tied_plain_at .later [] _ _ _ _ said (fun _ h => by cases h) (by kernel_rfl) (fun _ h => by cases h) crcSums_row_tie rfl ⟨rfl, rfl⟩ (by kernel_rfl) rfl plain (by kernel_rfl)
#print axioms card
end Go.Proofs.YtlfcgdcahfcanaaDoor.crcSums
