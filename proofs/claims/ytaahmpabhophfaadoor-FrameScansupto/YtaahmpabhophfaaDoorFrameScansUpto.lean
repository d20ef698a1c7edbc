/-
  FrameScans returns true: all frames that any bytes begin with are the document's, where the bytes are at most 1048576 (and the table of crc lies as its text lays it).
-/
import Derived.Test.YtaahmpabhophfaaDoorCards
import Derived.Test.YtaahmpabhophfaaDoorTie
import Derived.Test.YtaahmpabhophfaaDoorFrameArgs
import Derived.Test.YtaahmpabhophfaaDoorFrameAwake
namespace Go.Proofs.YtaahmpabhophfaaDoor.frameScansUpto
open Go.ChangeShapes Go.WideShapes Go.ChangeAt Go.RowKit
set_option linter.unusedVariables false
set_option linter.unusedSimpArgs false
theorem scan_count (S : List Nat → Nat) : ∀ (f : Nat) (xs : List Nat), (scanN S f xs).1.length ≤ xs.length
  | 0, xs => by simp [scanN]
  | f + 1, xs => by
    rw [scanN]
    split
    · rename_i h
      obtain ⟨h1, h2, h3⟩ := first_le S xs h
      have ih := scan_count S f (xs.drop (firstN S xs).2.1)
      rw [List.length_drop] at ih
      simp
      omega
    · simp
set_option maxHeartbeats 1000000 in
theorem walk (W : World) (hT : HalfTab W) (a0 : Option Addr) (len0 cap0 : Nat) (x0 : List Nat) (w0 : ArgL W a0 len0 cap0 x0) (re0 : cap0 ≤ 140737488351232) (bu0 : len0 ≤ 1048576) :
    Calls Tryd.prog 4 #[.slice a0 len0 cap0] W fun e W' => e = .returned (.bool true) ∧ Below W.heap.size W W' := by
  have HT : Hid (HalfTab W) := hT
  have HA0 : Hid (BytL W a0 len0 cap0 x0) := w0
  have hl0 := w0.1.1
  obtain ⟨R, hR⟩ : ∃ R, R = scanN crcN (len0 + 1) x0 := ⟨_, rfl⟩
  have hcnt : R.1.length ≤ 1048576 := by rw [hR]; have := scan_count crcN (len0 + 1) x0; omega
  have HSC : Hid _ := scan_any a0 len0 cap0 x0 W HA0.out HT.out (by rw [← hR]; exact hcnt)
  rw [← hR] at HSC
  have HR : Hid (scanN crcN (len0 + 1) x0 = R) := hR.symm
  clear hT w0 hR
  go_enter Tryd.func4, Tryd.ntmps4
  go_wp2_with fail
  refine Calls.mono HSC.out ?_
  rintro e w1 ⟨v1, rfl, hown1, hb1⟩
  obtain ⟨b1, c1, rfl, hB1, hc1, hm1⟩ := hown1.rows
  have HB1 : Hid (Below W.heap.size W w1 ∧ RowB w1 b1 R.1) := ⟨hb1, hB1⟩
  obtain ⟨t0, ht0⟩ : ∃ t, t = strN x0 := ⟨_, rfl⟩
  have hcv0 := conv_any (HA0.out.1.below hb1) (fun h => (HA0.out.2.1 h).1) cap0
  rw [← ht0] at hcv0
  have ht0s : t0.size = len0 := by rw [ht0, strN_size]; exact hl0
  have HRP : Hid _ := rscan_any t0 w1 (by omega) (by rw [ht0s, ht0, txt_strN _ HA0.out.2.2.1, HR.out]; exact hcnt)
  rw [ht0s, ht0, txt_strN _ HA0.out.2.2.1, HR.out, ← ht0] at HRP
  clear hown1 hb1 hB1 ht0 ht0s HSC hc1 hm1 bu0
  show _
  go_wp2_with fail
  refine Calls.mono HRP.out ?_
  rintro e w2 ⟨v2, rfl, hown2, hb2⟩
  obtain ⟨b2, c2, rfl, hB2⟩ := hown2.rows
  have HB2 : Hid (Below W.heap.size W w2 ∧ RowB w2 b1 R.1 ∧ RowX w2 b2 R.1) := ⟨HB1.out.1.trans (hb2.mono HB1.out.1.size), HB1.out.2.below hb2, hB2⟩
  clear hown2 hb2 hB2 HB1 HRP hcv0
  show _
  go_wp2_with fail
  refine Calls.mono (awake_true w2 (HT.out.below HB2.out.1)) ?_
  rintro e w3 ⟨rfl, hb3⟩
  have HB3 : Hid (Below W.heap.size W w3 ∧ RowB w3 b1 R.1 ∧ RowX w3 b2 R.1) := ⟨HB2.out.1.trans (hb3.mono HB2.out.1.size), HB2.out.2.1.below hb3, HB2.out.2.2.below hb3⟩
  clear hb3 HB2
  obtain ⟨n, hn⟩ : ∃ n, n = R.1.length := ⟨_, rfl⟩
  rw [← hn] at hcnt ⊢
  have HN : Hid (R.1.length = n) := hn.symm
  clear hn
  go_wp2
  go_loopw [7] (fun ix wr => ∃ (wz : World) (k : Nat), wz = wr ∧ ix = .int .i64 k ∧ k ≤ n ∧ Below W.heap.size W wz ∧ RowB wz b1 R.1 ∧ RowX wz b2 R.1) (fun ix _ => n - (intOf ix).toNat)
  case atStart => exact ⟨w3, 0, rfl, rfl, Nat.zero_le _, HB3.out⟩
  case round =>
    obtain ⟨wr, k, hwr, rfl, hk, hbe, hB, hX⟩ := hrel
    subst hwr
    have HALL : Hid (Below W.heap.size W wr ∧ RowB wr b1 R.1 ∧ RowX wr b2 R.1) := ⟨hbe, hB, hX⟩
    by_cases hlt : k < n
    · rcases hB with h0 | ⟨g1, rfl, hg1, hc1⟩
      · have := HN.out; omega
      · rcases hX with h0 | ⟨g2, rfl, hg2, hc2⟩
        · have := HN.out; omega
        · obtain ⟨ai, ci, k1, k2, k3⟩ := hc1 k (by rw [HN.out]; exact hlt)
          have q1 : wr.cell? ⟨g2, k, none⟩ = some (.string (strN (R.1.getD k []))) := hc2 k (by rw [HN.out]; exact hlt)
          have hcv := conv_any (w := wr.drew) k2 k3 ci
          have HDR : Hid (Below W.heap.size W wr.drew ∧ RowB wr.drew (some ⟨g1, 0, none⟩) R.1 ∧ RowX wr.drew (some ⟨g2, 0, none⟩) R.1) := ⟨HALL.out.1.drew, HALL.out.2⟩
          clear hc1 hc2 hbe k2 k3 HALL hg1 hg2
          generalize strN (R.1.getD k []) = t at *
          generalize (R.1.getD k []).length = m at *
          go_wp2_with fail
          go_region
          go_wp2
          go_roundw
          case rel => exact ⟨_, k + 1, rfl, by go_num, by omega, HDR.out⟩
          case measure => simp [intOf]; omega
    · have hkn : k = n := by omega
      subst hkn
      clear hB hX hbe
      go_wp2
      go_ret
      exact ⟨rfl, HALL.out.1⟩
theorem contract (H : Type) (enc : TypeId × Value → H) (W : World) (base : Nat) (args : Array Value) (ds gs : List (DataW H)) (before : List MemPlace)
    (hval : ∀ (j : Nat) t v, Tryd.f4.params[j]? = some t → args[j]? = some v → Value.okWide Tryd.prog W .any base t v)
    (hW : DataW.Whole enc Tryd.prog Tryd.f4.params.toList Rows.frameScansSpec.vars false W args.toList ds gs before)
    (hk : Rows.uptoSmall H (ds ++ gs) = true)
    (hsz : (DataW.weightsEach Tryd.prog (Tryd.f4.params.toList ++ (Rows.OpenSpec.upto Rows.frameScansSpec).bare.plain.varTypes Tryd.prog) (ds ++ gs)).all (· ≤ reachBytes) = true) (hL : laidMetH Tryd.prog Rows.frameScansUptoRow.laid W) :
    Calls Tryd.prog 4 args W fun e W' => ∃ v, e = .returned v ∧ Rows.frameScansSpec.post enc Tryd.prog Tryd.f4 false true false false W args v W' := by
  have hW' := hW
  obtain ⟨p, q, hA0, hV, rfl, hfz, hnd⟩ := hW
  have hA : DataW.TrodAll enc Tryd.prog W 0 (fun _ => true) true Tryd.f4.params.toList args.toList ds p := hA0
  rw [Tryd.params4] at hA hval hsz
  obtain ⟨v0, vs0, d0, ds0, p0, q0, hargs, rfl, rfl, h0, r0⟩ := trodAll_cons hA
  obtain ⟨rfl, rfl, rfl⟩ := trodAll_nil r0
  obtain rfl : args = #[v0] := by cases args; simp_all
  obtain ⟨rfl, rfl⟩ := trodVars_none hV
  have hbulk := of_decide_eq_true hk
  simp only [List.append_nil, Rows.uptoBulkAll] at hbulk
  obtain ⟨a0, len0, cap0, rfl⟩ := okWide_slice Tryd.underlying22 (hval 0 22 v0 rfl rfl)
  have k0 := h0
  have lt0 : ∀ x ∈ p0, x.block < W.heap.size := by obtain ⟨m, hm⟩ := k0; exact DataW.trod_lt m _ _ _ hm
  obtain ⟨x0, w0, re0, bu0⟩ : ∃ xs, ArgL W a0 len0 cap0 xs ∧ cap0 ≤ 140737488351232 ∧ len0 ≤ 1048576 := by
    obtain ⟨fuel, hf⟩ := h0
    rcases open_ints Tryd.underlying22 Tryd.underlying5 (by kernel_rfl) hf with ⟨hcs, _⟩ | ⟨x, l, c, zs, hcs, _, hl, hm, hz, hx, hcell, hwz⟩
    · simp [Value.cells] at hcs
      obtain ⟨rfl, rfl, rfl⟩ := hcs
      exact ⟨_, arg_at (.inl ⟨rfl, rfl, rfl, rfl⟩), by omega, by omega⟩
    · simp [Value.cells] at hcs
      obtain ⟨rfl, rfl, rfl⟩ := hcs
      have hd := congrArg Prod.fst hx
      simp only [] at hd
      have hz' : zs.length = cap0 := by simpa using hz
      have hb := sized_slice hsz (j := 0) (t := 22) (e := 5) rfl (by rw [hd]; rfl) Tryd.underlying22
      have hby : Tryd.prog.bytesOf 5 = 1 := by kernel_rfl
      rw [hby] at hb
      simp only [lits, List.length_map, List.length_take, List.length_drop, reachBytes] at hb
      rw [hd, Rows.uptoBulk, bulk_lits, List.length_take] at hbulk
      exact ⟨_, arg_at (.inr ⟨_, rfl, hl, hm, hz', hcell, hwz⟩), by omega, by omega⟩
  clear hA0 hsz hbulk
  refine (walk W (table hL) a0 len0 cap0 x0 w0 re0 bu0).mono fun e W' ⟨he, bel⟩ => ?_
  subst he
  exact ⟨_, rfl, _, _, _, [], _, [], hW', trodAll_mk1 (shut_bool Tryd.underlying4 _), (trodAll_cons_mk (Below.trod laidOut (by kernel_rfl) (of_decide_eq_true (by kernel_rfl)) k0 bel lt0) trodAll_mk0), rfl, bel.frame _, fun h => by cases h⟩
set_option maxRecDepth 100000 in
theorem lifted (os : Os) (started : os.Started) (H : Type) (enc : TypeId × Value → H) (I : Stop.Interp) :
    ReturnsInHanded {} Tryd.checked os 4 .any ((Rows.OpenSpec.upto Rows.frameScansSpec).preRow enc Tryd.prog Tryd.f4 Rows.frameScansUptoRow.domain false Rows.frameScansUptoRow.laid) (((Rows.OpenSpec.upto Rows.frameScansSpec).at I).post enc Tryd.prog Tryd.f4 false true false false) := by
  refine returnsInHanded_of_row (C := Tryd.checked) (s := (Rows.OpenSpec.upto Rows.frameScansSpec)) own started (by kernel_rfl) Tryd.func4
    (witness_row_at (enc := enc) (C := Tryd.checked) false { World.holding Tryd.prog os ⟨#[], #[], []⟩ with heap := (World.holding Tryd.prog os ⟨#[], #[], []⟩).heap.modify 0 fun
        | .cells _ t frozen => .cells #[.int .u32 0, .int .u32 274646895, .int .u32 549293790, .int .u32 820201905, .int .u32 1098587580, .int .u32 1361435347, .int .u32 1640403810, .int .u32 1905808397, .int .u32 2197175160, .int .u32 2460548119, .int .u32 2722870694, .int .u32 2987750089, .int .u32 3280807620, .int .u32 3553878443, .int .u32 3811616794, .int .u32 4084100981] t frozen
        | o => o } #[.slice none 0 0] rfl (by kernel_rfl) (by kernel_rfl) (by kernel_rfl)
      (OpenSpec.preRow_of_cond 8 (x := ([.nil], [], [])) (by kernel_rfl) (by kernel_rfl) (fun k hk => by cases hk; kernel_rfl) (by kernel_rfl) (laidMet_of_run' 8 (by kernel_rfl) (by kernel_rfl)))) ?_
  intro W base args ds gs before hval hW _ hcond hsz hL _ _
  exact contract H enc W base args ds gs before hval hW (hcond _ rfl) hsz hL
theorem said : Rows.FrameScansUptoSaid :=
  OpenClaim.holds_of_cond 4 Tryd.f4 rfl rfl rfl rfl rfl rfl rfl ⟨rfl, rfl, rfl, rfl, rfl⟩ rfl rfl rfl rfl rfl (by kernel_rfl) Tryd.func4 (by kernel_rfl)
    (of_decide_eq_true (by kernel_rfl)) (by unfold Func.isWrapper; first | (rw [if_pos (by decide +kernel)]; kernel_rfl) | (rw [if_neg (by decide +kernel)]; exact ⟨rfl, rfl⟩))
    (fun os started H enc _ I => by rw [OpenClaim.pre_eq_preRow]; exact lifted os started H enc I)
theorem plain (f : FuncId) (fn : Func) (hf : Tryd.pinned.checked.prog.funcNamed Rows.frameScansUptoRow.func = some f) (hfn : Tryd.pinned.checked.prog.funcs[f]? = some fn) :
    false = Tryd.pinned.checked.prog.looks [] ∧ ∀ (j : Nat) t, fn.params[j]? = some t → Tryd.pinned.checked.prog.wantsStandIn t = false := by
  obtain rfl : f = 4 := Option.some.inj ((show Tryd.prog.funcNamed Rows.frameScansUptoRow.func = some 4 by kernel_rfl).symm.trans hf) |>.symm
  obtain rfl : fn = Tryd.f4 := (Option.some.inj (Tryd.func4.symm.trans hfn)).symm
  refine ⟨by kernel_rfl, fun j t ht => ?_⟩
  rw [Tryd.params4] at ht
  have hm := Array.mem_of_getElem? ht
  simp only [List.mem_toArray, List.mem_cons, List.not_mem_nil, or_false] at hm
  subst hm
  · exact (show Tryd.prog.wantsStandIn 22 = false by kernel_rfl)
theorem card : Rows.FrameScansUptoCardSaid :=
  Claim7.holds_tied_plain_at .later [] _ _ _ _ said (fun _ h => by cases h) (by kernel_rfl) (fun _ h => by cases h) frameScansUpto_row_tie rfl ⟨rfl, rfl⟩ (by kernel_rfl) rfl plain (by kernel_rfl)
#print axioms card
end Go.Proofs.YtaahmpabhophfaaDoor.frameScansUpto
