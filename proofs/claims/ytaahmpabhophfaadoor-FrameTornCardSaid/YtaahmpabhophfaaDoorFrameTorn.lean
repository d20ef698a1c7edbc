/-
  FrameTorn returns true: of a part of a frame nothing is told, and with bits of its last byte turned it is wrong (where the table of crc lies as its text lays it).
-/
import Derived.Test.YtaahmpabhophfaaDoorCards
import Derived.Test.YtaahmpabhophfaaDoorTie
import Derived.Test.YtaahmpabhophfaaDoorFrameArgs
import Derived.Test.YtaahmpabhophfaaDoorFrameAwake
import Derived.Test.YtaahmpabhophfaaDoorFrameTurnN
namespace Go.Proofs.YtaahmpabhophfaaDoor.frameTorn
open Go.ChangeShapes Go.WideShapes Go.ChangeAt Go.RowKit
set_option linter.unusedVariables false
set_option linter.unusedSimpArgs false
set_option maxHeartbeats 2000000 in
theorem walk (W : World) (hT : HalfTab W) (a0 : Option Addr) (len0 cap0 : Nat) (x0 : List Nat) (w0 : ArgL W a0 len0 cap0 x0) (re0 : cap0 ≤ 140737488351232) (a1 : Int) (w1 : (Lit.int .u16 a1).wf = true) (a2 : Int) (w2 : (Lit.int .u8 a2).wf = true) :
    Calls Tryd.prog 6 #[.slice a0 len0 cap0, .int .u16 a1, .int .u8 a2] W fun e W' => e = .returned (.bool true) ∧ Below W.heap.size W W' := by
  obtain ⟨l1, h1⟩ := bounds_u16 w1
  obtain ⟨l2, h2⟩ := bounds_u8 w2
  obtain ⟨A, rfl⟩ := Int.eq_ofNat_of_zero_le l1
  obtain ⟨B, rfl⟩ := Int.eq_ofNat_of_zero_le l2
  have hA : A < 65536 := by omega
  have hB : B < 256 := by omega
  have HT : Hid (HalfTab W) := hT
  have HA0 : Hid (BytL W a0 len0 cap0 x0) := w0
  have hl0 := w0.1.1
  have HPUT : Hid _ := put_any a0 len0 cap0 x0 W HA0.out HT.out
  clear hT w0 w1 w2 l1 l2 h1 h2
  by_cases hbig : 16384 < len0
  · have HP : putN x0 = ([], 17) := by unfold putN; rw [if_pos (by omega)]
    rw [HP] at HPUT
    go_enter Tryd.func6, Tryd.ntmps6
    go_wp2_with fail
    refine Calls.mono HPUT.out ?_
    rintro e w1 ⟨v1, rfl, hown1, hb1⟩
    have HB1 : Hid (Below W.heap.size W w1) := hb1
    clear hown1 hb1 HPUT
    show _
    go_wp2_with fail
    refine Calls.mono (awake_true w1 (HT.out.below HB1.out)) ?_
    rintro e w2 ⟨rfl, hb2⟩
    have HB2 : Hid (Below W.heap.size W w2) := HB1.out.trans (hb2.mono HB1.out.size)
    clear hb2
    go_wp2_with fail
    refine Calls.mono (awake_true w2 (HT.out.below HB2.out)) ?_
    rintro e w3 ⟨rfl, hb3⟩
    have HB3 : Hid (Below W.heap.size W w3) := HB2.out.trans (hb3.mono HB2.out.size)
    clear hb3
    go_wp2_with fail
    go_ret
    exact ⟨rfl, HB3.out⟩
  · have HP : putN x0 = (frN crcN x0, 0) := by unfold putN; rw [if_neg (by omega)]
    rw [HP] at HPUT
    obtain ⟨f, hf⟩ : ∃ f, f = frN crcN x0 := ⟨_, rfl⟩
    rw [← hf] at HPUT
    have hfl : f.length = 8 + len0 := by rw [hf, frN_len, hl0]
    have HFB : Hid (∀ c ∈ f, c < 256) := by rw [hf]; exact frN_byt x0 HA0.out.2.2.1
    have HFL : Hid (f.length = 8 + len0) := hfl
    have HF : Hid (f = frN crcN x0) := hf
    clear hf hfl
    go_enter Tryd.func6, Tryd.ntmps6
    go_wp2_with fail
    refine Calls.mono HPUT.out ?_
    rintro e w1 ⟨v1, rfl, hown1, hb1⟩
    obtain ⟨b1, c1, rfl, hB1, hat1⟩ := hown1.byt HFB.out
    have HB1 : Hid (Below W.heap.size W w1 ∧ BytL w1 b1 (8 + len0) c1 f) := ⟨hb1, by have h := hB1; rw [HFL.out] at h; exact h⟩
    rw [HFL.out]
    clear hown1 hb1 HPUT hB1 hat1
    show _
    go_wp2_with fail
    refine Calls.mono (awake_true w1 (HT.out.below HB1.out.1)) ?_
    rintro e w2 ⟨rfl, hb2⟩
    have HB2 : Hid (Below W.heap.size W w2 ∧ BytL w2 b1 (8 + len0) c1 f) := ⟨HB1.out.1.trans (hb2.mono HB1.out.1.size), HB1.out.2.below hb2⟩
    clear hb2 HB1
    obtain ⟨g1, o1, rfl, hlt1, -⟩ := HB2.out.2.1.at 0 (by omega)
    have hc1 : 8 + len0 ≤ c1 := HB2.out.2.2.2.2.1
    have hc1m : c1 ≤ 9223372036854775807 := HB2.out.2.2.2.2.2
    obtain ⟨K, hK⟩ : ∃ K, K = A % (8 + len0) := ⟨_, rfl⟩
    have hKl : K < 8 + len0 := by rw [hK]; exact Nat.mod_lt _ (by omega)
    have hKi : (A : Int) % (8 + (len0 : Int)) = (K : Int) := by rw [hK, show (8 + (len0 : Int)) = ((8 + len0 : Nat) : Int) by omega]; exact (Int.natCast_emod _ _).symm
    have hKc : (K : Int) ≤ (c1 : Int) := by omega
    have HK : Hid (f.take K = (frN crcN x0).take K ∧ (f.take K).length = K) := ⟨by rw [HF.out], by rw [List.length_take, HFL.out]; omega⟩
    have HKB : Hid (∀ c ∈ f.take K, c < 256) := fun c hc => HFB.out c (List.mem_of_mem_take hc)
    have hsz2 := HB2.out.1.size
    have HE : Hid (OwnL 5 .u8 (w2.alloc (.cells #[] 5)) w2.heap.size (.slice (some ⟨w2.heap.size, 0, none⟩) 0 0) []) := OwnL.empty _ _ w2 w2.heap.size (Nat.le_refl _)
    have hE3 : w2.heap.size ≤ (w2.alloc (.cells #[] 5)).heap.size := by simp
    have HR4 : Hid (RowL .u8 (w2.alloc (.cells #[] 5)) (some ⟨g1, o1, none⟩) K (f.take K)) := (RowL.head HB2.out.2.1 HK.out.2 ⟨f.drop K, (List.take_append_drop K f).symm⟩).below (below_new w2 _)
    clear hK hlt1
    go_wp2_with (at_builtin; (refine append_nums byteT _ rfl _ _ rfl w2.heap.size (.slice (some ⟨w2.heap.size, 0, none⟩) 0 0) [] (f.take K) rfl HE.out (some ⟨g1, o1, none⟩) K c1 rfl HR4.out (fun h => by cases h) (by simp; omega) (by simp; unfold maxLen; omega) hE3 ?_; intro v5 w5 hown5 hb5))
    replace hown5 : OwnL 5 .u8 w5 w2.heap.size v5 (f.take K) := hown5
    obtain ⟨b5, c5, rfl, hB5, -⟩ := OwnL.byt hown5 HKB.out
    have hb25 : Below w2.heap.size w2 w5 := (below_new w2 _).trans hb5
    have HB5 : Hid (Below W.heap.size W w5 ∧ BytL w5 (some ⟨g1, o1, none⟩) (8 + len0) c1 f ∧ BytL w5 b5 K c5 (f.take K)) := ⟨HB2.out.1.trans (hb25.mono hsz2), HB2.out.2.below hb25, by have h := hB5; rw [HK.out.2] at h; exact h⟩
    rw [HK.out.2]
    have HSC0 : Hid (scanN crcN (K + 1) (f.take K) = ([], 0)) := scan_stop crcN _ K (by rw [HK.out.1, first_torn crcN x0 (by omega) K (by omega)]; decide)
    have HSC : Hid _ := scan_any b5 K c5 (f.take K) w5 HB5.out.2.2 (HT.out.below HB5.out.1) (by rw [HSC0.out]; simp)
    rw [HSC0.out] at HSC
    clear hown5 hb5 hB5 hb25 HB2 HE HR4 HSC0 hE3 hsz2
    show _
    refine Calls.mono HSC.out ?_
    rintro e w6 ⟨v6, rfl, hown6, hb6⟩
    obtain ⟨b6, c6, rfl, -, -⟩ := hown6.rows
    have HB6 : Hid (Below W.heap.size W w6 ∧ BytL w6 (some ⟨g1, o1, none⟩) (8 + len0) c1 f) := ⟨HB5.out.1.trans (hb6.mono HB5.out.1.size), HB5.out.2.1.below hb6⟩
    clear hown6 hb6 HB5 HSC
    by_cases ht : B = 0
    · subst ht
      show _
      go_wp2
      go_ret
      exact ⟨rfl, HB6.out.1⟩
    · have hti : ((B : Int) == 0) = false := by rw [beq_eq_false_iff_ne]; omega
      have hsz6 := HB6.out.1.size
      have HE : Hid (OwnL 5 .u8 (w6.alloc (.cells #[] 5)) w6.heap.size (.slice (some ⟨w6.heap.size, 0, none⟩) 0 0) []) := OwnL.empty _ _ w6 w6.heap.size (Nat.le_refl _)
      have hE3 : w6.heap.size ≤ (w6.alloc (.cells #[] 5)).heap.size := by simp
      have HR7 : Hid (RowL .u8 (w6.alloc (.cells #[] 5)) (some ⟨g1, o1, none⟩) (8 + len0) f) := HB6.out.2.1.below (below_new w6 _)
      have HLI : Hid (7 + len0 < f.length) := by have := HFL.out; unfold Hid; omega
      obtain ⟨L, hL⟩ : ∃ L, L = 7 + len0 := ⟨_, rfl⟩
      rw [← hL] at HLI
      obtain ⟨c, hc⟩ : ∃ c, c = f.getD L 0 := ⟨_, rfl⟩
      have hcb : c < 256 := by rw [hc]; exact getD_lt f HFB.out L
      have HC : Hid (f.getD L 0 = c) := hc.symm
      have hxo := u8_xor_nat c B hcb hB
      have hLi : (8 : Int) + (len0 : Int) - 1 = (L : Int) := by omega
      have hLl : L < 8 + len0 := by omega
      have HL : Hid (L = 7 + len0) := hL
      clear hc hL
      show _
      go_wp2_with (at_builtin; (refine append_nums byteT _ rfl _ _ rfl w6.heap.size (.slice (some ⟨w6.heap.size, 0, none⟩) 0 0) [] f rfl HE.out (some ⟨g1, o1, none⟩) (8 + len0) c1 rfl HR7.out (fun h => by cases h) (by simp; omega) (by simp; unfold maxLen; omega) hE3 ?_; intro v7 w7 hown7 hb7; replace hown7 : OwnL 5 .u8 w7 w6.heap.size v7 f := hown7; obtain ⟨g7, c7, rfl, hg7, hlt7, hcell7, hfr7, hset7⟩ := OwnL.at hown7 L HLI.out; have hk7 := hcell7 L HLI.out; rw [HC.out] at hk7; rw [HFL.out]))
      have hb67 : Below w6.heap.size w6 w7 := (below_new w6 _).trans hb7
      have hown8 := hset7 (c ^^^ B)
      have hb8 : Below W.heap.size W (w7.setCell ⟨g7, L, none⟩ (.int .u8 ((c ^^^ B : Nat) : Int))) := (HB6.out.1.trans (hb67.mono hsz6)).setCell (Nat.le_trans hsz6 hg7) _
      have hfl8 : (f.set L (c ^^^ B)).length = 8 + len0 := by rw [List.length_set]; exact HFL.out
      have hbb8 : ∀ y ∈ f.set L (c ^^^ B), y < 256 := by
        intro y hy
        rcases List.mem_or_eq_of_mem_set hy with h1 | h1
        · exact HFB.out y h1
        · rw [h1]; exact Nat.xor_lt_two_pow (n := 8) hcb hB
      have HBY8 : Hid (BytL (w7.setCell ⟨g7, L, none⟩ (.int .u8 ((c ^^^ B : Nat) : Int))) (some ⟨g7, 0, none⟩) (8 + len0) c7 (f.set L (c ^^^ B))) := by
        obtain ⟨a8, c8, hv8, hB8, -⟩ := OwnL.byt hown8 hbb8
        rw [HFL.out, hfl8] at hv8
        rw [hfl8] at hB8
        injection hv8 with e1 e2 e3
        rw [e1, e3]
        exact hB8
      have HFI : Hid (firstN crcN (f.set L (c ^^^ B)) = ([], 0, 2)) := by
        have := turn_last x0 B (by omega) HA0.out.2.2.1 hB ht
        rw [← HF.out, hl0, ← HL.out, HC.out] at this
        exact this
      have HB8 : Hid (Below W.heap.size W (w7.setCell ⟨g7, L, none⟩ (.int .u8 ((c ^^^ B : Nat) : Int)))) := hb8
      clear hb67 hown8 hb8 hfl8 hbb8 hset7 hcell7 hfr7 hk7 hown7 hb7 HB6 HE HR7
      generalize w7.setCell ⟨g7, L, none⟩ (.int .u8 ((c ^^^ B : Nat) : Int)) = w8 at *
      refine Calls.mono (first_any (some ⟨g7, 0, none⟩) (8 + len0) c7 _ w8 HBY8.out (HT.out.below HB8.out)) ?_
      rw [HFI.out]
      rintro e w9 ⟨v9, rfl, -, hb9⟩
      have HB9 : Hid (Below W.heap.size W w9) := HB8.out.trans (hb9.mono HB8.out.size)
      clear hb9 HB8 HBY8
      show _
      go_wp2
      go_ret
      exact ⟨rfl, HB9.out⟩
theorem contract (H : Type) (enc : TypeId × Value → H) (W : World) (base : Nat) (args : Array Value) (ds gs : List (DataW H)) (before : List MemPlace)
    (hval : ∀ (j : Nat) t v, Tryd.f6.params[j]? = some t → args[j]? = some v → Value.okWide Tryd.prog W .any base t v)
    (hW : DataW.Whole enc Tryd.prog Tryd.f6.params.toList Rows.frameTornSpec.vars false W args.toList ds gs before)
    (hsz : (DataW.weightsEach Tryd.prog (Tryd.f6.params.toList ++ (OpenSpec.ofChange Rows.frameTornSpec).bare.plain.varTypes Tryd.prog) (ds ++ gs)).all (· ≤ reachBytes) = true) (hL : laidMetH Tryd.prog Rows.frameTornRow.laid W) :
    Calls Tryd.prog 6 args W fun e W' => ∃ v, e = .returned v ∧ Rows.frameTornSpec.post enc Tryd.prog Tryd.f6 false true false false W args v W' := by
  have hW' := hW
  obtain ⟨p, q, hA0, hV, rfl, hfz, hnd⟩ := hW
  have hA : DataW.TrodAll enc Tryd.prog W 0 (fun _ => true) true Tryd.f6.params.toList args.toList ds p := hA0
  rw [Tryd.params6] at hA hval hsz
  obtain ⟨v0, vs0, d0, ds0, p0, q0, hargs, rfl, rfl, h0, r0⟩ := trodAll_cons hA
  obtain ⟨v1, vs1, d1, ds1, p1, q1, rfl, rfl, rfl, h1, r1⟩ := trodAll_cons r0
  obtain ⟨v2, vs2, d2, ds2, p2, q2, rfl, rfl, rfl, h2, r2⟩ := trodAll_cons r1
  obtain ⟨rfl, rfl, rfl⟩ := trodAll_nil r2
  obtain rfl : args = #[v0, v1, v2] := by cases args; simp_all
  obtain ⟨rfl, rfl⟩ := trodVars_none hV
  obtain ⟨a0, len0, cap0, rfl⟩ := okWide_slice Tryd.underlying22 (hval 0 22 v0 rfl rfl)
  have k0 := h0
  have lt0 : ∀ x ∈ p0, x.block < W.heap.size := by obtain ⟨m, hm⟩ := k0; exact DataW.trod_lt m _ _ _ hm
  obtain ⟨x0, w0, re0⟩ : ∃ xs, ArgL W a0 len0 cap0 xs ∧ cap0 ≤ 140737488351232 := by
    obtain ⟨fuel, hf⟩ := h0
    rcases open_ints Tryd.underlying22 Tryd.underlying5 (by kernel_rfl) hf with ⟨hcs, _⟩ | ⟨x, l, c, zs, hcs, _, hl, hm, hz, hx, hcell, hwz⟩
    · simp [Value.cells] at hcs
      obtain ⟨rfl, rfl, rfl⟩ := hcs
      exact ⟨_, arg_at (.inl ⟨rfl, rfl, rfl, rfl⟩), by omega⟩
    · simp [Value.cells] at hcs
      obtain ⟨rfl, rfl, rfl⟩ := hcs
      have hd := congrArg Prod.fst hx
      simp only [] at hd
      have hz' : zs.length = cap0 := by simpa using hz
      have hb := sized_slice hsz (j := 0) (t := 22) (e := 5) rfl (by rw [hd]; rfl) Tryd.underlying22
      have hby : Tryd.prog.bytesOf 5 = 1 := by kernel_rfl
      rw [hby] at hb
      simp only [lits, List.length_map, List.length_take, List.length_drop, reachBytes] at hb
      exact ⟨_, arg_at (.inr ⟨_, rfl, hl, hm, hz', hcell, hwz⟩), by omega⟩
  obtain ⟨a1, rfl, rfl, rfl, w1⟩ := open_int Tryd.underlying42 (hval 1 42 v1 rfl rfl) h1
  obtain ⟨a2, rfl, rfl, rfl, w2⟩ := open_int Tryd.underlying5 (hval 2 5 v2 rfl rfl) h2
  clear hA0 hsz
  refine (walk W (table hL) a0 len0 cap0 x0 w0 re0 a1 w1 a2 w2).mono fun e W' ⟨he, bel⟩ => ?_
  subst he
  exact ⟨_, rfl, _, _, _, [], _, [], hW', trodAll_mk1 (shut_bool Tryd.underlying4 _), (trodAll_cons_mk (Below.trod laidOut (by kernel_rfl) (of_decide_eq_true (by kernel_rfl)) k0 bel lt0) (trodAll_cons_mk (shut_int Tryd.underlying42 w1) (trodAll_cons_mk (shut_int Tryd.underlying5 w2) trodAll_mk0))), rfl, bel.frame _, fun h => by cases h⟩
set_option maxRecDepth 100000 in
theorem lifted (os : Os) (started : os.Started) (H : Type) (enc : TypeId × Value → H) (I : Stop.Interp) :
    ReturnsInHanded {} Tryd.checked os 6 .any ((OpenSpec.ofChange Rows.frameTornSpec).preRow enc Tryd.prog Tryd.f6 Rows.frameTornRow.domain false Rows.frameTornRow.laid) (((OpenSpec.ofChange Rows.frameTornSpec).at I).post enc Tryd.prog Tryd.f6 false true false false) := by
  refine returnsInHanded_of_row (C := Tryd.checked) (s := (OpenSpec.ofChange Rows.frameTornSpec)) own started (by kernel_rfl) Tryd.func6
    (witness_row_at (enc := enc) (C := Tryd.checked) false { World.holding Tryd.prog os ⟨#[], #[], []⟩ with heap := (World.holding Tryd.prog os ⟨#[], #[], []⟩).heap.modify 0 fun
        | .cells _ t frozen => .cells #[.int .u32 0, .int .u32 274646895, .int .u32 549293790, .int .u32 820201905, .int .u32 1098587580, .int .u32 1361435347, .int .u32 1640403810, .int .u32 1905808397, .int .u32 2197175160, .int .u32 2460548119, .int .u32 2722870694, .int .u32 2987750089, .int .u32 3280807620, .int .u32 3553878443, .int .u32 3811616794, .int .u32 4084100981] t frozen
        | o => o } #[.slice none 0 0, .int .u16 0, .int .u8 0] rfl (by kernel_rfl) (by kernel_rfl) (by kernel_rfl)
      (OpenSpec.preRow_of_cond 8 (x := ([.nil, .lit (.int .u16 0), .lit (.int .u8 0)], [], [])) (by kernel_rfl) (by kernel_rfl) (fun k hk => by cases hk) (by kernel_rfl) (laidMet_of_run' 8 (by kernel_rfl) (by kernel_rfl)))) ?_
  intro W base args ds gs before hval hW _ hcond hsz hL _ _
  exact contract H enc W base args ds gs before hval hW hsz hL
theorem said : Rows.FrameTornSaid :=
  OpenClaim.holds_of_cond 6 Tryd.f6 rfl rfl rfl rfl rfl rfl rfl ⟨rfl, rfl, rfl, rfl, rfl⟩ rfl rfl rfl rfl rfl (by kernel_rfl) Tryd.func6 (by kernel_rfl)
    (of_decide_eq_true (by kernel_rfl)) (by unfold Func.isWrapper; first | (rw [if_pos (by decide +kernel)]; kernel_rfl) | (rw [if_neg (by decide +kernel)]; exact ⟨rfl, rfl⟩))
    (fun os started H enc _ I => by rw [OpenClaim.pre_eq_preRow]; exact lifted os started H enc I)
theorem plain (f : FuncId) (fn : Func) (hf : Tryd.pinned.checked.prog.funcNamed Rows.frameTornRow.func = some f) (hfn : Tryd.pinned.checked.prog.funcs[f]? = some fn) :
    false = Tryd.pinned.checked.prog.looks [] ∧ ∀ (j : Nat) t, fn.params[j]? = some t → Tryd.pinned.checked.prog.wantsStandIn t = false := by
  obtain rfl : f = 6 := Option.some.inj ((show Tryd.prog.funcNamed Rows.frameTornRow.func = some 6 by kernel_rfl).symm.trans hf) |>.symm
  obtain rfl : fn = Tryd.f6 := (Option.some.inj (Tryd.func6.symm.trans hfn)).symm
  refine ⟨by kernel_rfl, fun j t ht => ?_⟩
  rw [Tryd.params6] at ht
  have hm := Array.mem_of_getElem? ht
  simp only [List.mem_toArray, List.mem_cons, List.not_mem_nil, or_false] at hm
  rcases hm with rfl | rfl | rfl
  · exact (show Tryd.prog.wantsStandIn 22 = false by kernel_rfl)
  · exact (show Tryd.prog.wantsStandIn 42 = false by kernel_rfl)
  · exact (show Tryd.prog.wantsStandIn 5 = false by kernel_rfl)
theorem card : Rows.FrameTornCardSaid :=
  Claim7.holds_tied_plain_at .later [] _ _ _ _ said (fun _ h => by cases h) (by kernel_rfl) (fun _ h => by cases h) frameTorn_row_tie rfl ⟨rfl, rfl⟩ (by kernel_rfl) rfl plain (by kernel_rfl)
#print axioms card
end Go.Proofs.YtaahmpabhophfaaDoor.frameTorn
