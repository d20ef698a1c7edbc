/-
  Sum of a Hash: the digest of its text.
-/
import Derived.Test.YtmaaakcfbekboaaDoorShaWrite
import Derived.Laws.CopyOwn
namespace Go.Proofs.YtmaaakcfbekboaaDoor
open Go.ChangeShapes Go.WideShapes Go.ChangeAt Go.RowKit
set_option linter.unusedVariables false
set_option linter.unusedSimpArgs false
theorem sz_be (s : Nat) : szN s 8 = beN s 8 := by simp [szN, beN, Nat.div_div_eq_div_mul]
theorem out_four (h : List Nat) (i : Nat) : outN h (4 * (i + 1)) = outN h (4 * i) ++ beN (h.getD i 0) 4 := by
  rw [show 4 * (i + 1) = 4 * i + 1 + 1 + 1 + 1 by omega, outN, outN, outN, outN]
  have e0 : (4 * i) / 4 = i ∧ (4 * i) % 4 = 0 := by omega
  have e1 : (4 * i + 1) / 4 = i ∧ (4 * i + 1) % 4 = 1 := by omega
  have e2 : (4 * i + 1 + 1) / 4 = i ∧ (4 * i + 1 + 1) % 4 = 2 := by omega
  have e3 : (4 * i + 1 + 1 + 1) / 4 = i ∧ (4 * i + 1 + 1 + 1) % 4 = 3 := by omega
  rw [e0.1, e0.2, e1.1, e1.2, e2.1, e2.2, e3.1, e3.2]
  simp [beN, Nat.div_div_eq_div_mul]
theorem beN_lt (s : Nat) : ∀ n x, ∀ j, (beN x n).getD j 0 < 256
  | 0, x, j => by simp [beN]
  | n + 1, x, j => getD_snoc_lt (beN_lt s n (x / 256)) (Nat.mod_lt _ (by decide)) (by decide) j
theorem pad_be (n : Nat) : padN n = [128] ++ List.replicate (zcN n) 0 ++ beN (8 * n) 8 := by rw [← sz_be]; rfl
/-- Bytes copied over a part of a block of bytes. -/
theorem copy_op {ops : Array Oper} {rest : List Oper} {o : Oper} {a : Act} {Q : Exit → Act → World → Prop} {w : World} (hg : o.guard = none) (d s : Operand)
    (ho : o.op = .call { callee := .builtin .copy, args := #[d, s], argTypes := #[28, 28] })
    (g off dLen dCap : Nat) (N sCap m : Nat) (hd : a.eval d = .slice (some ⟨g, off, none⟩) dLen dCap) (hs : a.eval s = .slice (some ⟨N, 0, none⟩) m sCap) (hmd : m ≤ dLen)
    (t tn : TypeId) (L ys : List Nat) (hL : Blk w g t .u8 L) (hN : Blk w N tn .u8 ys) (hm : ys.length = m) (hfit : off + m ≤ L.length) (M2 : List Nat) (hM2 : M2 = L.take off ++ (ys ++ L.drop (off + m)))
    (h : wpList Tryd.prog ops Q rest (a.put o.dst (.int .i64 m)) (w.setRow g (encL .u8 M2))) : wpList Tryd.prog ops Q (o :: rest) a w := by
  have hcs : (ys.map fun c => Value.int .u8 (c : Nat)).length = m := by rw [List.length_map, hm]
  refine wpList_copy_own hg d s 28 28 ho 5 Tryd.underlying28 (by kernel_rfl) g off dLen dCap ⟨N, 0, none⟩ m sCap hd hs (encL .u8 L) t hL (ys.map fun c => Value.int .u8 (c : Nat)) (by rw [hcs]; exact (Nat.min_eq_left hmd).symm) ?_ (by rw [hcs, encL_size]; exact hfit) (fun v hv => by obtain ⟨z, _, rfl⟩ := List.mem_map.1 hv; rfl) ?_
  · intro j v hj
    have hj' : j < ys.length := by have := (List.getElem?_eq_some_iff.1 hj).1; simpa using this
    rw [Addr.add_mid, Nat.zero_add, hN.cell j hj']
    rw [List.getElem?_map, List.getElem?_eq_getElem hj'] at hj
    simp at hj
    rw [← hj]
    simp [hj']
  · rw [hcs]
    have e : ((encL .u8 L).toList.take off ++ ((ys.map fun c => Value.int .u8 (c : Nat)) ++ (encL .u8 L).toList.drop (off + m))).toArray = encL .u8 (L.take off ++ (ys ++ L.drop (off + m))) := by
      simp [encL, List.map_take, List.map_drop]
    rw [e, ← hM2]
    exact h
theorem splice_take (M ys : List Nat) (o m : Nat) (hy : ys.length = m) (ho : o + m ≤ M.length) : (M.take o ++ (ys ++ M.drop (o + m))).take (o + m) = M.take o ++ ys := by
  rw [← List.append_assoc, List.take_append_of_le_length (by simp; omega), List.take_of_length_le (by simp; omega)]
theorem splice_len (M ys : List Nat) (o m : Nat) (hy : ys.length = m) (ho : o + m ≤ M.length) : (M.take o ++ (ys ++ M.drop (o + m))).length = M.length := by simp; omega
theorem slice_digest (g i : Nat) (hi : i < 8) (W : World) : (Instr.sliceAt 25 (.pointer (some ⟨g, 0, none⟩)) (some (.int .i64 (4 * (i : Int)))) none none).run Tryd.prog W = .ok (.slice (some ⟨g, 4 * i, none⟩) (32 - 4 * i) (32 - 4 * i)) W := by
  have hn : Tryd.prog.arrayLen 25 = 32 := by kernel_rfl
  have he : Tryd.prog.elem 25 = 5 := by kernel_rfl
  have hu : Tryd.prog.underlying 25 = some (.array (Tryd.prog.arrayLen 25) (Tryd.prog.elem 25)) := by rw [hn, he]; exact Tryd.underlying25
  have hs : ∀ w, (sizeOf 5).run Tryd.prog w = .ok 1 w := fun w => by kernel_rfl
  rw [run_sliceAt_array_l W _ _ hu .i64 (4 * (i : Int)) (by omega) (by rw [hn]; omega), he, hs, hn]
  have e1 : (4 * (i : Int)).toNat = 4 * i := by omega
  have e2 : ¬ (32 = 4 * i) := by omega
  simp only [Result.andThen_ok, slicedAt, e1, if_neg e2, Nat.mul_one, Addr.add_mid, Nat.zero_add]
theorem OwnL.below' {e : TypeId} {k : IntKind} {w w' : World} {base : Nat} {v : Value} {xs : List Nat} (h : OwnL e k w base v xs) (hb : Below w.heap.size w w') : OwnL e k w' base v xs := by
  have h0 := h
  obtain ⟨h1, ⟨rfl, h2⟩ | ⟨g, cap, cur, rfl, hg, hbk, hn, hmm, hs, ht⟩⟩ := h
  · exact ⟨h1, .inl ⟨rfl, h2⟩⟩
  · exact ⟨h1, .inr ⟨g, cap, cur, rfl, hg, (hb.block g (h0.lt g rfl).2).trans hbk, hn, hmm, hs, ht⟩⟩
theorem hsum_nil (w : World) : Calls Tryd.prog 12 #[.pointer none] w fun e w' => e = .returned (.agg (encL .u8 zeros32)) ∧ Below w.heap.size w w' := by
  have HST : Hid ((storeVar 25 ⟨w.heap.size, 0, none⟩ (.agg (encL .u8 zeros32))).run Tryd.prog (w.alloc (.cells (encL .u8 zeros32) 25)) = .ok () (w.alloc (.cells (encL .u8 zeros32) 25))) := by
    have := (Blk.new w 25 .u8 zeros32).store digT rfl (m := zeros32) rfl
    rw [World.setRow_alloc_new] at this
    exact this
  go_enter Tryd.func12, Tryd.ntmps12
  go_wp2_with (first
    | (refine alloc_op rfl 25 rfl _ (digAlloc _) ?_)
    | (refine build_op rfl 25 _ rfl #[] (by simp) _ (digBuild _) ?_)
    | (refine store_op rfl 25 (.tmp 2) (.tmp 15) rfl ⟨w.heap.size, 0, none⟩ rfl _ rfl HST.out ?_))
  refine bodyPost_ret (v := .agg (encL .u8 zeros32)) ?_ rfl ⟨rfl, below_new w _⟩
  rw [results_cell rfl]
  exact (Blk.new w 25 .u8 zeros32).load digT rfl
set_option maxRecDepth 100000 in
set_option maxHeartbeats 8000000 in
theorem hsum_any (w : World) (p lo : Nat) (t : List Nat) (h : Hash w p lo t) (hT : Tab w) (htl : t.length ≤ 1152921504606846976) :
    Calls Tryd.prog 12 #[.pointer (some ⟨p, 0, none⟩)] w fun e w' => e = .returned (.agg (encL .u8 (shaN t))) ∧ Below w.heap.size w w' := by
  -- the world in which 'followed' begins
  have bA : Below w.heap.size w ((w.alloc (.cells (encL .u8 zeros32) 25)).alloc (.cells #[.int .u8 128] 5)) := Below.alloc (below_new w _) (by simp) _
  have HD : Hid (Blk ((w.alloc (.cells (encL .u8 zeros32) 25)).alloc (.cells #[.int .u8 128] 5)) w.heap.size 25 .u8 zeros32) := (Blk.new w _ _ _).alloc _
  have b1 : Blk ((w.alloc (.cells (encL .u8 zeros32) 25)).alloc (.cells #[.int .u8 128] 5)) (w.heap.size + 1) 5 .u8 [128] := by
    have := Blk.new (w.alloc (.cells (encL .u8 zeros32) 25)) 5 .u8 [128]
    rw [show (w.alloc (.cells (encL .u8 zeros32) 25)).heap.size = w.heap.size + 1 by simp] at this
    exact this
  have sS : ((w.alloc (.cells (encL .u8 zeros32) 25)).alloc (.cells #[.int .u8 128] 5)).heap.size = w.heap.size + 2 := by simp
  obtain ⟨m0, ar0, cr0, hA⟩ := h
  have HBT : Hid (∀ j, t.getD j 0 < 256) := hA.bytes
  have hh : Hash w p lo t := ⟨m0, ar0, cr0, hA⟩
  have hhS := hh.below bA
  have hTS := hT.below bA hT.1
  obtain ⟨wS, hwS⟩ : ∃ wS, wS = (w.alloc (.cells (encL .u8 zeros32) 25)).alloc (.cells #[.int .u8 128] 5) := ⟨_, rfl⟩
  have HWS : Hid (wS = (w.alloc (.cells (encL .u8 zeros32) 25)).alloc (.cells #[.int .u8 128] 5)) := hwS
  rw [← hwS] at bA HD b1 sS hhS hTS
  have HHS : Hid (Hash wS p lo t) := hhS
  have HTS : Hid (Tab wS) := hTS
  have HBA : Hid (Below w.heap.size w wS) := bA
  have hfol := followed_any wS p lo t hhS (some ⟨w.heap.size + 1, 0, none⟩) 1 1 [128] b1.row (fun h => by cases h) (by decide)
  obtain ⟨F, hF⟩ : ∃ F, F = rsN t ++ [128] := ⟨_, rfl⟩
  obtain ⟨n1, hn1⟩ : ∃ n1, n1 = F.length := ⟨_, rfl⟩
  rw [← hF, ← hn1] at hfol
  have HFOL : Hid _ := hfol
  have hn1v : n1 = t.length % 64 + 1 := by rw [hn1, hF, List.length_append, rsN_length]; rfl
  have HF : Hid (F = rsN t ++ [128]) := hF
  have HN1 : Hid (n1 = F.length ∧ n1 = t.length % 64 + 1) := ⟨hn1, hn1v⟩
  obtain ⟨T, hTl⟩ : ∃ T, T = t.length := ⟨_, rfl⟩
  have HTL : Hid (T = t.length) := hTl
  have HZ : Hid (zcN T = (119 - T % 64) % 64) := rfl
  have hTb : T ≤ 1152921504606846976 := by omega
  have hn1b : n1 ≤ 64 := by omega
  have hr1 : n1 = T % 64 + 1 := by rw [hn1v, hTl]
  have HR1 : Hid (n1 = T % 64 + 1) := hr1
  clear hfol hF hn1 hn1v hwS bA b1 hhS hTS hA hh hT hTl hr1 htl
  go_enter Tryd.func12, Tryd.ntmps12
  go_wp2_with (first
    | (refine alloc_op rfl 25 rfl _ (digAlloc _) ?_))
  rw [← HWS.out]
  refine Calls.mono HFOL.out ?_
  rintro e w2 ⟨a2, c2, rfl, hb2, -, -, -, -, hown2⟩
  have HO2 : Hid (OwnL 5 .u8 w2 wS.heap.size (.slice a2 n1 c2) F) := hown2 (by decide)
  have HB2 : Hid (Below wS.heap.size wS w2) := hb2
  clear hown2 hb2 HFOL HWS
  go_wp2_with fail
  have HF0 : Hid (F.length = n1) := HN1.out.1.symm
  go_loopw [3] (fun v wq => ∃ (wz : World) (k : Nat), wz = wq ∧ k ≤ zcN T ∧ OwnL 5 .u8 wz wS.heap.size v (F ++ List.replicate k 0) ∧ Below wS.heap.size wS wz) (fun v _ => zcN T - (lenOf v - n1))
  case atStart => exact ⟨w2, 0, rfl, Nat.zero_le _, by rw [List.replicate_zero, List.append_nil]; exact HO2.out, HB2.out⟩
  case round =>
    clear HO2 HB2
    obtain ⟨wa, k, hwa, hk, hown, hba⟩ := hrel
    subst hwa
    obtain ⟨ax, cx, hv, hrow, hcx, hpos⟩ := hown.row
    have HOWN : Hid (OwnL 5 .u8 wa wS.heap.size u3 (F ++ List.replicate k 0)) := hown
    have HBA2 : Hid (Below wS.heap.size wS wa) := hba
    have hLn : (F ++ List.replicate k 0).length = n1 + k := by rw [List.length_append, List.length_replicate, HF0.out]
    rw [hLn] at hv
    subst hv
    have hz64 : zcN T < 64 := by rw [HZ.out]; omega
    clear hrow hcx hpos hown hba
    by_cases hlt : k < zcN T
    · obtain ⟨L, hL⟩ : ∃ L, L = n1 + k := ⟨_, rfl⟩
      have ht : (((L : Int) + 8) % 64 != 0) = true := by
        have : (L + 8) % 64 ≠ 0 := by have := HR1.out; have := HZ.out; omega
        simp
        omega
      rw [← hL] at HOWN ⊢
      have HL : Hid (L = n1 + k) := hL
      have hLb : L ≤ 200 := by omega
      have hsa := HBA2.out.size
      rw [← hL] at hLn
      clear hL
      go_wp2_with (at_builtin; (refine append_num numT8 wa rfl (.tmp 24) (.tmp 25) rfl wS.heap.size (.slice ax L cx) (F ++ List.replicate k 0) rfl HOWN.out 0 (.int .u8 0) rfl wa.heap.size rfl rfl (by omega) (by unfold maxLen; omega) hsa ?_; intro v5 w5 hown5 hb5))
      obtain ⟨a5, c5, hv5, -, -, -⟩ := hown5.row
      rw [List.length_append, hLn] at hv5
      subst hv5
      go_roundw
      case rel =>
        refine ⟨w5, k + 1, rfl, by omega, ?_, HBA2.out.trans hb5⟩
        rw [List.replicate_succ', ← List.append_assoc]
        exact hown5
      case measure =>
        have := HL.out
        simp [lenOf]
        omega
    · have hkz : k = zcN T := by omega
      obtain ⟨L, hL⟩ : ∃ L, L = n1 + k := ⟨_, rfl⟩
      have ht : (((L : Int) + 8) % 64 != 0) = false := by
        have : (L + 8) % 64 = 0 := by have := HR1.out; have := HZ.out; omega
        simp
        omega
      obtain ⟨E, hE⟩ : ∃ E, E = F ++ List.replicate k 0 := ⟨_, rfl⟩
      rw [← hL] at HOWN ⊢
      rw [← hE] at HOWN
      have HE : Hid (E = F ++ List.replicate (zcN T) 0) := by rw [← hkz]; exact hE
      have HEL : Hid (E.length = L) := by unfold Hid; rw [hE, hLn, hL]
      have HL8 : Hid ((L + 8) % 64 = 0) := by unfold Hid; have := HR1.out; have := HZ.out; omega
      have hLb : L ≤ 200 := by omega
      obtain ⟨S, hS⟩ : ∃ S, S = 8 * T := ⟨_, rfl⟩
      have hSi : (8 : Int) * (T : Int) = (S : Int) := by omega
      have HS : Hid (S = 8 * T) := hS
      have hSb : S < 18446744073709551616 := by omega
      have hha := HHS.out.below HBA2.out
      have HHA : Hid (Hash wa p lo t) := hha
      have c9 : wa.cell? ⟨p, 9, none⟩ = some (.int .i64 (T : Nat)) := by
        obtain ⟨_, _, _, hx⟩ := hha
        rw [HTL.out]
        exact hx.len
      clear hL hLn hz64 hS hkz hE hlt hk hha
      go_wp2_with fail
      refine (put8 S wa hSb).mono ?_
      rintro e w3 ⟨rfl, hw3⟩
      have hb3 : Below wa.heap.size wa w3 := by rw [hw3]; exact below_new wa _
      have HBK : Hid (Blk w3 wa.heap.size 5 .u8 (beN S 8)) := by rw [hw3]; exact Blk.new wa _ _ _
      have HO3 : Hid (OwnL 5 .u8 w3 wS.heap.size (.slice ax L cx) E) := by rw [hw3]; exact HOWN.out.alloc _
      have HB3 : Hid (Below wS.heap.size wS w3) := HBA2.out.trans (hb3.mono HBA2.out.size)
      have HH3 : Hid (Hash w3 p lo t) := HHA.out.below hb3
      clear hw3 hb3 HOWN HBA2 HHA c9
      go_wp2_with fail
      refine (sofar_any w3 p lo t HH3.out (by have := HTL.out; omega)).mono ?_
      rintro e w4 ⟨rfl, hb4⟩
      obtain ⟨S0, hS0⟩ : ∃ S0, S0 = stN t := ⟨_, rfl⟩
      rw [← hS0]
      have HS0 : Hid (S0 = stN t) := hS0
      have HO4 : Hid (OwnL 5 .u8 w4 wS.heap.size (.slice ax L cx) E) := HO3.out.below' hb4
      have HB4 : Hid (Below wS.heap.size wS w4) := HB3.out.trans (hb4.mono HB3.out.size)
      have HK4 : Hid (RowL .u8 w4 (some ⟨wa.heap.size, 0, none⟩) 8 (beN S 8)) := by
        have := (HBK.out.below hb4).row
        rw [beN_length] at this
        exact this
      have hs4 := HB4.out.size
      have HEB : Hid (E.length = L) := HEL.out
      clear hS0 hb4 HO3 HB3 HBK HH3
      obtain ⟨Y, hY⟩ : ∃ Y, Y = beN S 8 := ⟨_, rfl⟩
      rw [← hY] at HK4
      have HY : Hid (Y = beN S 8) := hY
      clear hY
      go_wp2_with (at_builtin; (refine append_nums numT8 w4 rfl (.tmp 40) (.tmp 41) rfl wS.heap.size (.slice ax L cx) E Y rfl HO4.out (some ⟨wa.heap.size, 0, none⟩) 8 8 rfl HK4.out (fun h => by cases h) (by rw [HEB.out]; omega) (by rw [HEB.out]; unfold maxLen; omega) hs4 ?_; intro v5 w5 hown5 hb5))
      obtain ⟨a5, c5, hv5, hrow5, hnil5, hcap5, hcm5, -⟩ := hown5.form2
      obtain ⟨G, hG⟩ : ∃ G, G = E ++ Y := ⟨_, rfl⟩
      obtain ⟨n5, hn5⟩ : ∃ n5, n5 = G.length := ⟨_, rfl⟩
      rw [← hG, ← hn5] at hv5 hrow5 hnil5 hcap5
      subst hv5
      have HG : Hid (G = rsN t ++ padN t.length) := by
        unfold Hid
        rw [hG, HE.out, HF.out, HY.out, HS.out, HTL.out, pad_be]
        simp only [List.append_assoc]
      have HGB : Hid (∀ j, G.getD j 0 < 256) := by
        rw [HG.out]
        refine bytes_append (bytes_rest HBT.out) ?_
        have := padded_lt t HBT.out
        intro j
        have := this (t.length + j)
        rw [List.getD_eq_getElem?_getD, List.getElem?_append_right (by omega), ← List.getD_eq_getElem?_getD, show t.length + j - t.length = j by omega] at this
        exact this
      have HN5 : Hid (n5 = (rsN t ++ padN t.length).length) := by unfold Hid; rw [hn5, HG.out]
      have HB5 : Hid (Below wS.heap.size wS w5) := HB4.out.trans hb5
      have HMIX : Hid _ := mixAll_any S0 a5 n5 c5 G w5 (HTS.out.below HB5.out HTS.out.1) (by rw [HS0.out]; exact stN_length t) (by rw [HS0.out]; exact stN_lt t) hrow5 HGB.out hnil5 hcap5 hcm5
      obtain ⟨W6, hW6⟩ : ∃ W6, W6 = blks factorsN S0 G (n5 / 64) := ⟨_, rfl⟩
      obtain ⟨n6, hn6⟩ : ∃ n6, n6 = n5 % 64 := ⟨_, rfl⟩
      rw [← hW6, ← hn6] at HMIX
      have HW6 : Hid (W6.length = 8 ∧ ∀ j, W6.getD j 0 < 4294967296) := by
        rw [hW6, HS0.out]
        exact ⟨blks_length _ _ _ (stN_length t) _, blks_lt _ _ _ (stN_lt t) _⟩
      have HSHA : Hid (shaN t = outN W6 32) := by
        unfold Hid
        rw [shaN_end, hW6, HS0.out, HG.out, HN5.out]
      clear hG hn5 hrow5 hnil5 hcap5 hcm5 hown5 hb5 hW6 hn6 HO4 HB4 HK4 HE HEL HEB HL8 HS HTL HN1 HF HF0 HZ HR1 HGB HN5 HG HY HS0
      go_wp2_with fail
      refine Calls.mono HMIX.out ?_
      rintro e w6 ⟨a6, c6, rfl, -, -, -, -, hb6⟩
      clear HMIX
      have HB6 : Hid (Below wS.heap.size wS w6) := HB5.out.trans (hb6.mono HB5.out.size)
      have HD6 : Hid (Blk w6 w.heap.size 25 .u8 zeros32) := HD.out.below HB6.out
      have hsz6 : w.heap.size < w6.heap.size := HD6.out.lt
      clear hb6 HB5 HD
      -- the words' own array, and the digest's
      have HAL : Hid _ := alloc8 w6
      have bG : Blk (w6.alloc (.cells (encL .u32 nil8) 48)) w6.heap.size 48 .u32 nil8 := Blk.new w6 _ _ _
      have HST7 : Hid ((storeVar 48 ⟨w6.heap.size, 0, none⟩ (.agg (encL .u32 W6))).run Tryd.prog (w6.alloc (.cells (encL .u32 nil8) 48)) = .ok () ((w6.alloc (.cells (encL .u32 nil8) 48)).setRow w6.heap.size (encL .u32 W6))) := bG.store wordsT rfl HW6.out.1
      have b67 : Below w6.heap.size w6 ((w6.alloc (.cells (encL .u32 nil8) 48)).setRow w6.heap.size (encL .u32 W6)) := below_setRow (below_new w6 _) (Nat.le_refl _) _
      have bG7 : Blk ((w6.alloc (.cells (encL .u32 nil8) 48)).setRow w6.heap.size (encL .u32 W6)) w6.heap.size 48 .u32 W6 := bG.setRow W6
      have s7 : ((w6.alloc (.cells (encL .u32 nil8) 48)).setRow w6.heap.size (encL .u32 W6)).heap.size = w6.heap.size + 1 := by simp [World.setRow]
      obtain ⟨w7, hw7⟩ : ∃ w7, w7 = (w6.alloc (.cells (encL .u32 nil8) 48)).setRow w6.heap.size (encL .u32 W6) := ⟨_, rfl⟩
      rw [← hw7] at HST7 b67 bG7 s7
      have HAD : Hid ((Instr.alloc 25 true (.tuple #[])).run Tryd.prog w7 = .ok (.pointer (some ⟨w7.heap.size, 0, none⟩)) (w7.alloc (.cells (encL .u8 zeros32) 25))) := digAlloc w7
      have HLD : Hid ((loadVar 48 ⟨w6.heap.size, 0, none⟩).run Tryd.prog (w7.alloc (.cells (encL .u8 zeros32) 25)) = .ok (.agg (encL .u32 W6)) (w7.alloc (.cells (encL .u8 zeros32) 25))) := (bG7.alloc _).load wordsT HW6.out.1
      have HB7 : Hid (Below w6.heap.size w6 w7) := b67
      clear hw7 bG bG7 b67
      go_wp2_with (first
        | (refine alloc_op rfl 48 rfl _ HAL.out ?_)
        | (refine store_op rfl 48 (.tmp 6) (.tmp 44) rfl ⟨w6.heap.size, 0, none⟩ rfl _ rfl HST7.out ?_)
        | (refine alloc_op rfl 25 rfl _ HAD.out ?_)
        | (refine load_op rfl 48 (.tmp 6) rfl ⟨w6.heap.size, 0, none⟩ rfl _ HLD.out ?_))
      have HBD : Hid (Blk (w7.alloc (.cells (encL .u8 zeros32) 25)) (w6.heap.size + 1) 25 .u8 zeros32) := by
        rw [← s7]
        exact Blk.new w7 _ _ _
      have HB8 : Hid (Below (w6.heap.size + 1) w7 (w7.alloc (.cells (encL .u8 zeros32) 25))) := by
        rw [← s7]
        exact below_new w7 _
      generalize w7.alloc (.cells (encL .u8 zeros32) 25) = w8 at *
      clear HAL HST7 HAD HLD ht hSi
      go_loopw [47] (fun ix wq => ∃ (wz : World) (i : Nat) (M : List Nat), wz = wq ∧ i ≤ 8 ∧ ix = .int .i64 i ∧ M.length = 32 ∧ M.take (4 * i) = outN W6 (4 * i) ∧ Blk wz (w6.heap.size + 1) 25 .u8 M ∧ Below (w6.heap.size + 1) w7 wz) (fun ix _ => 8 - (intOf ix).toNat)
      case atStart => exact ⟨w8, 0, zeros32, rfl, by omega, rfl, rfl, rfl, HBD.out, HB8.out⟩
      case round =>
        clear HBD HB8
        obtain ⟨wb, i, M, hwb, hi, rfl, hMl, hMt, hbd, hbn⟩ := hrel
        subst hwb
        have HM : Hid (M.length = 32 ∧ M.take (4 * i) = outN W6 (4 * i)) := ⟨hMl, hMt⟩
        have HBD : Hid (Blk wb (w6.heap.size + 1) 25 .u8 M) := hbd
        have HBN : Hid (Below (w6.heap.size + 1) w7 wb) := hbn
        clear hMl hMt hbd hbn
        by_cases hlt : i < 8
        · have hix : ∀ W, Sem.run Tryd.prog (Instr.index 48 (.agg (encL .u32 W6)) (.int .i64 (i : Nat))) W = .ok (.int .u32 (W6.getD i 0 : Nat)) W := index_any nums8 .u32 W6 HW6.out.1 i hlt
          have bx := HW6.out.2 i
          have HNX : Hid (outN W6 (4 * (i + 1)) = outN W6 (4 * i) ++ beN (W6.getD i 0) 4) := out_four W6 i
          generalize W6.getD i 0 = X at *
          have i1 : (i : Int) < 8 := by omega
          have i2 : (4 : Int) * (i : Int) ≤ 32 := by omega
          have i3 : (4 : Int) * (i : Int) < 32 := by omega
          go_wp2_with fail
          refine (put4 X wb bx).mono ?_
          rintro e w9 ⟨rfl, hw9⟩
          have HBK : Hid (Blk w9 wb.heap.size 5 .u8 (beN X 4)) := by rw [hw9]; exact Blk.new wb _ _ _
          have HBD9 : Hid (Blk w9 (w6.heap.size + 1) 25 .u8 M) := by rw [hw9]; exact HBD.out.alloc _
          have HBN9 : Hid (Below (w6.heap.size + 1) w7 w9) := by rw [hw9]; exact Below.alloc HBN.out (Nat.le_of_lt HBD.out.lt) _
          have HYL : Hid ((beN X 4).length = 4) := beN_length _ _
          clear hw9 HBD HBN
          generalize beN X 4 = Y4 at *
          obtain ⟨r, hr⟩ : ∃ r, r = 32 - 4 * i := ⟨_, rfl⟩
          have hsl : ∀ W, (Instr.sliceAt 25 (.pointer (some ⟨w6.heap.size + 1, 0, none⟩)) (some (.int .i64 (4 * (i : Int)))) none none).run Tryd.prog W = .ok (.slice (some ⟨w6.heap.size + 1, 4 * i, none⟩) r r) W := fun W => by rw [hr]; exact slice_digest _ i hlt W
          have hr4 : 4 ≤ r := by omega
          have HML : Hid (4 * i + 4 ≤ M.length) := by unfold Hid; rw [HM.out.1]; omega
          obtain ⟨M2, hM2⟩ : ∃ M2, M2 = M.take (4 * i) ++ (Y4 ++ M.drop (4 * i + 4)) := ⟨_, rfl⟩
          have HM2 : Hid (M2.length = 32 ∧ M2.take (4 * (i + 1)) = outN W6 (4 * (i + 1))) := by
            constructor
            · rw [hM2, splice_len M Y4 (4 * i) 4 HYL.out HML.out]; exact HM.out.1
            · rw [hM2, show 4 * (i + 1) = 4 * i + 4 by omega, splice_take M Y4 (4 * i) 4 HYL.out HML.out, HM.out.2, ← HNX.out]
              rfl
          have HW : Hid (M2 = M.take (4 * i) ++ (Y4 ++ M.drop (4 * i + 4))) := hM2
          clear hr hM2
          go_wp2_with (first
            | ((refine copy_op rfl (.tmp 59) (.tmp 60) rfl (w6.heap.size + 1) (4 * i) r r wb.heap.size 4 4 rfl rfl hr4 25 5 M Y4 HBD9.out HBK.out HYL.out HML.out M2 HW.out ?_)))
          go_roundw
          case rel => exact ⟨_, i + 1, M2, rfl, by omega, by go_num, HM2.out.1, HM2.out.2, HBD9.out.setRow M2, below_setRow HBN9.out (Nat.le_refl _) _⟩
          case measure => simp [intOf]; omega
        · have e8 : i = 8 := by omega
          have hge : ¬ (i : Int) < 8 := by omega
          have HMS : Hid (M = shaN t) := by
            have := HM.out.2
            rw [e8, show 4 * 8 = 32 from rfl, List.take_of_length_le (by rw [HM.out.1]; exact Nat.le_refl _)] at this
            rw [HSHA.out]
            exact this
          have HML : Hid (M.length = 32) := HM.out.1
          have HLD : Hid ((loadVar 25 ⟨w6.heap.size + 1, 0, none⟩).run Tryd.prog wb = .ok (.agg (encL .u8 M)) wb) := HBD.out.load digT HM.out.1
          have hb7 : Below w6.heap.size w6 wb := HB7.out.trans (HBN.out.mono (by omega))
          have HR : Hid (Blk wb w.heap.size 25 .u8 zeros32) := HD6.out.below hb7
          have HST : Hid ((storeVar 25 ⟨w.heap.size, 0, none⟩ (.agg (encL .u8 M))).run Tryd.prog wb = .ok () (wb.setRow w.heap.size (encL .u8 M))) := HR.out.store digT rfl HM.out.1
          have HBE : Hid (Below w.heap.size w wb) := (HBA.out.trans (HB6.out.mono HBA.out.size)).trans (hb7.mono (by omega))
          clear e8 hb7
          go_wp2_with (first
            | (refine load_op rfl 25 (.tmp 8) rfl ⟨w6.heap.size + 1, 0, none⟩ rfl _ HLD.out ?_)
            | (refine store_op rfl 25 (.tmp 2) (.tmp 63) rfl ⟨w.heap.size, 0, none⟩ rfl _ rfl HST.out ?_))
          refine bodyPost_ret (v := .agg (encL .u8 M)) ?_ rfl ⟨by rw [HMS.out], below_setRow HBE.out (Nat.le_refl _) _⟩
          rw [results_cell rfl]
          exact (HR.out.setRow M).load digT HML.out
end Go.Proofs.YtmaaakcfbekboaaDoor
