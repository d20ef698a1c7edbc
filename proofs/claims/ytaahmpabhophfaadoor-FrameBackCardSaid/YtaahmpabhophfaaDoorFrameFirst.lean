/-
  The landed frame's First (and what it looks inside by) and the document's, as one function of the bytes.
-/
import Derived.Test.YtaahmpabhophfaaDoorFramePut
import Derived.Test.YtaahmpabhophfaaDoorHeld
namespace Go.Proofs.YtaahmpabhophfaaDoor
open Go.ChangeShapes Go.WideShapes Go.ChangeAt Go.RowKit
set_option linter.unusedVariables false
set_option linter.unusedSimpArgs false
theorem RowL.part {k : IntKind} {w : World} {b off len : Nat} {xs : List Nat} (h : RowL k w (some ⟨b, off, none⟩) len xs) (i n : Nat) (hi : i + n ≤ len) : RowL k w (some ⟨b, off + i, none⟩) n ((xs.drop i).take n) := by
  have hl := h.1
  refine ⟨by simp; omega, ?_⟩
  rcases h.2 with h0 | ⟨b', off', e, hlt, hc⟩
  · exact .inl (by omega)
  · cases e
    refine .inr ⟨b, off + i, rfl, hlt, fun j hj => ?_⟩
    rw [Nat.add_assoc, hc (i + j) (by omega)]
    congr 3
    have h1 : i + j < xs.length := by omega
    simp [List.getD, hj, h1]
theorem drop_take_byt (xs : List Nat) (h : ∀ c ∈ xs, c < 256) (i n : Nat) : ∀ c ∈ (xs.drop i).take n, c < 256 := fun c hc => h c (List.mem_of_mem_drop (List.mem_of_mem_take hc))
theorem val4_lt (xs : List Nat) (h : ∀ c ∈ xs, c < 256) : val4 xs < 4294967296 := by
  have h0 := getD_lt xs h 0
  have h1 := getD_lt xs h 1
  have h2 := getD_lt xs h 2
  have h3 := getD_lt xs h 3
  unfold val4
  omega
theorem bytL_nil (w : World) : BytL w none 0 0 [] := ⟨⟨rfl, .inl rfl⟩, fun _ => ⟨rfl, rfl⟩, fun c hc => by simp at hc, Nat.le_refl _, Nat.zero_le _⟩
set_option maxHeartbeats 800000 in
set_option maxRecDepth 100000 in
theorem inside_any (a : Option Addr) (len cap : Nat) (xs : List Nat) (w : World) (hA : BytL w a len cap xs) (hT : HalfTab w) :
    Calls Tryd.prog 20 #[.slice a len cap] w fun e w' => ∃ ai li ci, e = .returned (.tuple #[.slice ai li ci, .int .i64 ((firstN crcN xs).2.2 : Nat)]) ∧ BytL w' ai li ci (firstN crcN xs).1 ∧ Below w.heap.size w w' := by
  obtain ⟨hr, hn, hb, hcl, hcm⟩ := hA
  have hl := hr.1
  unfold maxLen at hcm
  by_cases h8 : len < 8
  · have i8 : (len : Int) < 8 := by omega
    have HF : Hid (firstN crcN xs = ([], 0, 3)) := by unfold Hid firstN; rw [if_pos (by omega)]
    go_enter Tryd.func20, Tryd.ntmps20
    go_wp2
    go_ret2
    rw [HF.out]
    exact ⟨none, 0, 0, rfl, bytL_nil w, Below.refl _ _⟩
  · have i8 : ¬ (len : Int) < 8 := by omega
    obtain ⟨b, off, rfl, hlt, -⟩ := hr.at 0 (by omega)
    have hg4 : RowL .u8 w (some ⟨b, off, none⟩) 4 (xs.take 4) := by have := hr.part 0 4 (by omega); simpa using this
    have hv := val4_lt (xs.take 4) (fun c hc => hb c (List.mem_of_mem_take hc))
    obtain ⟨n, hnv⟩ : ∃ n, n = val4 (xs.take 4) := ⟨_, rfl⟩
    rw [← hnv] at hv
    have hG : Hid _ := get4_any b off cap (xs.take 4) w hg4 (fun c hc => hb c (List.mem_of_mem_take hc))
    rw [← hnv] at hG
    have HNV : Hid (val4 (xs.take 4) = n) := hnv.symm
    clear hnv
    by_cases hbig : 16384 < n
    · have HF : Hid (firstN crcN xs = ([], 0, 2)) := by unfold Hid firstN; rw [if_neg (by omega), if_pos (by rw [HNV.out]; omega)]
      go_enter Tryd.func20, Tryd.ntmps20
      go_wp2_with fail
      refine Calls.mono hG.out ?_
      rintro e w1 ⟨rfl, rfl⟩
      go_wp2_with fail
      go_ret2
      rw [HF.out]
      exact ⟨none, 0, 0, rfl, bytL_nil _, Below.refl _ _⟩
    · by_cases hsh : len - 8 < n
      · have HF : Hid (firstN crcN xs = ([], 0, 3)) := by unfold Hid firstN; rw [if_neg (by omega), if_neg (by rw [HNV.out]; omega), if_pos (by rw [HNV.out]; omega)]
        go_enter Tryd.func20, Tryd.ntmps20
        go_wp2_with fail
        refine Calls.mono hG.out ?_
        rintro e w1 ⟨rfl, rfl⟩
        go_wp2_with fail
        go_ret2
        rw [HF.out]
        exact ⟨none, 0, 0, rfl, bytL_nil _, Below.refl _ _⟩
      · obtain ⟨ys, hys⟩ : ∃ ys, ys = (xs.drop 8).take n := ⟨_, rfl⟩
        have HF : Hid (firstN crcN xs = if be4 (crcN ys) = (xs.drop 4).take 4 then (ys, 8 + n, 0) else ([], 0, 2)) := by
          unfold Hid firstN
          rw [if_neg (by omega), if_neg (by rw [HNV.out]; omega), if_neg (by rw [HNV.out]; omega), HNV.out, hys]
        have HYB : Hid (∀ c ∈ ys, c < 256) := by rw [hys]; exact drop_take_byt xs hb 8 n
        have HYR : Hid (RowL .u8 w (some ⟨b, off + 8, none⟩) n ys) := by rw [hys]; exact hr.part 8 n (by omega)
        have HR4 : Hid (RowL .u8 w (some ⟨b, off + 4, none⟩) 4 ((xs.drop 4).take 4)) := hr.part 4 4 (by omega)
        have i1 : ¬ (16384 : Int) < (n : Int) := by omega
        have i2 : ¬ (len : Int) - 8 < (n : Int) := by omega
        clear hys HNV hg4 hr hlt
        by_cases h0 : cap = 8
        · subst h0
          obtain rfl : n = 0 := by omega
          have RROW : Hid (RowL .u8 w (some ⟨b, off, none⟩) 0 ys) := ⟨HYR.out.1, .inl rfl⟩
          go_enter Tryd.func20, Tryd.ntmps20
          go_wp2_with fail
          refine Calls.mono hG.out ?_
          rintro e w1 ⟨rfl, rfl⟩
          go_wp2_with fail
          refine wp_region_held_drew (S := fun w' => Below w1.heap.size w1 w') (by kernel_rfl) ((Below.refl _ _).drew) (fun hHeld => ?_)
          clear hG
          refine held_take 0 (some 29) (.slice (some ⟨b, off, none⟩) len 8) rfl rfl (by kernel_rfl) (by kernel_rfl) (by kernel_rfl) (fun _ _ _ h => h) rfl (fun w' hS => ?_) hHeld ?_
          · clear hS; go_simp
          try simp only [Act.put, List.setIfInBounds_toArray, List.set_cons_zero, List.set_cons_succ]
          refine held_take 1 (some 30) (.slice (some ⟨b, off + 4, none⟩) 4 4) rfl rfl (by kernel_rfl) (by kernel_rfl) (by kernel_rfl) (fun _ _ _ h => h) rfl (fun w' hS => ?_) hHeld ?_
          · clear hS; go_simp
          try simp only [Act.put, List.setIfInBounds_toArray, List.set_cons_zero, List.set_cons_succ]
          refine held_take 2 (some 31) (.slice (some ⟨b, off, none⟩) 0 0) rfl rfl (by kernel_rfl) (by kernel_rfl) (by kernel_rfl) (fun _ _ _ h => h) rfl (fun w' hS => ?_) hHeld ?_
          · clear hS; go_simp
          try simp only [Act.put, List.setIfInBounds_toArray, List.set_cons_zero, List.set_cons_succ]
          refine held_one (i := 3) (by kernel_rfl) rfl rfl (fun K hK => ?_)
          go_simp
          refine Calls.mono (fsum_any (some ⟨b, off, none⟩) 0 0 ys _ (RROW.out.below hHeld) (by unfold maxLen; omega) HYB.out (hT.below hHeld)) ?_
          rintro _ w3 ⟨g2, rfl, hg2, hblk, hb3⟩
          dsimp only
          have hH3 : Below w1.heap.size w1 w3 := hHeld.trans (hb3.mono hHeld.size)
          have HBLK : Hid (Blk w3 g2 5 .u8 (be4 (crcN ys))) := hblk
          refine hK.out _ _ hH3 ?_
          clear hK K hb3 hblk
          try simp only [Act.put, List.setIfInBounds_toArray, List.set_cons_zero, List.set_cons_succ]
          refine held_one (i := 4) (by kernel_rfl) rfl rfl (fun K hK => ?_)
          go_simp
          refine Calls.mono (equal_any b (off + 4) g2 0 4 4 4 _ _ _ (by omega) (HR4.out.below hH3) HBLK.out.row) ?_
          rintro _ w4 ⟨rfl, q, hq⟩
          dsimp only
          have hH4 : Below w1.heap.size w1 w4 := by rw [hq]; exact below_drew hH3 q
          refine hK.out _ _ hH4 ?_
          clear hK K hq hH3
          try simp only [Act.put, List.setIfInBounds_toArray, List.set_cons_zero, List.set_cons_succ]
          by_cases hd : (xs.drop 4).take 4 = be4 (crcN ys)
          · rw [decide_eq_true hd]
            rw [if_pos hd.symm] at HF
            clear hd
            refine held_take 5 (some 34) (.bool false) rfl rfl (by kernel_rfl) (by kernel_rfl) (by kernel_rfl) (fun _ _ _ h => h) rfl (fun w' hS => ?_) hH4 ?_
            · clear hS; go_simp
            try simp only [Act.put, List.setIfInBounds_toArray, List.set_cons_zero, List.set_cons_succ]
            refine wpAnyH_done (by kernel_rfl) ?_ _
            have HBE : Hid (Below w1.heap.size w1 w4) := hH4
            clear hH4
            go_wp2
            go_ret2
            rw [HF.out]
            exact ⟨some ⟨b, off, none⟩, 0, 0, rfl, ⟨RROW.out.below HBE.out, (fun h => by cases h), HYB.out, by omega, by unfold maxLen; omega⟩, HBE.out⟩
          · rw [decide_eq_false hd]
            rw [if_neg (fun h => hd h.symm)] at HF
            clear hd
            refine held_take 5 (some 34) (.bool true) rfl rfl (by kernel_rfl) (by kernel_rfl) (by kernel_rfl) (fun _ _ _ h => h) rfl (fun w' hS => ?_) hH4 ?_
            · clear hS; go_simp
            try simp only [Act.put, List.setIfInBounds_toArray, List.set_cons_zero, List.set_cons_succ]
            refine wpAnyH_done (by kernel_rfl) ?_ _
            have HBE : Hid (Below w1.heap.size w1 w4) := hH4
            clear hH4
            go_wp2
            go_ret2
            rw [HF.out]
            exact ⟨none, 0, 0, rfl, bytL_nil _, HBE.out⟩
        · have e8 : 8 + n - 8 = n := by omega
          have c8 : (8 : Int) ≤ (cap : Int) := by omega
          have c4 : ¬ cap = 4 := by omega
          have RROW : Hid (RowL .u8 w (some ⟨b, off + 8, none⟩) n ys) := HYR.out
          go_enter Tryd.func20, Tryd.ntmps20
          go_wp2_with fail
          refine Calls.mono hG.out ?_
          rintro e w1 ⟨rfl, rfl⟩
          go_wp2_with fail
          refine wp_region_held_drew (S := fun w' => Below w1.heap.size w1 w') (by kernel_rfl) ((Below.refl _ _).drew) (fun hHeld => ?_)
          clear hG
          refine held_take 0 (some 29) (.slice (some ⟨b, off, none⟩) len cap) rfl rfl (by kernel_rfl) (by kernel_rfl) (by kernel_rfl) (fun _ _ _ h => h) rfl (fun w' hS => ?_) hHeld ?_
          · clear hS; go_simp
          try simp only [Act.put, List.setIfInBounds_toArray, List.set_cons_zero, List.set_cons_succ]
          refine held_take 1 (some 30) (.slice (some ⟨b, off + 4, none⟩) 4 (cap - 4)) rfl rfl (by kernel_rfl) (by kernel_rfl) (by kernel_rfl) (fun _ _ _ h => h) rfl (fun w' hS => ?_) hHeld ?_
          · clear hS; go_simp
          try simp only [Act.put, List.setIfInBounds_toArray, List.set_cons_zero, List.set_cons_succ]
          refine held_take 2 (some 31) (.slice (some ⟨b, off + 8, none⟩) n (cap - 8)) rfl rfl (by kernel_rfl) (by kernel_rfl) (by kernel_rfl) (fun _ _ _ h => h) rfl (fun w' hS => ?_) hHeld ?_
          · clear hS; go_simp
          try simp only [Act.put, List.setIfInBounds_toArray, List.set_cons_zero, List.set_cons_succ]
          refine held_one (i := 3) (by kernel_rfl) rfl rfl (fun K hK => ?_)
          go_simp
          refine Calls.mono (fsum_any (some ⟨b, off + 8, none⟩) n (cap - 8) ys _ (RROW.out.below hHeld) (by unfold maxLen; omega) HYB.out (hT.below hHeld)) ?_
          rintro _ w3 ⟨g2, rfl, hg2, hblk, hb3⟩
          dsimp only
          have hH3 : Below w1.heap.size w1 w3 := hHeld.trans (hb3.mono hHeld.size)
          have HBLK : Hid (Blk w3 g2 5 .u8 (be4 (crcN ys))) := hblk
          refine hK.out _ _ hH3 ?_
          clear hK K hb3 hblk
          try simp only [Act.put, List.setIfInBounds_toArray, List.set_cons_zero, List.set_cons_succ]
          refine held_one (i := 4) (by kernel_rfl) rfl rfl (fun K hK => ?_)
          go_simp
          refine Calls.mono (equal_any b (off + 4) g2 0 4 (cap - 4) 4 _ _ _ (by omega) (HR4.out.below hH3) HBLK.out.row) ?_
          rintro _ w4 ⟨rfl, q, hq⟩
          dsimp only
          have hH4 : Below w1.heap.size w1 w4 := by rw [hq]; exact below_drew hH3 q
          refine hK.out _ _ hH4 ?_
          clear hK K hq hH3
          try simp only [Act.put, List.setIfInBounds_toArray, List.set_cons_zero, List.set_cons_succ]
          by_cases hd : (xs.drop 4).take 4 = be4 (crcN ys)
          · rw [decide_eq_true hd]
            rw [if_pos hd.symm] at HF
            clear hd
            refine held_take 5 (some 34) (.bool false) rfl rfl (by kernel_rfl) (by kernel_rfl) (by kernel_rfl) (fun _ _ _ h => h) rfl (fun w' hS => ?_) hH4 ?_
            · clear hS; go_simp
            try simp only [Act.put, List.setIfInBounds_toArray, List.set_cons_zero, List.set_cons_succ]
            refine wpAnyH_done (by kernel_rfl) ?_ _
            have HBE : Hid (Below w1.heap.size w1 w4) := hH4
            clear hH4
            go_wp2
            go_ret2
            rw [HF.out]
            exact ⟨some ⟨b, off + 8, none⟩, n, (cap - 8), rfl, ⟨RROW.out.below HBE.out, (fun h => by cases h), HYB.out, by omega, by unfold maxLen; omega⟩, HBE.out⟩
          · rw [decide_eq_false hd]
            rw [if_neg (fun h => hd h.symm)] at HF
            clear hd
            refine held_take 5 (some 34) (.bool true) rfl rfl (by kernel_rfl) (by kernel_rfl) (by kernel_rfl) (fun _ _ _ h => h) rfl (fun w' hS => ?_) hH4 ?_
            · clear hS; go_simp
            try simp only [Act.put, List.setIfInBounds_toArray, List.set_cons_zero, List.set_cons_succ]
            refine wpAnyH_done (by kernel_rfl) ?_ _
            have HBE : Hid (Below w1.heap.size w1 w4) := hH4
            clear hH4
            go_wp2
            go_ret2
            rw [HF.out]
            exact ⟨none, 0, 0, rfl, bytL_nil _, HBE.out⟩
end Go.Proofs.YtaahmpabhophfaaDoor
