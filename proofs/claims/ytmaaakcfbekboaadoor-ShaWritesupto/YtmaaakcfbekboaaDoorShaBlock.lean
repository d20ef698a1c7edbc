/-
  'turn' and 'block' of the document's answer: the plain functions of words.
-/
import Derived.Test.YtmaaakcfbekboaaDoorShaSpec
import Derived.Test.YtmaaakcfbekboaaDoorOwn
import Derived.BigRegion
import Derived.Deep.RegionHeld3
namespace Go.Proofs.YtmaaakcfbekboaaDoor
open Go.ChangeShapes Go.WideShapes Go.ChangeAt Go.RowKit
set_option linter.unusedVariables false
set_option linter.unusedSimpArgs false
theorem rturn_any (X n : Nat) (w : World) (hX : X < 4294967296) (h0 : 0 < n) (h1 : n < 32) :
    Calls Tryd.prog 23 #[.int .u32 X, .int .u64 n] w fun e w' => e = .returned (.int .u32 (trn X n : Nat)) ∧ w' = w := by
  obtain ⟨m, hm⟩ : ∃ m : Nat, (32 : Int) - (n : Int) = (m : Int) ∧ m = 32 - n := ⟨32 - n, by omega, rfl⟩
  have hmi := hm.1
  have HM : Hid (m = 32 - n) := hm.2
  have hm32 : m < 32 := by omega
  have hv : bits .or .u32 ((X : Int) / 2 ^ n) ((X : Int) * 2 ^ m % 4294967296) = ((trn X n : Nat) : Int) := by
    have e1 : (X : Int) / 2 ^ n = ((X / 2 ^ n : Nat) : Int) := by simp
    have e2 : (X : Int) * 2 ^ m % 4294967296 = ((X * 2 ^ m % 4294967296 : Nat) : Int) := by simp
    rw [e1, e2, u32_or_nat _ _ (Nat.lt_of_le_of_lt (Nat.div_le_self _ _) hX) (Nat.mod_lt _ (by decide)), hm.2]
    rfl
  clear hm
  go_enter Tryd.func23, Tryd.ntmps23
  go_wp2
  go_ret
  exact ⟨rfl, rfl⟩
theorem numT32 : NumT 41 42 .u32 4 := ⟨by kernel_rfl, Tryd.underlying41⟩
theorem make_num {e s : TypeId} {k : IntKind} {by' : Nat} (ht : NumT s e k by') (w : World) (n : Nat) (h : n ≤ 1000) (hby : by' ≤ 8) :
    Sem.run Tryd.prog (Instr.makeSlice s (Value.int IntKind.i64 n) (Value.int IntKind.i64 n)) w = .ok (.slice (some ⟨w.heap.size, 0, none⟩) n n) (w.alloc (.cells (encL k (List.replicate n 0)) e)) := by
  obtain ⟨i0, hi, hz0, hz1, hz2⟩ := info_parts ht.1
  have := run_make (P := Tryd.prog) w s e i0 (.int k 0) ht.2 hi hz0 .i64 .i64 n n (by omega) (by omega) (by
    rw [hz2]
    have h1 : by' * n ≤ 8 * 1000 := Nat.mul_le_mul hby h
    have h2 : (by' : Int) * (n : Int) = ((by' * n : Nat) : Int) := by simp
    have h3 : n * by' = by' * n := Nat.mul_comm _ _
    omega) (by omega)
  rw [this, hz1]
  congr 3
  apply Array.toList_inj.1
  simp only [Int.toNat_natCast, Nat.mul_one]
  exact (toList_madeCells_one _ _).trans (by simp [encL])
theorem take_set (M : List Nat) (i x : Nat) (h : i < M.length) : (M.set i x).take (i + 1) = M.take i ++ [x] := by
  rw [List.take_succ_eq_append_getElem (by simpa using h)]
  simp [List.take_set_of_le]
theorem getD_take (M : List Nat) (i j : Nat) (h : j < i) : M.getD j 0 = (M.take i).getD j 0 := by
  simp [List.getD, h]
theorem be4_word (c0 c1 c2 c3 : Nat) (h0 : c0 < 256) (h1 : c1 < 256) (h2 : c2 < 256) (h3 : c3 < 256) :
    bits .or .u32 (bits .or .u32 (bits .or .u32 ((c0 : Int) * 16777216) ((c1 : Int) * 65536)) ((c2 : Int) * 256)) (c3 : Int) = ((((c0 * 16777216 ||| c1 * 65536) ||| c2 * 256) ||| c3 : Nat) : Int) := by
  have q1 : bits .or .u32 ((c0 : Int) * 16777216) ((c1 : Int) * 65536) = ((c0 * 16777216 ||| c1 * 65536 : Nat) : Int) := by
    have := wor (c0 * 16777216) (c1 * 65536) (by omega) (by omega)
    simpa using this
  have l1 : c0 * 16777216 ||| c1 * 65536 < 4294967296 := or_lt (by omega) (by omega)
  have q2 : bits .or .u32 ((c0 * 16777216 ||| c1 * 65536 : Nat) : Int) ((c2 : Int) * 256) = (((c0 * 16777216 ||| c1 * 65536) ||| c2 * 256 : Nat) : Int) := by
    have := wor (c0 * 16777216 ||| c1 * 65536) (c2 * 256) l1 (by omega)
    simpa using this
  rw [q1, q2]
  exact wor _ c3 (or_lt l1 (by omega)) (by omega)
set_option maxRecDepth 100000 in
set_option maxHeartbeats 8000000 in
theorem block_any (ah ak ab : Option Addr) (ch ck cb : Nat) (H K Bs : List Nat) (w : World) (hH : RowL .u32 w ah 8 H) (hK : RowL .u32 w ak 64 K) (hB : RowL .u8 w ab 64 Bs)
    (bH : ∀ j, H.getD j 0 < 4294967296) (bK : ∀ j, K.getD j 0 < 4294967296) (bB : ∀ j, Bs.getD j 0 < 256) :
    Calls Tryd.prog 17 #[.slice ah 8 ch, .slice ak 64 ck, .slice ab 64 cb] w fun e w' => ∃ g cap, e = .returned (.slice (some ⟨g, 0, none⟩) 8 cap) ∧ w.heap.size ≤ g ∧ RowL .u32 w' (some ⟨g, 0, none⟩) 8 (blockN K H Bs) ∧ Below w.heap.size w w' := by
  obtain ⟨bh, oh, rfl, hbh, hch⟩ := RowL.at hH 0 (by decide)
  obtain ⟨bk, ok, rfl, hbk, hck⟩ := RowL.at hK 0 (by decide)
  obtain ⟨bb, ob, rfl, hbb, hcb⟩ := RowL.at hB 0 (by decide)
  have HRH : Hid (RowL .u32 w (some ⟨bh, oh, none⟩) 8 H) := hH
  have HCH : Hid (bh < w.heap.size ∧ ∀ j, j < 8 → w.cell? ⟨bh, oh + j, none⟩ = some (.int .u32 (H.getD j 0 : Nat))) := ⟨hbh, hch⟩
  have HCK : Hid (bk < w.heap.size ∧ ∀ j, j < 64 → w.cell? ⟨bk, ok + j, none⟩ = some (.int .u32 (K.getD j 0 : Nat))) := ⟨hbk, hck⟩
  have HCB : Hid (bb < w.heap.size ∧ ∀ j, j < 64 → w.cell? ⟨bb, ob + j, none⟩ = some (.int .u8 (Bs.getD j 0 : Nat))) := ⟨hbb, hcb⟩
  have HBH : Hid (∀ j, H.getD j 0 < 4294967296) := bH
  have HBK : Hid (∀ j, K.getD j 0 < 4294967296) := bK
  have HBB : Hid (∀ j, Bs.getD j 0 < 256) := bB
  have hmk := make_num numT32 w 64 (by decide) (by decide)
  simp only [Int.cast_ofNat_Int] at hmk
  have HSL : Hid (∀ i j, (sch Bs i).getD j 0 < 4294967296) := sch_lt Bs bB
  clear hH hK hB hbh hbk hbb hch hck hcb bH bK bB
  go_enter Tryd.func17, Tryd.ntmps17
  go_wp2
  clear hmk
  go_loopw [8] (fun ix wr => ∃ (wz : World) (i : Nat) (M : List Nat), wz = wr ∧ i ≤ 16 ∧ ix = .int .i64 i ∧ M.length = 64 ∧ M.take i = sch Bs i ∧ Blk wz w.heap.size 42 .u32 M ∧ Below w.heap.size w wz) (fun ix _ => 16 - (intOf ix).toNat)
  case atStart => exact ⟨_, 0, List.replicate 64 0, rfl, by omega, rfl, rfl, rfl, Blk.new w _ _ _, below_new w _⟩
  case round =>
    obtain ⟨wr, i, M, hwr, hi, rfl, hMl, hMt, hblk, hbe⟩ := hrel
    subst hwr
    have HM : Hid (M.length = 64 ∧ M.take i = sch Bs i) := ⟨hMl, hMt⟩
    have HBL : Hid (Blk wr w.heap.size 42 .u32 M) := hblk
    have HBE : Hid (Below w.heap.size w wr) := hbe
    clear hMl hMt hblk hbe
    by_cases hlt : i < 16
    · have hcell : ∀ j, j < 64 → wr.cell? ⟨bb, ob + j, none⟩ = some (.int .u8 (Bs.getD j 0 : Nat)) := fun j hj => (HBE.out.cell (p := ⟨bb, ob + j, none⟩) HCB.out.1).trans (HCB.out.2 j hj)
      have c0 := hcell (4 * i) (by omega)
      have c1 := hcell (4 * i + 1) (by omega)
      have c2 := hcell (4 * i + 2) (by omega)
      have c3 := hcell (4 * i + 3) (by omega)
      have cw : wr.cell? ⟨w.heap.size, i, none⟩ = some (.int .u32 (M.getD i 0 : Nat)) := HBL.out.cell i (by have := HM.out.1; omega)
      have fw := HBL.out.frozen i
      have hbe4 := be4_word (Bs.getD (4 * i) 0) (Bs.getD (4 * i + 1) 0) (Bs.getD (4 * i + 2) 0) (Bs.getD (4 * i + 3) 0) (HBB.out _) (HBB.out _) (HBB.out _) (HBB.out _)
      have HNX : Hid (sch Bs (i + 1) = sch Bs i ++ [((Bs.getD (4 * i) 0 * 16777216 ||| Bs.getD (4 * i + 1) 0 * 65536) ||| Bs.getD (4 * i + 2) 0 * 256) ||| Bs.getD (4 * i + 3) 0]) := by
        unfold Hid
        rw [sch, nxw, if_pos hlt]
        rfl
      have b0 := HBB.out (4 * i)
      have b1 := HBB.out (4 * i + 1)
      have b2 := HBB.out (4 * i + 2)
      have b3 := HBB.out (4 * i + 3)
      generalize Bs.getD (4 * i) 0 = d0 at *
      generalize Bs.getD (4 * i + 1) 0 = d1 at *
      generalize Bs.getD (4 * i + 2) 0 = d2 at *
      generalize Bs.getD (4 * i + 3) 0 = d3 at *
      generalize ((d0 * 16777216 ||| d1 * 65536) ||| d2 * 256) ||| d3 = D at *
      clear hcell
      have i0 : (4 : Int) * (i : Int) < 64 := by omega
      have i1 : (4 : Int) * (i : Int) + 1 < 64 := by omega
      have i2 : (4 : Int) * (i : Int) + 2 < 64 := by omega
      have i3 : (4 : Int) * (i : Int) + 3 < 64 := by omega
      have i4 : (i : Int) < 64 := by omega
      go_wp2
      go_region
      go_wp2
      go_roundw
      case rel =>
        refine ⟨_, i + 1, M.set i D, rfl, by omega, by go_num, by rw [List.length_set]; exact HM.out.1, ?_, (HBL.out.set i D).drewN 1, Below.drew (Below.setCell HBE.out (Nat.le_refl _) _)⟩
        rw [take_set M i D (by have := HM.out.1; omega), HM.out.2, HNX.out]
      case measure => simp [intOf]; omega
    · obtain rfl : i = 16 := by omega
      go_wp2
      go_loopw [9] (fun ix wq => ∃ (wz : World) (i : Nat) (M : List Nat), wz = wq ∧ 16 ≤ i ∧ i ≤ 64 ∧ ix = .int .i64 i ∧ M.length = 64 ∧ M.take i = sch Bs i ∧ Blk wz w.heap.size 42 .u32 M ∧ Below w.heap.size w wz) (fun ix _ => 64 - (intOf ix).toNat)
      case atStart => exact ⟨wr, 16, M, rfl, by omega, by omega, rfl, HM.out.1, HM.out.2, HBL.out, HBE.out⟩
      case round =>
        clear HM HBL HBE
        obtain ⟨wr, i, M, hwr, hi0, hi, rfl, hMl, hMt, hblk, hbe⟩ := hrel
        subst hwr
        have HM : Hid (M.length = 64 ∧ M.take i = sch Bs i) := ⟨hMl, hMt⟩
        have HBL : Hid (Blk wr w.heap.size 42 .u32 M) := hblk
        have HBE : Hid (Below w.heap.size w wr) := hbe
        clear hMl hMt hblk hbe
        by_cases hlt : i < 64
        · have hcell : ∀ j, j < i → wr.cell? ⟨w.heap.size, j, none⟩ = some (.int .u32 ((sch Bs i).getD j 0 : Nat)) := fun j hj => by
            rw [HBL.out.cell j (by have := HM.out.1; omega), getD_take M i j hj, HM.out.2]
          have c2 := hcell (i - 2) (by omega)
          have c7 := hcell (i - 7) (by omega)
          have c15 := hcell (i - 15) (by omega)
          have c16 := hcell (i - 16) (by omega)
          have cw : wr.cell? ⟨w.heap.size, i, none⟩ = some (.int .u32 (M.getD i 0 : Nat)) := HBL.out.cell i (by have := HM.out.1; omega)
          have fw := HBL.out.frozen i
          have HNX : Hid (sch Bs (i + 1) = sch Bs i ++ [((sch Bs i).getD (i - 16) 0 + s0N ((sch Bs i).getD (i - 15) 0) + (sch Bs i).getD (i - 7) 0 + s1N ((sch Bs i).getD (i - 2) 0)) % 4294967296]) := by
            unfold Hid
            rw [sch, nxw, if_neg (by omega)]
          have b2 := HSL.out i (i - 2)
          have b7 := HSL.out i (i - 7)
          have b15 := HSL.out i (i - 15)
          have b16 := HSL.out i (i - 16)
          clear hcell
          generalize (sch Bs i).getD (i - 2) 0 = d2 at *
          generalize (sch Bs i).getD (i - 7) 0 = d7 at *
          generalize (sch Bs i).getD (i - 15) 0 = d15 at *
          generalize (sch Bs i).getD (i - 16) 0 = d16 at *
          obtain ⟨j2, hj2, rfl⟩ : ∃ j : Nat, (i : Int) - 2 = (j : Int) ∧ j = i - 2 := ⟨_, by omega, rfl⟩
          obtain ⟨j7, hj7, rfl⟩ : ∃ j : Nat, (i : Int) - 7 = (j : Int) ∧ j = i - 7 := ⟨_, by omega, rfl⟩
          obtain ⟨j15, hj15, rfl⟩ : ∃ j : Nat, (i : Int) - 15 = (j : Int) ∧ j = i - 15 := ⟨_, by omega, rfl⟩
          obtain ⟨j16, hj16, rfl⟩ : ∃ j : Nat, (i : Int) - 16 = (j : Int) ∧ j = i - 16 := ⟨_, by omega, rfl⟩
          have x1 := wxor (trn d15 7) (trn d15 18) (trn_lt _ _ b15) (trn_lt _ _ b15)
          have x2 : bits .xor .u32 ((trn d15 7 ^^^ trn d15 18 : Nat) : Int) ((d15 : Int) / 8) = ((s0N d15 : Nat) : Int) := by
            rw [show (d15 : Int) / 8 = ((d15 / 8 : Nat) : Int) by omega]
            exact wxor _ _ (xor_lt (trn_lt _ _ b15) (trn_lt _ _ b15)) (by omega)
          have y1 := wxor (trn d2 17) (trn d2 19) (trn_lt _ _ b2) (trn_lt _ _ b2)
          have y2 : bits .xor .u32 ((trn d2 17 ^^^ trn d2 19 : Nat) : Int) ((d2 : Int) / 1024) = ((s1N d2 : Nat) : Int) := by
            rw [show (d2 : Int) / 1024 = ((d2 / 1024 : Nat) : Int) by omega]
            exact wxor _ _ (xor_lt (trn_lt _ _ b2) (trn_lt _ _ b2)) (by omega)
          have bs0 := s0N_lt d15 b15
          have bs1 := s1N_lt d2 b2
          have i4 : (i : Int) < 64 := by omega
          go_wp2
          go_quiet ((go_at_call 23; exact Calls.quiet_of_same (rturn_any _ _ _ (by omega) (by decide) (by decide))))
          go_wp2
          replace c2 : (wr.drewN nq).cell? ⟨w.heap.size, i - 2, none⟩ = some (.int .u32 (d2 : Nat)) := c2
          replace c7 : (wr.drewN nq).cell? ⟨w.heap.size, i - 7, none⟩ = some (.int .u32 (d7 : Nat)) := c7
          replace c16 : (wr.drewN nq).cell? ⟨w.heap.size, i - 16, none⟩ = some (.int .u32 (d16 : Nat)) := c16
          replace cw : (wr.drewN nq).cell? ⟨w.heap.size, i, none⟩ = some (.int .u32 (M.getD i 0 : Nat)) := cw
          replace fw : (wr.drewN nq).frozen? ⟨w.heap.size, i, none⟩ = false := fw
          replace HBL : Hid (Blk (wr.drewN nq) w.heap.size 42 .u32 M) := HBL
          replace HBE : Hid (Below w.heap.size w (wr.drewN nq)) := below_drew HBE.out nq
          clear c15
          generalize wr.drewN nq = wd at *
          clear nq
          go_quiet ((go_at_call 23; exact Calls.quiet_of_same (rturn_any _ _ _ (by omega) (by decide) (by decide))))
          go_wp2
          clear c2
          replace c7 : (wd.drewN nq).cell? ⟨w.heap.size, i - 7, none⟩ = some (.int .u32 (d7 : Nat)) := c7
          replace c16 : (wd.drewN nq).cell? ⟨w.heap.size, i - 16, none⟩ = some (.int .u32 (d16 : Nat)) := c16
          replace cw : (wd.drewN nq).cell? ⟨w.heap.size, i, none⟩ = some (.int .u32 (M.getD i 0 : Nat)) := cw
          replace fw : (wd.drewN nq).frozen? ⟨w.heap.size, i, none⟩ = false := fw
          replace HBL : Hid (Blk (wd.drewN nq) w.heap.size 42 .u32 M) := HBL
          replace HBE : Hid (Below w.heap.size w (wd.drewN nq)) := below_drew HBE.out nq
          generalize wd.drewN nq = we at *
          clear x1 x2 y1 y2
          generalize s0N d15 = S0 at *
          generalize s1N d2 = S1 at *
          go_region
          go_wp2
          have hval : ((d16 : Int) + (S0 : Int) + (d7 : Int) + (S1 : Int)) % 4294967296 = (((d16 + S0 + d7 + S1) % 4294967296 : Nat) : Int) := by simp
          rw [hval]
          go_roundw
          case rel =>
            refine ⟨_, i + 1, M.set i _, rfl, by omega, by omega, by go_num, by rw [List.length_set]; exact HM.out.1, ?_, (HBL.out.set i _).drewN 1, Below.drew (Below.setCell HBE.out (Nat.le_refl _) _)⟩
            rw [take_set M i _ (by have := HM.out.1; omega), HM.out.2, HNX.out]
          case measure => simp [intOf]; omega
        · obtain rfl : i = 64 := by omega
          have hMe : M = sch Bs 64 := by
            have := HM.out.2
            rw [← HM.out.1, List.take_length] at this
            rw [HM.out.1] at this
            exact this
          have HMS : Hid (M = sch Bs 64) := hMe
          have HMB : Hid (∀ j, M.getD j 0 < 4294967296) := by rw [hMe]; exact HSL.out 64
          have HML : Hid (M.length = 64) := HM.out.1
          clear hMe HM
          have hsz := HBE.out.size
          have HO : Hid (OwnL 42 .u32 (wr.alloc (.cells #[] 42)) (w.heap.size + 1) (.slice (some ⟨wr.heap.size, 0, none⟩) 0 0) []) := OwnL.empty _ _ wr _ HBL.out.lt
          have HRH2 : Hid (RowL .u32 (wr.alloc (.cells #[] 42)) (some ⟨bh, oh, none⟩) 8 H) := HRH.out.below (Below.alloc HBE.out hsz _)
          have hsza : w.heap.size + 1 ≤ (wr.alloc (.cells #[] 42)).heap.size := by have := HBL.out.lt; simp; omega
          go_wp2_with (at_builtin; (refine append_nums numT32 _ rfl (.tmp 124) (.tmp 125) rfl (w.heap.size + 1) (.slice (some ⟨wr.heap.size, 0, none⟩) 0 0) [] H rfl HO.out (some ⟨bh, oh, none⟩) 8 ch rfl HRH2.out (fun h => by cases h) (by decide) (by decide) hsza ?_; intro v1 w3 hown3 hb3))
          rw [List.nil_append] at hown3
          have HBE3 : Hid (Below w.heap.size w w3) := (Below.alloc HBE.out hsz _).trans (hb3.mono (by omega))
          have HBL3 : Hid (Blk w3 w.heap.size 42 .u32 M) := (hb3.block w.heap.size (by omega)).trans (HBL.out.alloc _)
          obtain ⟨g0, cg0, rfl, -, -, -, -, -⟩ := OwnL.at hown3 0 (by rw [HRH.out.1]; decide)
          rw [HRH.out.1]
          rw [HRH.out.1] at hown3
          have HO3 : Hid (OwnL 42 .u32 w3 (w.heap.size + 1) (.slice (some ⟨g0, 0, none⟩) 8 cg0) H) := hown3
          clear hown3 hb3 HO HRH2 HBL HBE hsza
          go_loopw [12, 13] (fun vv ix wq => ∃ (wz : World) (i g cg : Nat) (V : List Nat), wz = wq ∧ i ≤ 64 ∧ ix = .int .i64 i ∧ vv = .slice (some ⟨g, 0, none⟩) 8 cg ∧ V = rnds K M H i ∧ OwnL 42 .u32 wz (w.heap.size + 1) (.slice (some ⟨g, 0, none⟩) 8 cg) V ∧ Blk wz w.heap.size 42 .u32 M ∧ Below w.heap.size w wz) (fun _ ix _ => 64 - (intOf ix).toNat)
          case atStart => exact ⟨w3, 0, g0, cg0, H, rfl, by omega, rfl, rfl, rfl, HO3.out, HBL3.out, HBE3.out⟩
          case round =>
            clear HO3 HBL3 HBE3
            obtain ⟨wr, i, g, cg, V, hwr, hi, rfl, rfl, hV, hown, hblk, hbe⟩ := hrel
            subst hwr
            have HV : Hid (V = rnds K M H i) := hV
            have HVL : Hid (V.length = 8) := by rw [hV]; exact rnds_length K M H HRH.out.1 i
            have HVB : Hid (∀ j, V.getD j 0 < 4294967296) := by rw [hV]; exact rnds_lt K M H HBH.out i
            have HOWN : Hid (OwnL 42 .u32 wr (w.heap.size + 1) (.slice (some ⟨g, 0, none⟩) 8 cg) V) := hown
            have HBL : Hid (Blk wr w.heap.size 42 .u32 M) := hblk
            have HBE : Hid (Below w.heap.size w wr) := hbe
            clear hV hown hblk hbe
            by_cases hlt : i < 64
            · obtain ⟨g', cg', heq, -, -, hcs, -, -⟩ := OwnL.at HOWN.out 0 (by rw [HVL.out]; decide)
              obtain rfl : g = g' := by
                simp only [Value.slice.injEq, Option.some.injEq, Addr.mk.injEq, and_true] at heq
                exact heq.1
              rw [HVL.out] at hcs
              clear heq
              have c0 := hcs 0 (by decide)
              have c1 := hcs 1 (by decide)
              have c2 := hcs 2 (by decide)
              have c3 := hcs 3 (by decide)
              have c4 := hcs 4 (by decide)
              have c5 := hcs 5 (by decide)
              have c6 := hcs 6 (by decide)
              have c7 := hcs 7 (by decide)
              have b0 := HVB.out 0
              have b1 := HVB.out 1
              have b2 := HVB.out 2
              have b3 := HVB.out 3
              have b4 := HVB.out 4
              have b5 := HVB.out 5
              have b6 := HVB.out 6
              have b7 := HVB.out 7
              have HRN : Hid (rnds K M H (i + 1) = rnd V (K.getD i 0) (M.getD i 0)) := by unfold Hid; rw [rnds, ← HV.out]
              have ck : wr.cell? ⟨bk, ok + i, none⟩ = some (.int .u32 (K.getD i 0 : Nat)) := (HBE.out.cell (p := ⟨bk, ok + i, none⟩) HCK.out.1).trans (HCK.out.2 i hlt)
              have cw := HBL.out.cell i (by rw [HML.out]; exact hlt)
              have bk' := HBK.out i
              have bw' := HMB.out i
              unfold rnd one1 two1 at HRN
              clear hcs
              generalize V.getD 0 0 = d0 at *
              generalize V.getD 1 0 = d1 at *
              generalize V.getD 2 0 = d2 at *
              generalize V.getD 3 0 = d3 at *
              generalize V.getD 4 0 = d4 at *
              generalize V.getD 5 0 = d5 at *
              generalize V.getD 6 0 = d6 at *
              generalize V.getD 7 0 = d7 at *
              generalize K.getD i 0 = kk at *
              generalize M.getD i 0 = ww at *
              have e1 := wxor (trn d4 6) (trn d4 11) (trn_lt _ _ b4) (trn_lt _ _ b4)
              have e2 : bits .xor .u32 ((trn d4 6 ^^^ trn d4 11 : Nat) : Int) ((trn d4 25 : Nat) : Int) = ((e1N d4 : Nat) : Int) := wxor _ _ (xor_lt (trn_lt _ _ b4) (trn_lt _ _ b4)) (trn_lt _ _ b4)
              have f1 := wxor (trn d0 2) (trn d0 13) (trn_lt _ _ b0) (trn_lt _ _ b0)
              have f2 : bits .xor .u32 ((trn d0 2 ^^^ trn d0 13 : Nat) : Int) ((trn d0 22 : Nat) : Int) = ((e0N d0 : Nat) : Int) := wxor _ _ (xor_lt (trn_lt _ _ b0) (trn_lt _ _ b0)) (trn_lt _ _ b0)
              have g1 := wand d4 d5 b4 b5
              have g2 : bits .xor .u32 (4294967295 : Int) (d4 : Int) = ((4294967295 ^^^ d4 : Nat) : Int) := wxor 4294967295 d4 (by decide) b4
              have g3 := wand (4294967295 ^^^ d4) d6 (xor_lt (by decide) b4) b6
              have g4 : bits .xor .u32 ((d4 &&& d5 : Nat) : Int) (((4294967295 ^^^ d4) &&& d6 : Nat) : Int) = ((chN d4 d5 d6 : Nat) : Int) := wxor _ _ (and_lt b4) (and_lt (xor_lt (by decide) b4))
              have m1 := wand d0 d1 b0 b1
              have m2 := wand d0 d2 b0 b2
              have m3 := wand d1 d2 b1 b2
              have m4 := wxor (d0 &&& d1) (d0 &&& d2) (and_lt b0) (and_lt b0)
              have m5 : bits .xor .u32 ((((d0 &&& d1) ^^^ (d0 &&& d2)) : Nat) : Int) ((d1 &&& d2 : Nat) : Int) = ((majN d0 d1 d2 : Nat) : Int) := wxor _ _ (xor_lt (and_lt b0) (and_lt b0)) (and_lt b1)
              have l1 := e1N_lt d4 b4
              have l2 := e0N_lt d0 b0
              have l3 := chN_lt d4 d5 d6 b4
              have l4 := majN_lt d0 d1 d2 b0 b1
              generalize e1N d4 = E1 at *
              generalize e0N d0 = E0 at *
              generalize chN d4 d5 d6 = C1 at *
              generalize majN d0 d1 d2 = J1 at *
              obtain ⟨O, hO⟩ : ∃ O, (d7 + E1 + C1 + kk + ww) % 4294967296 = O := ⟨_, rfl⟩
              obtain ⟨T, hT⟩ : ∃ T, (E0 + J1) % 4294967296 = T := ⟨_, rfl⟩
              rw [hO, hT] at HRN
              have hOi : ((d7 : Int) + (E1 : Int) + (C1 : Int) + (kk : Int) + (ww : Int)) % 4294967296 = (O : Int) := by rw [← hO]; simp
              have hTi : ((E0 : Int) + (J1 : Int)) % 4294967296 = (T : Int) := by rw [← hT]; simp
              have lO : O < 4294967296 := by rw [← hO]; exact Nat.mod_lt _ (by decide)
              have lT : T < 4294967296 := by rw [← hT]; exact Nat.mod_lt _ (by decide)
              obtain ⟨P1, hP⟩ : ∃ P1, (O + T) % 4294967296 = P1 := ⟨_, rfl⟩
              obtain ⟨P2, hP2⟩ : ∃ P2, (d3 + O) % 4294967296 = P2 := ⟨_, rfl⟩
              rw [hP, hP2] at HRN
              have hPi : ((O : Int) + (T : Int)) % 4294967296 = (P1 : Int) := by rw [← hP]; simp
              have hPi2 : ((d3 : Int) + (O : Int)) % 4294967296 = (P2 : Int) := by rw [← hP2]; simp
              clear hO hT hP hP2
              have i4 : (i : Int) < 64 := by omega
              go_wp2
              go_quiet ((go_at_call 23; exact Calls.quiet_of_same (rturn_any _ _ _ (by omega) (by decide) (by decide))))
              go_wp2
              replace c0 : (wr.drewN nq).cell? ⟨g, 0, none⟩ = some (.int .u32 (d0 : Nat)) := c0
              replace c1 : (wr.drewN nq).cell? ⟨g, 1, none⟩ = some (.int .u32 (d1 : Nat)) := c1
              replace c2 : (wr.drewN nq).cell? ⟨g, 2, none⟩ = some (.int .u32 (d2 : Nat)) := c2
              replace c3 : (wr.drewN nq).cell? ⟨g, 3, none⟩ = some (.int .u32 (d3 : Nat)) := c3
              replace c4 : (wr.drewN nq).cell? ⟨g, 4, none⟩ = some (.int .u32 (d4 : Nat)) := c4
              replace c5 : (wr.drewN nq).cell? ⟨g, 5, none⟩ = some (.int .u32 (d5 : Nat)) := c5
              replace c6 : (wr.drewN nq).cell? ⟨g, 6, none⟩ = some (.int .u32 (d6 : Nat)) := c6
              replace c7 : (wr.drewN nq).cell? ⟨g, 7, none⟩ = some (.int .u32 (d7 : Nat)) := c7
              replace ck : (wr.drewN nq).cell? ⟨bk, ok + i, none⟩ = some (.int .u32 (kk : Nat)) := ck
              replace cw : (wr.drewN nq).cell? ⟨w.heap.size, i, none⟩ = some (.int .u32 (ww : Nat)) := cw
              replace HBL : Hid (Blk (wr.drewN nq) w.heap.size 42 .u32 M) := HBL
              replace HBE : Hid (Below w.heap.size w (wr.drewN nq)) := below_drew HBE.out nq
              generalize wr.drewN nq = wa at *
              clear nq
              go_quiet (fail)
              go_wp2
              replace c0 : (wa.drewN nq).cell? ⟨g, 0, none⟩ = some (.int .u32 (d0 : Nat)) := c0
              replace c1 : (wa.drewN nq).cell? ⟨g, 1, none⟩ = some (.int .u32 (d1 : Nat)) := c1
              replace c2 : (wa.drewN nq).cell? ⟨g, 2, none⟩ = some (.int .u32 (d2 : Nat)) := c2
              replace c3 : (wa.drewN nq).cell? ⟨g, 3, none⟩ = some (.int .u32 (d3 : Nat)) := c3
              replace c4 : (wa.drewN nq).cell? ⟨g, 4, none⟩ = some (.int .u32 (d4 : Nat)) := c4
              replace c5 : (wa.drewN nq).cell? ⟨g, 5, none⟩ = some (.int .u32 (d5 : Nat)) := c5
              replace c6 : (wa.drewN nq).cell? ⟨g, 6, none⟩ = some (.int .u32 (d6 : Nat)) := c6
              replace c7 : (wa.drewN nq).cell? ⟨g, 7, none⟩ = some (.int .u32 (d7 : Nat)) := c7
              replace ck : (wa.drewN nq).cell? ⟨bk, ok + i, none⟩ = some (.int .u32 (kk : Nat)) := ck
              replace cw : (wa.drewN nq).cell? ⟨w.heap.size, i, none⟩ = some (.int .u32 (ww : Nat)) := cw
              replace HBL : Hid (Blk (wa.drewN nq) w.heap.size 42 .u32 M) := HBL
              replace HBE : Hid (Below w.heap.size w (wa.drewN nq)) := below_drew HBE.out nq
              generalize wa.drewN nq = wb at *
              clear nq
              go_quiet (fail)
              go_wp2
              replace c0 : (wb.drewN nq).cell? ⟨g, 0, none⟩ = some (.int .u32 (d0 : Nat)) := c0
              replace c1 : (wb.drewN nq).cell? ⟨g, 1, none⟩ = some (.int .u32 (d1 : Nat)) := c1
              replace c2 : (wb.drewN nq).cell? ⟨g, 2, none⟩ = some (.int .u32 (d2 : Nat)) := c2
              replace c3 : (wb.drewN nq).cell? ⟨g, 3, none⟩ = some (.int .u32 (d3 : Nat)) := c3
              replace c4 : (wb.drewN nq).cell? ⟨g, 4, none⟩ = some (.int .u32 (d4 : Nat)) := c4
              replace c5 : (wb.drewN nq).cell? ⟨g, 5, none⟩ = some (.int .u32 (d5 : Nat)) := c5
              replace c6 : (wb.drewN nq).cell? ⟨g, 6, none⟩ = some (.int .u32 (d6 : Nat)) := c6
              replace c7 : (wb.drewN nq).cell? ⟨g, 7, none⟩ = some (.int .u32 (d7 : Nat)) := c7
              replace ck : (wb.drewN nq).cell? ⟨bk, ok + i, none⟩ = some (.int .u32 (kk : Nat)) := ck
              replace cw : (wb.drewN nq).cell? ⟨w.heap.size, i, none⟩ = some (.int .u32 (ww : Nat)) := cw
              replace HBL : Hid (Blk (wb.drewN nq) w.heap.size 42 .u32 M) := HBL
              replace HBE : Hid (Below w.heap.size w (wb.drewN nq)) := below_drew HBE.out nq
              generalize wb.drewN nq = wc at *
              clear nq
              go_quiet ((go_at_call 23; exact Calls.quiet_of_same (rturn_any _ _ _ (by omega) (by decide) (by decide))))
              go_wp2
              replace c0 : (wc.drewN nq).cell? ⟨g, 0, none⟩ = some (.int .u32 (d0 : Nat)) := c0
              replace c1 : (wc.drewN nq).cell? ⟨g, 1, none⟩ = some (.int .u32 (d1 : Nat)) := c1
              replace c2 : (wc.drewN nq).cell? ⟨g, 2, none⟩ = some (.int .u32 (d2 : Nat)) := c2
              replace c3 : (wc.drewN nq).cell? ⟨g, 3, none⟩ = some (.int .u32 (d3 : Nat)) := c3
              replace c4 : (wc.drewN nq).cell? ⟨g, 4, none⟩ = some (.int .u32 (d4 : Nat)) := c4
              replace c5 : (wc.drewN nq).cell? ⟨g, 5, none⟩ = some (.int .u32 (d5 : Nat)) := c5
              replace c6 : (wc.drewN nq).cell? ⟨g, 6, none⟩ = some (.int .u32 (d6 : Nat)) := c6
              replace c7 : (wc.drewN nq).cell? ⟨g, 7, none⟩ = some (.int .u32 (d7 : Nat)) := c7
              replace ck : (wc.drewN nq).cell? ⟨bk, ok + i, none⟩ = some (.int .u32 (kk : Nat)) := ck
              replace cw : (wc.drewN nq).cell? ⟨w.heap.size, i, none⟩ = some (.int .u32 (ww : Nat)) := cw
              replace HBL : Hid (Blk (wc.drewN nq) w.heap.size 42 .u32 M) := HBL
              replace HBE : Hid (Below w.heap.size w (wc.drewN nq)) := below_drew HBE.out nq
              generalize wc.drewN nq = wd at *
              clear nq
              go_quiet (fail)
              go_wp2
              replace c0 : (wd.drewN nq).cell? ⟨g, 0, none⟩ = some (.int .u32 (d0 : Nat)) := c0
              replace c1 : (wd.drewN nq).cell? ⟨g, 1, none⟩ = some (.int .u32 (d1 : Nat)) := c1
              replace c2 : (wd.drewN nq).cell? ⟨g, 2, none⟩ = some (.int .u32 (d2 : Nat)) := c2
              replace c3 : (wd.drewN nq).cell? ⟨g, 3, none⟩ = some (.int .u32 (d3 : Nat)) := c3
              replace c4 : (wd.drewN nq).cell? ⟨g, 4, none⟩ = some (.int .u32 (d4 : Nat)) := c4
              replace c5 : (wd.drewN nq).cell? ⟨g, 5, none⟩ = some (.int .u32 (d5 : Nat)) := c5
              replace c6 : (wd.drewN nq).cell? ⟨g, 6, none⟩ = some (.int .u32 (d6 : Nat)) := c6
              replace c7 : (wd.drewN nq).cell? ⟨g, 7, none⟩ = some (.int .u32 (d7 : Nat)) := c7
              replace ck : (wd.drewN nq).cell? ⟨bk, ok + i, none⟩ = some (.int .u32 (kk : Nat)) := ck
              replace cw : (wd.drewN nq).cell? ⟨w.heap.size, i, none⟩ = some (.int .u32 (ww : Nat)) := cw
              replace HBL : Hid (Blk (wd.drewN nq) w.heap.size 42 .u32 M) := HBL
              replace HBE : Hid (Below w.heap.size w (wd.drewN nq)) := below_drew HBE.out nq
              generalize wd.drewN nq = we at *
              clear nq
              go_region_held3 (fun w' => w'.cell? ⟨g, 0, none⟩ = some (.int .u32 (d0 : Nat)) ∧ w'.cell? ⟨g, 1, none⟩ = some (.int .u32 (d1 : Nat)) ∧ w'.cell? ⟨g, 2, none⟩ = some (.int .u32 (d2 : Nat)) ∧ w'.cell? ⟨g, 3, none⟩ = some (.int .u32 (d3 : Nat)) ∧ w'.cell? ⟨g, 4, none⟩ = some (.int .u32 (d4 : Nat)) ∧ w'.cell? ⟨g, 5, none⟩ = some (.int .u32 (d5 : Nat)) ∧ w'.cell? ⟨g, 6, none⟩ = some (.int .u32 (d6 : Nat))) (go_keep) (fail)
              go_wp2
              rw [hPi, hPi2]
              have hwe := HBL.out.lt
              go_roundw
              case rel =>
                exact ⟨_, i + 1, we.heap.size, 8, [P1, d0, d1, d2, P2, d4, d5, d6], rfl, by omega, by go_num, rfl, HRN.out.symm, World.ownsRow_lit we #[.int .u32 (P1 : Nat), .int .u32 (d0 : Nat), .int .u32 (d1 : Nat), .int .u32 (d2 : Nat), .int .u32 (P2 : Nat), .int .u32 (d4 : Nat), .int .u32 (d5 : Nat), .int .u32 (d6 : Nat)] 8 hwe (by decide) rfl, (HBL.out.alloc _).drewN 1, Below.drew (Below.alloc HBE.out HBE.out.size _)⟩
              case measure => simp [intOf]; omega
            · obtain rfl : i = 64 := by omega
              have HRES : Hid (blockN K H Bs = addN V H 8) := by unfold Hid blockN; rw [HV.out, HMS.out]
              go_wp2
              go_loopw [20] (fun ix wq => ∃ (wz : World) (i : Nat) (U : List Nat), wz = wq ∧ i ≤ 8 ∧ ix = .int .i64 i ∧ U = addN V H i ∧ OwnL 42 .u32 wz (w.heap.size + 1) (.slice (some ⟨g, 0, none⟩) 8 cg) U ∧ Below w.heap.size w wz) (fun ix _ => 8 - (intOf ix).toNat)
              case atStart => exact ⟨wr, 0, V, rfl, by omega, rfl, rfl, HOWN.out, HBE.out⟩
              case round =>
                clear HOWN HBL HBE
                obtain ⟨wr, i, U, hwr, hi, rfl, hU, hown, hbe⟩ := hrel
                subst hwr
                have HU : Hid (U = addN V H i) := hU
                have HUL : Hid (U.length = 8) := by rw [hU, addN_length]; exact HVL.out
                have HUB : Hid (∀ j, U.getD j 0 < 4294967296) := by rw [hU]; exact addN_lt V H HVB.out i
                have HOWN : Hid (OwnL 42 .u32 wr (w.heap.size + 1) (.slice (some ⟨g, 0, none⟩) 8 cg) U) := hown
                have HBE : Hid (Below w.heap.size w wr) := hbe
                clear hU hown hbe
                by_cases hlt : i < 8
                · obtain ⟨g', cg', heq, hg', -, hcs, hfr, hset⟩ := OwnL.at HOWN.out i (by rw [HUL.out]; exact hlt)
                  obtain rfl : g = g' := by
                    simp only [Value.slice.injEq, Option.some.injEq, Addr.mk.injEq, and_true] at heq
                    exact heq.1
                  have cu := hcs i (by rw [HUL.out]; exact hlt)
                  have chh : wr.cell? ⟨bh, oh + i, none⟩ = some (.int .u32 (H.getD i 0 : Nat)) := (HBE.out.cell (p := ⟨bh, oh + i, none⟩) HCH.out.1).trans (HCH.out.2 i hlt)
                  have HSET : Hid (∀ y : Nat, OwnL 42 .u32 (wr.setCell ⟨g, i, none⟩ (.int .u32 y)) (w.heap.size + 1) (.slice (some ⟨g, 0, none⟩) 8 cg) (U.set i y)) := hset
                  have HNX : Hid (addN V H (i + 1) = U.set i ((U.getD i 0 + H.getD i 0) % 4294967296)) := by unfold Hid; rw [addN, ← HU.out]
                  have bu := HUB.out i
                  have bh' := HBH.out i
                  clear heq hcs hset
                  generalize U.getD i 0 = u at *
                  generalize H.getD i 0 = hh at *
                  obtain ⟨Z, hZ⟩ : ∃ Z, (u + hh) % 4294967296 = Z := ⟨_, rfl⟩
                  rw [hZ] at HNX
                  have hZi : ((u : Int) + (hh : Int)) % 4294967296 = (Z : Int) := by rw [← hZ]; simp
                  have i4 : (i : Int) < 8 := by omega
                  clear hZ
                  go_wp2
                  go_region
                  go_wp2
                  go_roundw
                  case rel =>
                    exact ⟨_, i + 1, U.set i Z, rfl, by omega, by go_num, HNX.out.symm, HSET.out Z, Below.drew (Below.setCell HBE.out (Nat.le_trans (by omega) hg') _)⟩
                  case measure => simp [intOf]; omega
                · obtain rfl : i = 8 := by omega
                  obtain ⟨a', cap', heq, hrow, -, hpos⟩ := OwnL.row HOWN.out
                  simp only [HUL.out, Value.slice.injEq] at heq
                  obtain ⟨rfl, -, rfl⟩ := heq
                  rw [HUL.out] at hrow
                  have HROW : Hid (RowL .u32 wr (some ⟨g, 0, none⟩) 8 U) := hrow
                  have hgb := (hpos g 0 rfl).1
                  clear hrow hpos
                  go_wp2
                  go_ret
                  exact ⟨g, cg, rfl, by omega, by rw [HRES.out, ← HU.out]; exact HROW.out, HBE.out⟩
end Go.Proofs.YtmaaakcfbekboaaDoor
