/-
  The document's Reader: texts, flags, digests.
-/
import Derived.Test.YtngojkleehgbaaaPackRefR
namespace Go.Proofs.Ytngojkleehgbaaa
open Go.ChangeShapes Go.WideShapes Go.ChangeAt Go.RowKit
set_option linter.unusedVariables false
set_option linter.unusedSimpArgs false
theorem qtext_any (w : World) (g : Nat) (s : RSt) (hR : RfAt w g s) : Calls Try.prog 28 #[.pointer (some ⟨g, 0, none⟩)] w (RfR w g (.string (strN (textS s).1)) (textS s).2) := by
  have HC := qcount_any w g s hR 16384 (by decide) (by decide)
  have hc := (countS_ok (most := 16384) hR.byt).2
  have HT : Hid (textS s = takeS (countS 16384 s).1 (countS 16384 s).2) := rfl
  generalize textS s = F at *
  generalize countS 16384 s = C at *
  go_enter Try.func28, Try.ntmps28
  go_wp2_with fail
  refine HC.mono ?_
  rintro e w1 ⟨rfl, hR1, ho⟩
  have HO : Hid (Only g w w1 ∧ RfAt w1 g C.2) := ⟨ho, hR1⟩
  obtain ⟨c0, c1, f0, f1⟩ := hR1.cells
  have hsz := strN_size C.2.1
  clear HC hR
  by_cases h0 : C.2.2 = 0
  · rw [h0] at c1
    by_cases hl : C.2.1.length < C.1
    · have HF : Hid (F = ([], C.2.1, 3)) := by rw [HT.out]; unfold Hid takeS; rw [if_pos h0, if_pos hl]
      have HS : Hid (RfAt (w1.setCell ⟨g, 1, none⟩ (.int .i64 3)) g (C.2.1, 3)) := hR1.setE 3
      obtain ⟨d0, d1, g0, g1⟩ := (hR1.setE 3).cells
      clear HT hR1 ho h0
      generalize C.2.1 = xs at *
      generalize C.1 = k at *
      go_wp2_with fail
      go_ret
      have := HF.out
      subst this
      exact ⟨rfl, HS.out, HO.out.1.trans (Only.set _ g 1 _)⟩
    · have HF : Hid (F = (C.2.1.take C.1, C.2.1.drop C.1, 0)) := by rw [HT.out]; unfold Hid takeS; rw [if_pos h0, if_neg hl]
      have HS : Hid (RfAt (w1.setCell ⟨g, 0, none⟩ (.string (strN (C.2.1.drop C.1)))) g (C.2.1.drop C.1, 0)) := by
        have := hR1.setS C.1
        rw [h0] at this
        exact this
      have h1 := cut_to C.2.1 C.1 (by omega)
      have h2 := cut_from C.2.1 C.1 (by omega)
      clear HT hR1 ho h0
      generalize C.2.1 = xs at *
      generalize C.1 = k at *
      go_wp2_with fail
      go_ret
      have := HF.out
      subst this
      exact ⟨rfl, HS.out, HO.out.1.trans (Only.set _ g 0 _)⟩
  · have HF : Hid (F = ([], C.2)) := by rw [HT.out]; unfold Hid takeS; rw [if_neg h0]
    clear HT hR1 ho
    generalize C.1 = k at *
    go_wp2_with fail
    go_ret
    have := HF.out
    subst this
    exact ⟨rfl, HO.out.2, HO.out.1⟩
theorem qflag_any (w : World) (g : Nat) (s : RSt) (hR : RfAt w g s) : Calls Try.prog 26 #[.pointer (some ⟨g, 0, none⟩)] w (RfR w g (.bool (flagS s).1) (flagS s).2) := by
  have HO : Hid (RfAt w g s) := hR
  obtain ⟨c0, c1, f0, f1⟩ := hR.cells
  by_cases h0 : s.2 = 0
  · rw [h0] at c1
    obtain ⟨xs, e⟩ := s
    dsimp only at *
    subst h0
    cases xs with
    | nil =>
      have HF : Hid (flagS ([], 0) = (false, [], 3)) := rfl
      have HS : Hid (RfAt (w.setCell ⟨g, 1, none⟩ (.int .i64 3)) g ([], 3)) := hR.setE 3
      have he : (strN []).toList.isEmpty = true := by decide +kernel
      generalize flagS ([], 0) = F at *
      go_enter Try.func26, Try.ntmps26
      go_wp2_with fail
      go_ret
      have := HF.out
      subst this
      exact ⟨rfl, HS.out, Only.set _ g 1 _⟩
    | cons c xs =>
      have hc : c < 256 := hR.byt c (by simp)
      have HF : Hid (flagS (c :: xs, 0) = (decide (c = 1), xs, if 1 < c then 2 else 0)) := by
        unfold Hid flagS takeS
        rw [if_pos rfl, if_neg (by simp)]
        simp
      have HS : Hid (RfAt (w.setCell ⟨g, 0, none⟩ (.string (strN xs))) g (xs, 0)) := hR.setS 1
      have HS2 : Hid (RfAt ((w.setCell ⟨g, 0, none⟩ (.string (strN xs))).setCell ⟨g, 1, none⟩ (.int .i64 2)) g (xs, 2)) := (HS.out).setE 2
      obtain ⟨d0, d1, g0, g1⟩ := HS.out.cells
      have h1 : (strN (c :: xs)).toList.isEmpty = false := by
        have := str_eq (strN (c :: xs)) ByteArray.empty
        rw [Bool.eq_false_iff]
        intro e
        rw [List.isEmpty_iff] at e
        have h2 : (strN (c :: xs)).toList.length = (c :: xs).length := by rw [Go.ByteArray.toList_eq]; simp [strN]
        rw [e] at h2
        simp at h2
      have h2 : 0 < (strN (c :: xs)).size := by rw [strN_size]; simp
      have h3 : ∀ h, ((strN (c :: xs))[0]'h).toNat = c := fun h => by
        rw [get_txt, txt_strN _ hR.byt]; rfl
      have h4 : (strN (c :: xs)).extract 1 (strN (c :: xs)).size = strN xs := by rw [strN_size]; exact strN_from (c :: xs) 1
      generalize strN (c :: xs) = S at *
      generalize flagS (c :: xs, 0) = F at *
      clear hR
      go_enter Try.func26, Try.ntmps26
      go_wp2_with fail
      all_goals go_ret
      · have := HF.out
        rw [if_pos (by omega)] at this
        subst this
        exact ⟨by simp [beq_one], HS2.out, (Only.set _ g 0 _).trans (Only.set _ g 1 _)⟩
      · have := HF.out
        rw [if_neg (by omega)] at this
        subst this
        exact ⟨by simp [beq_one], HS.out, Only.set _ g 0 _⟩
  · have HF : Hid (flagS s = (false, s)) := (stay h0).2.2.2.2.1
    generalize flagS s = F at *
    go_enter Try.func26, Try.ntmps26
    go_wp2_with fail
    go_ret
    have := HF.out
    subst this
    exact ⟨rfl, HO.out, Only.refl _ _⟩
theorem digestBuild (w : World) : (Instr.build 27 #[]).run Try.prog w = .ok (.agg (encL .u8 zeroD)) w := by kernel_rfl
def qd (w : World) : World := (((w.alloc (.cells (encL .u8 zeroD) 27)).alloc (.cells (encL .u8 zeroD) 27)).setRow (w.heap.size + 1) (encL .u8 zeroD))
theorem qd_facts (w : World) (g : Nat) (s : RSt) (hR : RfAt w g s) : Blk (qd w) w.heap.size 27 .u8 zeroD ∧ Blk (qd w) (w.heap.size + 1) 27 .u8 zeroD ∧ RfAt (qd w) g s ∧ Only g w (qd w) := by
  have hlt := hR.lt
  have b0 := Blk.new w 27 .u8 zeroD
  have b1 := Blk.new (w.alloc (.cells (encL .u8 zeroD) 27)) 27 .u8 zeroD
  have e : (w.alloc (.cells (encL .u8 zeroD) 27)).heap.size = w.heap.size + 1 := by simp
  rw [e] at b1
  have hb : Below w.heap.size w ((w.alloc (.cells (encL .u8 zeroD) 27)).alloc (.cells (encL .u8 zeroD) 27)) := (below_new w _).alloc (by simp) _
  unfold qd
  exact ⟨(b0.alloc _).otherRow (by omega) _, b1.setRow _, hR.keep ((setRow_other _ _ g _ (by omega)).trans (hb.block g hlt)), ⟨hb.os, hb.tape, hb.output, by simpa [World.setRow] using hb.size, fun k hk _ => (setRow_other _ _ k _ (by omega)).trans (hb.block k hk)⟩⟩
theorem qd_start (w : World) (g : Nat) (s : RSt) (hR : RfAt w g s) : ∃ wA wB wC, (Instr.alloc 27 true (.tuple #[])).run Try.prog w = .ok (.pointer (some ⟨w.heap.size, 0, none⟩)) wA ∧
    (Instr.alloc 27 true (.tuple #[])).run Try.prog wA = .ok (.pointer (some ⟨w.heap.size + 1, 0, none⟩)) wB ∧
    (storeVar 27 ⟨w.heap.size + 1, 0, none⟩ (.agg (encL .u8 zeroD))).run Try.prog wB = .ok () wC ∧
    Blk wC w.heap.size 27 .u8 zeroD ∧ Blk wC (w.heap.size + 1) 27 .u8 zeroD ∧ RfAt wC g s ∧ Only g w wC := by
  obtain ⟨k0, k1, hR2, ho⟩ := qd_facts w g s hR
  refine ⟨w.alloc (.cells (encL .u8 zeroD) 27), (w.alloc (.cells (encL .u8 zeroD) 27)).alloc (.cells (encL .u8 zeroD) 27), qd w, digestAlloc w, ?_, ?_, k0, k1, hR2, ho⟩
  · exact by
      have hsz1 : (w.alloc (.cells (encL .u8 zeroD) 27)).heap.size = w.heap.size + 1 := by simp
      have := digestAlloc (w.alloc (.cells (encL .u8 zeroD) 27))
      rw [hsz1] at this
      exact this
  · have b1 := Blk.new (w.alloc (.cells (encL .u8 zeroD) 27)) 27 .u8 zeroD
    have e : (w.alloc (.cells (encL .u8 zeroD) 27)).heap.size = w.heap.size + 1 := by simp
    rw [e] at b1
    exact b1.store digestT rfl rfl
theorem qd_end (w wX : World) (g : Nat) (s : RSt) (d : List Nat) (hb : Blk wX w.heap.size 27 .u8 zeroD) (hR : RfAt wX g s) (ho : Only g w wX) (hd : d.length = 32) (hlt : g < w.heap.size) :
    (loadVar 27 ⟨w.heap.size, 0, none⟩).run Try.prog (wX.setRow w.heap.size (encL .u8 d)) = .ok (.agg (encL .u8 d)) (wX.setRow w.heap.size (encL .u8 d)) ∧ RfAt (wX.setRow w.heap.size (encL .u8 d)) g s ∧ Only g w (wX.setRow w.heap.size (encL .u8 d)) :=
  ⟨(hb.setRow d).load digestT hd, hR.keep (setRow_other _ _ g _ (by omega)), ⟨ho.os, ho.tape, ho.output, by simpa [World.setRow] using ho.size, fun k hk hn => (setRow_other _ _ k _ (by omega)).trans (ho.block k hk hn)⟩⟩
def digI (xs : List Nat) (i : Nat) : List Nat := xs.take i ++ List.replicate (32 - i) 0
theorem digI_set (xs : List Nat) (i : Nat) (hi : i < 32) (hx : 32 ≤ xs.length) : (digI xs i).set i (xs.getD i 0) = digI xs (i + 1) := by
  unfold digI
  have hl : (xs.take i).length = i := by rw [List.length_take]; omega
  rw [List.set_append_right _ _ (by omega), hl, Nat.sub_self, show 32 - i = (32 - (i + 1)) + 1 by omega, List.replicate_succ, List.set_cons_zero, take_snoc xs i (by omega), List.append_assoc]
  rfl
theorem digI_len (xs : List Nat) (i : Nat) (hi : i ≤ 32) (hx : 32 ≤ xs.length) : (digI xs i).length = 32 := by
  unfold digI
  rw [List.length_append, List.length_take, List.length_replicate]; omega
set_option maxHeartbeats 2000000 in
theorem qdigest_any (w : World) (g : Nat) (s : RSt) (hR : RfAt w g s) : Calls Try.prog 30 #[.pointer (some ⟨g, 0, none⟩)] w (RfR w g (.agg (encL .u8 (digestS s).1)) (digestS s).2) := by
  obtain ⟨wA, wB, wC, hA, hB, hC, k0, k1, hR2, ho⟩ := qd_start w g s hR
  have hlt := hR.lt
  have HO : Hid (RfAt wC g s ∧ Only g w wC) := ⟨hR2, ho⟩
  have HK : Hid (Blk wC w.heap.size 27 .u8 zeroD ∧ Blk wC (w.heap.size + 1) 27 .u8 zeroD) := ⟨k0, k1⟩
  obtain ⟨c0, c1, f0, f1⟩ := hR2.cells
  have hsz := strN_size s.1
  clear k0 k1 hR2 ho
  by_cases h0 : s.2 = 0
  · rw [h0] at c1
    by_cases hl : s.1.length < 32
    · have HF : Hid (digestS s = (zeroD, s.1, 3)) := by unfold Hid digestS takeS; rw [if_neg (by omega), if_pos h0, if_pos hl]
      have HS : Hid (RfAt (wC.setCell ⟨g, 1, none⟩ (.int .i64 3)) g (s.1, 3)) := HO.out.1.setE 3
      obtain ⟨d0, d1, g0, g1⟩ := (HO.out.1.setE 3).cells
      have hK1 : Blk (wC.setCell ⟨g, 1, none⟩ (.int .i64 3)) w.heap.size 27 .u8 zeroD := HK.out.1.other (by omega) _ _
      have hK2 : Blk (wC.setCell ⟨g, 1, none⟩ (.int .i64 3)) (w.heap.size + 1) 27 .u8 zeroD := HK.out.2.other (by omega) _ _
      have HEND : Hid _ := qd_end w _ g _ zeroD hK1 HS.out (HO.out.2.trans (Only.set _ g 1 _)) rfl hlt
      have hD := hK1.store digestT (m := zeroD) rfl rfl
      have hE := hK2.load digestT rfl
      clear hK1 hK2 hR d0 d1 g0 g1 HS HO HK
      generalize digestS s = F at *
      go_enter Try.func30, Try.ntmps30
      go_wp2_with (first
        | (refine alloc_op rfl 27 rfl _ hA ?_)
        | (refine alloc_op rfl 27 rfl _ hB ?_)
        | (refine build_op rfl 27 _ rfl #[] (by simp) _ (digestBuild _) ?_)
        | (refine store_op rfl 27 (.tmp 3) (.tmp 5) rfl ⟨w.heap.size + 1, 0, none⟩ rfl _ rfl hC ?_)
        | (refine load_op rfl 27 (.tmp 3) rfl ⟨w.heap.size + 1, 0, none⟩ rfl _ hE ?_)
        | (refine store_op rfl 27 (.tmp 2) (.tmp 27) rfl ⟨w.heap.size, 0, none⟩ rfl _ rfl hD ?_))
      refine bodyPost_ret (v := .agg (encL .u8 zeroD)) ?_ rfl ?_
      · rw [results_cell rfl]
        exact (HEND.out).1
      · have := HF.out
        subst this
        exact ⟨rfl, (HEND.out).2.1, (HEND.out).2.2⟩
    · have HF : Hid (digestS s = (s.1.take 32, s.1.drop 32, 0)) := by unfold Hid digestS takeS; rw [if_pos ⟨h0, by omega⟩, if_pos h0, if_neg hl]
      have HB : Hid (Byt s.1) := hR.byt
      have hcut := cut_from s.1 32 (by omega)
      have HZ : Hid (s.2 = 0) := h0
      clear hR h0
      generalize digestS s = F at *
      go_enter Try.func30, Try.ntmps30
      go_wp2_with (first
        | (refine alloc_op rfl 27 rfl _ hA ?_)
        | (refine alloc_op rfl 27 rfl _ hB ?_)
        | (refine build_op rfl 27 _ rfl #[] (by simp) _ (digestBuild _) ?_)
        | (refine store_op rfl 27 (.tmp 3) (.tmp 5) rfl ⟨w.heap.size + 1, 0, none⟩ rfl _ rfl hC ?_))
      clear hA hB hC c0 c1 f0 f1
      go_loopw [4] (fun ix wr => ∃ (wz : World) (i : Nat), wz = wr ∧ i ≤ 32 ∧ ix = .int .i64 i ∧ Blk wz w.heap.size 27 .u8 zeroD ∧ Blk wz (w.heap.size + 1) 27 .u8 (digI s.1 i) ∧ RfAt wz g s ∧ Only g w wz) (fun ix _ => 32 - (intOf ix).toNat)
      case atStart => exact ⟨wC, 0, rfl, by omega, rfl, HK.out.1, HK.out.2, HO.out.1, HO.out.2⟩
      case round =>
        obtain ⟨wr, i, hwr, hi, rfl, b0, b1, hr, ho⟩ := hrel
        subst hwr
        obtain ⟨c0, c1, f0, f1⟩ := hr.cells
        rw [HZ.out] at c1
        by_cases h32 : i < 32
        · have fr := b1.frozen i
          have hc1 := b1.cell i (by rw [digI_len s.1 i (by omega) (by omega)]; omega)
          have hix : ∀ h, ((strN s.1)[i]'h).toNat = s.1.getD i 0 := fun h => by rw [get_txt, txt_strN _ HB.out]
          have hisz : i < (strN s.1).size := by rw [hsz]; omega
          have hset := b1.set i (s.1.getD i 0)
          rw [digI_set s.1 i h32 (by omega)] at hset
          have HR : Hid (∀ v, Blk (wr.setCell ⟨w.heap.size + 1, i, none⟩ v) w.heap.size 27 .u8 zeroD ∧ RfAt (wr.setCell ⟨w.heap.size + 1, i, none⟩ v) g s ∧ Only g w (wr.setCell ⟨w.heap.size + 1, i, none⟩ v)) := fun v =>
            ⟨b0.other (by omega) _ _, hr.keep (Below.heap_setCell _ _ _ g (show g ≠ w.heap.size + 1 by omega)), ⟨ho.os, ho.tape, ho.output, by simpa [World.setCell] using ho.size, fun k hk hn => (Below.heap_setCell _ _ _ k (show k ≠ w.heap.size + 1 by omega)).trans (ho.block k hk hn)⟩⟩
          have HS : Hid (Blk (wr.setCell ⟨w.heap.size + 1, i, none⟩ (.int .u8 (s.1.getD i 0 : Nat))) (w.heap.size + 1) 27 .u8 (digI s.1 (i + 1))) := hset
          clear hset b0 b1 hr ho HO HK
          generalize s.1.getD i 0 = c at *
          go_wp2_with fail
          go_roundw
          case rel => exact ⟨_, i + 1, rfl, by omega, rfl, (HR.out _).1, HS.out, (HR.out _).2.1, (HR.out _).2.2⟩
          case measure => simp [intOf]; omega
        · obtain rfl : i = 32 := by omega
          have hx : (strN s.1).extract 32 s.1.length = strN (s.1.drop 32) := strN_from s.1 32
          have hdl : digI s.1 32 = s.1.take 32 := by unfold digI; rw [Nat.sub_self, List.replicate_zero, List.append_nil]
          have hd32 : (s.1.take 32).length = 32 := by rw [List.length_take]; omega
          rw [hdl] at b1
          have hS := hr.setS 32
          rw [HZ.out] at hS
          have hK1 : Blk (wr.setCell ⟨g, 0, none⟩ (.string (strN (s.1.drop 32)))) w.heap.size 27 .u8 zeroD := b0.other (by omega) _ _
          have hK2 : Blk (wr.setCell ⟨g, 0, none⟩ (.string (strN (s.1.drop 32)))) (w.heap.size + 1) 27 .u8 (s.1.take 32) := b1.other (by omega) _ _
          have HEND : Hid _ := qd_end w _ g _ (s.1.take 32) hK1 hS (ho.trans (Only.set _ g 0 _)) hd32 hlt
          have hD := hK1.store digestT (m := s.1.take 32) rfl hd32
          have hE := hK2.load digestT hd32
          clear hK1 hK2 b0 b1 hr ho HO HK hcut hS hdl
          go_wp2_with (first
            | (refine load_op rfl 27 (.tmp 3) rfl ⟨w.heap.size + 1, 0, none⟩ rfl _ hE ?_)
            | (refine store_op rfl 27 (.tmp 2) (.tmp 48) rfl ⟨w.heap.size, 0, none⟩ rfl _ rfl hD ?_))
          refine bodyPost_ret (v := .agg (encL .u8 (s.1.take 32))) ?_ rfl ?_
          · rw [results_cell rfl]
            exact HEND.out.1
          · have := HF.out
            subst this
            exact ⟨rfl, HEND.out.2.1, HEND.out.2.2⟩
  · have HF : Hid (digestS s = (zeroD, s)) := (stay h0).2.2.2.2.2.1
    have HEND : Hid _ := qd_end w _ g _ zeroD HK.out.1 HO.out.1 HO.out.2 rfl hlt
    have hD := HK.out.1.store digestT (m := zeroD) rfl rfl
    have hE := HK.out.2.load digestT rfl
    clear HO HK hR
    generalize digestS s = F at *
    go_enter Try.func30, Try.ntmps30
    go_wp2_with (first
      | (refine alloc_op rfl 27 rfl _ hA ?_)
      | (refine alloc_op rfl 27 rfl _ hB ?_)
      | (refine build_op rfl 27 _ rfl #[] (by simp) _ (digestBuild _) ?_)
      | (refine store_op rfl 27 (.tmp 3) (.tmp 5) rfl ⟨w.heap.size + 1, 0, none⟩ rfl _ rfl hC ?_)
      | (refine load_op rfl 27 (.tmp 3) rfl ⟨w.heap.size + 1, 0, none⟩ rfl _ hE ?_)
      | (refine store_op rfl 27 (.tmp 2) (.tmp 27) rfl ⟨w.heap.size, 0, none⟩ rfl _ rfl hD ?_))
    refine bodyPost_ret (v := .agg (encL .u8 zeroD)) ?_ rfl ?_
    · rw [results_cell rfl]
      exact (HEND.out).1
    · have := HF.out
      subst this
      exact ⟨rfl, (HEND.out).2.1, (HEND.out).2.2⟩
end Go.Proofs.Ytngojkleehgbaaa
