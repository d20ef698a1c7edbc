/-
  The law's 'play' (layer 9): one step of both cabinets, and all that may be asked of them behind it.
-/
import Derived.Test.YtlhmeebbdjiokaaCabPairs
import Derived.Test.YtlhmeebbdjiokaaHeldMore
import Derived.Test.YtlhmeebbdjiokaaPArgs
import Derived.Deep.Slices
import Derived.Deep.MidRow
namespace Go.Proofs.Ytlhmeebbdjiokaa
open Go.ChangeShapes Go.WideShapes Go.ChangeAt Go.RowKit
set_option linter.unusedVariables false
set_option linter.unusedSimpArgs false
/-- What a step makes of a cabinet. -/
def stepC (c : CabM) (what : Int) (old nm D : ByteArray) (N : Int) (keep : List Int) (t : UInt8) : CabM :=
  if 1200000 < D.size then c else if 0 ≤ what ∧ what ≤ 5 then (changeR c what old nm D).2 else if what = 6 then failC c N else if what = 7 then crashC c N keep t else c
theorem good_step {c : CabM} {n : Nat} (h : GoodC c n) (what : Int) (old nm D : ByteArray) (N : Int) (hN : N ≤ 9223372036854775807) (keep : List Int) (t : UInt8) : GoodC (stepC c what old nm D N keep t) (n + 1) := by
  unfold stepC
  split
  · exact h.mono (by omega)
  · split
    · exact good_change h what old nm D
    · split
      · exact (good_fail h N hN).mono (by omega)
      · split
        · exact (good_crash h N keep t).mono (by omega)
        · exact h.mono (by omega)
theorem names_len {c : CabM} {n : Nat} (h : GoodC c n) (hn : n ≤ 1000) : (namesR c).length ≤ 9223372036854775807 := by
  have := (small_of h hn).1
  unfold namesR
  split
  · simp
  · rw [List.length_map]; omega
set_option maxRecDepth 100000 in
set_option maxHeartbeats 32000000 in
theorem play_any (Z : CabP) (B : Nat) (F : Nat → Prop) (w : World) (q gp gd : Nat) (c : CabM) (n : Nat) (h : PairAt Z B F w gp gd c c) (hF : F q) (hq : w.heap[q]? = some (.cells #[.pointer (some ⟨gp, 0, none⟩), .pointer (some ⟨gd, 0, none⟩)] 33 (0, 0))) (hg : GoodC c n) (hn : n + 1 ≤ 1000)
    (what : Int) (old nm D : ByteArray) (ad : Option Addr) (nd kd : Nat) (N : Int) (ak : Option Addr) (nk kk tn : Nat) (hsz : nm.size ≤ 9223372036854775806) (hso : old.size ≤ 9223372036854775806) (hD : D.size = nd) (hrow : RowL .u8 w ad nd (txt D)) (hnil : ad = none → nd = 0 ∧ kd = 0) (hadB : 0 < nd → ∀ x, ad = some x → x.block < B)
    (hN : -9223372036854775808 ≤ N ∧ N ≤ 9223372036854775807) (keep : List Int) (hkr : RowZ w ak nk keep) (hknil : ak = none → nk = 0 ∧ kk = 0) (hkB : 0 < nk → ∀ x, ak = some x → x.block < B) (hkl : nk * 8 ≤ 140737488355328) (hkk : nk ≤ kk) (t : UInt8) (ht : tn = t.toNat) :
    Calls Try.prog 8 #[.pointer (some ⟨q, 0, none⟩), .agg #[.int .i64 what, .string old, .string nm, .slice ad nd kd, .int .i64 N, .slice ak nk kk, .int .u8 (tn : Nat)]] w fun e w' => e = .returned (.bool true) ∧ PairTo Z B F w gp gd (stepC c what old nm D N keep t) (stepC c what old nm D N keep t) w' := by
  have HSZ : Hid (nm.size ≤ 9223372036854775806) := hsz
  have HG : Hid (GoodC c n) := hg
  have HN : Hid (n + 1 ≤ 1000) := hn
  have HTN : Hid (tn = t.toNat) := ht
  clear ht
  have hqlt : q < w.heap.size := (Array.getElem?_eq_some_iff.1 hq).1
  have hb0 := below_new w (.cells #[.int .i64 what, .string old, .string nm, .slice ad nd kd, .int .i64 N, .slice ak nk kk, .int .u8 (tn : Nat)] 38)
  obtain ⟨sv, hsv⟩ : ∃ sv : Array Value, sv = #[.int .i64 what, .string old, .string nm, .slice ad nd kd, .int .i64 N, .slice ak nk kk, .int .u8 (tn : Nat)] := ⟨_, rfl⟩
  have HSV : Hid (sv = #[.int .i64 what, .string old, .string nm, .slice ad nd kd, .int .i64 N, .slice ak nk kk, .int .u8 (tn : Nat)]) := hsv
  have hpa : PlayAt Z B F w q w.heap.size gp gd sv c c (w.alloc (.cells #[.int .i64 what, .string old, .string nm, .slice ad nd kd, .int .i64 N, .slice ak nk kk, .int .u8 (tn : Nat)] 38)) := by
    rw [hsv]
    exact ⟨h.more hb0 w.heap.size (Nat.le_refl _) (by simp), (hb0.block q hqlt).trans hq, heap_alloc_last w _, hb0.mono h.size, (h.to hb0).2.2, hF⟩
  have HB : Hid (Below w.heap.size w (w.alloc (.cells #[.int .i64 what, .string old, .string nm, .slice ad nd kd, .int .i64 N, .slice ak nk kk, .int .u8 (tn : Nat)] 38))) := hb0
  have hcell : ∀ i, (w.alloc (.cells #[.int .i64 what, .string old, .string nm, .slice ad nd kd, .int .i64 N, .slice ak nk kk, .int .u8 (tn : Nat)] 38)).cell? ⟨w.heap.size, i, none⟩ = (#[.int .i64 what, .string old, .string nm, .slice ad nd kd, .int .i64 N, .slice ak nk kk, .int .u8 (tn : Nat)] : Array Value)[i]? := fun i => by rw [hpa.cells.2.2 i, hsv]
  have x0 := hcell 0
  have x1 := hcell 1
  have x2 := hcell 2
  have x3 := hcell 3
  have x4 := hcell 4
  have x5 := hcell 5
  have x6 := hcell 6
  dsimp at x0 x1 x2 x3 x4 x5 x6
  have hld : (loadVar 38 ⟨w.heap.size, 0, none⟩).run Try.prog (w.alloc (.cells #[.int .i64 what, .string old, .string nm, .slice ad nd kd, .int .i64 N, .slice ak nk kk, .int .u8 (tn : Nat)] 38)) = .ok (.agg #[.int .i64 what, .string old, .string nm, .slice ad nd kd, .int .i64 N, .slice ak nk kk, .int .u8 (tn : Nat)]) (w.alloc (.cells #[.int .i64 what, .string old, .string nm, .slice ad nd kd, .int .i64 N, .slice ak nk kk, .int .u8 (tn : Nat)] 38)) := by
    exact run_loadVar_row _ w.heap.size 38 38 _ (0, 0) _ (heap_alloc_last w _) Try.underlying38 rfl (by kernel_rfl)
  clear hcell hsv hb0 hqlt h hF hq
  go_enter Try.func8, Try.ntmps8
  by_cases hbig : 1200000 < nd
  · have HST : Hid (stepC c what old nm D N keep t = c) := by unfold Hid stepC; rw [if_pos (by omega)]
    have hbig2 : (1200000 : Int) < (nd : Int) := by omega
    go_wp2_with fail
    go_ret
    exact ⟨rfl, by rw [HST.out]; exact hpa.done⟩
  · have hbig2 : ¬ (1200000 : Int) < (nd : Int) := by omega
    by_cases h05 : 0 ≤ what ∧ what ≤ 5
    · obtain ⟨h0, h5⟩ := h05
      have HST : Hid (stepC c what old nm D N keep t = (changeR c what old nm D).2) := by unfold Hid stepC; rw [if_neg (by omega), if_pos ⟨h0, h5⟩]
      have HCH : Hid (Calls Try.prog 15 #[.pointer (some ⟨q, 0, none⟩), .agg #[.int .i64 what, .string old, .string nm, .slice ad nd kd, .int .i64 N, .slice ak nk kk, .int .u8 (tn : Nat)]] (w.alloc (.cells #[.int .i64 what, .string old, .string nm, .slice ad nd kd, .int .i64 N, .slice ak nk kk, .int .u8 (tn : Nat)] 38)) fun e w' => e = .returned (.tuple #[.int .i64 ((changeR c what old nm D).1 : Nat), .int .i64 ((changeR c what old nm D).1 : Nat)]) ∧ PairTo Z B (FP F w.heap.size) (w.alloc (.cells #[.int .i64 what, .string old, .string nm, .slice ad nd kd, .int .i64 N, .slice ak nk kk, .int .u8 (tn : Nat)] 38)) gp gd (changeR c what old nm D).2 (changeR c what old nm D).2 w') :=
        change_any Z B (FP F w.heap.size) _ q gp gd c n hpa.pair (.inl hpa.fq) hpa.q0 hg (by omega) what old nm D ad nd kd N ak nk kk tn hsz hso (hrow.below HB.out) hnil hadB (by omega)
      have HGC : Hid (GoodC (changeR c what old nm D).2 (n + 1)) := good_change hg what old nm D
      have HNC : Hid (n + 1 ≤ 1000) := hn
      have HNM : Hid ((namesR (changeR c what old nm D).2).length ≤ 9223372036854775807) := names_len HGC.out hn
      clear hrow hkr hnil hknil hadB hkB hg HB
      generalize (changeR c what old nm D).1 = ce at *
      generalize (changeR c what old nm D).2 = C at *
      go_wp2_with (refine load_op rfl 38 (.tmp 3) rfl ⟨w.heap.size, 0, none⟩ rfl _ hld ?_)
      generalize w.alloc (.cells #[.int .i64 what, .string old, .string nm, .slice ad nd kd, .int .i64 N, .slice ak nk kk, .int .u8 (tn : Nat)] 38) = wa at *
      generalize w.heap.size = p at *
      refine HCH.out.mono ?_
      rintro _ zt ⟨rfl, hto⟩
      have hpt := hpa.to hto
      clear HCH hto hpa x0 x1 x2 x3 x4 x5 x6 hld
      go_wp2_with fail
      refine wp_region_held_drew (S := fun w' => PlayAt Z B F w q p gp gd sv (C) (C) w') (by kernel_rfl) (hpt.below ((Below.refl _ _).drew)) (fun hHeld => ?_)
      refine held_take 0 (some 86) (.pointer (some ⟨q, 0, none⟩)) rfl rfl (by kernel_rfl) (by kernel_rfl) (by kernel_rfl) (fun _ _ _ h => h) rfl (fun w' hS => ?_) hHeld ?_
      · clear hS; go_simp
      try simp only [Act.put, List.setIfInBounds_toArray, List.set_cons_zero, List.set_cons_succ]
      refine held_take 1 (some 87) (.pointer (some ⟨q, 0, none⟩)) rfl rfl (by kernel_rfl) (by kernel_rfl) (by kernel_rfl) (fun _ _ _ h => h) rfl (fun w' hS => ?_) hHeld ?_
      · clear hS; go_simp
      try simp only [Act.put, List.setIfInBounds_toArray, List.set_cons_zero, List.set_cons_succ]
      refine held_take 2 (some 88) (.pointer (some ⟨q, 0, none⟩)) rfl rfl (by kernel_rfl) (by kernel_rfl) (by kernel_rfl) (fun _ _ _ h => h) rfl (fun w' hS => ?_) hHeld ?_
      · clear hS; go_simp
      try simp only [Act.put, List.setIfInBounds_toArray, List.set_cons_zero, List.set_cons_succ]
      refine held_take 3 (some 89) (.pointer (some ⟨gp, 0, none⟩)) rfl rfl (by kernel_rfl) (by kernel_rfl) (by kernel_rfl) (fun _ _ _ h => h) rfl (fun w' hS => ?_) hHeld ?_
      · have := hS.cells.1; clear hS; go_simp
      try simp only [Act.put, List.setIfInBounds_toArray, List.set_cons_zero, List.set_cons_succ]
      refine held_take 4 (some 90) (.pointer (some ⟨p, 2, none⟩)) rfl rfl (by kernel_rfl) (by kernel_rfl) (by kernel_rfl) (fun _ _ _ h => h) rfl (fun w' hS => ?_) hHeld ?_
      · clear hS; go_simp
      try simp only [Act.put, List.setIfInBounds_toArray, List.set_cons_zero, List.set_cons_succ]
      refine held_take 5 (some 91) (.string nm) rfl rfl (by kernel_rfl) (by kernel_rfl) (by kernel_rfl) (fun _ _ _ h => h) rfl (fun w' hS => ?_) hHeld ?_
      · have := hS.cells.2.2 2; rw [HSV.out] at this; clear hS; go_simp
      try simp only [Act.put, List.setIfInBounds_toArray, List.set_cons_zero, List.set_cons_succ]
      refine held_one (i := 6) (by kernel_rfl) rfl rfl (fun K hK => ?_)
      go_simp
      refine Calls.mono (pl_pread hHeld HGC.out HNC.out nm HSZ.out) ?_
      rintro _ z1 ⟨a1, l1, c1, rfl, hr1, hn1, -, hp1⟩
      dsimp only
      refine hK.out _ _ hp1 ?_
      clear hK K 
      try simp only [Act.put, List.setIfInBounds_toArray, List.set_cons_zero, List.set_cons_succ]
      refine held_take 7 (some 85) (.tuple #[.slice a1 l1 c1, .int .i64 ((readR C nm).2 : Nat)]) rfl rfl (by kernel_rfl) (by kernel_rfl) (by kernel_rfl) (fun _ _ _ h => h) rfl (fun w' hS => ?_) hp1 ?_
      · clear hS; go_simp
      try simp only [Act.put, List.setIfInBounds_toArray, List.set_cons_zero, List.set_cons_succ]
      refine held_take 8 (some 93) (.slice a1 l1 c1) rfl rfl (by kernel_rfl) (by kernel_rfl) (by kernel_rfl) (fun _ _ _ h => h) rfl (fun w' hS => ?_) hp1 ?_
      · clear hS; go_simp
      try simp only [Act.put, List.setIfInBounds_toArray, List.set_cons_zero, List.set_cons_succ]
      refine held_take 9 (some 94) (.int .i64 ((readR C nm).2 : Nat)) rfl rfl (by kernel_rfl) (by kernel_rfl) (by kernel_rfl) (fun _ _ _ h => h) rfl (fun w' hS => ?_) hp1 ?_
      · clear hS; go_simp
      try simp only [Act.put, List.setIfInBounds_toArray, List.set_cons_zero, List.set_cons_succ]
      refine held_take 10 (some 7) (.slice a1 l1 c1) rfl rfl (by kernel_rfl) (by kernel_rfl) (by kernel_rfl) (fun _ _ _ h => h) rfl (fun w' hS => ?_) hp1 ?_
      · clear hS; go_simp
      try simp only [Act.put, List.setIfInBounds_toArray, List.set_cons_zero, List.set_cons_succ]
      refine held_take 11 (some 8) (.int .i64 ((readR C nm).2 : Nat)) rfl rfl (by kernel_rfl) (by kernel_rfl) (by kernel_rfl) (fun _ _ _ h => h) rfl (fun w' hS => ?_) hp1 ?_
      · clear hS; go_simp
      try simp only [Act.put, List.setIfInBounds_toArray, List.set_cons_zero, List.set_cons_succ]
      refine wpAnyH_done (by kernel_rfl) ?_ _
      clear hHeld
      have HR1 : Hid (RowL .u8 z1 a1 l1 (txt (readR C nm).1) ∧ (a1 = none → l1 = 0)) := ⟨hr1, hn1⟩
      clear hr1 hn1
      go_wp2_with fail
      refine wp_region_held_drew (S := fun w' => PlayAt Z B F w q p gp gd sv (C) (C) w' ∧ Below z1.heap.size z1 w') (by kernel_rfl) (⟨hp1.below ((Below.refl _ _).drew), (Below.refl _ _).drew⟩) (fun hHeld => ?_)
      refine held_take 0 (some 96) (.pointer (some ⟨q, 0, none⟩)) rfl rfl (by kernel_rfl) (by kernel_rfl) (by kernel_rfl) (fun _ _ _ h => h) rfl (fun w' hS => ?_) hHeld ?_
      · clear hS; go_simp
      try simp only [Act.put, List.setIfInBounds_toArray, List.set_cons_zero, List.set_cons_succ]
      refine held_take 1 (some 97) (.pointer (some ⟨q, 0, none⟩)) rfl rfl (by kernel_rfl) (by kernel_rfl) (by kernel_rfl) (fun _ _ _ h => h) rfl (fun w' hS => ?_) hHeld ?_
      · clear hS; go_simp
      try simp only [Act.put, List.setIfInBounds_toArray, List.set_cons_zero, List.set_cons_succ]
      refine held_take 2 (some 98) (.pointer (some ⟨q, 1, none⟩)) rfl rfl (by kernel_rfl) (by kernel_rfl) (by kernel_rfl) (fun _ _ _ h => h) rfl (fun w' hS => ?_) hHeld ?_
      · clear hS; go_simp
      try simp only [Act.put, List.setIfInBounds_toArray, List.set_cons_zero, List.set_cons_succ]
      refine held_take 3 (some 99) (.pointer (some ⟨gd, 0, none⟩)) rfl rfl (by kernel_rfl) (by kernel_rfl) (by kernel_rfl) (fun _ _ _ h => h) rfl (fun w' hS => ?_) hHeld ?_
      · have := hS.1.cells.2.1; clear hS; go_simp
      try simp only [Act.put, List.setIfInBounds_toArray, List.set_cons_zero, List.set_cons_succ]
      refine held_take 4 (some 100) (.pointer (some ⟨p, 2, none⟩)) rfl rfl (by kernel_rfl) (by kernel_rfl) (by kernel_rfl) (fun _ _ _ h => h) rfl (fun w' hS => ?_) hHeld ?_
      · clear hS; go_simp
      try simp only [Act.put, List.setIfInBounds_toArray, List.set_cons_zero, List.set_cons_succ]
      refine held_take 5 (some 101) (.string nm) rfl rfl (by kernel_rfl) (by kernel_rfl) (by kernel_rfl) (fun _ _ _ h => h) rfl (fun w' hS => ?_) hHeld ?_
      · have := hS.1.cells.2.2 2; rw [HSV.out] at this; clear hS; go_simp
      try simp only [Act.put, List.setIfInBounds_toArray, List.set_cons_zero, List.set_cons_succ]
      refine held_one (i := 6) (by kernel_rfl) rfl rfl (fun K hK => ?_)
      go_simp
      refine Calls.mono (pl_dread hHeld.1 HGC.out HNC.out nm) ?_
      rintro _ z2 ⟨rfl, hz2⟩
      dsimp only
      refine hK.out _ _ (by rw [hz2]; exact hHeld) ?_
      clear hK K 
      try simp only [Act.put, List.setIfInBounds_toArray, List.set_cons_zero, List.set_cons_succ]
      have hH2 : PlayAt Z B F w q p gp gd sv (C) (C) z2 ∧ Below z1.heap.size z1 z2 := by rw [hz2]; exact hHeld
      clear hz2 hHeld
      refine held_take 7 (some 95) (.tuple #[.string (readR C nm).1, .int .i64 ((readR C nm).2 : Nat)]) rfl rfl (by kernel_rfl) (by kernel_rfl) (by kernel_rfl) (fun _ _ _ h => h) rfl (fun w' hS => ?_) hH2 ?_
      · clear hS; go_simp
      try simp only [Act.put, List.setIfInBounds_toArray, List.set_cons_zero, List.set_cons_succ]
      refine held_take 8 (some 103) (.string (readR C nm).1) rfl rfl (by kernel_rfl) (by kernel_rfl) (by kernel_rfl) (fun _ _ _ h => h) rfl (fun w' hS => ?_) hH2 ?_
      · clear hS; go_simp
      try simp only [Act.put, List.setIfInBounds_toArray, List.set_cons_zero, List.set_cons_succ]
      refine held_take 9 (some 104) (.int .i64 ((readR C nm).2 : Nat)) rfl rfl (by kernel_rfl) (by kernel_rfl) (by kernel_rfl) (fun _ _ _ h => h) rfl (fun w' hS => ?_) hH2 ?_
      · clear hS; go_simp
      try simp only [Act.put, List.setIfInBounds_toArray, List.set_cons_zero, List.set_cons_succ]
      refine held_take 10 (some 9) (.string (readR C nm).1) rfl rfl (by kernel_rfl) (by kernel_rfl) (by kernel_rfl) (fun _ _ _ h => h) rfl (fun w' hS => ?_) hH2 ?_
      · clear hS; go_simp
      try simp only [Act.put, List.setIfInBounds_toArray, List.set_cons_zero, List.set_cons_succ]
      refine held_take 11 (some 10) (.int .i64 ((readR C nm).2 : Nat)) rfl rfl (by kernel_rfl) (by kernel_rfl) (by kernel_rfl) (fun _ _ _ h => h) rfl (fun w' hS => ?_) hH2 ?_
      · clear hS; go_simp
      try simp only [Act.put, List.setIfInBounds_toArray, List.set_cons_zero, List.set_cons_succ]
      refine wpAnyH_done (by kernel_rfl) ?_ _
      obtain ⟨hp2, hb2⟩ := hH2
      have HR2 : Hid (RowL .u8 z2 a1 l1 (txt (readR C nm).1) ∧ (a1 = none → l1 = 0)) := ⟨HR1.out.1.below hb2, HR1.out.2⟩
      clear HR1 hb2 hp1
      obtain ⟨k0, k1, -⟩ := hp2.cells
      go_wp2_with fail
      refine (pl_plist hp2 HGC.out HNC.out).mono ?_
      rintro _ z3 ⟨⟨aL, cL, rfl, hrL⟩, bL, hp3⟩
      have HR3 : Hid ((RowL .u8 z3 a1 l1 (txt (readR C nm).1) ∧ (a1 = none → l1 = 0)) ∧ RowS z3 aL (namesR C)) := ⟨⟨HR2.out.1.below bL, HR2.out.2⟩, hrL⟩
      clear HR2 hp2 k0 k1 bL hrL
      obtain ⟨k0, k1, -⟩ := hp3.cells
      go_wp2_with fail
      refine (pl_dlist hp3 HGC.out HNC.out).mono ?_
      rintro _ z4 ⟨⟨aM, cM, rfl, hrM⟩, bM, hp4⟩
      have HR4 : Hid ((RowL .u8 z4 a1 l1 (txt (readR C nm).1) ∧ (a1 = none → l1 = 0)) ∧ RowS z4 aL (namesR C) ∧ RowS z4 aM (namesR C)) := ⟨⟨HR3.out.1.1.below bM, HR3.out.1.2⟩, HR3.out.2.below bM, hrM⟩
      clear HR3 hp3 k0 k1 bM hrM
      obtain ⟨k0, k1, -⟩ := hp4.cells
      go_wp2_with fail
      refine (pl_pused hp4 HGC.out HNC.out).mono ?_
      rintro _ z5 ⟨rfl, bU, hp5⟩
      have HR5 : Hid (RowS z5 aL (namesR C) ∧ RowS z5 aM (namesR C)) := ⟨HR4.out.2.1.below bU, HR4.out.2.2.below bU⟩
      have hcv := conv_any (HR4.out.1.1.below bU) HR4.out.1.2 c1
      rw [strN_txt] at hcv
      clear HR4 hp4 k0 k1 bU
      obtain ⟨k0, k1, -⟩ := hp5.cells
      have HT := texts_same z5 aL aM cL cM (namesR C) HR5.out.1 HR5.out.2 HNM.out
      generalize (namesR C).length = nl at *
      generalize readR C nm = RR at *
      generalize namesE C = ne at *
      clear HR5
      go_wp2_with fail
      refine HT.mono ?_
      rintro _ z6 ⟨rfl, bT⟩
      have hp6 := hp5.below bT
      clear HT hp5 k0 k1 hcv bT
      obtain ⟨k0, k1, -⟩ := hp6.cells
      go_wp2_with fail
      refine (pl_dused hp6 HGC.out HNC.out).mono ?_
      rintro _ z7 ⟨rfl, hp7⟩
      clear hp6 k0 k1
      obtain ⟨k0, k1, -⟩ := hp7.cells
      have k2 := hp7.quota
      go_wp2_with fail
      go_ret
      exact ⟨rfl, by rw [HST.out]; exact hp7.done⟩
    · by_cases h6 : what = 6
      · subst h6
        have HST : Hid (stepC c 6 old nm D N keep t = failC c N) := by unfold Hid stepC; rw [if_neg (by omega), if_neg (by omega), if_pos rfl]
        have HGC : Hid (GoodC (failC c N) (n + 1)) := (good_fail hg N hN.2).mono (by omega)
        have HNC : Hid (n + 1 ≤ 1000) := hn
        have HNM : Hid ((namesR (failC c N)).length ≤ 9223372036854775807) := names_len HGC.out hn
        clear hrow hkr hnil hknil hadB hkB hg HB hld
        go_wp2_with fail
        generalize w.alloc (.cells #[.int .i64 6, .string old, .string nm, .slice ad nd kd, .int .i64 N, .slice ak nk kk, .int .u8 (tn : Nat)] 38) = wa at *
        generalize w.heap.size = p at *
        clear x0 x1 x2 x3 x4 x5 x6
        have hpd := hpa.below ((Below.refl _ _).drew)
        clear hpa
        refine wp_region_held_drew (S := fun w' => PlC q p gp gd sv w') (by kernel_rfl) (hpd.cells) (fun hHeld => ?_)
        refine held_take 0 (some 43) (.pointer (some ⟨q, 0, none⟩)) rfl rfl (by kernel_rfl) (by kernel_rfl) (by kernel_rfl) (fun _ _ _ h => h) rfl (fun w' hS => ?_) hHeld ?_
        · clear hS; go_simp
        try simp only [Act.put, List.setIfInBounds_toArray, List.set_cons_zero, List.set_cons_succ]
        refine held_take 1 (some 44) (.pointer (some ⟨q, 0, none⟩)) rfl rfl (by kernel_rfl) (by kernel_rfl) (by kernel_rfl) (fun _ _ _ h => h) rfl (fun w' hS => ?_) hHeld ?_
        · clear hS; go_simp
        try simp only [Act.put, List.setIfInBounds_toArray, List.set_cons_zero, List.set_cons_succ]
        refine held_take 2 (some 45) (.pointer (some ⟨q, 0, none⟩)) rfl rfl (by kernel_rfl) (by kernel_rfl) (by kernel_rfl) (fun _ _ _ h => h) rfl (fun w' hS => ?_) hHeld ?_
        · clear hS; go_simp
        try simp only [Act.put, List.setIfInBounds_toArray, List.set_cons_zero, List.set_cons_succ]
        refine held_take 3 (some 46) (.pointer (some ⟨gp, 0, none⟩)) rfl rfl (by kernel_rfl) (by kernel_rfl) (by kernel_rfl) (fun _ _ _ h => h) rfl (fun w' hS => ?_) hHeld ?_
        · have := hS.1; clear hS; go_simp
        try simp only [Act.put, List.setIfInBounds_toArray, List.set_cons_zero, List.set_cons_succ]
        refine held_take 4 (some 47) (.pointer (some ⟨p, 4, none⟩)) rfl rfl (by kernel_rfl) (by kernel_rfl) (by kernel_rfl) (fun _ _ _ h => h) rfl (fun w' hS => ?_) hHeld ?_
        · clear hS; go_simp
        try simp only [Act.put, List.setIfInBounds_toArray, List.set_cons_zero, List.set_cons_succ]
        refine held_take 5 (some 48) (.int .i64 N) rfl rfl (by kernel_rfl) (by kernel_rfl) (by kernel_rfl) (fun _ _ _ h => h) rfl (fun w' hS => ?_) hHeld ?_
        · have := hS.2.2 4; rw [HSV.out] at this; clear hS; go_simp
        try simp only [Act.put, List.setIfInBounds_toArray, List.set_cons_zero, List.set_cons_succ]
        refine held_one (i := 6) (by kernel_rfl) rfl rfl (fun K hK => ?_)
        go_simp
        refine Calls.mono (pl_pfail hpd HG.out (by have := HN.out; omega) N hN.2) ?_
        rintro _ y1 ⟨rfl, hy1⟩
        dsimp only
        refine hK.out _ _ hy1.cells ?_
        clear hK K hpd hHeld
        try simp only [Act.put, List.setIfInBounds_toArray, List.set_cons_zero, List.set_cons_succ]
        refine wpAnyH_done (by kernel_rfl) ?_ _
        go_wp2_with fail
        have hyd := hy1.below ((Below.refl _ _).drew)
        clear hy1
        refine wp_region_held_drew (S := fun w' => PlC q p gp gd sv w') (by kernel_rfl) (hyd.cells) (fun hHeld => ?_)
        refine held_take 0 (some 50) (.pointer (some ⟨q, 0, none⟩)) rfl rfl (by kernel_rfl) (by kernel_rfl) (by kernel_rfl) (fun _ _ _ h => h) rfl (fun w' hS => ?_) hHeld ?_
        · clear hS; go_simp
        try simp only [Act.put, List.setIfInBounds_toArray, List.set_cons_zero, List.set_cons_succ]
        refine held_take 1 (some 51) (.pointer (some ⟨q, 0, none⟩)) rfl rfl (by kernel_rfl) (by kernel_rfl) (by kernel_rfl) (fun _ _ _ h => h) rfl (fun w' hS => ?_) hHeld ?_
        · clear hS; go_simp
        try simp only [Act.put, List.setIfInBounds_toArray, List.set_cons_zero, List.set_cons_succ]
        refine held_take 2 (some 52) (.pointer (some ⟨q, 1, none⟩)) rfl rfl (by kernel_rfl) (by kernel_rfl) (by kernel_rfl) (fun _ _ _ h => h) rfl (fun w' hS => ?_) hHeld ?_
        · clear hS; go_simp
        try simp only [Act.put, List.setIfInBounds_toArray, List.set_cons_zero, List.set_cons_succ]
        refine held_take 3 (some 53) (.pointer (some ⟨gd, 0, none⟩)) rfl rfl (by kernel_rfl) (by kernel_rfl) (by kernel_rfl) (fun _ _ _ h => h) rfl (fun w' hS => ?_) hHeld ?_
        · have := hS.2.1; clear hS; go_simp
        try simp only [Act.put, List.setIfInBounds_toArray, List.set_cons_zero, List.set_cons_succ]
        refine held_take 4 (some 54) (.pointer (some ⟨p, 4, none⟩)) rfl rfl (by kernel_rfl) (by kernel_rfl) (by kernel_rfl) (fun _ _ _ h => h) rfl (fun w' hS => ?_) hHeld ?_
        · clear hS; go_simp
        try simp only [Act.put, List.setIfInBounds_toArray, List.set_cons_zero, List.set_cons_succ]
        refine held_take 5 (some 55) (.int .i64 N) rfl rfl (by kernel_rfl) (by kernel_rfl) (by kernel_rfl) (fun _ _ _ h => h) rfl (fun w' hS => ?_) hHeld ?_
        · have := hS.2.2 4; rw [HSV.out] at this; clear hS; go_simp
        try simp only [Act.put, List.setIfInBounds_toArray, List.set_cons_zero, List.set_cons_succ]
        refine held_one (i := 6) (by kernel_rfl) rfl rfl (fun K hK => ?_)
        go_simp
        refine Calls.mono (pl_dfail hyd N) ?_
        rintro _ zt ⟨rfl, hpt⟩
        dsimp only
        refine hK.out _ _ hpt.cells ?_
        clear hK K hyd hHeld
        try simp only [Act.put, List.setIfInBounds_toArray, List.set_cons_zero, List.set_cons_succ]
        refine wpAnyH_done (by kernel_rfl) ?_ _
        go_wp2_with fail
        generalize failC c N = C at *
        refine wp_region_held_drew (S := fun w' => PlayAt Z B F w q p gp gd sv (C) (C) w') (by kernel_rfl) (hpt.below ((Below.refl _ _).drew)) (fun hHeld => ?_)
        refine held_take 0 (some 86) (.pointer (some ⟨q, 0, none⟩)) rfl rfl (by kernel_rfl) (by kernel_rfl) (by kernel_rfl) (fun _ _ _ h => h) rfl (fun w' hS => ?_) hHeld ?_
        · clear hS; go_simp
        try simp only [Act.put, List.setIfInBounds_toArray, List.set_cons_zero, List.set_cons_succ]
        refine held_take 1 (some 87) (.pointer (some ⟨q, 0, none⟩)) rfl rfl (by kernel_rfl) (by kernel_rfl) (by kernel_rfl) (fun _ _ _ h => h) rfl (fun w' hS => ?_) hHeld ?_
        · clear hS; go_simp
        try simp only [Act.put, List.setIfInBounds_toArray, List.set_cons_zero, List.set_cons_succ]
        refine held_take 2 (some 88) (.pointer (some ⟨q, 0, none⟩)) rfl rfl (by kernel_rfl) (by kernel_rfl) (by kernel_rfl) (fun _ _ _ h => h) rfl (fun w' hS => ?_) hHeld ?_
        · clear hS; go_simp
        try simp only [Act.put, List.setIfInBounds_toArray, List.set_cons_zero, List.set_cons_succ]
        refine held_take 3 (some 89) (.pointer (some ⟨gp, 0, none⟩)) rfl rfl (by kernel_rfl) (by kernel_rfl) (by kernel_rfl) (fun _ _ _ h => h) rfl (fun w' hS => ?_) hHeld ?_
        · have := hS.cells.1; clear hS; go_simp
        try simp only [Act.put, List.setIfInBounds_toArray, List.set_cons_zero, List.set_cons_succ]
        refine held_take 4 (some 90) (.pointer (some ⟨p, 2, none⟩)) rfl rfl (by kernel_rfl) (by kernel_rfl) (by kernel_rfl) (fun _ _ _ h => h) rfl (fun w' hS => ?_) hHeld ?_
        · clear hS; go_simp
        try simp only [Act.put, List.setIfInBounds_toArray, List.set_cons_zero, List.set_cons_succ]
        refine held_take 5 (some 91) (.string nm) rfl rfl (by kernel_rfl) (by kernel_rfl) (by kernel_rfl) (fun _ _ _ h => h) rfl (fun w' hS => ?_) hHeld ?_
        · have := hS.cells.2.2 2; rw [HSV.out] at this; clear hS; go_simp
        try simp only [Act.put, List.setIfInBounds_toArray, List.set_cons_zero, List.set_cons_succ]
        refine held_one (i := 6) (by kernel_rfl) rfl rfl (fun K hK => ?_)
        go_simp
        refine Calls.mono (pl_pread hHeld HGC.out HNC.out nm HSZ.out) ?_
        rintro _ z1 ⟨a1, l1, c1, rfl, hr1, hn1, -, hp1⟩
        dsimp only
        refine hK.out _ _ hp1 ?_
        clear hK K 
        try simp only [Act.put, List.setIfInBounds_toArray, List.set_cons_zero, List.set_cons_succ]
        refine held_take 7 (some 85) (.tuple #[.slice a1 l1 c1, .int .i64 ((readR C nm).2 : Nat)]) rfl rfl (by kernel_rfl) (by kernel_rfl) (by kernel_rfl) (fun _ _ _ h => h) rfl (fun w' hS => ?_) hp1 ?_
        · clear hS; go_simp
        try simp only [Act.put, List.setIfInBounds_toArray, List.set_cons_zero, List.set_cons_succ]
        refine held_take 8 (some 93) (.slice a1 l1 c1) rfl rfl (by kernel_rfl) (by kernel_rfl) (by kernel_rfl) (fun _ _ _ h => h) rfl (fun w' hS => ?_) hp1 ?_
        · clear hS; go_simp
        try simp only [Act.put, List.setIfInBounds_toArray, List.set_cons_zero, List.set_cons_succ]
        refine held_take 9 (some 94) (.int .i64 ((readR C nm).2 : Nat)) rfl rfl (by kernel_rfl) (by kernel_rfl) (by kernel_rfl) (fun _ _ _ h => h) rfl (fun w' hS => ?_) hp1 ?_
        · clear hS; go_simp
        try simp only [Act.put, List.setIfInBounds_toArray, List.set_cons_zero, List.set_cons_succ]
        refine held_take 10 (some 7) (.slice a1 l1 c1) rfl rfl (by kernel_rfl) (by kernel_rfl) (by kernel_rfl) (fun _ _ _ h => h) rfl (fun w' hS => ?_) hp1 ?_
        · clear hS; go_simp
        try simp only [Act.put, List.setIfInBounds_toArray, List.set_cons_zero, List.set_cons_succ]
        refine held_take 11 (some 8) (.int .i64 ((readR C nm).2 : Nat)) rfl rfl (by kernel_rfl) (by kernel_rfl) (by kernel_rfl) (fun _ _ _ h => h) rfl (fun w' hS => ?_) hp1 ?_
        · clear hS; go_simp
        try simp only [Act.put, List.setIfInBounds_toArray, List.set_cons_zero, List.set_cons_succ]
        refine wpAnyH_done (by kernel_rfl) ?_ _
        clear hHeld
        have HR1 : Hid (RowL .u8 z1 a1 l1 (txt (readR C nm).1) ∧ (a1 = none → l1 = 0)) := ⟨hr1, hn1⟩
        clear hr1 hn1
        go_wp2_with fail
        refine wp_region_held_drew (S := fun w' => PlayAt Z B F w q p gp gd sv (C) (C) w' ∧ Below z1.heap.size z1 w') (by kernel_rfl) (⟨hp1.below ((Below.refl _ _).drew), (Below.refl _ _).drew⟩) (fun hHeld => ?_)
        refine held_take 0 (some 96) (.pointer (some ⟨q, 0, none⟩)) rfl rfl (by kernel_rfl) (by kernel_rfl) (by kernel_rfl) (fun _ _ _ h => h) rfl (fun w' hS => ?_) hHeld ?_
        · clear hS; go_simp
        try simp only [Act.put, List.setIfInBounds_toArray, List.set_cons_zero, List.set_cons_succ]
        refine held_take 1 (some 97) (.pointer (some ⟨q, 0, none⟩)) rfl rfl (by kernel_rfl) (by kernel_rfl) (by kernel_rfl) (fun _ _ _ h => h) rfl (fun w' hS => ?_) hHeld ?_
        · clear hS; go_simp
        try simp only [Act.put, List.setIfInBounds_toArray, List.set_cons_zero, List.set_cons_succ]
        refine held_take 2 (some 98) (.pointer (some ⟨q, 1, none⟩)) rfl rfl (by kernel_rfl) (by kernel_rfl) (by kernel_rfl) (fun _ _ _ h => h) rfl (fun w' hS => ?_) hHeld ?_
        · clear hS; go_simp
        try simp only [Act.put, List.setIfInBounds_toArray, List.set_cons_zero, List.set_cons_succ]
        refine held_take 3 (some 99) (.pointer (some ⟨gd, 0, none⟩)) rfl rfl (by kernel_rfl) (by kernel_rfl) (by kernel_rfl) (fun _ _ _ h => h) rfl (fun w' hS => ?_) hHeld ?_
        · have := hS.1.cells.2.1; clear hS; go_simp
        try simp only [Act.put, List.setIfInBounds_toArray, List.set_cons_zero, List.set_cons_succ]
        refine held_take 4 (some 100) (.pointer (some ⟨p, 2, none⟩)) rfl rfl (by kernel_rfl) (by kernel_rfl) (by kernel_rfl) (fun _ _ _ h => h) rfl (fun w' hS => ?_) hHeld ?_
        · clear hS; go_simp
        try simp only [Act.put, List.setIfInBounds_toArray, List.set_cons_zero, List.set_cons_succ]
        refine held_take 5 (some 101) (.string nm) rfl rfl (by kernel_rfl) (by kernel_rfl) (by kernel_rfl) (fun _ _ _ h => h) rfl (fun w' hS => ?_) hHeld ?_
        · have := hS.1.cells.2.2 2; rw [HSV.out] at this; clear hS; go_simp
        try simp only [Act.put, List.setIfInBounds_toArray, List.set_cons_zero, List.set_cons_succ]
        refine held_one (i := 6) (by kernel_rfl) rfl rfl (fun K hK => ?_)
        go_simp
        refine Calls.mono (pl_dread hHeld.1 HGC.out HNC.out nm) ?_
        rintro _ z2 ⟨rfl, hz2⟩
        dsimp only
        refine hK.out _ _ (by rw [hz2]; exact hHeld) ?_
        clear hK K 
        try simp only [Act.put, List.setIfInBounds_toArray, List.set_cons_zero, List.set_cons_succ]
        have hH2 : PlayAt Z B F w q p gp gd sv (C) (C) z2 ∧ Below z1.heap.size z1 z2 := by rw [hz2]; exact hHeld
        clear hz2 hHeld
        refine held_take 7 (some 95) (.tuple #[.string (readR C nm).1, .int .i64 ((readR C nm).2 : Nat)]) rfl rfl (by kernel_rfl) (by kernel_rfl) (by kernel_rfl) (fun _ _ _ h => h) rfl (fun w' hS => ?_) hH2 ?_
        · clear hS; go_simp
        try simp only [Act.put, List.setIfInBounds_toArray, List.set_cons_zero, List.set_cons_succ]
        refine held_take 8 (some 103) (.string (readR C nm).1) rfl rfl (by kernel_rfl) (by kernel_rfl) (by kernel_rfl) (fun _ _ _ h => h) rfl (fun w' hS => ?_) hH2 ?_
        · clear hS; go_simp
        try simp only [Act.put, List.setIfInBounds_toArray, List.set_cons_zero, List.set_cons_succ]
        refine held_take 9 (some 104) (.int .i64 ((readR C nm).2 : Nat)) rfl rfl (by kernel_rfl) (by kernel_rfl) (by kernel_rfl) (fun _ _ _ h => h) rfl (fun w' hS => ?_) hH2 ?_
        · clear hS; go_simp
        try simp only [Act.put, List.setIfInBounds_toArray, List.set_cons_zero, List.set_cons_succ]
        refine held_take 10 (some 9) (.string (readR C nm).1) rfl rfl (by kernel_rfl) (by kernel_rfl) (by kernel_rfl) (fun _ _ _ h => h) rfl (fun w' hS => ?_) hH2 ?_
        · clear hS; go_simp
        try simp only [Act.put, List.setIfInBounds_toArray, List.set_cons_zero, List.set_cons_succ]
        refine held_take 11 (some 10) (.int .i64 ((readR C nm).2 : Nat)) rfl rfl (by kernel_rfl) (by kernel_rfl) (by kernel_rfl) (fun _ _ _ h => h) rfl (fun w' hS => ?_) hH2 ?_
        · clear hS; go_simp
        try simp only [Act.put, List.setIfInBounds_toArray, List.set_cons_zero, List.set_cons_succ]
        refine wpAnyH_done (by kernel_rfl) ?_ _
        obtain ⟨hp2, hb2⟩ := hH2
        have HR2 : Hid (RowL .u8 z2 a1 l1 (txt (readR C nm).1) ∧ (a1 = none → l1 = 0)) := ⟨HR1.out.1.below hb2, HR1.out.2⟩
        clear HR1 hb2 hp1
        obtain ⟨k0, k1, -⟩ := hp2.cells
        go_wp2_with fail
        refine (pl_plist hp2 HGC.out HNC.out).mono ?_
        rintro _ z3 ⟨⟨aL, cL, rfl, hrL⟩, bL, hp3⟩
        have HR3 : Hid ((RowL .u8 z3 a1 l1 (txt (readR C nm).1) ∧ (a1 = none → l1 = 0)) ∧ RowS z3 aL (namesR C)) := ⟨⟨HR2.out.1.below bL, HR2.out.2⟩, hrL⟩
        clear HR2 hp2 k0 k1 bL hrL
        obtain ⟨k0, k1, -⟩ := hp3.cells
        go_wp2_with fail
        refine (pl_dlist hp3 HGC.out HNC.out).mono ?_
        rintro _ z4 ⟨⟨aM, cM, rfl, hrM⟩, bM, hp4⟩
        have HR4 : Hid ((RowL .u8 z4 a1 l1 (txt (readR C nm).1) ∧ (a1 = none → l1 = 0)) ∧ RowS z4 aL (namesR C) ∧ RowS z4 aM (namesR C)) := ⟨⟨HR3.out.1.1.below bM, HR3.out.1.2⟩, HR3.out.2.below bM, hrM⟩
        clear HR3 hp3 k0 k1 bM hrM
        obtain ⟨k0, k1, -⟩ := hp4.cells
        go_wp2_with fail
        refine (pl_pused hp4 HGC.out HNC.out).mono ?_
        rintro _ z5 ⟨rfl, bU, hp5⟩
        have HR5 : Hid (RowS z5 aL (namesR C) ∧ RowS z5 aM (namesR C)) := ⟨HR4.out.2.1.below bU, HR4.out.2.2.below bU⟩
        have hcv := conv_any (HR4.out.1.1.below bU) HR4.out.1.2 c1
        rw [strN_txt] at hcv
        clear HR4 hp4 k0 k1 bU
        obtain ⟨k0, k1, -⟩ := hp5.cells
        have HT := texts_same z5 aL aM cL cM (namesR C) HR5.out.1 HR5.out.2 HNM.out
        generalize (namesR C).length = nl at *
        generalize readR C nm = RR at *
        generalize namesE C = ne at *
        clear HR5
        go_wp2_with fail
        refine HT.mono ?_
        rintro _ z6 ⟨rfl, bT⟩
        have hp6 := hp5.below bT
        clear HT hp5 k0 k1 hcv bT
        obtain ⟨k0, k1, -⟩ := hp6.cells
        go_wp2_with fail
        refine (pl_dused hp6 HGC.out HNC.out).mono ?_
        rintro _ z7 ⟨rfl, hp7⟩
        clear hp6 k0 k1
        obtain ⟨k0, k1, -⟩ := hp7.cells
        have k2 := hp7.quota
        go_wp2_with fail
        go_ret
        exact ⟨rfl, by rw [HST.out]; exact hp7.done⟩
      · by_cases h7 : what = 7
        · subst h7
          have HST : Hid (stepC c 7 old nm D N keep t = crashC c N keep t) := by unfold Hid stepC; rw [if_neg (by omega), if_neg (by omega), if_neg (by omega), if_pos rfl]
          have HGC : Hid (GoodC (crashC c N keep t) (n + 1)) := (good_crash hg N keep t).mono (by omega)
          have HNC : Hid (n + 1 ≤ 1000) := hn
          have HNM : Hid ((namesR (crashC c N keep t)).length ≤ 9223372036854775807) := names_len HGC.out hn
          have HKR : Hid (RowZ w ak nk keep ∧ (0 < nk → ∀ x, ak = some x → x.block < B)) := ⟨hkr, hkB⟩
          clear hrow hkr hnil hadB hkB hg HB hld
          go_wp2_with fail
          generalize w.alloc (.cells #[.int .i64 7, .string old, .string nm, .slice ad nd kd, .int .i64 N, .slice ak nk kk, .int .u8 (tn : Nat)] 38) = wa at *
          generalize w.heap.size = p at *
          clear x0 x1 x2 x3 x4 x5 x6
          have hpd := hpa.below ((Below.refl _ _).drew)
          clear hpa
          refine wp_region_held_drew (S := fun w' => PlC q p gp gd sv w') (by kernel_rfl) (hpd.cells) (fun hHeld => ?_)
          generalize wa.drew = wd at *
          refine held_take 0 (some 61) (.pointer (some ⟨q, 0, none⟩)) rfl rfl (by kernel_rfl) (by kernel_rfl) (by kernel_rfl) (fun _ _ _ h => h) rfl (fun w' hS => ?_) hHeld ?_
          · clear hS; go_simp
          try simp only [Act.put, List.setIfInBounds_toArray, List.set_cons_zero, List.set_cons_succ]
          refine held_take 1 (some 62) (.pointer (some ⟨q, 0, none⟩)) rfl rfl (by kernel_rfl) (by kernel_rfl) (by kernel_rfl) (fun _ _ _ h => h) rfl (fun w' hS => ?_) hHeld ?_
          · clear hS; go_simp
          try simp only [Act.put, List.setIfInBounds_toArray, List.set_cons_zero, List.set_cons_succ]
          refine held_take 2 (some 63) (.pointer (some ⟨q, 0, none⟩)) rfl rfl (by kernel_rfl) (by kernel_rfl) (by kernel_rfl) (fun _ _ _ h => h) rfl (fun w' hS => ?_) hHeld ?_
          · clear hS; go_simp
          try simp only [Act.put, List.setIfInBounds_toArray, List.set_cons_zero, List.set_cons_succ]
          refine held_take 3 (some 64) (.pointer (some ⟨gp, 0, none⟩)) rfl rfl (by kernel_rfl) (by kernel_rfl) (by kernel_rfl) (fun _ _ _ h => h) rfl (fun w' hS => ?_) hHeld ?_
          · have := hS.1; clear hS; go_simp
          try simp only [Act.put, List.setIfInBounds_toArray, List.set_cons_zero, List.set_cons_succ]
          refine held_take 4 (some 65) (.pointer (some ⟨p, 4, none⟩)) rfl rfl (by kernel_rfl) (by kernel_rfl) (by kernel_rfl) (fun _ _ _ h => h) rfl (fun w' hS => ?_) hHeld ?_
          · clear hS; go_simp
          try simp only [Act.put, List.setIfInBounds_toArray, List.set_cons_zero, List.set_cons_succ]
          refine held_take 5 (some 66) (.int .i64 N) rfl rfl (by kernel_rfl) (by kernel_rfl) (by kernel_rfl) (fun _ _ _ h => h) rfl (fun w' hS => ?_) hHeld ?_
          · have := hS.2.2 4; rw [HSV.out] at this; clear hS; go_simp
          try simp only [Act.put, List.setIfInBounds_toArray, List.set_cons_zero, List.set_cons_succ]
          refine held_take 7 (some 68) (.pointer (some ⟨p, 5, none⟩)) rfl rfl (by kernel_rfl) (by kernel_rfl) (by kernel_rfl) (fun _ _ _ h => h) rfl (fun w' hS => ?_) hHeld ?_
          · clear hS; go_simp
          try simp only [Act.put, List.setIfInBounds_toArray, List.set_cons_zero, List.set_cons_succ]
          refine held_take 8 (some 69) (.slice ak nk kk) rfl rfl (by kernel_rfl) (by kernel_rfl) (by kernel_rfl) (fun _ _ _ h => h) rfl (fun w' hS => ?_) hHeld ?_
          · have := hS.2.2 5; rw [HSV.out] at this; clear hS; go_simp
          try simp only [Act.put, List.setIfInBounds_toArray, List.set_cons_zero, List.set_cons_succ]
          refine held_take 10 (some 71) (.pointer (some ⟨p, 6, none⟩)) rfl rfl (by kernel_rfl) (by kernel_rfl) (by kernel_rfl) (fun _ _ _ h => h) rfl (fun w' hS => ?_) hHeld ?_
          · clear hS; go_simp
          try simp only [Act.put, List.setIfInBounds_toArray, List.set_cons_zero, List.set_cons_succ]
          refine held_take 11 (some 72) (.int .u8 (tn : Nat)) rfl rfl (by kernel_rfl) (by kernel_rfl) (by kernel_rfl) (fun _ _ _ h => h) rfl (fun w' hS => ?_) hHeld ?_
          · have := hS.2.2 6; rw [HSV.out] at this; clear hS; go_simp
          try simp only [Act.put, List.setIfInBounds_toArray, List.set_cons_zero, List.set_cons_succ]
          refine held_one (i := 6) (by kernel_rfl) rfl rfl (fun K hK => ?_)
          go_simp
          have HBN : Hid (Below wd.heap.size wd (wd.alloc (.cells #[] 3))) := below_new wd _
          have hown : (wd.alloc (.cells #[] 3)).ownsRow wd.heap.size 3 1 (.slice (some ⟨wd.heap.size, 0, none⟩) 0 0) 0 [] := World.ownsRow_lit wd #[] 0 (Nat.le_refl _) (by decide) rfl
          refine hK.out _ _ (hpd.below HBN.out).cells ?_
          clear hK K
          try simp only [Act.put, List.setIfInBounds_toArray, List.set_cons_zero, List.set_cons_succ]
          refine held_one (i := 9) (by kernel_rfl) rfl rfl (fun K hK => ?_)
          have hrw2 : RowZ (wd.alloc (.cells #[] 3)) ak nk keep := (HKR.out.1.lowB hpd.low HKR.out.2).below HBN.out
          refine copy_at intT9 rfl Try.underlying36 (wd.alloc (.cells #[] 3)) _ _ rfl wd.heap.size (.slice (some ⟨wd.heap.size, 0, none⟩) 0 0) rfl hown ak nk kk rfl (keep.map fun z => .int .i64 z) hrw2.cells9 (by rw [List.length_map]; exact hrw2.1) hknil (by intro u hu; obtain ⟨z, _, rfl⟩ := List.mem_map.1 hu; rfl) hkl (by unfold maxLen; omega) (by simp) (some 70) rfl ?_
          intro v3 w3 hown3 hb3
          have HB3 : Hid (Below wd.heap.size wd w3) := HBN.out.trans hb3
          rw [← hrw2.1] at hown3
          obtain ⟨a3', k3, hv3, hrow3, had3⟩ := owned_ints hown3
          rw [hrw2.1] at hv3 hrow3
          subst hv3
          refine hK.out _ _ (hpd.below HB3.out).cells ?_
          clear hK K hown hown3 hb3 hrw2 HBN
          try simp only [Act.put, List.setIfInBounds_toArray, List.set_cons_zero, List.set_cons_succ]
          refine held_one (i := 12) (by kernel_rfl) rfl rfl (fun K hK => ?_)
          go_simp
          refine Calls.mono (pl_pcrash2 hpd HB3.out HG.out (by have := HN.out; omega) N keep t tn HTN.out a3' nk k3 hrow3 (fun _ x e => (had3 x e).2.1) (by omega)) ?_
          rintro _ y1 ⟨rfl, hy1⟩
          dsimp only
          refine hK.out _ _ hy1.cells ?_
          clear hK K hrow3 had3 HB3 hpd
          try simp only [Act.put, List.setIfInBounds_toArray, List.set_cons_zero, List.set_cons_succ]
          refine wpAnyH_done (by kernel_rfl) ?_ _
          clear hHeld
          go_wp2_with fail
          have hyd := hy1.below ((Below.refl _ _).drew)
          clear hy1
          refine wp_region_held_drew (S := fun w' => PlC q p gp gd sv w') (by kernel_rfl) (hyd.cells) (fun hHeld => ?_)
          refine held_take 0 (some 74) (.pointer (some ⟨q, 0, none⟩)) rfl rfl (by kernel_rfl) (by kernel_rfl) (by kernel_rfl) (fun _ _ _ h => h) rfl (fun w' hS => ?_) hHeld ?_
          · clear hS; go_simp
          try simp only [Act.put, List.setIfInBounds_toArray, List.set_cons_zero, List.set_cons_succ]
          refine held_take 1 (some 75) (.pointer (some ⟨q, 0, none⟩)) rfl rfl (by kernel_rfl) (by kernel_rfl) (by kernel_rfl) (fun _ _ _ h => h) rfl (fun w' hS => ?_) hHeld ?_
          · clear hS; go_simp
          try simp only [Act.put, List.setIfInBounds_toArray, List.set_cons_zero, List.set_cons_succ]
          refine held_take 2 (some 76) (.pointer (some ⟨q, 1, none⟩)) rfl rfl (by kernel_rfl) (by kernel_rfl) (by kernel_rfl) (fun _ _ _ h => h) rfl (fun w' hS => ?_) hHeld ?_
          · clear hS; go_simp
          try simp only [Act.put, List.setIfInBounds_toArray, List.set_cons_zero, List.set_cons_succ]
          refine held_take 3 (some 77) (.pointer (some ⟨gd, 0, none⟩)) rfl rfl (by kernel_rfl) (by kernel_rfl) (by kernel_rfl) (fun _ _ _ h => h) rfl (fun w' hS => ?_) hHeld ?_
          · have := hS.2.1; clear hS; go_simp
          try simp only [Act.put, List.setIfInBounds_toArray, List.set_cons_zero, List.set_cons_succ]
          refine held_take 4 (some 78) (.pointer (some ⟨p, 4, none⟩)) rfl rfl (by kernel_rfl) (by kernel_rfl) (by kernel_rfl) (fun _ _ _ h => h) rfl (fun w' hS => ?_) hHeld ?_
          · clear hS; go_simp
          try simp only [Act.put, List.setIfInBounds_toArray, List.set_cons_zero, List.set_cons_succ]
          refine held_take 5 (some 79) (.int .i64 N) rfl rfl (by kernel_rfl) (by kernel_rfl) (by kernel_rfl) (fun _ _ _ h => h) rfl (fun w' hS => ?_) hHeld ?_
          · have := hS.2.2 4; rw [HSV.out] at this; clear hS; go_simp
          try simp only [Act.put, List.setIfInBounds_toArray, List.set_cons_zero, List.set_cons_succ]
          refine held_take 6 (some 80) (.pointer (some ⟨p, 5, none⟩)) rfl rfl (by kernel_rfl) (by kernel_rfl) (by kernel_rfl) (fun _ _ _ h => h) rfl (fun w' hS => ?_) hHeld ?_
          · clear hS; go_simp
          try simp only [Act.put, List.setIfInBounds_toArray, List.set_cons_zero, List.set_cons_succ]
          refine held_take 7 (some 81) (.slice ak nk kk) rfl rfl (by kernel_rfl) (by kernel_rfl) (by kernel_rfl) (fun _ _ _ h => h) rfl (fun w' hS => ?_) hHeld ?_
          · have := hS.2.2 5; rw [HSV.out] at this; clear hS; go_simp
          try simp only [Act.put, List.setIfInBounds_toArray, List.set_cons_zero, List.set_cons_succ]
          refine held_take 8 (some 82) (.pointer (some ⟨p, 6, none⟩)) rfl rfl (by kernel_rfl) (by kernel_rfl) (by kernel_rfl) (fun _ _ _ h => h) rfl (fun w' hS => ?_) hHeld ?_
          · clear hS; go_simp
          try simp only [Act.put, List.setIfInBounds_toArray, List.set_cons_zero, List.set_cons_succ]
          refine held_take 9 (some 83) (.int .u8 (tn : Nat)) rfl rfl (by kernel_rfl) (by kernel_rfl) (by kernel_rfl) (fun _ _ _ h => h) rfl (fun w' hS => ?_) hHeld ?_
          · have := hS.2.2 6; rw [HSV.out] at this; clear hS; go_simp
          try simp only [Act.put, List.setIfInBounds_toArray, List.set_cons_zero, List.set_cons_succ]
          refine held_one (i := 10) (by kernel_rfl) rfl rfl (fun K hK => ?_)
          go_simp
          refine Calls.mono (pl_dcrash hyd HG.out (by have := HN.out; omega) N keep t tn HTN.out ak nk kk (HKR.out.1.lowB hyd.low HKR.out.2) HKR.out.2 (by omega)) ?_
          rintro _ zt ⟨rfl, hpt⟩
          dsimp only
          refine hK.out _ _ hpt.cells ?_
          clear hK K hyd
          try simp only [Act.put, List.setIfInBounds_toArray, List.set_cons_zero, List.set_cons_succ]
          refine wpAnyH_done (by kernel_rfl) ?_ _
          clear hHeld
          go_wp2_with fail
          generalize crashC c N keep t = C at *
          refine wp_region_held_drew (S := fun w' => PlayAt Z B F w q p gp gd sv (C) (C) w') (by kernel_rfl) (hpt.below ((Below.refl _ _).drew)) (fun hHeld => ?_)
          refine held_take 0 (some 86) (.pointer (some ⟨q, 0, none⟩)) rfl rfl (by kernel_rfl) (by kernel_rfl) (by kernel_rfl) (fun _ _ _ h => h) rfl (fun w' hS => ?_) hHeld ?_
          · clear hS; go_simp
          try simp only [Act.put, List.setIfInBounds_toArray, List.set_cons_zero, List.set_cons_succ]
          refine held_take 1 (some 87) (.pointer (some ⟨q, 0, none⟩)) rfl rfl (by kernel_rfl) (by kernel_rfl) (by kernel_rfl) (fun _ _ _ h => h) rfl (fun w' hS => ?_) hHeld ?_
          · clear hS; go_simp
          try simp only [Act.put, List.setIfInBounds_toArray, List.set_cons_zero, List.set_cons_succ]
          refine held_take 2 (some 88) (.pointer (some ⟨q, 0, none⟩)) rfl rfl (by kernel_rfl) (by kernel_rfl) (by kernel_rfl) (fun _ _ _ h => h) rfl (fun w' hS => ?_) hHeld ?_
          · clear hS; go_simp
          try simp only [Act.put, List.setIfInBounds_toArray, List.set_cons_zero, List.set_cons_succ]
          refine held_take 3 (some 89) (.pointer (some ⟨gp, 0, none⟩)) rfl rfl (by kernel_rfl) (by kernel_rfl) (by kernel_rfl) (fun _ _ _ h => h) rfl (fun w' hS => ?_) hHeld ?_
          · have := hS.cells.1; clear hS; go_simp
          try simp only [Act.put, List.setIfInBounds_toArray, List.set_cons_zero, List.set_cons_succ]
          refine held_take 4 (some 90) (.pointer (some ⟨p, 2, none⟩)) rfl rfl (by kernel_rfl) (by kernel_rfl) (by kernel_rfl) (fun _ _ _ h => h) rfl (fun w' hS => ?_) hHeld ?_
          · clear hS; go_simp
          try simp only [Act.put, List.setIfInBounds_toArray, List.set_cons_zero, List.set_cons_succ]
          refine held_take 5 (some 91) (.string nm) rfl rfl (by kernel_rfl) (by kernel_rfl) (by kernel_rfl) (fun _ _ _ h => h) rfl (fun w' hS => ?_) hHeld ?_
          · have := hS.cells.2.2 2; rw [HSV.out] at this; clear hS; go_simp
          try simp only [Act.put, List.setIfInBounds_toArray, List.set_cons_zero, List.set_cons_succ]
          refine held_one (i := 6) (by kernel_rfl) rfl rfl (fun K hK => ?_)
          go_simp
          refine Calls.mono (pl_pread hHeld HGC.out HNC.out nm HSZ.out) ?_
          rintro _ z1 ⟨a1, l1, c1, rfl, hr1, hn1, -, hp1⟩
          dsimp only
          refine hK.out _ _ hp1 ?_
          clear hK K 
          try simp only [Act.put, List.setIfInBounds_toArray, List.set_cons_zero, List.set_cons_succ]
          refine held_take 7 (some 85) (.tuple #[.slice a1 l1 c1, .int .i64 ((readR C nm).2 : Nat)]) rfl rfl (by kernel_rfl) (by kernel_rfl) (by kernel_rfl) (fun _ _ _ h => h) rfl (fun w' hS => ?_) hp1 ?_
          · clear hS; go_simp
          try simp only [Act.put, List.setIfInBounds_toArray, List.set_cons_zero, List.set_cons_succ]
          refine held_take 8 (some 93) (.slice a1 l1 c1) rfl rfl (by kernel_rfl) (by kernel_rfl) (by kernel_rfl) (fun _ _ _ h => h) rfl (fun w' hS => ?_) hp1 ?_
          · clear hS; go_simp
          try simp only [Act.put, List.setIfInBounds_toArray, List.set_cons_zero, List.set_cons_succ]
          refine held_take 9 (some 94) (.int .i64 ((readR C nm).2 : Nat)) rfl rfl (by kernel_rfl) (by kernel_rfl) (by kernel_rfl) (fun _ _ _ h => h) rfl (fun w' hS => ?_) hp1 ?_
          · clear hS; go_simp
          try simp only [Act.put, List.setIfInBounds_toArray, List.set_cons_zero, List.set_cons_succ]
          refine held_take 10 (some 7) (.slice a1 l1 c1) rfl rfl (by kernel_rfl) (by kernel_rfl) (by kernel_rfl) (fun _ _ _ h => h) rfl (fun w' hS => ?_) hp1 ?_
          · clear hS; go_simp
          try simp only [Act.put, List.setIfInBounds_toArray, List.set_cons_zero, List.set_cons_succ]
          refine held_take 11 (some 8) (.int .i64 ((readR C nm).2 : Nat)) rfl rfl (by kernel_rfl) (by kernel_rfl) (by kernel_rfl) (fun _ _ _ h => h) rfl (fun w' hS => ?_) hp1 ?_
          · clear hS; go_simp
          try simp only [Act.put, List.setIfInBounds_toArray, List.set_cons_zero, List.set_cons_succ]
          refine wpAnyH_done (by kernel_rfl) ?_ _
          clear hHeld
          have HR1 : Hid (RowL .u8 z1 a1 l1 (txt (readR C nm).1) ∧ (a1 = none → l1 = 0)) := ⟨hr1, hn1⟩
          clear hr1 hn1
          go_wp2_with fail
          refine wp_region_held_drew (S := fun w' => PlayAt Z B F w q p gp gd sv (C) (C) w' ∧ Below z1.heap.size z1 w') (by kernel_rfl) (⟨hp1.below ((Below.refl _ _).drew), (Below.refl _ _).drew⟩) (fun hHeld => ?_)
          refine held_take 0 (some 96) (.pointer (some ⟨q, 0, none⟩)) rfl rfl (by kernel_rfl) (by kernel_rfl) (by kernel_rfl) (fun _ _ _ h => h) rfl (fun w' hS => ?_) hHeld ?_
          · clear hS; go_simp
          try simp only [Act.put, List.setIfInBounds_toArray, List.set_cons_zero, List.set_cons_succ]
          refine held_take 1 (some 97) (.pointer (some ⟨q, 0, none⟩)) rfl rfl (by kernel_rfl) (by kernel_rfl) (by kernel_rfl) (fun _ _ _ h => h) rfl (fun w' hS => ?_) hHeld ?_
          · clear hS; go_simp
          try simp only [Act.put, List.setIfInBounds_toArray, List.set_cons_zero, List.set_cons_succ]
          refine held_take 2 (some 98) (.pointer (some ⟨q, 1, none⟩)) rfl rfl (by kernel_rfl) (by kernel_rfl) (by kernel_rfl) (fun _ _ _ h => h) rfl (fun w' hS => ?_) hHeld ?_
          · clear hS; go_simp
          try simp only [Act.put, List.setIfInBounds_toArray, List.set_cons_zero, List.set_cons_succ]
          refine held_take 3 (some 99) (.pointer (some ⟨gd, 0, none⟩)) rfl rfl (by kernel_rfl) (by kernel_rfl) (by kernel_rfl) (fun _ _ _ h => h) rfl (fun w' hS => ?_) hHeld ?_
          · have := hS.1.cells.2.1; clear hS; go_simp
          try simp only [Act.put, List.setIfInBounds_toArray, List.set_cons_zero, List.set_cons_succ]
          refine held_take 4 (some 100) (.pointer (some ⟨p, 2, none⟩)) rfl rfl (by kernel_rfl) (by kernel_rfl) (by kernel_rfl) (fun _ _ _ h => h) rfl (fun w' hS => ?_) hHeld ?_
          · clear hS; go_simp
          try simp only [Act.put, List.setIfInBounds_toArray, List.set_cons_zero, List.set_cons_succ]
          refine held_take 5 (some 101) (.string nm) rfl rfl (by kernel_rfl) (by kernel_rfl) (by kernel_rfl) (fun _ _ _ h => h) rfl (fun w' hS => ?_) hHeld ?_
          · have := hS.1.cells.2.2 2; rw [HSV.out] at this; clear hS; go_simp
          try simp only [Act.put, List.setIfInBounds_toArray, List.set_cons_zero, List.set_cons_succ]
          refine held_one (i := 6) (by kernel_rfl) rfl rfl (fun K hK => ?_)
          go_simp
          refine Calls.mono (pl_dread hHeld.1 HGC.out HNC.out nm) ?_
          rintro _ z2 ⟨rfl, hz2⟩
          dsimp only
          refine hK.out _ _ (by rw [hz2]; exact hHeld) ?_
          clear hK K 
          try simp only [Act.put, List.setIfInBounds_toArray, List.set_cons_zero, List.set_cons_succ]
          have hH2 : PlayAt Z B F w q p gp gd sv (C) (C) z2 ∧ Below z1.heap.size z1 z2 := by rw [hz2]; exact hHeld
          clear hz2 hHeld
          refine held_take 7 (some 95) (.tuple #[.string (readR C nm).1, .int .i64 ((readR C nm).2 : Nat)]) rfl rfl (by kernel_rfl) (by kernel_rfl) (by kernel_rfl) (fun _ _ _ h => h) rfl (fun w' hS => ?_) hH2 ?_
          · clear hS; go_simp
          try simp only [Act.put, List.setIfInBounds_toArray, List.set_cons_zero, List.set_cons_succ]
          refine held_take 8 (some 103) (.string (readR C nm).1) rfl rfl (by kernel_rfl) (by kernel_rfl) (by kernel_rfl) (fun _ _ _ h => h) rfl (fun w' hS => ?_) hH2 ?_
          · clear hS; go_simp
          try simp only [Act.put, List.setIfInBounds_toArray, List.set_cons_zero, List.set_cons_succ]
          refine held_take 9 (some 104) (.int .i64 ((readR C nm).2 : Nat)) rfl rfl (by kernel_rfl) (by kernel_rfl) (by kernel_rfl) (fun _ _ _ h => h) rfl (fun w' hS => ?_) hH2 ?_
          · clear hS; go_simp
          try simp only [Act.put, List.setIfInBounds_toArray, List.set_cons_zero, List.set_cons_succ]
          refine held_take 10 (some 9) (.string (readR C nm).1) rfl rfl (by kernel_rfl) (by kernel_rfl) (by kernel_rfl) (fun _ _ _ h => h) rfl (fun w' hS => ?_) hH2 ?_
          · clear hS; go_simp
          try simp only [Act.put, List.setIfInBounds_toArray, List.set_cons_zero, List.set_cons_succ]
          refine held_take 11 (some 10) (.int .i64 ((readR C nm).2 : Nat)) rfl rfl (by kernel_rfl) (by kernel_rfl) (by kernel_rfl) (fun _ _ _ h => h) rfl (fun w' hS => ?_) hH2 ?_
          · clear hS; go_simp
          try simp only [Act.put, List.setIfInBounds_toArray, List.set_cons_zero, List.set_cons_succ]
          refine wpAnyH_done (by kernel_rfl) ?_ _
          obtain ⟨hp2, hb2⟩ := hH2
          have HR2 : Hid (RowL .u8 z2 a1 l1 (txt (readR C nm).1) ∧ (a1 = none → l1 = 0)) := ⟨HR1.out.1.below hb2, HR1.out.2⟩
          clear HR1 hb2 hp1
          obtain ⟨k0, k1, -⟩ := hp2.cells
          go_wp2_with fail
          refine (pl_plist hp2 HGC.out HNC.out).mono ?_
          rintro _ z3 ⟨⟨aL, cL, rfl, hrL⟩, bL, hp3⟩
          have HR3 : Hid ((RowL .u8 z3 a1 l1 (txt (readR C nm).1) ∧ (a1 = none → l1 = 0)) ∧ RowS z3 aL (namesR C)) := ⟨⟨HR2.out.1.below bL, HR2.out.2⟩, hrL⟩
          clear HR2 hp2 k0 k1 bL hrL
          obtain ⟨k0, k1, -⟩ := hp3.cells
          go_wp2_with fail
          refine (pl_dlist hp3 HGC.out HNC.out).mono ?_
          rintro _ z4 ⟨⟨aM, cM, rfl, hrM⟩, bM, hp4⟩
          have HR4 : Hid ((RowL .u8 z4 a1 l1 (txt (readR C nm).1) ∧ (a1 = none → l1 = 0)) ∧ RowS z4 aL (namesR C) ∧ RowS z4 aM (namesR C)) := ⟨⟨HR3.out.1.1.below bM, HR3.out.1.2⟩, HR3.out.2.below bM, hrM⟩
          clear HR3 hp3 k0 k1 bM hrM
          obtain ⟨k0, k1, -⟩ := hp4.cells
          go_wp2_with fail
          refine (pl_pused hp4 HGC.out HNC.out).mono ?_
          rintro _ z5 ⟨rfl, bU, hp5⟩
          have HR5 : Hid (RowS z5 aL (namesR C) ∧ RowS z5 aM (namesR C)) := ⟨HR4.out.2.1.below bU, HR4.out.2.2.below bU⟩
          have hcv := conv_any (HR4.out.1.1.below bU) HR4.out.1.2 c1
          rw [strN_txt] at hcv
          clear HR4 hp4 k0 k1 bU
          obtain ⟨k0, k1, -⟩ := hp5.cells
          have HT := texts_same z5 aL aM cL cM (namesR C) HR5.out.1 HR5.out.2 HNM.out
          generalize (namesR C).length = nl at *
          generalize readR C nm = RR at *
          generalize namesE C = ne at *
          clear HR5
          go_wp2_with fail
          refine HT.mono ?_
          rintro _ z6 ⟨rfl, bT⟩
          have hp6 := hp5.below bT
          clear HT hp5 k0 k1 hcv bT
          obtain ⟨k0, k1, -⟩ := hp6.cells
          go_wp2_with fail
          refine (pl_dused hp6 HGC.out HNC.out).mono ?_
          rintro _ z7 ⟨rfl, hp7⟩
          clear hp6 k0 k1
          obtain ⟨k0, k1, -⟩ := hp7.cells
          have k2 := hp7.quota
          go_wp2_with fail
          go_ret
          exact ⟨rfl, by rw [HST.out]; exact hp7.done⟩
        · have HST : Hid (stepC c what old nm D N keep t = c) := by unfold Hid stepC; rw [if_neg (by omega), if_neg h05, if_neg h6, if_neg h7]
          have h05' : ¬ ((0 : Int) ≤ what ∧ what ≤ 5) := h05
          have HGC : Hid (GoodC c (n + 1)) := hg.mono (by omega)
          have HNC : Hid (n + 1 ≤ 1000) := hn
          have HNM : Hid ((namesR c).length ≤ 9223372036854775807) := names_len HGC.out hn
          clear hrow hkr hnil hknil hadB hkB hg HB hld
          by_cases hA : what < 0
          · have hA2 : ¬ (0 ≤ what) := by omega
            go_wp2_with fail
            generalize w.alloc (.cells #[.int .i64 what, .string old, .string nm, .slice ad nd kd, .int .i64 N, .slice ak nk kk, .int .u8 (tn : Nat)] 38) = zt at *
            generalize w.heap.size = p at *
            have hpt := hpa
            clear hpa x0 x1 x2 x3 x4 x5 x6
            refine wp_region_held_drew (S := fun w' => PlayAt Z B F w q p gp gd sv (c) (c) w') (by kernel_rfl) (hpt.below ((Below.refl _ _).drew)) (fun hHeld => ?_)
            refine held_take 0 (some 86) (.pointer (some ⟨q, 0, none⟩)) rfl rfl (by kernel_rfl) (by kernel_rfl) (by kernel_rfl) (fun _ _ _ h => h) rfl (fun w' hS => ?_) hHeld ?_
            · clear hS; go_simp
            try simp only [Act.put, List.setIfInBounds_toArray, List.set_cons_zero, List.set_cons_succ]
            refine held_take 1 (some 87) (.pointer (some ⟨q, 0, none⟩)) rfl rfl (by kernel_rfl) (by kernel_rfl) (by kernel_rfl) (fun _ _ _ h => h) rfl (fun w' hS => ?_) hHeld ?_
            · clear hS; go_simp
            try simp only [Act.put, List.setIfInBounds_toArray, List.set_cons_zero, List.set_cons_succ]
            refine held_take 2 (some 88) (.pointer (some ⟨q, 0, none⟩)) rfl rfl (by kernel_rfl) (by kernel_rfl) (by kernel_rfl) (fun _ _ _ h => h) rfl (fun w' hS => ?_) hHeld ?_
            · clear hS; go_simp
            try simp only [Act.put, List.setIfInBounds_toArray, List.set_cons_zero, List.set_cons_succ]
            refine held_take 3 (some 89) (.pointer (some ⟨gp, 0, none⟩)) rfl rfl (by kernel_rfl) (by kernel_rfl) (by kernel_rfl) (fun _ _ _ h => h) rfl (fun w' hS => ?_) hHeld ?_
            · have := hS.cells.1; clear hS; go_simp
            try simp only [Act.put, List.setIfInBounds_toArray, List.set_cons_zero, List.set_cons_succ]
            refine held_take 4 (some 90) (.pointer (some ⟨p, 2, none⟩)) rfl rfl (by kernel_rfl) (by kernel_rfl) (by kernel_rfl) (fun _ _ _ h => h) rfl (fun w' hS => ?_) hHeld ?_
            · clear hS; go_simp
            try simp only [Act.put, List.setIfInBounds_toArray, List.set_cons_zero, List.set_cons_succ]
            refine held_take 5 (some 91) (.string nm) rfl rfl (by kernel_rfl) (by kernel_rfl) (by kernel_rfl) (fun _ _ _ h => h) rfl (fun w' hS => ?_) hHeld ?_
            · have := hS.cells.2.2 2; rw [HSV.out] at this; clear hS; go_simp
            try simp only [Act.put, List.setIfInBounds_toArray, List.set_cons_zero, List.set_cons_succ]
            refine held_one (i := 6) (by kernel_rfl) rfl rfl (fun K hK => ?_)
            go_simp
            refine Calls.mono (pl_pread hHeld HGC.out HNC.out nm HSZ.out) ?_
            rintro _ z1 ⟨a1, l1, c1, rfl, hr1, hn1, -, hp1⟩
            dsimp only
            refine hK.out _ _ hp1 ?_
            clear hK K 
            try simp only [Act.put, List.setIfInBounds_toArray, List.set_cons_zero, List.set_cons_succ]
            refine held_take 7 (some 85) (.tuple #[.slice a1 l1 c1, .int .i64 ((readR c nm).2 : Nat)]) rfl rfl (by kernel_rfl) (by kernel_rfl) (by kernel_rfl) (fun _ _ _ h => h) rfl (fun w' hS => ?_) hp1 ?_
            · clear hS; go_simp
            try simp only [Act.put, List.setIfInBounds_toArray, List.set_cons_zero, List.set_cons_succ]
            refine held_take 8 (some 93) (.slice a1 l1 c1) rfl rfl (by kernel_rfl) (by kernel_rfl) (by kernel_rfl) (fun _ _ _ h => h) rfl (fun w' hS => ?_) hp1 ?_
            · clear hS; go_simp
            try simp only [Act.put, List.setIfInBounds_toArray, List.set_cons_zero, List.set_cons_succ]
            refine held_take 9 (some 94) (.int .i64 ((readR c nm).2 : Nat)) rfl rfl (by kernel_rfl) (by kernel_rfl) (by kernel_rfl) (fun _ _ _ h => h) rfl (fun w' hS => ?_) hp1 ?_
            · clear hS; go_simp
            try simp only [Act.put, List.setIfInBounds_toArray, List.set_cons_zero, List.set_cons_succ]
            refine held_take 10 (some 7) (.slice a1 l1 c1) rfl rfl (by kernel_rfl) (by kernel_rfl) (by kernel_rfl) (fun _ _ _ h => h) rfl (fun w' hS => ?_) hp1 ?_
            · clear hS; go_simp
            try simp only [Act.put, List.setIfInBounds_toArray, List.set_cons_zero, List.set_cons_succ]
            refine held_take 11 (some 8) (.int .i64 ((readR c nm).2 : Nat)) rfl rfl (by kernel_rfl) (by kernel_rfl) (by kernel_rfl) (fun _ _ _ h => h) rfl (fun w' hS => ?_) hp1 ?_
            · clear hS; go_simp
            try simp only [Act.put, List.setIfInBounds_toArray, List.set_cons_zero, List.set_cons_succ]
            refine wpAnyH_done (by kernel_rfl) ?_ _
            clear hHeld
            have HR1 : Hid (RowL .u8 z1 a1 l1 (txt (readR c nm).1) ∧ (a1 = none → l1 = 0)) := ⟨hr1, hn1⟩
            clear hr1 hn1
            go_wp2_with fail
            refine wp_region_held_drew (S := fun w' => PlayAt Z B F w q p gp gd sv (c) (c) w' ∧ Below z1.heap.size z1 w') (by kernel_rfl) (⟨hp1.below ((Below.refl _ _).drew), (Below.refl _ _).drew⟩) (fun hHeld => ?_)
            refine held_take 0 (some 96) (.pointer (some ⟨q, 0, none⟩)) rfl rfl (by kernel_rfl) (by kernel_rfl) (by kernel_rfl) (fun _ _ _ h => h) rfl (fun w' hS => ?_) hHeld ?_
            · clear hS; go_simp
            try simp only [Act.put, List.setIfInBounds_toArray, List.set_cons_zero, List.set_cons_succ]
            refine held_take 1 (some 97) (.pointer (some ⟨q, 0, none⟩)) rfl rfl (by kernel_rfl) (by kernel_rfl) (by kernel_rfl) (fun _ _ _ h => h) rfl (fun w' hS => ?_) hHeld ?_
            · clear hS; go_simp
            try simp only [Act.put, List.setIfInBounds_toArray, List.set_cons_zero, List.set_cons_succ]
            refine held_take 2 (some 98) (.pointer (some ⟨q, 1, none⟩)) rfl rfl (by kernel_rfl) (by kernel_rfl) (by kernel_rfl) (fun _ _ _ h => h) rfl (fun w' hS => ?_) hHeld ?_
            · clear hS; go_simp
            try simp only [Act.put, List.setIfInBounds_toArray, List.set_cons_zero, List.set_cons_succ]
            refine held_take 3 (some 99) (.pointer (some ⟨gd, 0, none⟩)) rfl rfl (by kernel_rfl) (by kernel_rfl) (by kernel_rfl) (fun _ _ _ h => h) rfl (fun w' hS => ?_) hHeld ?_
            · have := hS.1.cells.2.1; clear hS; go_simp
            try simp only [Act.put, List.setIfInBounds_toArray, List.set_cons_zero, List.set_cons_succ]
            refine held_take 4 (some 100) (.pointer (some ⟨p, 2, none⟩)) rfl rfl (by kernel_rfl) (by kernel_rfl) (by kernel_rfl) (fun _ _ _ h => h) rfl (fun w' hS => ?_) hHeld ?_
            · clear hS; go_simp
            try simp only [Act.put, List.setIfInBounds_toArray, List.set_cons_zero, List.set_cons_succ]
            refine held_take 5 (some 101) (.string nm) rfl rfl (by kernel_rfl) (by kernel_rfl) (by kernel_rfl) (fun _ _ _ h => h) rfl (fun w' hS => ?_) hHeld ?_
            · have := hS.1.cells.2.2 2; rw [HSV.out] at this; clear hS; go_simp
            try simp only [Act.put, List.setIfInBounds_toArray, List.set_cons_zero, List.set_cons_succ]
            refine held_one (i := 6) (by kernel_rfl) rfl rfl (fun K hK => ?_)
            go_simp
            refine Calls.mono (pl_dread hHeld.1 HGC.out HNC.out nm) ?_
            rintro _ z2 ⟨rfl, hz2⟩
            dsimp only
            refine hK.out _ _ (by rw [hz2]; exact hHeld) ?_
            clear hK K 
            try simp only [Act.put, List.setIfInBounds_toArray, List.set_cons_zero, List.set_cons_succ]
            have hH2 : PlayAt Z B F w q p gp gd sv (c) (c) z2 ∧ Below z1.heap.size z1 z2 := by rw [hz2]; exact hHeld
            clear hz2 hHeld
            refine held_take 7 (some 95) (.tuple #[.string (readR c nm).1, .int .i64 ((readR c nm).2 : Nat)]) rfl rfl (by kernel_rfl) (by kernel_rfl) (by kernel_rfl) (fun _ _ _ h => h) rfl (fun w' hS => ?_) hH2 ?_
            · clear hS; go_simp
            try simp only [Act.put, List.setIfInBounds_toArray, List.set_cons_zero, List.set_cons_succ]
            refine held_take 8 (some 103) (.string (readR c nm).1) rfl rfl (by kernel_rfl) (by kernel_rfl) (by kernel_rfl) (fun _ _ _ h => h) rfl (fun w' hS => ?_) hH2 ?_
            · clear hS; go_simp
            try simp only [Act.put, List.setIfInBounds_toArray, List.set_cons_zero, List.set_cons_succ]
            refine held_take 9 (some 104) (.int .i64 ((readR c nm).2 : Nat)) rfl rfl (by kernel_rfl) (by kernel_rfl) (by kernel_rfl) (fun _ _ _ h => h) rfl (fun w' hS => ?_) hH2 ?_
            · clear hS; go_simp
            try simp only [Act.put, List.setIfInBounds_toArray, List.set_cons_zero, List.set_cons_succ]
            refine held_take 10 (some 9) (.string (readR c nm).1) rfl rfl (by kernel_rfl) (by kernel_rfl) (by kernel_rfl) (fun _ _ _ h => h) rfl (fun w' hS => ?_) hH2 ?_
            · clear hS; go_simp
            try simp only [Act.put, List.setIfInBounds_toArray, List.set_cons_zero, List.set_cons_succ]
            refine held_take 11 (some 10) (.int .i64 ((readR c nm).2 : Nat)) rfl rfl (by kernel_rfl) (by kernel_rfl) (by kernel_rfl) (fun _ _ _ h => h) rfl (fun w' hS => ?_) hH2 ?_
            · clear hS; go_simp
            try simp only [Act.put, List.setIfInBounds_toArray, List.set_cons_zero, List.set_cons_succ]
            refine wpAnyH_done (by kernel_rfl) ?_ _
            obtain ⟨hp2, hb2⟩ := hH2
            have HR2 : Hid (RowL .u8 z2 a1 l1 (txt (readR c nm).1) ∧ (a1 = none → l1 = 0)) := ⟨HR1.out.1.below hb2, HR1.out.2⟩
            clear HR1 hb2 hp1
            obtain ⟨k0, k1, -⟩ := hp2.cells
            go_wp2_with fail
            refine (pl_plist hp2 HGC.out HNC.out).mono ?_
            rintro _ z3 ⟨⟨aL, cL, rfl, hrL⟩, bL, hp3⟩
            have HR3 : Hid ((RowL .u8 z3 a1 l1 (txt (readR c nm).1) ∧ (a1 = none → l1 = 0)) ∧ RowS z3 aL (namesR c)) := ⟨⟨HR2.out.1.below bL, HR2.out.2⟩, hrL⟩
            clear HR2 hp2 k0 k1 bL hrL
            obtain ⟨k0, k1, -⟩ := hp3.cells
            go_wp2_with fail
            refine (pl_dlist hp3 HGC.out HNC.out).mono ?_
            rintro _ z4 ⟨⟨aM, cM, rfl, hrM⟩, bM, hp4⟩
            have HR4 : Hid ((RowL .u8 z4 a1 l1 (txt (readR c nm).1) ∧ (a1 = none → l1 = 0)) ∧ RowS z4 aL (namesR c) ∧ RowS z4 aM (namesR c)) := ⟨⟨HR3.out.1.1.below bM, HR3.out.1.2⟩, HR3.out.2.below bM, hrM⟩
            clear HR3 hp3 k0 k1 bM hrM
            obtain ⟨k0, k1, -⟩ := hp4.cells
            go_wp2_with fail
            refine (pl_pused hp4 HGC.out HNC.out).mono ?_
            rintro _ z5 ⟨rfl, bU, hp5⟩
            have HR5 : Hid (RowS z5 aL (namesR c) ∧ RowS z5 aM (namesR c)) := ⟨HR4.out.2.1.below bU, HR4.out.2.2.below bU⟩
            have hcv := conv_any (HR4.out.1.1.below bU) HR4.out.1.2 c1
            rw [strN_txt] at hcv
            clear HR4 hp4 k0 k1 bU
            obtain ⟨k0, k1, -⟩ := hp5.cells
            have HT := texts_same z5 aL aM cL cM (namesR c) HR5.out.1 HR5.out.2 HNM.out
            generalize (namesR c).length = nl at *
            generalize readR c nm = RR at *
            generalize namesE c = ne at *
            clear HR5
            go_wp2_with fail
            refine HT.mono ?_
            rintro _ z6 ⟨rfl, bT⟩
            have hp6 := hp5.below bT
            clear HT hp5 k0 k1 hcv bT
            obtain ⟨k0, k1, -⟩ := hp6.cells
            go_wp2_with fail
            refine (pl_dused hp6 HGC.out HNC.out).mono ?_
            rintro _ z7 ⟨rfl, hp7⟩
            clear hp6 k0 k1
            obtain ⟨k0, k1, -⟩ := hp7.cells
            have k2 := hp7.quota
            go_wp2_with fail
            go_ret
            exact ⟨rfl, by rw [HST.out]; exact hp7.done⟩
          · have hA3 : 0 ≤ what := by omega
            have hA4 : ¬ (what ≤ 5) := by omega
            have hA5 : (what == 6) = false := by rw [beq_eq_false_iff_ne]; exact h6
            have hA6 : (what == 7) = false := by rw [beq_eq_false_iff_ne]; exact h7
            go_wp2_with fail
            generalize w.alloc (.cells #[.int .i64 what, .string old, .string nm, .slice ad nd kd, .int .i64 N, .slice ak nk kk, .int .u8 (tn : Nat)] 38) = zt at *
            generalize w.heap.size = p at *
            have hpt := hpa
            clear hpa x0 x1 x2 x3 x4 x5 x6
            refine wp_region_held_drew (S := fun w' => PlayAt Z B F w q p gp gd sv (c) (c) w') (by kernel_rfl) (hpt.below ((Below.refl _ _).drew)) (fun hHeld => ?_)
            refine held_take 0 (some 86) (.pointer (some ⟨q, 0, none⟩)) rfl rfl (by kernel_rfl) (by kernel_rfl) (by kernel_rfl) (fun _ _ _ h => h) rfl (fun w' hS => ?_) hHeld ?_
            · clear hS; go_simp
            try simp only [Act.put, List.setIfInBounds_toArray, List.set_cons_zero, List.set_cons_succ]
            refine held_take 1 (some 87) (.pointer (some ⟨q, 0, none⟩)) rfl rfl (by kernel_rfl) (by kernel_rfl) (by kernel_rfl) (fun _ _ _ h => h) rfl (fun w' hS => ?_) hHeld ?_
            · clear hS; go_simp
            try simp only [Act.put, List.setIfInBounds_toArray, List.set_cons_zero, List.set_cons_succ]
            refine held_take 2 (some 88) (.pointer (some ⟨q, 0, none⟩)) rfl rfl (by kernel_rfl) (by kernel_rfl) (by kernel_rfl) (fun _ _ _ h => h) rfl (fun w' hS => ?_) hHeld ?_
            · clear hS; go_simp
            try simp only [Act.put, List.setIfInBounds_toArray, List.set_cons_zero, List.set_cons_succ]
            refine held_take 3 (some 89) (.pointer (some ⟨gp, 0, none⟩)) rfl rfl (by kernel_rfl) (by kernel_rfl) (by kernel_rfl) (fun _ _ _ h => h) rfl (fun w' hS => ?_) hHeld ?_
            · have := hS.cells.1; clear hS; go_simp
            try simp only [Act.put, List.setIfInBounds_toArray, List.set_cons_zero, List.set_cons_succ]
            refine held_take 4 (some 90) (.pointer (some ⟨p, 2, none⟩)) rfl rfl (by kernel_rfl) (by kernel_rfl) (by kernel_rfl) (fun _ _ _ h => h) rfl (fun w' hS => ?_) hHeld ?_
            · clear hS; go_simp
            try simp only [Act.put, List.setIfInBounds_toArray, List.set_cons_zero, List.set_cons_succ]
            refine held_take 5 (some 91) (.string nm) rfl rfl (by kernel_rfl) (by kernel_rfl) (by kernel_rfl) (fun _ _ _ h => h) rfl (fun w' hS => ?_) hHeld ?_
            · have := hS.cells.2.2 2; rw [HSV.out] at this; clear hS; go_simp
            try simp only [Act.put, List.setIfInBounds_toArray, List.set_cons_zero, List.set_cons_succ]
            refine held_one (i := 6) (by kernel_rfl) rfl rfl (fun K hK => ?_)
            go_simp
            refine Calls.mono (pl_pread hHeld HGC.out HNC.out nm HSZ.out) ?_
            rintro _ z1 ⟨a1, l1, c1, rfl, hr1, hn1, -, hp1⟩
            dsimp only
            refine hK.out _ _ hp1 ?_
            clear hK K 
            try simp only [Act.put, List.setIfInBounds_toArray, List.set_cons_zero, List.set_cons_succ]
            refine held_take 7 (some 85) (.tuple #[.slice a1 l1 c1, .int .i64 ((readR c nm).2 : Nat)]) rfl rfl (by kernel_rfl) (by kernel_rfl) (by kernel_rfl) (fun _ _ _ h => h) rfl (fun w' hS => ?_) hp1 ?_
            · clear hS; go_simp
            try simp only [Act.put, List.setIfInBounds_toArray, List.set_cons_zero, List.set_cons_succ]
            refine held_take 8 (some 93) (.slice a1 l1 c1) rfl rfl (by kernel_rfl) (by kernel_rfl) (by kernel_rfl) (fun _ _ _ h => h) rfl (fun w' hS => ?_) hp1 ?_
            · clear hS; go_simp
            try simp only [Act.put, List.setIfInBounds_toArray, List.set_cons_zero, List.set_cons_succ]
            refine held_take 9 (some 94) (.int .i64 ((readR c nm).2 : Nat)) rfl rfl (by kernel_rfl) (by kernel_rfl) (by kernel_rfl) (fun _ _ _ h => h) rfl (fun w' hS => ?_) hp1 ?_
            · clear hS; go_simp
            try simp only [Act.put, List.setIfInBounds_toArray, List.set_cons_zero, List.set_cons_succ]
            refine held_take 10 (some 7) (.slice a1 l1 c1) rfl rfl (by kernel_rfl) (by kernel_rfl) (by kernel_rfl) (fun _ _ _ h => h) rfl (fun w' hS => ?_) hp1 ?_
            · clear hS; go_simp
            try simp only [Act.put, List.setIfInBounds_toArray, List.set_cons_zero, List.set_cons_succ]
            refine held_take 11 (some 8) (.int .i64 ((readR c nm).2 : Nat)) rfl rfl (by kernel_rfl) (by kernel_rfl) (by kernel_rfl) (fun _ _ _ h => h) rfl (fun w' hS => ?_) hp1 ?_
            · clear hS; go_simp
            try simp only [Act.put, List.setIfInBounds_toArray, List.set_cons_zero, List.set_cons_succ]
            refine wpAnyH_done (by kernel_rfl) ?_ _
            clear hHeld
            have HR1 : Hid (RowL .u8 z1 a1 l1 (txt (readR c nm).1) ∧ (a1 = none → l1 = 0)) := ⟨hr1, hn1⟩
            clear hr1 hn1
            go_wp2_with fail
            refine wp_region_held_drew (S := fun w' => PlayAt Z B F w q p gp gd sv (c) (c) w' ∧ Below z1.heap.size z1 w') (by kernel_rfl) (⟨hp1.below ((Below.refl _ _).drew), (Below.refl _ _).drew⟩) (fun hHeld => ?_)
            refine held_take 0 (some 96) (.pointer (some ⟨q, 0, none⟩)) rfl rfl (by kernel_rfl) (by kernel_rfl) (by kernel_rfl) (fun _ _ _ h => h) rfl (fun w' hS => ?_) hHeld ?_
            · clear hS; go_simp
            try simp only [Act.put, List.setIfInBounds_toArray, List.set_cons_zero, List.set_cons_succ]
            refine held_take 1 (some 97) (.pointer (some ⟨q, 0, none⟩)) rfl rfl (by kernel_rfl) (by kernel_rfl) (by kernel_rfl) (fun _ _ _ h => h) rfl (fun w' hS => ?_) hHeld ?_
            · clear hS; go_simp
            try simp only [Act.put, List.setIfInBounds_toArray, List.set_cons_zero, List.set_cons_succ]
            refine held_take 2 (some 98) (.pointer (some ⟨q, 1, none⟩)) rfl rfl (by kernel_rfl) (by kernel_rfl) (by kernel_rfl) (fun _ _ _ h => h) rfl (fun w' hS => ?_) hHeld ?_
            · clear hS; go_simp
            try simp only [Act.put, List.setIfInBounds_toArray, List.set_cons_zero, List.set_cons_succ]
            refine held_take 3 (some 99) (.pointer (some ⟨gd, 0, none⟩)) rfl rfl (by kernel_rfl) (by kernel_rfl) (by kernel_rfl) (fun _ _ _ h => h) rfl (fun w' hS => ?_) hHeld ?_
            · have := hS.1.cells.2.1; clear hS; go_simp
            try simp only [Act.put, List.setIfInBounds_toArray, List.set_cons_zero, List.set_cons_succ]
            refine held_take 4 (some 100) (.pointer (some ⟨p, 2, none⟩)) rfl rfl (by kernel_rfl) (by kernel_rfl) (by kernel_rfl) (fun _ _ _ h => h) rfl (fun w' hS => ?_) hHeld ?_
            · clear hS; go_simp
            try simp only [Act.put, List.setIfInBounds_toArray, List.set_cons_zero, List.set_cons_succ]
            refine held_take 5 (some 101) (.string nm) rfl rfl (by kernel_rfl) (by kernel_rfl) (by kernel_rfl) (fun _ _ _ h => h) rfl (fun w' hS => ?_) hHeld ?_
            · have := hS.1.cells.2.2 2; rw [HSV.out] at this; clear hS; go_simp
            try simp only [Act.put, List.setIfInBounds_toArray, List.set_cons_zero, List.set_cons_succ]
            refine held_one (i := 6) (by kernel_rfl) rfl rfl (fun K hK => ?_)
            go_simp
            refine Calls.mono (pl_dread hHeld.1 HGC.out HNC.out nm) ?_
            rintro _ z2 ⟨rfl, hz2⟩
            dsimp only
            refine hK.out _ _ (by rw [hz2]; exact hHeld) ?_
            clear hK K 
            try simp only [Act.put, List.setIfInBounds_toArray, List.set_cons_zero, List.set_cons_succ]
            have hH2 : PlayAt Z B F w q p gp gd sv (c) (c) z2 ∧ Below z1.heap.size z1 z2 := by rw [hz2]; exact hHeld
            clear hz2 hHeld
            refine held_take 7 (some 95) (.tuple #[.string (readR c nm).1, .int .i64 ((readR c nm).2 : Nat)]) rfl rfl (by kernel_rfl) (by kernel_rfl) (by kernel_rfl) (fun _ _ _ h => h) rfl (fun w' hS => ?_) hH2 ?_
            · clear hS; go_simp
            try simp only [Act.put, List.setIfInBounds_toArray, List.set_cons_zero, List.set_cons_succ]
            refine held_take 8 (some 103) (.string (readR c nm).1) rfl rfl (by kernel_rfl) (by kernel_rfl) (by kernel_rfl) (fun _ _ _ h => h) rfl (fun w' hS => ?_) hH2 ?_
            · clear hS; go_simp
            try simp only [Act.put, List.setIfInBounds_toArray, List.set_cons_zero, List.set_cons_succ]
            refine held_take 9 (some 104) (.int .i64 ((readR c nm).2 : Nat)) rfl rfl (by kernel_rfl) (by kernel_rfl) (by kernel_rfl) (fun _ _ _ h => h) rfl (fun w' hS => ?_) hH2 ?_
            · clear hS; go_simp
            try simp only [Act.put, List.setIfInBounds_toArray, List.set_cons_zero, List.set_cons_succ]
            refine held_take 10 (some 9) (.string (readR c nm).1) rfl rfl (by kernel_rfl) (by kernel_rfl) (by kernel_rfl) (fun _ _ _ h => h) rfl (fun w' hS => ?_) hH2 ?_
            · clear hS; go_simp
            try simp only [Act.put, List.setIfInBounds_toArray, List.set_cons_zero, List.set_cons_succ]
            refine held_take 11 (some 10) (.int .i64 ((readR c nm).2 : Nat)) rfl rfl (by kernel_rfl) (by kernel_rfl) (by kernel_rfl) (fun _ _ _ h => h) rfl (fun w' hS => ?_) hH2 ?_
            · clear hS; go_simp
            try simp only [Act.put, List.setIfInBounds_toArray, List.set_cons_zero, List.set_cons_succ]
            refine wpAnyH_done (by kernel_rfl) ?_ _
            obtain ⟨hp2, hb2⟩ := hH2
            have HR2 : Hid (RowL .u8 z2 a1 l1 (txt (readR c nm).1) ∧ (a1 = none → l1 = 0)) := ⟨HR1.out.1.below hb2, HR1.out.2⟩
            clear HR1 hb2 hp1
            obtain ⟨k0, k1, -⟩ := hp2.cells
            go_wp2_with fail
            refine (pl_plist hp2 HGC.out HNC.out).mono ?_
            rintro _ z3 ⟨⟨aL, cL, rfl, hrL⟩, bL, hp3⟩
            have HR3 : Hid ((RowL .u8 z3 a1 l1 (txt (readR c nm).1) ∧ (a1 = none → l1 = 0)) ∧ RowS z3 aL (namesR c)) := ⟨⟨HR2.out.1.below bL, HR2.out.2⟩, hrL⟩
            clear HR2 hp2 k0 k1 bL hrL
            obtain ⟨k0, k1, -⟩ := hp3.cells
            go_wp2_with fail
            refine (pl_dlist hp3 HGC.out HNC.out).mono ?_
            rintro _ z4 ⟨⟨aM, cM, rfl, hrM⟩, bM, hp4⟩
            have HR4 : Hid ((RowL .u8 z4 a1 l1 (txt (readR c nm).1) ∧ (a1 = none → l1 = 0)) ∧ RowS z4 aL (namesR c) ∧ RowS z4 aM (namesR c)) := ⟨⟨HR3.out.1.1.below bM, HR3.out.1.2⟩, HR3.out.2.below bM, hrM⟩
            clear HR3 hp3 k0 k1 bM hrM
            obtain ⟨k0, k1, -⟩ := hp4.cells
            go_wp2_with fail
            refine (pl_pused hp4 HGC.out HNC.out).mono ?_
            rintro _ z5 ⟨rfl, bU, hp5⟩
            have HR5 : Hid (RowS z5 aL (namesR c) ∧ RowS z5 aM (namesR c)) := ⟨HR4.out.2.1.below bU, HR4.out.2.2.below bU⟩
            have hcv := conv_any (HR4.out.1.1.below bU) HR4.out.1.2 c1
            rw [strN_txt] at hcv
            clear HR4 hp4 k0 k1 bU
            obtain ⟨k0, k1, -⟩ := hp5.cells
            have HT := texts_same z5 aL aM cL cM (namesR c) HR5.out.1 HR5.out.2 HNM.out
            generalize (namesR c).length = nl at *
            generalize readR c nm = RR at *
            generalize namesE c = ne at *
            clear HR5
            go_wp2_with fail
            refine HT.mono ?_
            rintro _ z6 ⟨rfl, bT⟩
            have hp6 := hp5.below bT
            clear HT hp5 k0 k1 hcv bT
            obtain ⟨k0, k1, -⟩ := hp6.cells
            go_wp2_with fail
            refine (pl_dused hp6 HGC.out HNC.out).mono ?_
            rintro _ z7 ⟨rfl, hp7⟩
            clear hp6 k0 k1
            obtain ⟨k0, k1, -⟩ := hp7.cells
            have k2 := hp7.quota
            go_wp2_with fail
            go_ret
            exact ⟨rfl, by rw [HST.out]; exact hp7.done⟩
structure StepV where
  what : Int
  old : ByteArray
  nm : ByteArray
  D : ByteArray
  ad : Option Addr
  nd : Nat
  kd : Nat
  N : Int
  keep : List Int
  ak : Option Addr
  nk : Nat
  kk : Nat
  tn : Nat
def StepV.none : StepV := ⟨0, ByteArray.empty, ByteArray.empty, ByteArray.empty, .none, 0, 0, 0, [], .none, 0, 0, 0⟩
def StepV.cells (x : StepV) : List Value := [.int .i64 x.what, .string x.old, .string x.nm, .slice x.ad x.nd x.kd, .int .i64 x.N, .slice x.ak x.nk x.kk, .int .u8 (x.tn : Nat)]
structure StepOk (W : World) (x : StepV) : Prop where
  old : x.old.size ≤ 9223372036854775806
  nm : x.nm.size ≤ 9223372036854775806
  dlen : x.D.size = x.nd
  drow : RowL .u8 W x.ad x.nd (txt x.D)
  dnil : x.ad = .none → x.nd = 0 ∧ x.kd = 0
  dlow : 0 < x.nd → ∀ y, x.ad = some y → y.block < W.heap.size
  n : -9223372036854775808 ≤ x.N ∧ x.N ≤ 9223372036854775807
  krow : RowZ W x.ak x.nk x.keep
  knil : x.ak = .none → x.nk = 0 ∧ x.kk = 0
  klow : 0 < x.nk → ∀ y, x.ak = some y → y.block < W.heap.size
  klen : x.nk * 8 ≤ 140737488355328
  kcap : x.nk ≤ x.kk
  turn : x.tn < 256
def stepAt (xs : List StepV) (i : Nat) : StepV := xs.getD i StepV.none
def ArgS (W : World) (a : Option Addr) (len : Nat) (xs : List StepV) : Prop :=
  (∀ i, i < len → StepOk W (stepAt xs i)) ∧ (len = 0 ∨ ∃ b off, a = some ⟨b, off, .none⟩ ∧ b < W.heap.size ∧ ∀ i, i < len → ∀ j, j < 7 → W.cell? ⟨b, off + i * 7 + j, .none⟩ = (stepAt xs i).cells[j]?)
theorem weights_all_mem {H : Type} {P : Program} {e : TypeId} : ∀ (ds : List (DataW H)) (d : DataW H), d ∈ ds → ∀ n ∈ d.weights P e, n ∈ DataW.weightsAll P e ds
  | [], d, h, _, _ => by cases h
  | x :: r, d, h, n, hn => by
    rw [DataW.weightsAll, List.mem_append]
    rcases List.mem_cons.1 h with h | h
    · subst h; exact .inl hn
    · exact .inr (weights_all_mem r d h n hn)
theorem take_one9 {α : Type} (l : List α) (i : Nat) (v : α) (h : (l.drop i).take 1 = [v]) : l[i]? = some v := by
  have : ((l.drop i).take 1)[0]? = some v := by rw [h]; rfl
  rw [List.getElem?_take, if_pos (by decide), List.getElem?_drop, Nat.add_zero] at this
  exact this
theorem row_is {W : World} {k : IntKind} {x : Addr} {len : Nat} {zs : List Int} (hl : len ≤ zs.length) (hc : ∀ i, i < zs.length → W.cell? (x.add i) = some (.int k (zs.getD i 0))) (hp : 0 < len) :
    ∃ b off, x = ⟨b, off, .none⟩ ∧ b < W.heap.size ∧ ∀ i, i < len → W.cell? ⟨b, off + i, .none⟩ = some (.int k (zs.getD i 0)) := by
  obtain ⟨b, off, spot⟩ := x
  have c0 := hc 0 (by omega)
  have hspot : spot = .none := by simpa [Addr.add] using World.cell?_spot c0
  subst hspot
  refine ⟨b, off, rfl, by simpa [Addr.add] using World.block_lt_of_cell? W _ c0, fun i hi => ?_⟩
  have := hc i (by omega)
  have hpp : (⟨b, off, .none⟩ : Addr).add i = ⟨b, off + i, .none⟩ := by unfold Addr.add; split <;> simp_all
  rw [hpp] at this
  exact this
theorem take_getD (zs : List Int) (l i : Nat) (hi : i < l) : (zs.take l).getD i 0 = zs.getD i 0 := by
  rw [List.getD_eq_getElem?_getD, List.getD_eq_getElem?_getD, List.getElem?_take, if_pos hi]
theorem bytes_open {H : Type} {enc : TypeId × Value → H} {W : World} {base : Nat} {spare : Nat → Bool} {held : Bool} {n : Nat} {cs : List Value} {x : DataW H × List MemPlace}
    (h : DataW.trod enc Try.prog W base spare held n 35 cs = some x) : ∃ (D : ByteArray) (a : Option Addr) (len cap : Nat), cs = [.slice a len cap] ∧ D.size = len ∧ RowL .u8 W a len (txt D) ∧ (a = .none → len = 0 ∧ cap = 0) ∧ (0 < len → ∀ y, a = some y → y.block < W.heap.size) := by
  rcases open_ints Try.underlying35 Try.underlying5 (by kernel_rfl) h with ⟨hcs, _⟩ | ⟨y, l, c, zs, hcs, _, hl, hm, hz, hx, hcell, hwz⟩
  · exact ⟨ByteArray.empty, .none, 0, 0, hcs, rfl, ⟨rfl, .inl rfl⟩, fun _ => ⟨rfl, rfl⟩, fun h => absurd h (Nat.lt_irrefl _)⟩
  · have hlz : l ≤ zs.length := by rw [hz]; split <;> omega
    have hb : ∀ z ∈ zs.take l, 0 ≤ z ∧ z ≤ 255 := fun z hz => by
      have := bounds_u8 (hwz z (List.mem_of_mem_take hz))
      omega
    have hL : ∀ c ∈ (zs.take l).map Int.toNat, c < 256 := fun c hc => by
      obtain ⟨z, hz, rfl⟩ := List.mem_map.1 hc
      have := hb z hz
      omega
    have hlen : ((zs.take l).map Int.toNat).length = l := by rw [List.length_map, List.length_take]; omega
    refine ⟨strN ((zs.take l).map Int.toNat), some y, l, c, hcs, by rw [strN_size, hlen], ?_, fun h => (by cases h), ?_⟩
    · rw [txt_strN _ hL]
      refine ⟨hlen, ?_⟩
      rcases Nat.eq_zero_or_pos l with h0 | hp
      · exact .inl h0
      · obtain ⟨b, off, rfl, hlt, hc⟩ := row_is hlz hcell hp
        refine .inr ⟨b, off, rfl, hlt, fun i hi => ?_⟩
        have hi' : i < (zs.take l).length := by rw [List.length_take]; omega
        have e : ((zs.take l).map Int.toNat).getD i 0 = ((zs.take l).getD i 0).toNat := by
          rw [List.getD_eq_getElem?_getD, List.getD_eq_getElem?_getD, List.getElem?_map, List.getElem?_eq_getElem hi']; rfl
        have hz := hb ((zs.take l).getD i 0) (by rw [List.getD_eq_getElem?_getD, List.getElem?_eq_getElem hi']; exact List.getElem_mem hi')
        rw [hc i hi, e, ← take_getD zs l i hi, Int.toNat_of_nonneg hz.1]
    · intro hp z hz
      cases hz
      obtain ⟨b, off, rfl, hlt, -⟩ := row_is hlz hcell hp
      exact hlt
theorem ints_open {H : Type} {enc : TypeId × Value → H} {W : World} {base : Nat} {spare : Nat → Bool} {held : Bool} {n : Nat} {cs : List Value} {d : DataW H} {pl : List MemPlace}
    (h : DataW.trod enc Try.prog W base spare held n 36 cs = some (d, pl)) (hw : ∀ m ∈ d.weights Try.prog 36, m ≤ reachBytes) : ∃ (zs : List Int) (a : Option Addr) (len cap : Nat), cs = [.slice a len cap] ∧ RowZ W a len zs ∧ (a = .none → len = 0 ∧ cap = 0) ∧ (0 < len → ∀ y, a = some y → y.block < W.heap.size) ∧ len * 8 ≤ 140737488355328 ∧ len ≤ cap := by
  rcases open_ints Try.underlying36 Try.underlying3 (by kernel_rfl) h with ⟨hcs, _⟩ | ⟨y, l, c, zs, hcs, _, hl, hm, hz, hx, hcell, hwz⟩
  · exact ⟨[], .none, 0, 0, hcs, ⟨rfl, .inl rfl⟩, fun _ => ⟨rfl, rfl⟩, fun h => absurd h (Nat.lt_irrefl _), by decide, Nat.le_refl _⟩
  · have hlz : l ≤ zs.length := by rw [hz]; split <;> omega
    refine ⟨zs.take l, some y, l, c, hcs, ⟨by rw [List.length_take]; omega, ?_⟩, fun h => (by cases h), ?_, ?_, hl⟩
    · rcases Nat.eq_zero_or_pos l with h0 | hp
      · exact .inl h0
      · obtain ⟨b, off, rfl, hlt, hc⟩ := row_is hlz hcell hp
        exact .inr ⟨b, off, rfl, hlt, fun i hi => by rw [hc i hi, take_getD zs l i hi]⟩
    · intro hp z hz
      cases hz
      obtain ⟨b, off, rfl, hlt, -⟩ := row_is hlz hcell hp
      exact hlt
    · have hd := congrArg Prod.fst hx
      dsimp only at hd
      have hby : Try.prog.bytesOf 3 = 8 := by kernel_rfl
      have := hw (((lits .i64 (zs.take l)).length + (lits .i64 (zs.drop l)).length) * Try.prog.bytesOf 3) (by rw [hd]; unfold DataW.weights; rw [Try.underlying36]; exact List.mem_cons_self ..)
      rw [hby] at this
      simp only [lits, List.length_map, List.length_take, List.length_drop, reachBytes] at this
      omega
theorem step_open {H : Type} {enc : TypeId × Value → H} {W : World} {base : Nat} {spare : Nat → Bool} {held : Bool} {n : Nat} {cs : List Value} {d : DataW H} {pl : List MemPlace}
    (h : DataW.trod enc Try.prog W base spare held n 38 cs = some (d, pl)) (hw : ∀ m ∈ d.weights Try.prog 38, m ≤ reachBytes) : ∃ x : StepV, StepOk W x ∧ cs = x.cells := by
  obtain ⟨xs, m, -, hx, hl, hxl, hf⟩ := DataW.trod_struct Try.underlying38 h
  have hcf : Try.prog.cellsOf 38 = 7 := by kernel_rfl
  have c0 : Try.prog.cellsOf 3 = 1 := by kernel_rfl
  have c1 : Try.prog.cellsOf 9 = 1 := by kernel_rfl
  have c3 : Try.prog.cellsOf 35 = 1 := by kernel_rfl
  have c5 : Try.prog.cellsOf 36 = 1 := by kernel_rfl
  have c6 : Try.prog.cellsOf 5 = 1 := by kernel_rfl
  rw [hcf] at hl
  match xs, hxl with
  | [y0, y1, y2, y3, y4, y5, y6], _ =>
    have g0 : DataW.trod enc Try.prog W base spare held m 3 ((cs.drop 0).take (Try.prog.cellsOf 3)) = some y0 := hf 0 _ rfl
    have g1 : DataW.trod enc Try.prog W base spare held m 9 ((cs.drop 1).take (Try.prog.cellsOf 9)) = some y1 := hf 1 _ rfl
    have g2 : DataW.trod enc Try.prog W base spare held m 9 ((cs.drop 2).take (Try.prog.cellsOf 9)) = some y2 := hf 2 _ rfl
    have g3 : DataW.trod enc Try.prog W base spare held m 35 ((cs.drop 3).take (Try.prog.cellsOf 35)) = some y3 := hf 3 _ rfl
    have g4 : DataW.trod enc Try.prog W base spare held m 3 ((cs.drop 4).take (Try.prog.cellsOf 3)) = some y4 := hf 4 _ rfl
    have g5 : DataW.trod enc Try.prog W base spare held m 36 ((cs.drop 5).take (Try.prog.cellsOf 36)) = some y5 := hf 5 _ rfl
    have g6 : DataW.trod enc Try.prog W base spare held m 5 ((cs.drop 6).take (Try.prog.cellsOf 5)) = some y6 := hf 6 _ rfl
    rw [c0] at g0 g4
    rw [c1] at g1 g2
    rw [c3] at g3
    rw [c5] at g5
    rw [c6] at g6
    have hd := congrArg Prod.fst hx
    dsimp only at hd
    have hw5 : ∀ (j : Nat) (t : TypeId) (dd : DataW H), ([3, 9, 9, 35, 3, 36, 5] : List TypeId)[j]? = some t → ([y0.1, y1.1, y2.1, y3.1, y4.1, y5.1, y6.1] : List (DataW H))[j]? = some dd → ∀ m ∈ dd.weights Try.prog t, m ≤ reachBytes := fun j t dd ht hdd m hm => hw m (by
      rw [hd]
      have := DataW.weights_mem_each ht hdd m hm
      simpa [DataW.weights, Try.underlying38] using this)
    obtain ⟨z0, e0, -, w0⟩ := DataW.trod_int Try.underlying3 g0
    obtain ⟨s1, e1, k1, b1⟩ := DataW.trod_string Try.underlying9 g1
    obtain ⟨s2, e2, k2, b2⟩ := DataW.trod_string Try.underlying9 g2
    obtain ⟨D, ad, nd, kd, e3, p1, p2, p3, p4⟩ := bytes_open g3
    obtain ⟨z4, e4, -, w4⟩ := DataW.trod_int Try.underlying3 g4
    obtain ⟨zs, ak, nk, kk, e5, q1, q2, q3, q4, q5⟩ := ints_open (d := y5.1) (pl := y5.2) g5 (hw5 5 _ _ rfl rfl)
    obtain ⟨z6, e6, -, w6⟩ := DataW.trod_int Try.underlying5 g6
    have h4 := bounds_i64 w4
    have h6 := bounds_u8 w6
    have s1b : s1.size ≤ 140737488351232 := by
      have := hw5 1 _ _ rfl rfl s1.data.toList.length (by rw [k1]; simp [DataW.weights])
      rw [Array.length_toList] at this
      exact this
    have s2b : s2.size ≤ 140737488351232 := by
      have := hw5 2 _ _ rfl rfl s2.data.toList.length (by rw [k2]; simp [DataW.weights])
      rw [Array.length_toList] at this
      exact this
    refine ⟨⟨z0, s1, s2, D, ad, nd, kd, z4, zs, ak, nk, kk, z6.toNat⟩, ⟨by dsimp only; omega, by dsimp only; omega, p1, p2, p3, p4, ⟨by dsimp only; omega, by dsimp only; omega⟩, q1, q2, q3, q4, q5, by dsimp only; omega⟩, ?_⟩
    unfold StepV.cells
    dsimp only
    rw [Int.toNat_of_nonneg h6.1]
    refine List.ext_getElem? fun i => ?_
    match i with
    | 0 => exact take_one9 cs 0 _ e0
    | 1 => exact take_one9 cs 1 _ e1
    | 2 => exact take_one9 cs 2 _ e2
    | 3 => exact take_one9 cs 3 _ e3
    | 4 => exact take_one9 cs 4 _ e4
    | 5 => exact take_one9 cs 5 _ e5
    | 6 => exact take_one9 cs 6 _ e6
    | i + 7 => rw [List.getElem?_eq_none (by omega), List.getElem?_eq_none (by simp)]
theorem steps_open {H : Type} {enc : TypeId × Value → H} {W : World} {base : Nat} {spare : Nat → Bool} {held : Bool} {fuel : Nat} {a : Option Addr} {len cap : Nat} {d : DataW H} {p : List MemPlace}
    (h : DataW.trod enc Try.prog W base spare held fuel 22 (Value.slice a len cap).cells.toList = some (d, p)) (hw : ∀ m ∈ d.weights Try.prog 22, m ≤ reachBytes) :
    ∃ xs, ArgS W a len xs ∧ len ≤ cap ∧ cap ≤ maxLen := by
  have hcf : Try.prog.cellsOf 38 = 7 := by kernel_rfl
  rcases Deep.open_slice Try.underlying22 h with ⟨hcs, hd⟩ | ⟨x, l, c, m, n, D, Pl, hcs, _, hl, hm, hmm, hx, hcell⟩
  · simp [Value.cells] at hcs
    obtain ⟨rfl, rfl, rfl⟩ := hcs
    exact ⟨[], ⟨fun i hi => by omega, .inl rfl⟩, Nat.le_refl _, Nat.zero_le _⟩
  · simp [Value.cells] at hcs
    obtain ⟨rfl, rfl, rfl⟩ := hcs
    have hlm : len ≤ m := by rw [hmm]; split <;> omega
    have hd := congrArg Prod.fst hx
    dsimp only at hd
    have each : ∀ i, i < len → ∃ y : StepV, StepOk W y ∧ ∀ j, j < 7 → W.cell? ((x.add (i * 7)).add j) = y.cells[j]? := by
      intro i hi
      obtain ⟨cs', h1, h2⟩ := hcell i (by omega)
      rw [hcf] at h1
      obtain ⟨_, hlen, hc⟩ := World.cells?_some h1
      obtain ⟨y, hy, rfl⟩ := step_open h2 (fun k hk => hw k (by
        rw [hd]
        have := weights_all_mem ((List.range len).map D) (D i) (List.mem_map.2 ⟨i, List.mem_range.2 hi, rfl⟩) k hk
        simp [DataW.weights, Try.underlying22]
        exact .inr (.inl this)))
      exact ⟨y, hy, fun j hj => hc j hj⟩
    haveI : Inhabited StepV := ⟨StepV.none⟩
    obtain ⟨q, hq⟩ := Deep.choose_lt each
    have hat : ∀ i, i < len → stepAt ((List.range len).map q) i = q i := by
      intro i hi
      unfold stepAt
      rw [List.getD_eq_getElem?_getD, List.getElem?_map, List.getElem?_range hi]
      rfl
    refine ⟨(List.range len).map q, ⟨fun i hi => by rw [hat i hi]; exact (hq i hi).1, ?_⟩, hl, hm⟩
    by_cases h0 : len = 0
    · exact .inl h0
    · obtain ⟨b, off, spot⟩ := x
      have k0 := (hq 0 (by omega)).2 0 (by omega)
      have e0 : (q 0).cells[0]? = some (.int .i64 (q 0).what) := rfl
      rw [e0] at k0
      have hspot : spot = .none := by simpa [Addr.add] using World.cell?_spot k0
      subst hspot
      refine .inr ⟨b, off, rfl, by simpa [Addr.add] using World.block_lt_of_cell? W _ k0, fun i hi j hj => ?_⟩
      have hp : ∀ o k, (⟨b, o, .none⟩ : Addr).add k = ⟨b, o + k, .none⟩ := fun o k => by unfold Addr.add; split <;> simp_all
      have := (hq i hi).2 j hj
      rw [hp, hp] at this
      rw [hat i hi, this]
theorem step_load {W : World} {b off : Nat} {x : StepV} (h : ∀ j, j < 7 → W.cell? ⟨b, off + j, .none⟩ = x.cells[j]?) :
    (loadVar 38 ⟨b, off, .none⟩).run Try.prog W = .ok (.agg #[.int .i64 x.what, .string x.old, .string x.nm, .slice x.ad x.nd x.kd, .int .i64 x.N, .slice x.ak x.nk x.kk, .int .u8 (x.tn : Nat)]) W := by
  refine run_loadVar_mid W b off 38 x.cells _ ?_ Try.underlying38 rfl (by kernel_rfl)
  intro j v hj
  have hj' : j < 7 := by have := (List.getElem?_eq_some_iff.1 hj).1; simpa [StepV.cells] using this
  rw [h j hj', hj]
theorem quota_done (e : Nat) (c : CabM) (f : CabM → CabM) (hf : ∀ c', (f c').quota = c'.quota) : (doneC e c f).2.quota = c.quota := by
  have hp := (power_lists c).2.2.2.2
  unfold doneC
  split
  · split
    · exact (hf _).trans hp
    · exact hp
  · rfl
theorem quota_change (c : CabM) (what : Int) (old nm D : ByteArray) : (changeR c what old nm D).2.quota = c.quota := by
  unfold changeR
  split
  · exact quota_done _ _ _ (fun _ => rfl)
  · split
    · exact quota_done _ _ _ (fun _ => rfl)
    · split
      · exact quota_done _ _ _ (fun _ => rfl)
      · split
        · exact quota_done _ _ _ (fun _ => rfl)
        · split
          · exact quota_done _ _ _ (fun _ => rfl)
          · exact quota_done _ _ _ (fun _ => rfl)
theorem quota_step (c : CabM) (what : Int) (old nm D : ByteArray) (N : Int) (keep : List Int) (t : UInt8) : (stepC c what old nm D N keep t).quota = c.quota := by
  unfold stepC
  split
  · rfl
  · split
    · exact quota_change c what old nm D
    · split
      · rfl
      · split
        · rfl
        · rfl
/-- A step that came in, played in a later world. -/
theorem ArgS.play {w wr : World} {a : Option Addr} {len : Nat} {xs : List StepV} (h : ArgS w a len xs) (hb : Below w.heap.size w wr) (i : Nat) (hi : i < len) (Z : CabP) (F : Nat → Prop) (q gp gd : Nat) (c : CabM) (n : Nat) (hp : PairAt Z w.heap.size F wr gp gd c c) (hF : F q) (hq : wr.heap[q]? = some (.cells #[.pointer (some ⟨gp, 0, .none⟩), .pointer (some ⟨gd, 0, .none⟩)] 33 (0, 0))) (hg : GoodC c n) (hn : n + 1 ≤ 1000) :
    ∃ b off c' v, a = some ⟨b, off, .none⟩ ∧ (loadVar 38 ⟨b, off + i * 7, .none⟩).run Try.prog wr = .ok (.agg v) wr ∧ GoodC c' (n + 1) ∧ c'.quota = c.quota ∧
      Calls Try.prog 8 #[.pointer (some ⟨q, 0, .none⟩), .agg v] wr fun e w' => e = .returned (.bool true) ∧ PairTo Z w.heap.size F wr gp gd c' c' w' := by
  rcases h.2 with h0 | ⟨b, off, ha, hlt, hc⟩
  · omega
  have ok := h.1 i hi
  have hL := step_load (W := wr) (b := b) (off := off + i * 7) (x := stepAt xs i) (fun j hj => (hb.cell (p := ⟨b, off + i * 7 + j, .none⟩) hlt).trans (hc i hi j hj))
  generalize stepAt xs i = X at *
  refine ⟨b, off, stepC c X.what X.old X.nm X.D X.N X.keep (UInt8.ofNat X.tn), _, ha, hL, good_step hg X.what X.old X.nm X.D X.N ok.n.2 X.keep _, quota_step .., ?_⟩
  exact play_any Z w.heap.size F wr q gp gd c n hp hF hq hg hn X.what X.old X.nm X.D X.ad X.nd X.kd X.N X.ak X.nk X.kk X.tn ok.nm ok.old ok.dlen (ok.drow.lowB hb ok.dlow) ok.dnil ok.dlow ok.n X.keep (ok.krow.lowB hb ok.klow) ok.knil ok.klow ok.klen ok.kcap (UInt8.ofNat X.tn) (by have := ok.turn; simp; omega)
end Go.Proofs.Ytlhmeebbdjiokaa
