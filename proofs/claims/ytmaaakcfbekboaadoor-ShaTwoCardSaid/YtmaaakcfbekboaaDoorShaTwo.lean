/-
  Two Hashes that are written do not know of one another, and each has the digest of what was written into it; no Hash tells noughts: for any bytes, where the table of factors is as its text lays it; the input reads as it did.
-/
import Derived.Test.YtmaaakcfbekboaaDoorCards
import Derived.Test.YtmaaakcfbekboaaDoorTie
import Derived.Test.YtmaaakcfbekboaaDoorArgs
import Derived.Test.YtmaaakcfbekboaaDoorShaLaid
import Derived.Test.YtmaaakcfbekboaaDoorShaFlat
namespace Go.Proofs.YtmaaakcfbekboaaDoor.shaTwo
open Go.ChangeShapes Go.WideShapes Go.ChangeAt Go.RowKit
set_option linter.unusedVariables false
set_option linter.unusedSimpArgs false
set_option maxRecDepth 100000 in
set_option maxHeartbeats 16000000 in
theorem walk (w : World) (hT : Tab w) (a : Option Addr) (la ca : Nat) (A : List Nat) (hA : ArgL w a la ca A) (ra : ca ≤ 140737488351232) (b : Option Addr) (lb cb : Nat) (B : List Nat) (hB : ArgL w b lb cb B) (rb : cb ≤ 140737488351232) (c : Option Addr) (lc cc : Nat) (C : List Nat) (hC : ArgL w c lc cc C) (rc : cc ≤ 140737488351232) :
    Calls Tryd.prog 5 #[.slice a la ca, .slice b lb cb, .slice c lc cc] w fun e w' => e = .returned (.bool true) ∧ Below w.heap.size w w' := by
  obtain ⟨hA1, hA2, hA3, hA4, -⟩ := hA
  obtain ⟨hB1, hB2, hB3, hB4, -⟩ := hB
  obtain ⟨hC1, hC2, hC3, hC4, -⟩ := hC
  have lA : A.length = la := hA1.1
  have lB : B.length = lb := hB1.1
  have lC : C.length = lc := hC1.1
  have HA : Hid (RowL .u8 w a la A ∧ (∀ j, A.getD j 0 < 256) ∧ (a = none → la = 0 ∧ ca = 0)) := ⟨hA1, hA2, hA3⟩
  have HB : Hid (RowL .u8 w b lb B ∧ (∀ j, B.getD j 0 < 256) ∧ (b = none → lb = 0 ∧ cb = 0)) := ⟨hB1, hB2, hB3⟩
  have HC : Hid (RowL .u8 w c lc C ∧ (∀ j, C.getD j 0 < 256) ∧ (c = none → lc = 0 ∧ cc = 0)) := ⟨hC1, hC2, hC3⟩
  have HLA : Hid (A.length = la) := lA
  have HLB : Hid (B.length = lb) := lB
  have HLC : Hid (C.length = lc) := lC
  have HT : Hid (Tab w) := hT
  have ba : la ≤ 140737488351232 := by omega
  have bb : lb ≤ 140737488351232 := by omega
  have bc : lc ≤ 140737488351232 := by omega
  obtain ⟨DY, hDY⟩ : ∃ D, D = shaN B := ⟨_, rfl⟩
  obtain ⟨DX, hDX⟩ : ∃ D, D = shaN (A ++ C) := ⟨_, rfl⟩
  have HDY : Hid (DY = shaN B) := hDY
  have HDX : Hid (DX = shaN (A ++ C)) := hDX
  have HDYL : Hid (DY.length = 32) := by rw [hDY]; exact shaN_length _
  have HEY : Hid _ := same_digest DY HDYL.out
  have HEX : Hid _ := same_digest DX (by rw [hDX]; exact shaN_length _)
  have HE0 : Hid _ := same_digest zeros32 rfl
  have HSB : Hid (∀ w1, Below w.heap.size w w1 → Calls Tryd.prog 8 #[.slice (some ⟨w1.heap.size, 0, none⟩) 1 1] (w1.alloc (.cells #[.slice b lb cb] 28)) fun e w' => e = .returned (.agg (encL .u8 DY)) ∧ Below (w1.alloc (.cells #[.slice b lb cb] 28)).heap.size (w1.alloc (.cells #[.slice b lb cb] 28)) w') := fun w1 h1 => by
    have h2 : Below w.heap.size w (w1.alloc (.cells #[.slice b lb cb] 28)) := Below.alloc h1 h1.size _
    have := ssum_any _ _ 1 1 [B] (parts1 w1 b lb cb B (hB1.below h1) hB3) (hT.below h2 hT.1) (by intro xs hx; simp at hx; rw [hx]; exact hB2) (by intro xs hx; simp at hx; rw [hx]; omega) (by decide) (by simp; omega)
    rw [show [B].flatten = B by simp, ← hDY] at this
    exact this
  have HSAC : Hid (∀ w1, Below w.heap.size w w1 → PartsL w1 (some ⟨w1.heap.size, 0, none⟩) 2 [A, C] → True) := fun _ _ _ => trivial
  have HSX : Hid (∀ w1 g, Below w.heap.size w w1 → PartsL w1 (some ⟨g, 0, none⟩) 2 [A, C] → Calls Tryd.prog 8 #[.slice (some ⟨g, 0, none⟩) 2 2] w1 fun e w' => e = .returned (.agg (encL .u8 DX)) ∧ Below w1.heap.size w1 w') := fun w1 g h1 hp => by
    have := ssum_any _ _ 2 2 [A, C] hp (hT.below h1 hT.1) (by intro xs hx; simp at hx; rcases hx with rfl | rfl <;> assumption) (by intro xs hx; simp at hx; rcases hx with rfl | rfl <;> omega) (by decide) (by simp; omega)
    rw [show [A, C].flatten = A ++ C by simp, ← hDX] at this
    exact this
  clear hT hA1 hA2 hA3 hA4 hB1 hB2 hB3 hB4 hC1 hC2 hC3 hC4 hDY hDX lA lB lC HSAC
  go_enter Tryd.func5, Tryd.ntmps5
  go_wp2_with fail
  refine (new_any w).mono ?_
  rintro e w1 ⟨rfl, hw1⟩
  have s1 : w1.heap.size = w.heap.size + 1 := by rw [hw1]; simp
  have HX1 : Hid (Hash w1 w.heap.size (w.heap.size + 2) []) := by rw [hw1]; exact hash_new w _
  have HE1 : Hid (Below w.heap.size w w1) := by rw [hw1]; exact below_new w _
  clear hw1
  go_wp2_with fail
  refine (new_any w1).mono ?_
  rintro e w2 ⟨rfl, hw2⟩
  have HY2 : Hid (Hash w2 (w.heap.size + 1) (w.heap.size + 2) []) := by rw [hw2, ← s1]; exact hash_new w1 _
  have hb2 : Below w1.heap.size w1 w2 := by rw [hw2]; exact below_new w1 _
  have s2 : w.heap.size + 2 ≤ w2.heap.size := by rw [hw2]; simp; omega
  have HX2 : Hid (Hash w2 w.heap.size (w.heap.size + 2) []) := HX1.out.below hb2
  have HE2 : Hid (Below w.heap.size w w2) := HE1.out.trans (hb2.mono HE1.out.size)
  rw [s1]
  clear hw2 hb2 HX1 HE1
  go_wp2_with fail
  have HW : Hid _ := write_any w2 w.heap.size (w.heap.size + 2) [] HX2.out (HT.out.below HE2.out HT.out.1) HT.out.1 s2 a la ca A (HA.out.1.below HE2.out) HA.out.2.1 HA.out.2.2 (by omega) (by simp; omega)
  rw [List.nil_append] at HW
  refine Calls.mono HW.out ?_
  rintro e w3 ⟨rfl, hX3, hA3⟩
  have s3 : w.heap.size + 2 ≤ w3.heap.size := Nat.le_trans s2 hA3.size
  have HX3 : Hid (Hash w3 w.heap.size (w.heap.size + 2) A) := hX3
  have HY3 : Hid (Hash w3 (w.heap.size + 1) (w.heap.size + 2) []) := HY2.out.aside (by omega) (by omega) hA3
  have HE3 : Hid (Below w.heap.size w w3) := HE2.out.trans (hA3.below (Nat.le_refl _) (by omega))
  clear hX3 hA3 HX2 HY2 HE2 HW s2
  go_wp2_with fail
  have HW : Hid _ := write_any w3 (w.heap.size + 1) (w.heap.size + 2) [] HY3.out (HT.out.below HE3.out HT.out.1) (by omega) s3 b lb cb B (HB.out.1.below HE3.out) HB.out.2.1 HB.out.2.2 (by omega) (by simp; omega)
  rw [List.nil_append] at HW
  refine Calls.mono HW.out ?_
  rintro e w4 ⟨rfl, hY4, hA4⟩
  have s4 : w.heap.size + 2 ≤ w4.heap.size := Nat.le_trans s3 hA4.size
  have HY4 : Hid (Hash w4 (w.heap.size + 1) (w.heap.size + 2) B) := hY4
  have HX4 : Hid (Hash w4 w.heap.size (w.heap.size + 2) A) := HX3.out.aside (by omega) (by omega) hA4
  have HE4 : Hid (Below w.heap.size w w4) := HE3.out.trans (hA4.below (by omega) (by omega))
  clear hY4 hA4 HX3 HY3 HE3 HW s3
  go_wp2_with fail
  have HS : Hid _ := hsum_any w4 (w.heap.size + 1) (w.heap.size + 2) B HY4.out (HT.out.below HE4.out HT.out.1) (by rw [HLB.out]; omega)
  rw [← HDY.out] at HS
  refine Calls.mono HS.out ?_
  rintro e w5 ⟨rfl, hb5⟩
  have s5 : w.heap.size + 2 ≤ w5.heap.size := Nat.le_trans s4 hb5.size
  have HX5 : Hid (Hash w5 w.heap.size (w.heap.size + 2) A) := HX4.out.below hb5
  have HY5 : Hid (Hash w5 (w.heap.size + 1) (w.heap.size + 2) B) := HY4.out.below hb5
  have HE5 : Hid (Below w.heap.size w w5) := HE4.out.trans (hb5.mono HE4.out.size)
  clear hb5 HX4 HY4 HE4 HS s4
  have bG : Blk (w5.alloc (.cells (encL .u8 zeros32) 25)) w5.heap.size 25 .u8 zeros32 := Blk.new w5 _ _ _
  have HST : Hid ((storeVar 25 ⟨w5.heap.size, 0, none⟩ (.agg (encL .u8 DY))).run Tryd.prog (w5.alloc (.cells (encL .u8 zeros32) 25)) = .ok () ((w5.alloc (.cells (encL .u8 zeros32) 25)).setRow w5.heap.size (encL .u8 DY))) := bG.store digT rfl HDYL.out
  have hb6 : Below w5.heap.size w5 ((w5.alloc (.cells (encL .u8 zeros32) 25)).setRow w5.heap.size (encL .u8 DY)) := below_setRow (below_new w5 _) (Nat.le_refl _) _
  have HG6 : Hid (Blk ((w5.alloc (.cells (encL .u8 zeros32) 25)).setRow w5.heap.size (encL .u8 DY)) w5.heap.size 25 .u8 DY) := bG.setRow DY
  have HX6 : Hid (Hash ((w5.alloc (.cells (encL .u8 zeros32) 25)).setRow w5.heap.size (encL .u8 DY)) w.heap.size (w.heap.size + 2) A) := HX5.out.below hb6
  have HY6 : Hid (Hash ((w5.alloc (.cells (encL .u8 zeros32) 25)).setRow w5.heap.size (encL .u8 DY)) (w.heap.size + 1) (w.heap.size + 2) B) := HY5.out.below hb6
  have HE6 : Hid (Below w.heap.size w ((w5.alloc (.cells (encL .u8 zeros32) 25)).setRow w5.heap.size (encL .u8 DY))) := HE5.out.trans (hb6.mono HE5.out.size)
  clear bG HX5 HY5 HE5 hb6
  go_wp2_with (first
    | (refine alloc_op rfl 25 rfl _ (digAlloc _) ?_)
    | (refine store_op rfl 25 (.tmp 9) (.tmp 20) rfl ⟨w5.heap.size, 0, none⟩ rfl _ rfl HST.out ?_))
  clear HST
  generalize (w5.alloc (.cells (encL .u8 zeros32) 25)).setRow w5.heap.size (encL .u8 DY) = w6 at *
  generalize w5.heap.size = gd at *
  have s6 : w.heap.size + 2 ≤ w6.heap.size := Nat.le_trans s5 (Nat.le_of_lt HG6.out.lt)
  have HW : Hid _ := write_any w6 w.heap.size (w.heap.size + 2) A HX6.out (HT.out.below HE6.out HT.out.1) HT.out.1 s6 c lc cc C (HC.out.1.below HE6.out) HC.out.2.1 HC.out.2.2 (by omega) (by rw [HLA.out]; omega)
  refine Calls.mono HW.out ?_
  rintro e w7 ⟨rfl, hX7, hA7⟩
  have HS7 : Hid (Hash w7 w.heap.size (w.heap.size + 2) (A ++ C) ∧ Hash w7 (w.heap.size + 1) (w.heap.size + 2) B ∧ Blk w7 gd 25 .u8 DY ∧ Below w.heap.size w w7) := ⟨hX7, HY6.out.aside (by omega) (by omega) hA7, HG6.out.aside hA7 (by omega), HE6.out.trans (hA7.below (Nat.le_refl _) (by omega))⟩
  clear hX7 hA7 HX6 HY6 HG6 HE6 HW
  go_wp2_with fail
  refine (write_nil w7 a la ca).mono ?_
  rintro e w8 ⟨rfl, hw8⟩
  subst hw8
  go_wp2_with fail
  refine wp_region_held_drew (S := fun w' => Hash w' w.heap.size (w.heap.size + 2) (A ++ C) ∧ Hash w' (w.heap.size + 1) (w.heap.size + 2) B ∧ Blk w' gd 25 .u8 DY ∧ Below w.heap.size w w') (by kernel_rfl) ⟨HS7.out.1.below ((Below.refl _ _).drew), HS7.out.2.1.below ((Below.refl _ _).drew), HS7.out.2.2.1, HS7.out.2.2.2.drew⟩ (fun hHeld => ?_)
  clear HS7
  refine held_one (i := 0) (by kernel_rfl) rfl rfl (fun K hK => ?_)
  go_simp
  refine Calls.mono (awake_true _ (HT.out.below hHeld.2.2.2 HT.out.1)) ?_
  rintro e v1 ⟨rfl, hb1⟩
  dsimp only
  have hH1 : Hash v1 w.heap.size (w.heap.size + 2) (A ++ C) ∧ Hash v1 (w.heap.size + 1) (w.heap.size + 2) B ∧ Blk v1 gd 25 .u8 DY ∧ Below w.heap.size w v1 := ⟨hHeld.1.below hb1, hHeld.2.1.below hb1, hHeld.2.2.1.below hb1, hHeld.2.2.2.trans (hb1.mono hHeld.2.2.2.size)⟩
  refine hK.out _ _ hH1 ?_
  clear hK K hb1
  try simp only [Act.put, List.setIfInBounds_toArray, List.set_cons_zero, List.set_cons_succ]
  refine held_take 1 (some 28) (.bool true) rfl rfl (by kernel_rfl) (by kernel_rfl) (by kernel_rfl) (fun _ _ _ h => h) rfl (fun w' hS => ?_) hH1 ?_
  · clear hS; go_simp
  try simp only [Act.put, List.setIfInBounds_toArray, List.set_cons_zero, List.set_cons_succ]
  refine held_take 2 (some 29) (.pointer (some ⟨w.heap.size + 1, 0, none⟩)) rfl rfl (by kernel_rfl) (by kernel_rfl) (by kernel_rfl) (fun _ _ _ h => h) rfl (fun w' hS => ?_) hH1 ?_
  · clear hS; go_simp
  try simp only [Act.put, List.setIfInBounds_toArray, List.set_cons_zero, List.set_cons_succ]
  refine held_take 4 (some 31) (.agg (encL .u8 DY)) rfl rfl (by kernel_rfl) (by kernel_rfl) (by kernel_rfl) (fun _ _ _ h => h) rfl (fun w' hS => ?_) hH1 ?_
  · have hl := hS.2.2.1.load digT HDYL.out; exact held_yield (S := fun w => w = w') 25 (.tmp 9) rfl ⟨gd, 0, none⟩ rfl _ (fun w hw => by rw [hw]; exact hl) w' rfl
  try simp only [Act.put, List.setIfInBounds_toArray, List.set_cons_zero, List.set_cons_succ]
  refine held_one (i := 3) (by kernel_rfl) rfl rfl (fun K hK => ?_)
  go_simp
  refine Calls.mono (hsum_any _ (w.heap.size + 1) (w.heap.size + 2) B hH1.2.1 (HT.out.below hH1.2.2.2 HT.out.1) (by rw [HLB.out]; omega)) ?_
  rintro e v2 ⟨rfl, hb2⟩
  rw [← HDY.out]
  dsimp only
  have hH2 : Hash v2 w.heap.size (w.heap.size + 2) (A ++ C) ∧ Hash v2 (w.heap.size + 1) (w.heap.size + 2) B ∧ Blk v2 gd 25 .u8 DY ∧ Below w.heap.size w v2 := ⟨hH1.1.below hb2, hH1.2.1.below hb2, hH1.2.2.1.below hb2, hH1.2.2.2.trans (hb2.mono hH1.2.2.2.size)⟩
  refine hK.out _ _ hH2 ?_
  clear hK K hb2
  try simp only [Act.put, List.setIfInBounds_toArray, List.set_cons_zero, List.set_cons_succ]
  refine held_take 5 (some 32) (.bool true) rfl rfl (by kernel_rfl) (by kernel_rfl) (by kernel_rfl) (fun _ _ _ h => h) rfl (fun w' hS => ?_) hH2 ?_
  · clear hS; have heq := HEY.out; go_simp
  try simp only [Act.put, List.setIfInBounds_toArray, List.set_cons_zero, List.set_cons_succ]
  refine held_take 6 (some 33) (.bool true) rfl rfl (by kernel_rfl) (by kernel_rfl) (by kernel_rfl) (fun _ _ _ h => h) rfl (fun w' hS => ?_) hH2 ?_
  · clear hS; go_simp
  try simp only [Act.put, List.setIfInBounds_toArray, List.set_cons_zero, List.set_cons_succ]
  refine held_take 7 (some 34) (.bool true) rfl rfl (by kernel_rfl) (by kernel_rfl) (by kernel_rfl) (fun _ _ _ h => h) rfl (fun w' hS => ?_) hH2 ?_
  · clear hS; go_simp
  try simp only [Act.put, List.setIfInBounds_toArray, List.set_cons_zero, List.set_cons_succ]
  refine held_take 8 (some 35) (.agg (encL .u8 DY)) rfl rfl (by kernel_rfl) (by kernel_rfl) (by kernel_rfl) (fun _ _ _ h => h) rfl (fun w' hS => ?_) hH2 ?_
  · have hl := hS.2.2.1.load digT HDYL.out; exact held_yield (S := fun w => w = w') 25 (.tmp 9) rfl ⟨gd, 0, none⟩ rfl _ (fun w hw => by rw [hw]; exact hl) w' rfl
  try simp only [Act.put, List.setIfInBounds_toArray, List.set_cons_zero, List.set_cons_succ]
  refine held_take 9 (some 36) (.slice b lb cb) rfl rfl (by kernel_rfl) (by kernel_rfl) (by kernel_rfl) (fun _ _ _ h => h) rfl (fun w' hS => ?_) hH2 ?_
  · clear hS; go_simp
  try simp only [Act.put, List.setIfInBounds_toArray, List.set_cons_zero, List.set_cons_succ]
  refine held_one (i := 10) (by kernel_rfl) rfl rfl (fun K hK => ?_)
  go_simp
  have bb3 := below_new v2 (.cells #[.slice b lb cb] 28)
  have hH3 : Hash (World.alloc v2 (.cells #[.slice b lb cb] 28)) w.heap.size (w.heap.size + 2) (A ++ C) ∧ Hash (World.alloc v2 (.cells #[.slice b lb cb] 28)) (w.heap.size + 1) (w.heap.size + 2) B ∧ Blk (World.alloc v2 (.cells #[.slice b lb cb] 28)) gd 25 .u8 DY ∧ Below w.heap.size w (World.alloc v2 (.cells #[.slice b lb cb] 28)) := ⟨hH2.1.below bb3, hH2.2.1.below bb3, hH2.2.2.1.below bb3, hH2.2.2.2.trans (bb3.mono hH2.2.2.2.size)⟩
  have HC3 : Hid _ := HSB.out v2 hH2.2.2.2
  refine hK.out _ _ hH3 ?_
  clear hK K bb3
  try simp only [Act.put, List.setIfInBounds_toArray, List.set_cons_zero, List.set_cons_succ]
  generalize World.alloc v2 (.cells #[.slice b lb cb] 28) = v3 at *
  refine held_one (i := 11) (by kernel_rfl) rfl rfl (fun K hK => ?_)
  go_simp
  refine Calls.mono (HC3.out) ?_
  rintro e v4 ⟨rfl, hb4⟩
  dsimp only
  have hH4 : Hash v4 w.heap.size (w.heap.size + 2) (A ++ C) ∧ Hash v4 (w.heap.size + 1) (w.heap.size + 2) B ∧ Blk v4 gd 25 .u8 DY ∧ Below w.heap.size w v4 := ⟨hH3.1.below hb4, hH3.2.1.below hb4, hH3.2.2.1.below hb4, hH3.2.2.2.trans (hb4.mono hH3.2.2.2.size)⟩
  refine hK.out _ _ hH4 ?_
  clear hK K hb4
  try simp only [Act.put, List.setIfInBounds_toArray, List.set_cons_zero, List.set_cons_succ]
  refine held_take 12 (some 39) (.bool true) rfl rfl (by kernel_rfl) (by kernel_rfl) (by kernel_rfl) (fun _ _ _ h => h) rfl (fun w' hS => ?_) hH4 ?_
  · clear hS; have heq := HEY.out; go_simp
  try simp only [Act.put, List.setIfInBounds_toArray, List.set_cons_zero, List.set_cons_succ]
  refine held_take 13 (some 40) (.bool true) rfl rfl (by kernel_rfl) (by kernel_rfl) (by kernel_rfl) (fun _ _ _ h => h) rfl (fun w' hS => ?_) hH4 ?_
  · clear hS; go_simp
  try simp only [Act.put, List.setIfInBounds_toArray, List.set_cons_zero, List.set_cons_succ]
  refine held_take 14 (some 41) (.bool true) rfl rfl (by kernel_rfl) (by kernel_rfl) (by kernel_rfl) (fun _ _ _ h => h) rfl (fun w' hS => ?_) hH4 ?_
  · clear hS; go_simp
  try simp only [Act.put, List.setIfInBounds_toArray, List.set_cons_zero, List.set_cons_succ]
  refine held_take 15 (some 42) (.pointer (some ⟨w.heap.size, 0, none⟩)) rfl rfl (by kernel_rfl) (by kernel_rfl) (by kernel_rfl) (fun _ _ _ h => h) rfl (fun w' hS => ?_) hH4 ?_
  · clear hS; go_simp
  try simp only [Act.put, List.setIfInBounds_toArray, List.set_cons_zero, List.set_cons_succ]
  refine held_take 17 (some 44) (.slice a la ca) rfl rfl (by kernel_rfl) (by kernel_rfl) (by kernel_rfl) (fun _ _ _ h => h) rfl (fun w' hS => ?_) hH4 ?_
  · clear hS; go_simp
  try simp only [Act.put, List.setIfInBounds_toArray, List.set_cons_zero, List.set_cons_succ]
  refine held_take 18 (some 45) (.slice c lc cc) rfl rfl (by kernel_rfl) (by kernel_rfl) (by kernel_rfl) (fun _ _ _ h => h) rfl (fun w' hS => ?_) hH4 ?_
  · clear hS; go_simp
  try simp only [Act.put, List.setIfInBounds_toArray, List.set_cons_zero, List.set_cons_succ]
  refine held_two (i := 16) (j := 19) (by kernel_rfl) rfl rfl rfl rfl (fun K hK => ?_) (fun K hK => ?_)
  · go_simp
    refine Calls.mono (hsum_any _ w.heap.size (w.heap.size + 2) (A ++ C) hH4.1 (HT.out.below hH4.2.2.2 HT.out.1) (by rw [List.length_append, HLA.out, HLC.out]; omega)) ?_
    rintro e v5 ⟨rfl, hb5⟩
    rw [← HDX.out]
    dsimp only
    have hH5 : Hash v5 w.heap.size (w.heap.size + 2) (A ++ C) ∧ Hash v5 (w.heap.size + 1) (w.heap.size + 2) B ∧ Blk v5 gd 25 .u8 DY ∧ Below w.heap.size w v5 := ⟨hH4.1.below hb5, hH4.2.1.below hb5, hH4.2.2.1.below hb5, hH4.2.2.2.trans (hb5.mono hH4.2.2.2.size)⟩
    refine hK.out _ _ hH5 ?_
    clear hK K hb5
    try simp only [Act.put, List.setIfInBounds_toArray, List.set_cons_zero, List.set_cons_succ]
    refine held_one (i := 19) (by kernel_rfl) rfl rfl (fun K hK => ?_)
    go_simp
    have bb6 := below_new v5 (.cells #[.slice a la ca, .slice c lc cc] 28)
    have hH6 : Hash (World.alloc v5 (.cells #[.slice a la ca, .slice c lc cc] 28)) w.heap.size (w.heap.size + 2) (A ++ C) ∧ Hash (World.alloc v5 (.cells #[.slice a la ca, .slice c lc cc] 28)) (w.heap.size + 1) (w.heap.size + 2) B ∧ Blk (World.alloc v5 (.cells #[.slice a la ca, .slice c lc cc] 28)) gd 25 .u8 DY ∧ Below w.heap.size w (World.alloc v5 (.cells #[.slice a la ca, .slice c lc cc] 28)) := ⟨hH5.1.below bb6, hH5.2.1.below bb6, hH5.2.2.1.below bb6, hH5.2.2.2.trans (bb6.mono hH5.2.2.2.size)⟩
    have hp6 := parts2 v5 a c la ca lc cc A C (HA.out.1.below hH5.2.2.2) HA.out.2.2 (HC.out.1.below hH5.2.2.2) HC.out.2.2
    refine hK.out _ _ hH6 ?_
    clear hK K bb6
    try simp only [Act.put, List.setIfInBounds_toArray, List.set_cons_zero, List.set_cons_succ]
    generalize World.alloc v5 (.cells #[.slice a la ca, .slice c lc cc] 28) = v6 at *
    generalize (World.heap v5).size = g6 at *
    refine held_one (i := 20) (by kernel_rfl) rfl rfl (fun K hK => ?_)
    go_simp
    refine Calls.mono (HSX.out _ g6 hH6.2.2.2 hp6) ?_
    rintro e v7 ⟨rfl, hb7⟩
    dsimp only
    have hH7 : Hash v7 w.heap.size (w.heap.size + 2) (A ++ C) ∧ Hash v7 (w.heap.size + 1) (w.heap.size + 2) B ∧ Blk v7 gd 25 .u8 DY ∧ Below w.heap.size w v7 := ⟨hH6.1.below hb7, hH6.2.1.below hb7, hH6.2.2.1.below hb7, hH6.2.2.2.trans (hb7.mono hH6.2.2.2.size)⟩
    refine hK.out _ _ hH7 ?_
    clear hK K hb7
    try simp only [Act.put, List.setIfInBounds_toArray, List.set_cons_zero, List.set_cons_succ]
    refine held_take 21 (some 48) (.bool true) rfl rfl (by kernel_rfl) (by kernel_rfl) (by kernel_rfl) (fun _ _ _ h => h) rfl (fun w' hS => ?_) hH7 ?_
    · clear hS; have heq := HEX.out; go_simp
    try simp only [Act.put, List.setIfInBounds_toArray, List.set_cons_zero, List.set_cons_succ]
    refine held_take 22 (some 49) (.bool true) rfl rfl (by kernel_rfl) (by kernel_rfl) (by kernel_rfl) (fun _ _ _ h => h) rfl (fun w' hS => ?_) hH7 ?_
    · clear hS; go_simp
    try simp only [Act.put, List.setIfInBounds_toArray, List.set_cons_zero, List.set_cons_succ]
    refine held_take 23 (some 50) (.bool true) rfl rfl (by kernel_rfl) (by kernel_rfl) (by kernel_rfl) (fun _ _ _ h => h) rfl (fun w' hS => ?_) hH7 ?_
    · clear hS; go_simp
    try simp only [Act.put, List.setIfInBounds_toArray, List.set_cons_zero, List.set_cons_succ]
    refine held_take 24 (some 51) (.pointer none) rfl rfl (by kernel_rfl) (by kernel_rfl) (by kernel_rfl) (fun _ _ _ h => h) rfl (fun w' hS => ?_) hH7 ?_
    · clear hS; go_simp
    try simp only [Act.put, List.setIfInBounds_toArray, List.set_cons_zero, List.set_cons_succ]
    refine held_take 26 (some 53) (.agg (encL .u8 zeros32)) rfl rfl (by kernel_rfl) (by kernel_rfl) (by kernel_rfl) (fun _ _ _ h => h) rfl (fun w' hS => ?_) hH7 ?_
    · exact yield_build rfl _
    try simp only [Act.put, List.setIfInBounds_toArray, List.set_cons_zero, List.set_cons_succ]
    refine held_one (i := 25) (by kernel_rfl) rfl rfl (fun K hK => ?_)
    go_simp
    refine Calls.mono (hsum_nil _) ?_
    rintro e v8 ⟨rfl, hb8⟩
    dsimp only
    have hH8 : Hash v8 w.heap.size (w.heap.size + 2) (A ++ C) ∧ Hash v8 (w.heap.size + 1) (w.heap.size + 2) B ∧ Blk v8 gd 25 .u8 DY ∧ Below w.heap.size w v8 := ⟨hH7.1.below hb8, hH7.2.1.below hb8, hH7.2.2.1.below hb8, hH7.2.2.2.trans (hb8.mono hH7.2.2.2.size)⟩
    refine hK.out _ _ hH8 ?_
    clear hK K hb8
    try simp only [Act.put, List.setIfInBounds_toArray, List.set_cons_zero, List.set_cons_succ]
    refine held_take 27 (some 54) (.bool true) rfl rfl (by kernel_rfl) (by kernel_rfl) (by kernel_rfl) (fun _ _ _ h => h) rfl (fun w' hS => ?_) hH8 ?_
    · clear hS; have heq := HE0.out; go_simp
    try simp only [Act.put, List.setIfInBounds_toArray, List.set_cons_zero, List.set_cons_succ]
    refine held_take 28 (some 55) (.bool true) rfl rfl (by kernel_rfl) (by kernel_rfl) (by kernel_rfl) (fun _ _ _ h => h) rfl (fun w' hS => ?_) hH8 ?_
    · clear hS; go_simp
    try simp only [Act.put, List.setIfInBounds_toArray, List.set_cons_zero, List.set_cons_succ]
    refine held_take 29 (some 56) (.bool true) rfl rfl (by kernel_rfl) (by kernel_rfl) (by kernel_rfl) (fun _ _ _ h => h) rfl (fun w' hS => ?_) hH8 ?_
    · clear hS; go_simp
    try simp only [Act.put, List.setIfInBounds_toArray, List.set_cons_zero, List.set_cons_succ]
    refine held_take 30 (some 57) (.pointer none) rfl rfl (by kernel_rfl) (by kernel_rfl) (by kernel_rfl) (fun _ _ _ h => h) rfl (fun w' hS => ?_) hH8 ?_
    · clear hS; go_simp
    try simp only [Act.put, List.setIfInBounds_toArray, List.set_cons_zero, List.set_cons_succ]
    refine held_one (i := 31) (by kernel_rfl) rfl rfl (fun K hK => ?_)
    go_simp
    refine Calls.mono (len_nil _) ?_
    rintro e u9 ⟨rfl, hu9⟩
    subst hu9
    dsimp only
    refine hK.out _ _ hH8 ?_
    clear hK K
    try simp only [Act.put, List.setIfInBounds_toArray, List.set_cons_zero, List.set_cons_succ]
    refine held_take 32 (some 59) (.bool true) rfl rfl (by kernel_rfl) (by kernel_rfl) (by kernel_rfl) (fun _ _ _ h => h) rfl (fun w' hS => ?_) hH8 ?_
    · clear hS; go_simp
    try simp only [Act.put, List.setIfInBounds_toArray, List.set_cons_zero, List.set_cons_succ]
    refine held_take 33 (some 60) (.bool true) rfl rfl (by kernel_rfl) (by kernel_rfl) (by kernel_rfl) (fun _ _ _ h => h) rfl (fun w' hS => ?_) hH8 ?_
    · clear hS; go_simp
    try simp only [Act.put, List.setIfInBounds_toArray, List.set_cons_zero, List.set_cons_succ]
    refine held_take 34 (some 6) (.bool true) rfl rfl (by kernel_rfl) (by kernel_rfl) (by kernel_rfl) (fun _ _ _ h => h) rfl (fun w' hS => ?_) hH8 ?_
    · clear hS; go_simp
    try simp only [Act.put, List.setIfInBounds_toArray, List.set_cons_zero, List.set_cons_succ]
    refine wpAnyH_done (by kernel_rfl) ?_ _
    have hfin := hH8.2.2.2
    go_wp2_with fail
    go_ret
    exact ⟨rfl, hfin⟩
  · go_simp
    have bb10 := below_new v4 (.cells #[.slice a la ca, .slice c lc cc] 28)
    have hH10 : Hash (World.alloc v4 (.cells #[.slice a la ca, .slice c lc cc] 28)) w.heap.size (w.heap.size + 2) (A ++ C) ∧ Hash (World.alloc v4 (.cells #[.slice a la ca, .slice c lc cc] 28)) (w.heap.size + 1) (w.heap.size + 2) B ∧ Blk (World.alloc v4 (.cells #[.slice a la ca, .slice c lc cc] 28)) gd 25 .u8 DY ∧ Below w.heap.size w (World.alloc v4 (.cells #[.slice a la ca, .slice c lc cc] 28)) := ⟨hH4.1.below bb10, hH4.2.1.below bb10, hH4.2.2.1.below bb10, hH4.2.2.2.trans (bb10.mono hH4.2.2.2.size)⟩
    have hp10 := parts2 v4 a c la ca lc cc A C (HA.out.1.below hH4.2.2.2) HA.out.2.2 (HC.out.1.below hH4.2.2.2) HC.out.2.2
    refine hK.out _ _ hH10 ?_
    clear hK K bb10
    try simp only [Act.put, List.setIfInBounds_toArray, List.set_cons_zero, List.set_cons_succ]
    generalize World.alloc v4 (.cells #[.slice a la ca, .slice c lc cc] 28) = v10 at *
    generalize (World.heap v4).size = g10 at *
    refine held_one (i := 16) (by kernel_rfl) rfl rfl (fun K hK => ?_)
    go_simp
    refine Calls.mono (hsum_any _ w.heap.size (w.heap.size + 2) (A ++ C) hH10.1 (HT.out.below hH10.2.2.2 HT.out.1) (by rw [List.length_append, HLA.out, HLC.out]; omega)) ?_
    rintro e v11 ⟨rfl, hb11⟩
    rw [← HDX.out]
    dsimp only
    have hH11 : Hash v11 w.heap.size (w.heap.size + 2) (A ++ C) ∧ Hash v11 (w.heap.size + 1) (w.heap.size + 2) B ∧ Blk v11 gd 25 .u8 DY ∧ Below w.heap.size w v11 := ⟨hH10.1.below hb11, hH10.2.1.below hb11, hH10.2.2.1.below hb11, hH10.2.2.2.trans (hb11.mono hH10.2.2.2.size)⟩
    refine hK.out _ _ hH11 ?_
    have hq11 := PartsL.below hp10 hb11
    clear hK K hb11
    try simp only [Act.put, List.setIfInBounds_toArray, List.set_cons_zero, List.set_cons_succ]
    refine held_one (i := 20) (by kernel_rfl) rfl rfl (fun K hK => ?_)
    go_simp
    refine Calls.mono (HSX.out _ g10 hH11.2.2.2 hq11) ?_
    rintro e v12 ⟨rfl, hb12⟩
    dsimp only
    have hH12 : Hash v12 w.heap.size (w.heap.size + 2) (A ++ C) ∧ Hash v12 (w.heap.size + 1) (w.heap.size + 2) B ∧ Blk v12 gd 25 .u8 DY ∧ Below w.heap.size w v12 := ⟨hH11.1.below hb12, hH11.2.1.below hb12, hH11.2.2.1.below hb12, hH11.2.2.2.trans (hb12.mono hH11.2.2.2.size)⟩
    refine hK.out _ _ hH12 ?_
    clear hK K hb12
    try simp only [Act.put, List.setIfInBounds_toArray, List.set_cons_zero, List.set_cons_succ]
    refine held_take 21 (some 48) (.bool true) rfl rfl (by kernel_rfl) (by kernel_rfl) (by kernel_rfl) (fun _ _ _ h => h) rfl (fun w' hS => ?_) hH12 ?_
    · clear hS; have heq := HEX.out; go_simp
    try simp only [Act.put, List.setIfInBounds_toArray, List.set_cons_zero, List.set_cons_succ]
    refine held_take 22 (some 49) (.bool true) rfl rfl (by kernel_rfl) (by kernel_rfl) (by kernel_rfl) (fun _ _ _ h => h) rfl (fun w' hS => ?_) hH12 ?_
    · clear hS; go_simp
    try simp only [Act.put, List.setIfInBounds_toArray, List.set_cons_zero, List.set_cons_succ]
    refine held_take 23 (some 50) (.bool true) rfl rfl (by kernel_rfl) (by kernel_rfl) (by kernel_rfl) (fun _ _ _ h => h) rfl (fun w' hS => ?_) hH12 ?_
    · clear hS; go_simp
    try simp only [Act.put, List.setIfInBounds_toArray, List.set_cons_zero, List.set_cons_succ]
    refine held_take 24 (some 51) (.pointer none) rfl rfl (by kernel_rfl) (by kernel_rfl) (by kernel_rfl) (fun _ _ _ h => h) rfl (fun w' hS => ?_) hH12 ?_
    · clear hS; go_simp
    try simp only [Act.put, List.setIfInBounds_toArray, List.set_cons_zero, List.set_cons_succ]
    refine held_take 26 (some 53) (.agg (encL .u8 zeros32)) rfl rfl (by kernel_rfl) (by kernel_rfl) (by kernel_rfl) (fun _ _ _ h => h) rfl (fun w' hS => ?_) hH12 ?_
    · exact yield_build rfl _
    try simp only [Act.put, List.setIfInBounds_toArray, List.set_cons_zero, List.set_cons_succ]
    refine held_one (i := 25) (by kernel_rfl) rfl rfl (fun K hK => ?_)
    go_simp
    refine Calls.mono (hsum_nil _) ?_
    rintro e v13 ⟨rfl, hb13⟩
    dsimp only
    have hH13 : Hash v13 w.heap.size (w.heap.size + 2) (A ++ C) ∧ Hash v13 (w.heap.size + 1) (w.heap.size + 2) B ∧ Blk v13 gd 25 .u8 DY ∧ Below w.heap.size w v13 := ⟨hH12.1.below hb13, hH12.2.1.below hb13, hH12.2.2.1.below hb13, hH12.2.2.2.trans (hb13.mono hH12.2.2.2.size)⟩
    refine hK.out _ _ hH13 ?_
    clear hK K hb13
    try simp only [Act.put, List.setIfInBounds_toArray, List.set_cons_zero, List.set_cons_succ]
    refine held_take 27 (some 54) (.bool true) rfl rfl (by kernel_rfl) (by kernel_rfl) (by kernel_rfl) (fun _ _ _ h => h) rfl (fun w' hS => ?_) hH13 ?_
    · clear hS; have heq := HE0.out; go_simp
    try simp only [Act.put, List.setIfInBounds_toArray, List.set_cons_zero, List.set_cons_succ]
    refine held_take 28 (some 55) (.bool true) rfl rfl (by kernel_rfl) (by kernel_rfl) (by kernel_rfl) (fun _ _ _ h => h) rfl (fun w' hS => ?_) hH13 ?_
    · clear hS; go_simp
    try simp only [Act.put, List.setIfInBounds_toArray, List.set_cons_zero, List.set_cons_succ]
    refine held_take 29 (some 56) (.bool true) rfl rfl (by kernel_rfl) (by kernel_rfl) (by kernel_rfl) (fun _ _ _ h => h) rfl (fun w' hS => ?_) hH13 ?_
    · clear hS; go_simp
    try simp only [Act.put, List.setIfInBounds_toArray, List.set_cons_zero, List.set_cons_succ]
    refine held_take 30 (some 57) (.pointer none) rfl rfl (by kernel_rfl) (by kernel_rfl) (by kernel_rfl) (fun _ _ _ h => h) rfl (fun w' hS => ?_) hH13 ?_
    · clear hS; go_simp
    try simp only [Act.put, List.setIfInBounds_toArray, List.set_cons_zero, List.set_cons_succ]
    refine held_one (i := 31) (by kernel_rfl) rfl rfl (fun K hK => ?_)
    go_simp
    refine Calls.mono (len_nil _) ?_
    rintro e u14 ⟨rfl, hu14⟩
    subst hu14
    dsimp only
    refine hK.out _ _ hH13 ?_
    clear hK K
    try simp only [Act.put, List.setIfInBounds_toArray, List.set_cons_zero, List.set_cons_succ]
    refine held_take 32 (some 59) (.bool true) rfl rfl (by kernel_rfl) (by kernel_rfl) (by kernel_rfl) (fun _ _ _ h => h) rfl (fun w' hS => ?_) hH13 ?_
    · clear hS; go_simp
    try simp only [Act.put, List.setIfInBounds_toArray, List.set_cons_zero, List.set_cons_succ]
    refine held_take 33 (some 60) (.bool true) rfl rfl (by kernel_rfl) (by kernel_rfl) (by kernel_rfl) (fun _ _ _ h => h) rfl (fun w' hS => ?_) hH13 ?_
    · clear hS; go_simp
    try simp only [Act.put, List.setIfInBounds_toArray, List.set_cons_zero, List.set_cons_succ]
    refine held_take 34 (some 6) (.bool true) rfl rfl (by kernel_rfl) (by kernel_rfl) (by kernel_rfl) (fun _ _ _ h => h) rfl (fun w' hS => ?_) hH13 ?_
    · clear hS; go_simp
    try simp only [Act.put, List.setIfInBounds_toArray, List.set_cons_zero, List.set_cons_succ]
    refine wpAnyH_done (by kernel_rfl) ?_ _
    have hfin := hH13.2.2.2
    go_wp2_with fail
    go_ret
    exact ⟨rfl, hfin⟩
theorem contract (H : Type) (enc : TypeId × Value → H) (W : World) (base : Nat) (args : Array Value) (ds gs : List (DataW H)) (before : List MemPlace)
    (hval : ∀ (j : Nat) t v, Tryd.f5.params[j]? = some t → args[j]? = some v → Value.okWide Tryd.prog W .any base t v)
    (hW : DataW.Whole enc Tryd.prog Tryd.f5.params.toList Rows.shaTwoSpec.vars false W args.toList ds gs before)
    (hsz : (DataW.weightsEach Tryd.prog (Tryd.f5.params.toList ++ (OpenSpec.ofChange Rows.shaTwoSpec).bare.plain.varTypes Tryd.prog) (ds ++ gs)).all (· ≤ reachBytes) = true) (hL : laidMetH Tryd.prog Rows.shaTwoRow.laid W) :
    Calls Tryd.prog 5 args W fun e W' => ∃ v, e = .returned v ∧ Rows.shaTwoSpec.post enc Tryd.prog Tryd.f5 false true false false W args v W' := by
  have hW' := hW
  obtain ⟨p, q, hA0, hV, rfl, hfz, hnd⟩ := hW
  have hA : DataW.TrodAll enc Tryd.prog W 0 (fun _ => true) true Tryd.f5.params.toList args.toList ds p := hA0
  rw [Tryd.params5] at hA hval hsz
  obtain ⟨v0, vs0, d0, ds0, p0, q0, hargs, rfl, rfl, h0, r0⟩ := trodAll_cons hA
  obtain ⟨v1, vs1, d1, ds1, p1, q1, rfl, rfl, rfl, h1, r1⟩ := trodAll_cons r0
  obtain ⟨v2, vs2, d2, ds2, p2, q2, rfl, rfl, rfl, h2, r2⟩ := trodAll_cons r1
  obtain ⟨rfl, rfl, rfl⟩ := trodAll_nil r2
  obtain rfl : args = #[v0, v1, v2] := by cases args; simp_all
  obtain ⟨rfl, rfl⟩ := trodVars_none hV
  obtain ⟨a0, len0, cap0, rfl⟩ := okWide_slice Tryd.underlying28 (hval 0 28 v0 rfl rfl)
  have k0 := h0
  have lt0 : ∀ x ∈ p0, x.block < W.heap.size := by obtain ⟨m, hm⟩ := k0; exact DataW.trod_lt m _ _ _ hm
  obtain ⟨x0, w0, re0⟩ : ∃ xs, ArgL W a0 len0 cap0 xs ∧ cap0 ≤ 140737488351232 := by
    obtain ⟨fuel, hf⟩ := h0
    rcases open_ints Tryd.underlying28 Tryd.underlying5 (by kernel_rfl) hf with ⟨hcs, _⟩ | ⟨x, l, c, zs, hcs, _, hl, hm, hz, hx, hcell, hwz⟩
    · simp [Value.cells] at hcs
      obtain ⟨rfl, rfl, rfl⟩ := hcs
      exact ⟨_, arg_at (.inl ⟨rfl, rfl, rfl, rfl⟩), by omega⟩
    · simp [Value.cells] at hcs
      obtain ⟨rfl, rfl, rfl⟩ := hcs
      have hd := congrArg Prod.fst hx
      simp only [] at hd
      have hz' : zs.length = cap0 := by simpa using hz
      have hb := sized_slice hsz (j := 0) (t := 28) (e := 5) rfl (by rw [hd]; rfl) Tryd.underlying28
      have hby : Tryd.prog.bytesOf 5 = 1 := by kernel_rfl
      rw [hby] at hb
      simp only [lits, List.length_map, List.length_take, List.length_drop, reachBytes] at hb
      exact ⟨_, arg_at (.inr ⟨_, rfl, hl, hm, hz', hcell, hwz⟩), by omega⟩
  obtain ⟨a1, len1, cap1, rfl⟩ := okWide_slice Tryd.underlying28 (hval 1 28 v1 rfl rfl)
  have k1 := h1
  have lt1 : ∀ x ∈ p1, x.block < W.heap.size := by obtain ⟨m, hm⟩ := k1; exact DataW.trod_lt m _ _ _ hm
  obtain ⟨x1, w1, re1⟩ : ∃ xs, ArgL W a1 len1 cap1 xs ∧ cap1 ≤ 140737488351232 := by
    obtain ⟨fuel, hf⟩ := h1
    rcases open_ints Tryd.underlying28 Tryd.underlying5 (by kernel_rfl) hf with ⟨hcs, _⟩ | ⟨x, l, c, zs, hcs, _, hl, hm, hz, hx, hcell, hwz⟩
    · simp [Value.cells] at hcs
      obtain ⟨rfl, rfl, rfl⟩ := hcs
      exact ⟨_, arg_at (.inl ⟨rfl, rfl, rfl, rfl⟩), by omega⟩
    · simp [Value.cells] at hcs
      obtain ⟨rfl, rfl, rfl⟩ := hcs
      have hd := congrArg Prod.fst hx
      simp only [] at hd
      have hz' : zs.length = cap1 := by simpa using hz
      have hb := sized_slice hsz (j := 1) (t := 28) (e := 5) rfl (by rw [hd]; rfl) Tryd.underlying28
      have hby : Tryd.prog.bytesOf 5 = 1 := by kernel_rfl
      rw [hby] at hb
      simp only [lits, List.length_map, List.length_take, List.length_drop, reachBytes] at hb
      exact ⟨_, arg_at (.inr ⟨_, rfl, hl, hm, hz', hcell, hwz⟩), by omega⟩
  obtain ⟨a2, len2, cap2, rfl⟩ := okWide_slice Tryd.underlying28 (hval 2 28 v2 rfl rfl)
  have k2 := h2
  have lt2 : ∀ x ∈ p2, x.block < W.heap.size := by obtain ⟨m, hm⟩ := k2; exact DataW.trod_lt m _ _ _ hm
  obtain ⟨x2, w2, re2⟩ : ∃ xs, ArgL W a2 len2 cap2 xs ∧ cap2 ≤ 140737488351232 := by
    obtain ⟨fuel, hf⟩ := h2
    rcases open_ints Tryd.underlying28 Tryd.underlying5 (by kernel_rfl) hf with ⟨hcs, _⟩ | ⟨x, l, c, zs, hcs, _, hl, hm, hz, hx, hcell, hwz⟩
    · simp [Value.cells] at hcs
      obtain ⟨rfl, rfl, rfl⟩ := hcs
      exact ⟨_, arg_at (.inl ⟨rfl, rfl, rfl, rfl⟩), by omega⟩
    · simp [Value.cells] at hcs
      obtain ⟨rfl, rfl, rfl⟩ := hcs
      have hd := congrArg Prod.fst hx
      simp only [] at hd
      have hz' : zs.length = cap2 := by simpa using hz
      have hb := sized_slice hsz (j := 2) (t := 28) (e := 5) rfl (by rw [hd]; rfl) Tryd.underlying28
      have hby : Tryd.prog.bytesOf 5 = 1 := by kernel_rfl
      rw [hby] at hb
      simp only [lits, List.length_map, List.length_take, List.length_drop, reachBytes] at hb
      exact ⟨_, arg_at (.inr ⟨_, rfl, hl, hm, hz', hcell, hwz⟩), by omega⟩
  clear hA0 hsz
  refine (walk W (table hL) a0 len0 cap0 x0 w0 re0 a1 len1 cap1 x1 w1 re1 a2 len2 cap2 x2 w2 re2).mono fun e W' ⟨he, bel⟩ => ?_
  subst he
  exact ⟨_, rfl, _, _, _, [], _, [], hW', trodAll_mk1 (shut_bool Tryd.underlying4 _), (trodAll_cons_mk (Below.trod laidOut (by kernel_rfl) (of_decide_eq_true (by kernel_rfl)) k0 bel lt0) (trodAll_cons_mk (Below.trod laidOut (by kernel_rfl) (of_decide_eq_true (by kernel_rfl)) k1 bel lt1) (trodAll_cons_mk (Below.trod laidOut (by kernel_rfl) (of_decide_eq_true (by kernel_rfl)) k2 bel lt2) trodAll_mk0))), rfl, bel.frame _, fun h => by cases h⟩
set_option maxRecDepth 100000 in
theorem lifted (os : Os) (started : os.Started) (H : Type) (enc : TypeId × Value → H) (I : Stop.Interp) :
    ReturnsInHanded {} Tryd.checked os 5 .any ((OpenSpec.ofChange Rows.shaTwoSpec).preRow enc Tryd.prog Tryd.f5 Rows.shaTwoRow.domain false Rows.shaTwoRow.laid) (((OpenSpec.ofChange Rows.shaTwoSpec).at I).post enc Tryd.prog Tryd.f5 false true false false) := by
  refine returnsInHanded_of_row (C := Tryd.checked) (s := (OpenSpec.ofChange Rows.shaTwoSpec)) own started (by kernel_rfl) Tryd.func5
    (witness_row_at (enc := enc) (C := Tryd.checked) false { World.holding Tryd.prog os ⟨#[], #[], []⟩ with heap := (World.holding Tryd.prog os ⟨#[], #[], []⟩).heap.modify 0 fun
        | .cells _ t frozen => .cells #[.int .u32 1116352408, .int .u32 1899447441, .int .u32 3049323471, .int .u32 3921009573, .int .u32 961987163, .int .u32 1508970993, .int .u32 2453635748, .int .u32 2870763221, .int .u32 3624381080, .int .u32 310598401, .int .u32 607225278, .int .u32 1426881987, .int .u32 1925078388, .int .u32 2162078206, .int .u32 2614888103, .int .u32 3248222580, .int .u32 3835390401, .int .u32 4022224774, .int .u32 264347078, .int .u32 604807628, .int .u32 770255983, .int .u32 1249150122, .int .u32 1555081692, .int .u32 1996064986, .int .u32 2554220882, .int .u32 2821834349, .int .u32 2952996808, .int .u32 3210313671, .int .u32 3336571891, .int .u32 3584528711, .int .u32 113926993, .int .u32 338241895, .int .u32 666307205, .int .u32 773529912, .int .u32 1294757372, .int .u32 1396182291, .int .u32 1695183700, .int .u32 1986661051, .int .u32 2177026350, .int .u32 2456956037, .int .u32 2730485921, .int .u32 2820302411, .int .u32 3259730800, .int .u32 3345764771, .int .u32 3516065817, .int .u32 3600352804, .int .u32 4094571909, .int .u32 275423344, .int .u32 430227734, .int .u32 506948616, .int .u32 659060556, .int .u32 883997877, .int .u32 958139571, .int .u32 1322822218, .int .u32 1537002063, .int .u32 1747873779, .int .u32 1955562222, .int .u32 2024104815, .int .u32 2227730452, .int .u32 2361852424, .int .u32 2428436474, .int .u32 2756734187, .int .u32 3204031479, .int .u32 3329325298] t frozen
        | o => o } #[.slice none 0 0, .slice none 0 0, .slice none 0 0] rfl (by kernel_rfl) (by kernel_rfl) (by kernel_rfl)
      (OpenSpec.preRow_of_cond 8 (x := ([.nil, .nil, .nil], [], [])) (by kernel_rfl) (by kernel_rfl) (fun k hk => by cases hk) (by kernel_rfl) (laidMet_of_run' 8 (by kernel_rfl) (by kernel_rfl)))) ?_
  intro W base args ds gs before hval hW _ hcond hsz hL _ _
  exact contract H enc W base args ds gs before hval hW hsz hL
theorem said : Rows.ShaTwoSaid :=
  OpenClaim.holds_of_cond 5 Tryd.f5 rfl rfl rfl rfl rfl rfl rfl ⟨rfl, rfl, rfl, rfl, rfl⟩ rfl rfl rfl rfl rfl (by kernel_rfl) Tryd.func5 (by kernel_rfl)
    (of_decide_eq_true (by kernel_rfl)) (by unfold Func.isWrapper; first | (rw [if_pos (by decide +kernel)]; kernel_rfl) | (rw [if_neg (by decide +kernel)]; exact ⟨rfl, rfl⟩))
    (fun os started H enc _ I => by rw [OpenClaim.pre_eq_preRow]; exact lifted os started H enc I)
theorem plain (f : FuncId) (fn : Func) (hf : Tryd.pinned.checked.prog.funcNamed Rows.shaTwoRow.func = some f) (hfn : Tryd.pinned.checked.prog.funcs[f]? = some fn) :
    false = Tryd.pinned.checked.prog.looks [] ∧ ∀ (j : Nat) t, fn.params[j]? = some t → Tryd.pinned.checked.prog.wantsStandIn t = false := by
  obtain rfl : f = 5 := Option.some.inj ((show Tryd.prog.funcNamed Rows.shaTwoRow.func = some 5 by kernel_rfl).symm.trans hf) |>.symm
  obtain rfl : fn = Tryd.f5 := (Option.some.inj (Tryd.func5.symm.trans hfn)).symm
  refine ⟨by kernel_rfl, fun j t ht => ?_⟩
  rw [Tryd.params5] at ht
  have hm := Array.mem_of_getElem? ht
  simp only [List.mem_toArray, List.mem_cons, List.not_mem_nil, or_false] at hm
  rcases hm with rfl | rfl | rfl
  · exact (show Tryd.prog.wantsStandIn 28 = false by kernel_rfl)
  · exact (show Tryd.prog.wantsStandIn 28 = false by kernel_rfl)
  · exact (show Tryd.prog.wantsStandIn 28 = false by kernel_rfl)
theorem card : Rows.ShaTwoCardSaid :=
  Claim7.holds_tied_plain_at .later [] _ _ _ _ said (fun _ h => by cases h) (by kernel_rfl) (fun _ h => by cases h) shaTwo_row_tie rfl ⟨rfl, rfl⟩ (by kernel_rfl) rfl plain (by kernel_rfl)
#print axioms card
end Go.Proofs.YtmaaakcfbekboaaDoor.shaTwo
