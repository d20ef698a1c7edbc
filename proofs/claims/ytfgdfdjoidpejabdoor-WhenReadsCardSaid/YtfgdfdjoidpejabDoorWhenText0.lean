/-
  The program's text of a date that there is, and Text of any moment.
-/
import Derived.Test.YtfgdfdjoidpejabDoorWhenFields0
import Derived.Test.YtfgdfdjoidpejabDoorWhenWrite
import Derived.Lib.SlBytesConst
namespace Go.Proofs.YtfgdfdjoidpejabDoor
open Go.ChangeShapes Go.WideShapes Go.ChangeAt Go.RowKit
set_option linter.unusedVariables false
set_option linter.unusedSimpArgs false
def formN : List Nat := [48, 48, 48, 48, 45, 48, 48, 45, 48, 48, 84, 48, 48, 58, 48, 48, 58, 48, 48, 90]
def putAll (y mo d h mi s : Nat) : List Nat := putK (putK (putK (putK (putK (putK formN 0 4 y 4) 5 2 mo 2) 8 2 d 2) 11 2 h 2) 14 2 mi 2) 17 2 s 2
theorem put_text (y mo d h mi s : Nat) : putAll y mo d h mi s = textN y mo d h mi s := by
  have e1 : y / 100 / 10 % 10 = y / 1000 % 10 := by omega
  have e2 : y % 100 / 10 % 10 = y / 10 % 10 := by omega
  have e3 : y % 100 % 10 = y % 10 := by omega
  unfold putAll textN twoN formN
  rw [e1, e2, e3]
  simp [putK, List.set]
theorem conv_const0 (w : World) (C : Array Value) (n c g : Nat) (hg : g = w.heap.size) :
    Sem.run Tryd.prog (convert 47 47 (Value.slice (some ⟨g, 0, none⟩) n c)) (w.alloc (.cells C 5)) = .ok (.slice (some ⟨g, 0, none⟩) n c) (w.alloc (.cells C 5 (C.size, C.size + 1))) := by
  subst hg
  exact Lib.run_convert_bytes_const w 47 5 C n c Tryd.underlying47 Tryd.underlying5
theorem DateAt.under {w w' : World} {g B : Nat} {y mo d h mi s : Int} (k : DateAt w g y mo d h mi s) (hb : Below B w w') (hB : g < B) : DateAt w' g y mo d h mi s := (hb.block g hB).trans k
set_option maxRecDepth 100000 in
set_option maxHeartbeats 16000000 in
theorem dtext_any (y mo d h mi s : Nat) (w : World) (hk : OkD y mo d h mi s) :
    Calls Tryd.prog 19 #[dateV y mo d h mi s] w fun e w' => e = .returned (.string (strN (textN y mo d h mi s))) ∧ Below w.heap.size w w' := by
  have hyb : y ≤ 9999 := hk.2.1
  have hmob : mo ≤ 9999 := by have := hk.2.2.2.1; omega
  have hdb : d ≤ 9999 := by have := hk.2.2.2.2.2.1; have := (len_bound y mo).2; omega
  have hhb : h ≤ 9999 := by have := hk.2.2.2.2.2.2.1; omega
  have hmib : mi ≤ 9999 := by have := hk.2.2.2.2.2.2.2.1; omega
  have hsb : s ≤ 9999 := by have := hk.2.2.2.2.2.2.2.2; omega
  have HTX : Hid _ := put_text y mo d h mi s
  have hD := DateAt.new w (y : Int) (mo : Int) (d : Int) (h : Int) (mi : Int) (s : Int)
  have hB := below_new w (.cells (dateC (y : Int) (mo : Int) (d : Int) (h : Int) (mi : Int) (s : Int)) 40)
  unfold dateV
  unfold dateC at hD hB
  go_enter Tryd.func19, Tryd.ntmps19
  go_wp2_with fail
  rw [conv_const0 _ _ 20 20 (w.heap.size + 1) (by simp)]
  have hF0 : BlkF ((w.alloc (.cells #[.int .i64 (y : Int), .int .i64 (mo : Int), .int .i64 (d : Int), .int .i64 (h : Int), .int .i64 (mi : Int), .int .i64 (s : Int)] 40)).alloc (.cells (encL .u8 formN) 5 (20, 21))) (w.heap.size + 1) 20 formN := by
    unfold BlkF
    have e : (w.alloc (.cells #[.int .i64 (y : Int), .int .i64 (mo : Int), .int .i64 (d : Int), .int .i64 (h : Int), .int .i64 (mi : Int), .int .i64 (s : Int)] 40)).heap.size = w.heap.size + 1 := by simp
    rw [← e]
    exact heap_alloc_last _ _
  have hBB : Below w.heap.size w ((w.alloc (.cells #[.int .i64 (y : Int), .int .i64 (mo : Int), .int .i64 (d : Int), .int .i64 (h : Int), .int .i64 (mi : Int), .int .i64 (s : Int)] 40)).alloc (.cells (encL .u8 formN) 5 (20, 21))) := Below.alloc hB (by simp) _
  have hDD : DateAt ((w.alloc (.cells #[.int .i64 (y : Int), .int .i64 (mo : Int), .int .i64 (d : Int), .int .i64 (h : Int), .int .i64 (mi : Int), .int .i64 (s : Int)] 40)).alloc (.cells (encL .u8 formN) 5 (20, 21))) w.heap.size (y : Int) (mo : Int) (d : Int) (h : Int) (mi : Int) (s : Int) := hD.below (below_new _ _)
  show Oper.upon _ _ _ _ _ ((Result.ok _ ((w.alloc (.cells #[.int .i64 (y : Int), .int .i64 (mo : Int), .int .i64 (d : Int), .int .i64 (h : Int), .int .i64 (mi : Int), .int .i64 (s : Int)] 40)).alloc (.cells (encL .u8 formN) 5 (20, 21)))).andThen _)
  generalize ((w.alloc (.cells #[.int .i64 (y : Int), .int .i64 (mo : Int), .int .i64 (d : Int), .int .i64 (h : Int), .int .i64 (mi : Int), .int .i64 (s : Int)] 40)).alloc (.cells (encL .u8 formN) 5 (20, 21))) = v0 at *
  clear hD hB hk
  obtain ⟨gd, hgd⟩ : ∃ gd, gd = w.heap.size := ⟨_, rfl⟩
  have HG : Hid (gd = w.heap.size) := hgd
  rw [← hgd] at hF0 hBB hDD ⊢
  obtain ⟨gb, hgb⟩ : ∃ gb, gb = gd + 1 := ⟨_, rfl⟩
  rw [← hgb] at hF0 ⊢
  have hlt : gd < gb := by omega
  clear hgd hgb
  go_wp2_with fail
  refine wp_region_held_drew (S := fun w' => DateAt w' gd (y : Int) (mo : Int) (d : Int) (h : Int) (mi : Int) (s : Int) ∧ Below gd w w') (by kernel_rfl) (⟨hDD.under ((Below.refl (gd + 1) _).drew) (by omega), hBB.drew⟩) (fun hHeld => ?_)
  have hF0d := hF0.below ((Below.refl _ _).drew)
  clear hDD hBB hF0
  refine held_take 0 (some 6) (.slice (some ⟨gb, 0, none⟩) 20 20) rfl rfl (by kernel_rfl) (by kernel_rfl) (by kernel_rfl) (fun _ _ _ h => h) rfl (fun w' hS => ?_) hHeld ?_
  · clear hS; go_simp
  try simp only [Act.put, List.setIfInBounds_toArray, List.set_cons_zero, List.set_cons_succ]
  refine held_take 1 (some 7) (.slice (some ⟨gb, 0, none⟩) 4 20) rfl rfl (by kernel_rfl) (by kernel_rfl) (by kernel_rfl) (fun _ _ _ h => h) rfl (fun w' hS => ?_) hHeld ?_
  · clear hS; go_simp
  try simp only [Act.put, List.setIfInBounds_toArray, List.set_cons_zero, List.set_cons_succ]
  refine held_take 2 (some 8) (.pointer (some ⟨gd, 0, none⟩)) rfl rfl (by kernel_rfl) (by kernel_rfl) (by kernel_rfl) (fun _ _ _ h => h) rfl (fun w' hS => ?_) hHeld ?_
  · clear hS; go_simp
  try simp only [Act.put, List.setIfInBounds_toArray, List.set_cons_zero, List.set_cons_succ]
  refine held_take 3 (some 9) (.int .i64 (y : Nat)) rfl rfl (by kernel_rfl) (by kernel_rfl) (by kernel_rfl) (fun _ _ _ h => h) rfl (fun w' hS => ?_) hHeld ?_
  · have hc := hS.1.cells.1; clear hS; go_simp
  try simp only [Act.put, List.setIfInBounds_toArray, List.set_cons_zero, List.set_cons_succ]
  refine held_one (i := 4) (by kernel_rfl) rfl rfl (fun K hK => ?_)
  go_simp
  refine Calls.mono (write_any gb 20 0 4 20 y formN _ hF0d (by first | decide | (simp only [putK_length]; decide)) (by first | decide | (simp only [putK_length]; decide)) (by decide) (by decide) hyb) ?_
  rintro _ v1 ⟨rfl, hF1, hb1⟩
  dsimp only
  have hH1 : DateAt v1 gd (y : Int) (mo : Int) (d : Int) (h : Int) (mi : Int) (s : Int) ∧ Below gd w v1 := ⟨hHeld.1.under hb1 hlt, hHeld.2.trans (hb1.mono (by omega))⟩
  refine hK.out _ _ hH1 ?_
  clear hK K hb1 hF0d
  try simp only [Act.put, List.setIfInBounds_toArray, List.set_cons_zero, List.set_cons_succ]
  refine wpAnyH_done (by kernel_rfl) ?_ _
  have hD1 := hH1.1
  have hBw1 := hH1.2
  clear hH1 hHeld
  go_wp2_with fail
  refine wp_region_held_drew (S := fun w' => DateAt w' gd (y : Int) (mo : Int) (d : Int) (h : Int) (mi : Int) (s : Int) ∧ Below gd w w') (by kernel_rfl) (⟨hD1.under ((Below.refl (gd + 1) _).drew) (by omega), hBw1.drew⟩) (fun hHeld => ?_)
  have hF1d := hF1.below ((Below.refl _ _).drew)
  clear hD1 hBw1 hF1
  refine held_take 0 (some 11) (.slice (some ⟨gb, 0, none⟩) 20 20) rfl rfl (by kernel_rfl) (by kernel_rfl) (by kernel_rfl) (fun _ _ _ h => h) rfl (fun w' hS => ?_) hHeld ?_
  · clear hS; go_simp
  try simp only [Act.put, List.setIfInBounds_toArray, List.set_cons_zero, List.set_cons_succ]
  refine held_take 1 (some 12) (.slice (some ⟨gb, 5, none⟩) 2 15) rfl rfl (by kernel_rfl) (by kernel_rfl) (by kernel_rfl) (fun _ _ _ h => h) rfl (fun w' hS => ?_) hHeld ?_
  · clear hS; go_simp
  try simp only [Act.put, List.setIfInBounds_toArray, List.set_cons_zero, List.set_cons_succ]
  refine held_take 2 (some 13) (.pointer (some ⟨gd, 1, none⟩)) rfl rfl (by kernel_rfl) (by kernel_rfl) (by kernel_rfl) (fun _ _ _ h => h) rfl (fun w' hS => ?_) hHeld ?_
  · clear hS; go_simp
  try simp only [Act.put, List.setIfInBounds_toArray, List.set_cons_zero, List.set_cons_succ]
  refine held_take 3 (some 14) (.int .i64 (mo : Nat)) rfl rfl (by kernel_rfl) (by kernel_rfl) (by kernel_rfl) (fun _ _ _ h => h) rfl (fun w' hS => ?_) hHeld ?_
  · have hc := hS.1.cells.2.1; clear hS; go_simp
  try simp only [Act.put, List.setIfInBounds_toArray, List.set_cons_zero, List.set_cons_succ]
  refine held_one (i := 4) (by kernel_rfl) rfl rfl (fun K hK => ?_)
  go_simp
  refine Calls.mono (write_any gb 20 5 2 15 mo (putK formN 0 4 y 4) _ hF1d (by first | decide | (simp only [putK_length]; decide)) (by first | decide | (simp only [putK_length]; decide)) (by decide) (by decide) hmob) ?_
  rintro _ v2 ⟨rfl, hF2, hb2⟩
  dsimp only
  have hH2 : DateAt v2 gd (y : Int) (mo : Int) (d : Int) (h : Int) (mi : Int) (s : Int) ∧ Below gd w v2 := ⟨hHeld.1.under hb2 hlt, hHeld.2.trans (hb2.mono (by omega))⟩
  refine hK.out _ _ hH2 ?_
  clear hK K hb2 hF1d
  try simp only [Act.put, List.setIfInBounds_toArray, List.set_cons_zero, List.set_cons_succ]
  refine wpAnyH_done (by kernel_rfl) ?_ _
  have hD2 := hH2.1
  have hBw2 := hH2.2
  clear hH2 hHeld
  go_wp2_with fail
  refine wp_region_held_drew (S := fun w' => DateAt w' gd (y : Int) (mo : Int) (d : Int) (h : Int) (mi : Int) (s : Int) ∧ Below gd w w') (by kernel_rfl) (⟨hD2.under ((Below.refl (gd + 1) _).drew) (by omega), hBw2.drew⟩) (fun hHeld => ?_)
  have hF2d := hF2.below ((Below.refl _ _).drew)
  clear hD2 hBw2 hF2
  refine held_take 0 (some 16) (.slice (some ⟨gb, 0, none⟩) 20 20) rfl rfl (by kernel_rfl) (by kernel_rfl) (by kernel_rfl) (fun _ _ _ h => h) rfl (fun w' hS => ?_) hHeld ?_
  · clear hS; go_simp
  try simp only [Act.put, List.setIfInBounds_toArray, List.set_cons_zero, List.set_cons_succ]
  refine held_take 1 (some 17) (.slice (some ⟨gb, 8, none⟩) 2 12) rfl rfl (by kernel_rfl) (by kernel_rfl) (by kernel_rfl) (fun _ _ _ h => h) rfl (fun w' hS => ?_) hHeld ?_
  · clear hS; go_simp
  try simp only [Act.put, List.setIfInBounds_toArray, List.set_cons_zero, List.set_cons_succ]
  refine held_take 2 (some 18) (.pointer (some ⟨gd, 2, none⟩)) rfl rfl (by kernel_rfl) (by kernel_rfl) (by kernel_rfl) (fun _ _ _ h => h) rfl (fun w' hS => ?_) hHeld ?_
  · clear hS; go_simp
  try simp only [Act.put, List.setIfInBounds_toArray, List.set_cons_zero, List.set_cons_succ]
  refine held_take 3 (some 19) (.int .i64 (d : Nat)) rfl rfl (by kernel_rfl) (by kernel_rfl) (by kernel_rfl) (fun _ _ _ h => h) rfl (fun w' hS => ?_) hHeld ?_
  · have hc := hS.1.cells.2.2.1; clear hS; go_simp
  try simp only [Act.put, List.setIfInBounds_toArray, List.set_cons_zero, List.set_cons_succ]
  refine held_one (i := 4) (by kernel_rfl) rfl rfl (fun K hK => ?_)
  go_simp
  refine Calls.mono (write_any gb 20 8 2 12 d (putK (putK formN 0 4 y 4) 5 2 mo 2) _ hF2d (by first | decide | (simp only [putK_length]; decide)) (by first | decide | (simp only [putK_length]; decide)) (by decide) (by decide) hdb) ?_
  rintro _ v3 ⟨rfl, hF3, hb3⟩
  dsimp only
  have hH3 : DateAt v3 gd (y : Int) (mo : Int) (d : Int) (h : Int) (mi : Int) (s : Int) ∧ Below gd w v3 := ⟨hHeld.1.under hb3 hlt, hHeld.2.trans (hb3.mono (by omega))⟩
  refine hK.out _ _ hH3 ?_
  clear hK K hb3 hF2d
  try simp only [Act.put, List.setIfInBounds_toArray, List.set_cons_zero, List.set_cons_succ]
  refine wpAnyH_done (by kernel_rfl) ?_ _
  have hD3 := hH3.1
  have hBw3 := hH3.2
  clear hH3 hHeld
  go_wp2_with fail
  refine wp_region_held_drew (S := fun w' => DateAt w' gd (y : Int) (mo : Int) (d : Int) (h : Int) (mi : Int) (s : Int) ∧ Below gd w w') (by kernel_rfl) (⟨hD3.under ((Below.refl (gd + 1) _).drew) (by omega), hBw3.drew⟩) (fun hHeld => ?_)
  have hF3d := hF3.below ((Below.refl _ _).drew)
  clear hD3 hBw3 hF3
  refine held_take 0 (some 21) (.slice (some ⟨gb, 0, none⟩) 20 20) rfl rfl (by kernel_rfl) (by kernel_rfl) (by kernel_rfl) (fun _ _ _ h => h) rfl (fun w' hS => ?_) hHeld ?_
  · clear hS; go_simp
  try simp only [Act.put, List.setIfInBounds_toArray, List.set_cons_zero, List.set_cons_succ]
  refine held_take 1 (some 22) (.slice (some ⟨gb, 11, none⟩) 2 9) rfl rfl (by kernel_rfl) (by kernel_rfl) (by kernel_rfl) (fun _ _ _ h => h) rfl (fun w' hS => ?_) hHeld ?_
  · clear hS; go_simp
  try simp only [Act.put, List.setIfInBounds_toArray, List.set_cons_zero, List.set_cons_succ]
  refine held_take 2 (some 23) (.pointer (some ⟨gd, 3, none⟩)) rfl rfl (by kernel_rfl) (by kernel_rfl) (by kernel_rfl) (fun _ _ _ h => h) rfl (fun w' hS => ?_) hHeld ?_
  · clear hS; go_simp
  try simp only [Act.put, List.setIfInBounds_toArray, List.set_cons_zero, List.set_cons_succ]
  refine held_take 3 (some 24) (.int .i64 (h : Nat)) rfl rfl (by kernel_rfl) (by kernel_rfl) (by kernel_rfl) (fun _ _ _ h => h) rfl (fun w' hS => ?_) hHeld ?_
  · have hc := hS.1.cells.2.2.2.1; clear hS; go_simp
  try simp only [Act.put, List.setIfInBounds_toArray, List.set_cons_zero, List.set_cons_succ]
  refine held_one (i := 4) (by kernel_rfl) rfl rfl (fun K hK => ?_)
  go_simp
  refine Calls.mono (write_any gb 20 11 2 9 h (putK (putK (putK formN 0 4 y 4) 5 2 mo 2) 8 2 d 2) _ hF3d (by first | decide | (simp only [putK_length]; decide)) (by first | decide | (simp only [putK_length]; decide)) (by decide) (by decide) hhb) ?_
  rintro _ v4 ⟨rfl, hF4, hb4⟩
  dsimp only
  have hH4 : DateAt v4 gd (y : Int) (mo : Int) (d : Int) (h : Int) (mi : Int) (s : Int) ∧ Below gd w v4 := ⟨hHeld.1.under hb4 hlt, hHeld.2.trans (hb4.mono (by omega))⟩
  refine hK.out _ _ hH4 ?_
  clear hK K hb4 hF3d
  try simp only [Act.put, List.setIfInBounds_toArray, List.set_cons_zero, List.set_cons_succ]
  refine wpAnyH_done (by kernel_rfl) ?_ _
  have hD4 := hH4.1
  have hBw4 := hH4.2
  clear hH4 hHeld
  go_wp2_with fail
  refine wp_region_held_drew (S := fun w' => DateAt w' gd (y : Int) (mo : Int) (d : Int) (h : Int) (mi : Int) (s : Int) ∧ Below gd w w') (by kernel_rfl) (⟨hD4.under ((Below.refl (gd + 1) _).drew) (by omega), hBw4.drew⟩) (fun hHeld => ?_)
  have hF4d := hF4.below ((Below.refl _ _).drew)
  clear hD4 hBw4 hF4
  refine held_take 0 (some 26) (.slice (some ⟨gb, 0, none⟩) 20 20) rfl rfl (by kernel_rfl) (by kernel_rfl) (by kernel_rfl) (fun _ _ _ h => h) rfl (fun w' hS => ?_) hHeld ?_
  · clear hS; go_simp
  try simp only [Act.put, List.setIfInBounds_toArray, List.set_cons_zero, List.set_cons_succ]
  refine held_take 1 (some 27) (.slice (some ⟨gb, 14, none⟩) 2 6) rfl rfl (by kernel_rfl) (by kernel_rfl) (by kernel_rfl) (fun _ _ _ h => h) rfl (fun w' hS => ?_) hHeld ?_
  · clear hS; go_simp
  try simp only [Act.put, List.setIfInBounds_toArray, List.set_cons_zero, List.set_cons_succ]
  refine held_take 2 (some 28) (.pointer (some ⟨gd, 4, none⟩)) rfl rfl (by kernel_rfl) (by kernel_rfl) (by kernel_rfl) (fun _ _ _ h => h) rfl (fun w' hS => ?_) hHeld ?_
  · clear hS; go_simp
  try simp only [Act.put, List.setIfInBounds_toArray, List.set_cons_zero, List.set_cons_succ]
  refine held_take 3 (some 29) (.int .i64 (mi : Nat)) rfl rfl (by kernel_rfl) (by kernel_rfl) (by kernel_rfl) (fun _ _ _ h => h) rfl (fun w' hS => ?_) hHeld ?_
  · have hc := hS.1.cells.2.2.2.2.1; clear hS; go_simp
  try simp only [Act.put, List.setIfInBounds_toArray, List.set_cons_zero, List.set_cons_succ]
  refine held_one (i := 4) (by kernel_rfl) rfl rfl (fun K hK => ?_)
  go_simp
  refine Calls.mono (write_any gb 20 14 2 6 mi (putK (putK (putK (putK formN 0 4 y 4) 5 2 mo 2) 8 2 d 2) 11 2 h 2) _ hF4d (by first | decide | (simp only [putK_length]; decide)) (by first | decide | (simp only [putK_length]; decide)) (by decide) (by decide) hmib) ?_
  rintro _ v5 ⟨rfl, hF5, hb5⟩
  dsimp only
  have hH5 : DateAt v5 gd (y : Int) (mo : Int) (d : Int) (h : Int) (mi : Int) (s : Int) ∧ Below gd w v5 := ⟨hHeld.1.under hb5 hlt, hHeld.2.trans (hb5.mono (by omega))⟩
  refine hK.out _ _ hH5 ?_
  clear hK K hb5 hF4d
  try simp only [Act.put, List.setIfInBounds_toArray, List.set_cons_zero, List.set_cons_succ]
  refine wpAnyH_done (by kernel_rfl) ?_ _
  have hD5 := hH5.1
  have hBw5 := hH5.2
  clear hH5 hHeld
  go_wp2_with fail
  refine wp_region_held_drew (S := fun w' => DateAt w' gd (y : Int) (mo : Int) (d : Int) (h : Int) (mi : Int) (s : Int) ∧ Below gd w w') (by kernel_rfl) (⟨hD5.under ((Below.refl (gd + 1) _).drew) (by omega), hBw5.drew⟩) (fun hHeld => ?_)
  have hF5d := hF5.below ((Below.refl _ _).drew)
  clear hD5 hBw5 hF5
  refine held_take 0 (some 31) (.slice (some ⟨gb, 0, none⟩) 20 20) rfl rfl (by kernel_rfl) (by kernel_rfl) (by kernel_rfl) (fun _ _ _ h => h) rfl (fun w' hS => ?_) hHeld ?_
  · clear hS; go_simp
  try simp only [Act.put, List.setIfInBounds_toArray, List.set_cons_zero, List.set_cons_succ]
  refine held_take 1 (some 32) (.slice (some ⟨gb, 17, none⟩) 2 3) rfl rfl (by kernel_rfl) (by kernel_rfl) (by kernel_rfl) (fun _ _ _ h => h) rfl (fun w' hS => ?_) hHeld ?_
  · clear hS; go_simp
  try simp only [Act.put, List.setIfInBounds_toArray, List.set_cons_zero, List.set_cons_succ]
  refine held_take 2 (some 33) (.pointer (some ⟨gd, 5, none⟩)) rfl rfl (by kernel_rfl) (by kernel_rfl) (by kernel_rfl) (fun _ _ _ h => h) rfl (fun w' hS => ?_) hHeld ?_
  · clear hS; go_simp
  try simp only [Act.put, List.setIfInBounds_toArray, List.set_cons_zero, List.set_cons_succ]
  refine held_take 3 (some 34) (.int .i64 (s : Nat)) rfl rfl (by kernel_rfl) (by kernel_rfl) (by kernel_rfl) (fun _ _ _ h => h) rfl (fun w' hS => ?_) hHeld ?_
  · have hc := hS.1.cells.2.2.2.2.2; clear hS; go_simp
  try simp only [Act.put, List.setIfInBounds_toArray, List.set_cons_zero, List.set_cons_succ]
  refine held_one (i := 4) (by kernel_rfl) rfl rfl (fun K hK => ?_)
  go_simp
  refine Calls.mono (write_any gb 20 17 2 3 s (putK (putK (putK (putK (putK formN 0 4 y 4) 5 2 mo 2) 8 2 d 2) 11 2 h 2) 14 2 mi 2) _ hF5d (by first | decide | (simp only [putK_length]; decide)) (by first | decide | (simp only [putK_length]; decide)) (by decide) (by decide) hsb) ?_
  rintro _ v6 ⟨rfl, hF6, hb6⟩
  dsimp only
  have hH6 : DateAt v6 gd (y : Int) (mo : Int) (d : Int) (h : Int) (mi : Int) (s : Int) ∧ Below gd w v6 := ⟨hHeld.1.under hb6 hlt, hHeld.2.trans (hb6.mono (by omega))⟩
  refine hK.out _ _ hH6 ?_
  clear hK K hb6 hF5d
  try simp only [Act.put, List.setIfInBounds_toArray, List.set_cons_zero, List.set_cons_succ]
  refine wpAnyH_done (by kernel_rfl) ?_ _
  have hfin := hH6.2
  clear hH6 hHeld
  have hrow := hF6.row
  have hlen : ((putK (putK (putK (putK (putK (putK formN 0 4 y 4) 5 2 mo 2) 8 2 d 2) 11 2 h 2) 14 2 mi 2) 17 2 s 2)).length = 20 := by simp only [putK_length]; rfl
  rw [hlen] at hrow
  have hcv := conv_row hrow 20
  rw [show (putK (putK (putK (putK (putK (putK formN 0 4 y 4) 5 2 mo 2) 8 2 d 2) 11 2 h 2) 14 2 mi 2) 17 2 s 2) = textN y mo d h mi s from HTX.out] at hcv
  clear hrow hlen hF6
  go_wp2_with fail
  go_ret
  exact ⟨rfl, by rw [← HG.out]; exact hfin⟩
end Go.Proofs.YtfgdfdjoidpejabDoor
