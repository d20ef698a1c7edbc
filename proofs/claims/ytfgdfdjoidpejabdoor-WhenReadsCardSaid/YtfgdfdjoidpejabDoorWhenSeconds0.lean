/-
  The program's Seconds of any date.
-/
import Derived.Test.YtfgdfdjoidpejabDoorWhenThere
import Derived.Test.YtfgdfdjoidpejabDoorWhenDay
import Derived.Test.YtfgdfdjoidpejabDoorWhenSecBad
namespace Go.Proofs.YtfgdfdjoidpejabDoor
open Go.ChangeShapes Go.WideShapes Go.ChangeAt Go.RowKit
set_option linter.unusedVariables false
set_option linter.unusedSimpArgs false
theorem there_good (y mo d h mi s : Nat) (w : World) (hT : Tab w) (hk : OkD y mo d h mi s) :
    Calls Tryd.prog 23 #[dateV y mo d h mi s] w fun e w' => e = .returned (.bool true) ∧ Below w.heap.size w w' := by
  obtain ⟨y1, y2, m1, m2, d1, d2, h2, i2, s2⟩ := hk
  exact there6 y mo (lenN y mo) d h mi s w hT rfl (by omega) (by omega) (by omega) (by omega) (by omega) (by omega)
theorem there_bad (y mo d h mi s : Int) (w : World) (hT : Tab w) (hk : ¬ OkI y mo d h mi s) :
    Calls Tryd.prog 23 #[dateV y mo d h mi s] w fun e w' => e = .returned (.bool false) ∧ Below w.heap.size w w' := by
  by_cases t0 : (1 : Int) ≤ y ∧ y ≤ 9999
  · by_cases t1 : (1 : Int) ≤ mo ∧ mo ≤ 12
    · obtain ⟨Y, rfl⟩ : ∃ Y : Nat, y = (Y : Int) := ⟨y.toNat, by omega⟩
      obtain ⟨M, rfl⟩ : ∃ M : Nat, mo = (M : Int) := ⟨mo.toNat, by omega⟩
      by_cases t2 : (1 : Int) ≤ d ∧ d ≤ ((lenN Y M : Nat) : Int)
      · by_cases t3 : (0 : Int) ≤ h ∧ h ≤ 23
        · by_cases t4 : (0 : Int) ≤ mi ∧ mi ≤ 59
          · by_cases t5 : (0 : Int) ≤ s ∧ s ≤ 59
            · exact absurd ⟨Y, M, d.toNat, h.toNat, mi.toNat, s.toNat, rfl, rfl, by omega, by omega, by omega, by omega, by omega, by omega, by omega, by omega, by omega, by omega, by omega, by omega, by omega⟩ hk
            · exact there5 Y M _ d h mi s w hT rfl t0 t1 t2 t3 t4 t5
          · exact there4 Y M _ d h mi s w hT rfl t0 t1 t2 t3 t4
        · exact there3 Y M _ d h mi s w hT rfl t0 t1 t2 t3
      · exact there2 Y M _ d h mi s w hT rfl t0 t1 t2
    · exact there1 y mo d h mi s w t0 t1
  · exact there0 y mo d h mi s w t0
theorem sec_bad (y mo d h mi s : Int) (w : World) (hT : Tab w) (hk : ¬ OkI y mo d h mi s) :
    Calls Tryd.prog 16 #[dateV y mo d h mi s] w fun e w' => e = .returned (.tuple #[.int .i64 0, .int .i64 4]) ∧ Below w.heap.size w w' := by
  have hD := DateAt.new w y mo d h mi s
  have hB := below_new w (.cells (dateC y mo d h mi s) 40)
  have hT1 := hT.own hB
  have HI : Hid _ := there_bad y mo d h mi s _ hT1 hk
  have hld := hD.load
  unfold dateV dateC at *
  clear hT hT1 hk hD
  go_enter Tryd.func16, Tryd.ntmps16
  go_wp2_with fail
  refine Calls.mono HI.out ?_
  rintro _ w2 ⟨rfl, hb2⟩
  go_wp2_with fail
  go_ret2
  exact ⟨rfl, hB.trans (hb2.mono (by simp))⟩
set_option maxRecDepth 100000 in
set_option maxHeartbeats 16000000 in
theorem sec_good (y mo d h mi s : Nat) (w : World) (hT : Tab w) (hk : OkD y mo d h mi s) :
    Calls Tryd.prog 16 #[dateV y mo d h mi s] w fun e w' => e = .returned (.tuple #[.int .i64 ((secN y mo d h mi s : Int) - 62135596800), .int .i64 0]) ∧ Below w.heap.size w w' := by
  have HN := (day_parts hk).2.2.2.2
  have HK : Hid (∀ W, Tab W → Calls Tryd.prog 24 #[dateV y mo d h mi s] W fun e w' => e = .returned (.int .i64 (dayN y mo d : Nat)) ∧ Below W.heap.size W w') := fun W hW => days_any y mo d h mi s W hW hk
  have hk0 := hk
  obtain ⟨-, -, -, -, -, -, h2, i2, s2⟩ := hk
  have HS : Hid (∀ W, Calls Tryd.prog 25 #[dateV y mo d h mi s] W fun e w' => e = .returned (.int .i64 ((h * 3600 + mi * 60 + s : Nat) : Int)) ∧ Below W.heap.size W w') := fun W => secs_any y mo d h mi s W h2 i2 s2
  unfold secN
  obtain ⟨K, hK⟩ : ∃ K, K = h * 3600 + mi * 60 + s := ⟨_, rfl⟩
  rw [← hK] at HS ⊢
  generalize dayN y mo d = N at *
  obtain ⟨P, hP⟩ : ∃ P, P = N * 86400 := ⟨_, rfl⟩
  obtain ⟨Q, hQ⟩ : ∃ Q : Int, Q = -62135596800 + (P : Int) := ⟨_, rfl⟩
  obtain ⟨R, hR⟩ : ∃ R : Int, R = Q + (K : Int) := ⟨_, rfl⟩
  have HR : Hid (((N * 86400 + K : Nat) : Int) - 62135596800 = R) := by unfold Hid; omega
  rw [HR.out]
  have Pi : (N : Int) * 86400 = (P : Int) := by omega
  have Pw : IntKind.i64.wrap (P : Int) = (P : Int) := wrap_nat P (by omega)
  have Qi : (-62135596800 : Int) + (P : Int) = Q := hQ.symm
  have Qw : IntKind.i64.wrap Q = Q := by rw [IntKind.wrap_i64]; omega
  have Ri : Q + (K : Int) = R := hR.symm
  have Rw : IntKind.i64.wrap R = R := by rw [IntKind.wrap_i64]; omega
  have hD := DateAt.new w (y : Int) (mo : Int) (d : Int) (h : Int) (mi : Int) (s : Int)
  have hB := below_new w (.cells (dateC (y : Int) (mo : Int) (d : Int) (h : Int) (mi : Int) (s : Int)) 40)
  have hT1 := hT.own hB
  have HI : Hid _ := there_good y mo d h mi s _ hT1 hk0
  have hld := hD.load
  unfold dateV dateC at hD hB hT1 HI hld
  clear hT hP hQ hR HR h2 i2 s2 HN hK hk0
  unfold dateV
  go_enter Tryd.func16, Tryd.ntmps16
  go_wp2_with fail
  refine Calls.mono HI.out ?_
  rintro _ w2 ⟨rfl, hb2⟩
  have hD2 := hD.below hb2
  have hT2 := hT1.own hb2
  have hB2 := hB.trans (hb2.mono (by simp))
  clear hb2 hB hT1 hD hld HI
  go_wp2_with fail
  generalize hg : w.heap.size = g at *
  have HG : Hid (w.heap.size = g) := hg
  clear hg
  refine wp_region_held_drew (S := fun w' => DateAt w' g (y : Int) (mo : Int) (d : Int) (h : Int) (mi : Int) (s : Int) ∧ Below g w w' ∧ Tab w') (by kernel_rfl) (⟨hD2.below ((Below.refl _ _).drew), hB2.drew, hT2.own ((Below.refl _ _).drew)⟩) (fun hHeld => ?_)
  clear hD2 hB2 hT2
  refine held_take 0 (some 7) (dateV (y : Int) (mo : Int) (d : Int) (h : Int) (mi : Int) (s : Int)) rfl rfl (by kernel_rfl) (by kernel_rfl) (by kernel_rfl) (fun _ _ _ h => h) rfl (fun w' hS => ?_) hHeld ?_
  · exact held_yield (S := fun x => DateAt x g (y : Int) (mo : Int) (d : Int) (h : Int) (mi : Int) (s : Int) ∧ Below g w x ∧ Tab x) 40 (.tmp 1) rfl ⟨g, 0, none⟩ rfl _ (fun x k => k.1.load) w' hS
  try simp only [Act.put, List.setIfInBounds_toArray, List.set_cons_zero, List.set_cons_succ]
  refine held_take 4 (some 11) (dateV (y : Int) (mo : Int) (d : Int) (h : Int) (mi : Int) (s : Int)) rfl rfl (by kernel_rfl) (by kernel_rfl) (by kernel_rfl) (fun _ _ _ h => h) rfl (fun w' hS => ?_) hHeld ?_
  · exact held_yield (S := fun x => DateAt x g (y : Int) (mo : Int) (d : Int) (h : Int) (mi : Int) (s : Int) ∧ Below g w x ∧ Tab x) 40 (.tmp 1) rfl ⟨g, 0, none⟩ rfl _ (fun x k => k.1.load) w' hS
  try simp only [Act.put, List.setIfInBounds_toArray, List.set_cons_zero, List.set_cons_succ]
  refine held_one (i := 1) (by kernel_rfl) rfl rfl (fun K hK => ?_)
  go_simp
  refine Calls.mono (HK.out _ hHeld.2.2) ?_
  rintro _ v1 ⟨rfl, hb1⟩
  dsimp only
  have hH1 : DateAt v1 g (y : Int) (mo : Int) (d : Int) (h : Int) (mi : Int) (s : Int) ∧ Below g w v1 ∧ Tab v1 := ⟨hHeld.1.below hb1, hHeld.2.1.trans (hb1.mono (Nat.le_of_lt hHeld.1.lt)), hHeld.2.2.own hb1⟩
  refine hK.out _ _ hH1 ?_
  clear hK K hb1 
  try simp only [Act.put, List.setIfInBounds_toArray, List.set_cons_zero, List.set_cons_succ]
  refine held_take 2 (some 9) (.int .i64 (P : Nat)) rfl rfl (by kernel_rfl) (by kernel_rfl) (by kernel_rfl) (fun _ _ _ h => h) rfl (fun w' hS => ?_) hH1 ?_
  · clear hS; go_simp
  try simp only [Act.put, List.setIfInBounds_toArray, List.set_cons_zero, List.set_cons_succ]
  refine held_take 3 (some 10) (.int .i64 Q) rfl rfl (by kernel_rfl) (by kernel_rfl) (by kernel_rfl) (fun _ _ _ h => h) rfl (fun w' hS => ?_) hH1 ?_
  · clear hS; go_simp
  try simp only [Act.put, List.setIfInBounds_toArray, List.set_cons_zero, List.set_cons_succ]
  refine held_one (i := 5) (by kernel_rfl) rfl rfl (fun K hK => ?_)
  go_simp
  refine Calls.mono (HS.out _) ?_
  rintro _ v2 ⟨rfl, hb2⟩
  dsimp only
  have hH2 : DateAt v2 g (y : Int) (mo : Int) (d : Int) (h : Int) (mi : Int) (s : Int) ∧ Below g w v2 ∧ Tab v2 := ⟨hH1.1.below hb2, hH1.2.1.trans (hb2.mono (Nat.le_of_lt hH1.1.lt)), hH1.2.2.own hb2⟩
  refine hK.out _ _ hH2 ?_
  clear hK K hb2 
  try simp only [Act.put, List.setIfInBounds_toArray, List.set_cons_zero, List.set_cons_succ]
  refine held_take 6 (some 13) (.int .i64 R) rfl rfl (by kernel_rfl) (by kernel_rfl) (by kernel_rfl) (fun _ _ _ h => h) rfl (fun w' hS => ?_) hH2 ?_
  · clear hS; go_simp
  try simp only [Act.put, List.setIfInBounds_toArray, List.set_cons_zero, List.set_cons_succ]
  refine held_take 7 (some 2) (.int .i64 R) rfl rfl (by kernel_rfl) (by kernel_rfl) (by kernel_rfl) (fun _ _ _ h => h) rfl (fun w' hS => ?_) hH2 ?_
  · clear hS; go_simp
  try simp only [Act.put, List.setIfInBounds_toArray, List.set_cons_zero, List.set_cons_succ]
  refine held_take 8 (some 3) (.int .i64 0) rfl rfl (by kernel_rfl) (by kernel_rfl) (by kernel_rfl) (fun _ _ _ h => h) rfl (fun w' hS => ?_) hH2 ?_
  · clear hS; go_simp
  try simp only [Act.put, List.setIfInBounds_toArray, List.set_cons_zero, List.set_cons_succ]
  refine wpAnyH_done (by kernel_rfl) ?_ _
  have hfin := hH2.2.1
  clear hH1 hH2 hHeld
  go_wp2_with fail
  go_ret2
  exact ⟨rfl, by rw [HG.out]; exact hfin⟩
end Go.Proofs.YtfgdfdjoidpejabDoor
