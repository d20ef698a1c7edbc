/-
  The program's days ahead of a date that there is, and the seconds of its day.
-/
import Derived.Test.YtfgdfdjoidpejabDoorWhenAhead
namespace Go.Proofs.YtfgdfdjoidpejabDoor
open Go.ChangeShapes Go.WideShapes Go.ChangeAt Go.RowKit
set_option linter.unusedVariables false
set_option linter.unusedSimpArgs false
theorem wrap_nat (x : Nat) (h : x ≤ 9223372036854775807) : IntKind.i64.wrap (x : Int) = (x : Int) := by rw [IntKind.wrap_i64]; omega
theorem secs_any (y mo d : Int) (h mi s : Nat) (w : World) (h1 : h ≤ 23) (h2 : mi ≤ 59) (h3 : s ≤ 59) :
    Calls Tryd.prog 25 #[dateV y mo d h mi s] w fun e w' => e = .returned (.int .i64 ((h * 3600 + mi * 60 + s : Nat) : Int)) ∧ Below w.heap.size w w' := by
  have HE : Hid (((h * 3600 + mi * 60 + s : Nat) : Int) = (h : Int) * 3600 + (mi : Int) * 60 + (s : Int)) := by unfold Hid; simp
  unfold dateV
  go_enter Tryd.func25, Tryd.ntmps25
  go_wp2
  go_ret
  exact ⟨by rw [HE.out]; rfl, below_new w _⟩
set_option maxRecDepth 100000 in
set_option maxHeartbeats 16000000 in
theorem days_any (y mo d h mi s : Nat) (w : World) (hT : Tab w) (hk : OkD y mo d h mi s) :
    Calls Tryd.prog 24 #[dateV y mo d h mi s] w fun e w' => e = .returned (.int .i64 (dayN y mo d : Nat)) ∧ Below w.heap.size w w' := by
  have HN := (day_parts hk).2.2.2.2
  obtain ⟨y1, y2, m1, m2, d1, d2, -, -, -⟩ := hk
  have hlb := (len_bound y mo).2
  have HA : Hid (∀ W, Tab W → Calls Tryd.prog 30 #[dateV y mo d h mi s, .int .i64 (mo : Nat)] W fun e w' => e = .returned (.int .i64 (dmk y (mo - 1) : Nat)) ∧ Below W.heap.size W w') := fun W hW => ahead_any y mo d h mi s mo W hW (by omega) (by omega) (by omega)
  have hdc := dbk_closed (y - 1)
  unfold dayN at *
  have hr := dmk_mono y (a := mo - 1) (b := 12) (by omega)
  rw [dmk_year] at hr
  have hyr : yearN y ≤ 366 := by rcases year_two y with h' | h' <;> omega
  generalize dmk y (mo - 1) = r at *
  obtain ⟨Y, hY⟩ : ∃ Y, Y = y - 1 := ⟨_, rfl⟩
  rw [← hY] at hdc HN ⊢
  have hYi : (y : Int) - 1 = (Y : Int) := by omega
  obtain ⟨a, ha⟩ : ∃ a, a = Y * 365 := ⟨_, rfl⟩
  obtain ⟨b, hb⟩ : ∃ b, b = Y / 4 := ⟨_, rfl⟩
  obtain ⟨c, hc⟩ : ∃ c, c = a + b := ⟨_, rfl⟩
  obtain ⟨e, he⟩ : ∃ e, e = Y / 100 := ⟨_, rfl⟩
  obtain ⟨f, hf⟩ : ∃ f, f = c - e := ⟨_, rfl⟩
  obtain ⟨g4, hg4⟩ : ∃ g4, g4 = Y / 400 := ⟨_, rfl⟩
  obtain ⟨i, hi⟩ : ∃ i, i = f + g4 := ⟨_, rfl⟩
  obtain ⟨j, hj⟩ : ∃ j, j = i + r := ⟨_, rfl⟩
  obtain ⟨k, hk⟩ : ∃ k, k = j + d := ⟨_, rfl⟩
  obtain ⟨l, hl⟩ : ∃ l, l = k - 1 := ⟨_, rfl⟩
  have HL : Hid (dbk Y + r + (d - 1) = l) := by unfold Hid; omega
  have hYb : Y ≤ 9998 := by omega
  have ai : (Y : Int) * 365 = (a : Int) := by omega
  have bi : (Y : Int) / 4 = (b : Int) := by omega
  have ci : (a : Int) + (b : Int) = (c : Int) := by omega
  have ei : (Y : Int) / 100 = (e : Int) := by omega
  have fi : (c : Int) - (e : Int) = (f : Int) := by omega
  have gi : (Y : Int) / 400 = (g4 : Int) := by omega
  have ii : (f : Int) + (g4 : Int) = (i : Int) := by omega
  have ji : (i : Int) + (r : Int) = (j : Int) := by omega
  have ki : (j : Int) + (d : Int) = (k : Int) := by omega
  have li : (k : Int) - 1 = (l : Int) := by omega
  have aw := wrap_nat a (by omega)
  have bw := wrap_nat b (by omega)
  have cw := wrap_nat c (by omega)
  have ew := wrap_nat e (by omega)
  have fw := wrap_nat f (by omega)
  have gw := wrap_nat g4 (by omega)
  have iw := wrap_nat i (by omega)
  have jw := wrap_nat j (by omega)
  have kw := wrap_nat k (by omega)
  have lw := wrap_nat l (by omega)
  rw [HL.out]
  have hD := DateAt.new w (y : Int) (mo : Int) (d : Int) (h : Int) (mi : Int) (s : Int)
  have hB := below_new w (.cells (dateC (y : Int) (mo : Int) (d : Int) (h : Int) (mi : Int) (s : Int)) 40)
  have hT1 := hT.own hB
  unfold dateC at hD hB hT1
  clear ha hb hc he hf hg4 hi hj hk hl hdc HN hY hT HL hyr hr hlb y1 m1 m2 d1 d2
  unfold dateV
  go_enter Tryd.func24, Tryd.ntmps24
  go_wp2_with fail
  generalize (w.alloc (.cells #[.int .i64 (y : Int), .int .i64 (mo : Int), .int .i64 (d : Int), .int .i64 (h : Int), .int .i64 (mi : Int), .int .i64 (s : Int)] 40)) = w1 at *
  generalize hg : w.heap.size = g at *
  have HG : Hid (w.heap.size = g) := hg
  clear hg
  refine wp_region_held_drew (S := fun w' => DateAt w' g (y : Int) (mo : Int) (d : Int) (h : Int) (mi : Int) (s : Int) ∧ Below g w w' ∧ Tab w') (by kernel_rfl) (⟨hD.below ((Below.refl _ _).drew), hB.drew, hT1.own ((Below.refl _ _).drew)⟩) (fun hHeld => ?_)
  clear hD hB hT1
  refine held_take 0 (some 7) (.int .i64 (Y : Nat)) rfl rfl (by kernel_rfl) (by kernel_rfl) (by kernel_rfl) (fun _ _ _ h => h) rfl (fun w' hS => ?_) hHeld ?_
  · clear hS; go_simp
  try simp only [Act.put, List.setIfInBounds_toArray, List.set_cons_zero, List.set_cons_succ]
  refine held_take 1 (some 8) (.int .i64 (a : Nat)) rfl rfl (by kernel_rfl) (by kernel_rfl) (by kernel_rfl) (fun _ _ _ h => h) rfl (fun w' hS => ?_) hHeld ?_
  · clear hS; go_simp
  try simp only [Act.put, List.setIfInBounds_toArray, List.set_cons_zero, List.set_cons_succ]
  refine held_take 2 (some 9) (.int .i64 (Y : Nat)) rfl rfl (by kernel_rfl) (by kernel_rfl) (by kernel_rfl) (fun _ _ _ h => h) rfl (fun w' hS => ?_) hHeld ?_
  · clear hS; go_simp
  try simp only [Act.put, List.setIfInBounds_toArray, List.set_cons_zero, List.set_cons_succ]
  refine held_take 3 (some 10) (.int .i64 (b : Nat)) rfl rfl (by kernel_rfl) (by kernel_rfl) (by kernel_rfl) (fun _ _ _ h => h) rfl (fun w' hS => ?_) hHeld ?_
  · clear hS; go_simp
  try simp only [Act.put, List.setIfInBounds_toArray, List.set_cons_zero, List.set_cons_succ]
  refine held_take 4 (some 11) (.int .i64 (c : Nat)) rfl rfl (by kernel_rfl) (by kernel_rfl) (by kernel_rfl) (fun _ _ _ h => h) rfl (fun w' hS => ?_) hHeld ?_
  · clear hS; go_simp
  try simp only [Act.put, List.setIfInBounds_toArray, List.set_cons_zero, List.set_cons_succ]
  refine held_take 5 (some 12) (.int .i64 (Y : Nat)) rfl rfl (by kernel_rfl) (by kernel_rfl) (by kernel_rfl) (fun _ _ _ h => h) rfl (fun w' hS => ?_) hHeld ?_
  · clear hS; go_simp
  try simp only [Act.put, List.setIfInBounds_toArray, List.set_cons_zero, List.set_cons_succ]
  refine held_take 6 (some 13) (.int .i64 (e : Nat)) rfl rfl (by kernel_rfl) (by kernel_rfl) (by kernel_rfl) (fun _ _ _ h => h) rfl (fun w' hS => ?_) hHeld ?_
  · clear hS; go_simp
  try simp only [Act.put, List.setIfInBounds_toArray, List.set_cons_zero, List.set_cons_succ]
  refine held_take 7 (some 14) (.int .i64 (f : Nat)) rfl rfl (by kernel_rfl) (by kernel_rfl) (by kernel_rfl) (fun _ _ _ h => h) rfl (fun w' hS => ?_) hHeld ?_
  · clear hS; go_simp
  try simp only [Act.put, List.setIfInBounds_toArray, List.set_cons_zero, List.set_cons_succ]
  refine held_take 8 (some 15) (.int .i64 (Y : Nat)) rfl rfl (by kernel_rfl) (by kernel_rfl) (by kernel_rfl) (fun _ _ _ h => h) rfl (fun w' hS => ?_) hHeld ?_
  · clear hS; go_simp
  try simp only [Act.put, List.setIfInBounds_toArray, List.set_cons_zero, List.set_cons_succ]
  refine held_take 9 (some 16) (.int .i64 (g4 : Nat)) rfl rfl (by kernel_rfl) (by kernel_rfl) (by kernel_rfl) (fun _ _ _ h => h) rfl (fun w' hS => ?_) hHeld ?_
  · clear hS; go_simp
  try simp only [Act.put, List.setIfInBounds_toArray, List.set_cons_zero, List.set_cons_succ]
  refine held_take 10 (some 17) (.int .i64 (i : Nat)) rfl rfl (by kernel_rfl) (by kernel_rfl) (by kernel_rfl) (fun _ _ _ h => h) rfl (fun w' hS => ?_) hHeld ?_
  · clear hS; go_simp
  try simp only [Act.put, List.setIfInBounds_toArray, List.set_cons_zero, List.set_cons_succ]
  refine held_take 11 (some 18) (dateV (y : Int) (mo : Int) (d : Int) (h : Int) (mi : Int) (s : Int)) rfl rfl (by kernel_rfl) (by kernel_rfl) (by kernel_rfl) (fun _ _ _ h => h) rfl (fun w' hS => ?_) hHeld ?_
  · exact held_yield (S := fun x => DateAt x g (y : Int) (mo : Int) (d : Int) (h : Int) (mi : Int) (s : Int) ∧ Below g w x ∧ Tab x) 40 (.tmp 1) rfl ⟨g, 0, none⟩ rfl _ (fun x k => k.1.load) w' hS
  try simp only [Act.put, List.setIfInBounds_toArray, List.set_cons_zero, List.set_cons_succ]
  refine held_take 12 (some 19) (.pointer (some ⟨g, 1, none⟩)) rfl rfl (by kernel_rfl) (by kernel_rfl) (by kernel_rfl) (fun _ _ _ h => h) rfl (fun w' hS => ?_) hHeld ?_
  · clear hS; go_simp
  try simp only [Act.put, List.setIfInBounds_toArray, List.set_cons_zero, List.set_cons_succ]
  refine held_take 13 (some 20) (.int .i64 (mo : Nat)) rfl rfl (by kernel_rfl) (by kernel_rfl) (by kernel_rfl) (fun _ _ _ h => h) rfl (fun w' hS => ?_) hHeld ?_
  · have hc := hS.1.cells.2.1; clear hS; go_simp
  try simp only [Act.put, List.setIfInBounds_toArray, List.set_cons_zero, List.set_cons_succ]
  refine held_take 16 (some 23) (.pointer (some ⟨g, 2, none⟩)) rfl rfl (by kernel_rfl) (by kernel_rfl) (by kernel_rfl) (fun _ _ _ h => h) rfl (fun w' hS => ?_) hHeld ?_
  · clear hS; go_simp
  try simp only [Act.put, List.setIfInBounds_toArray, List.set_cons_zero, List.set_cons_succ]
  refine held_take 17 (some 24) (.int .i64 (d : Nat)) rfl rfl (by kernel_rfl) (by kernel_rfl) (by kernel_rfl) (fun _ _ _ h => h) rfl (fun w' hS => ?_) hHeld ?_
  · have hc := hS.1.cells.2.2.1; clear hS; go_simp
  try simp only [Act.put, List.setIfInBounds_toArray, List.set_cons_zero, List.set_cons_succ]
  refine held_one (i := 14) (by kernel_rfl) rfl rfl (fun K hK => ?_)
  go_simp
  refine Calls.mono (HA.out _ hHeld.2.2) ?_
  rintro _ v1 ⟨rfl, hb1⟩
  dsimp only
  have hH1 : DateAt v1 g (y : Int) (mo : Int) (d : Int) (h : Int) (mi : Int) (s : Int) ∧ Below g w v1 ∧ Tab v1 := ⟨hHeld.1.below hb1, hHeld.2.1.trans (hb1.mono (Nat.le_of_lt hHeld.1.lt)), hHeld.2.2.own hb1⟩
  refine hK.out _ _ hH1 ?_
  clear hK K hb1 
  try simp only [Act.put, List.setIfInBounds_toArray, List.set_cons_zero, List.set_cons_succ]
  refine held_take 15 (some 22) (.int .i64 (j : Nat)) rfl rfl (by kernel_rfl) (by kernel_rfl) (by kernel_rfl) (fun _ _ _ h => h) rfl (fun w' hS => ?_) hH1 ?_
  · clear hS; go_simp
  try simp only [Act.put, List.setIfInBounds_toArray, List.set_cons_zero, List.set_cons_succ]
  refine held_take 18 (some 25) (.int .i64 (k : Nat)) rfl rfl (by kernel_rfl) (by kernel_rfl) (by kernel_rfl) (fun _ _ _ h => h) rfl (fun w' hS => ?_) hH1 ?_
  · clear hS; go_simp
  try simp only [Act.put, List.setIfInBounds_toArray, List.set_cons_zero, List.set_cons_succ]
  refine held_take 19 (some 26) (.int .i64 (l : Nat)) rfl rfl (by kernel_rfl) (by kernel_rfl) (by kernel_rfl) (fun _ _ _ h => h) rfl (fun w' hS => ?_) hH1 ?_
  · clear hS; go_simp
  try simp only [Act.put, List.setIfInBounds_toArray, List.set_cons_zero, List.set_cons_succ]
  refine held_take 20 (some 2) (.int .i64 (l : Nat)) rfl rfl (by kernel_rfl) (by kernel_rfl) (by kernel_rfl) (fun _ _ _ h => h) rfl (fun w' hS => ?_) hH1 ?_
  · clear hS; go_simp
  try simp only [Act.put, List.setIfInBounds_toArray, List.set_cons_zero, List.set_cons_succ]
  refine wpAnyH_done (by kernel_rfl) ?_ _
  have hfin := hH1.2.1
  clear hH1 hHeld
  go_wp2_with fail
  go_ret
  exact ⟨rfl, by rw [HG.out]; exact hfin⟩
end Go.Proofs.YtfgdfdjoidpejabDoor
