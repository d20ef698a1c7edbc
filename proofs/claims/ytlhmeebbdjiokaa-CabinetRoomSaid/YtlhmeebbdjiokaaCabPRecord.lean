/-
  The program's cabinet: record: a change is done, and kept.
-/
import Derived.Test.YtlhmeebbdjiokaaCabPRows
namespace Go.Proofs.Ytlhmeebbdjiokaa
open Go.ChangeShapes Go.WideShapes Go.ChangeAt Go.RowKit Go.Maps Go.MapKept Go.ChangeMaps
set_option linter.unusedVariables false
set_option linter.unusedSimpArgs false
/-- What a call leaves: the cabinet with the same files where they were. -/
def RawPost (w : World) (g : Nat) (O : Nat → Prop) (c : CabM) (tk : Nat) (A : Nat → Prop) (fa : Nat → Nat) (dv : Nat → Value) (w' : World) : Prop :=
  ∃ O' mn ml vs, ProgRaw w' g O' c tk A fa dv mn ml vs ∧ (∀ b, O' b → O b ∨ w.heap.size ≤ b) ∧ Apart O w w'
set_option maxRecDepth 100000 in
set_option maxHeartbeats 16000000 in
theorem precord_any (w : World) (g : Nat) (O : Nat → Prop) (c : CabM) (tk : Nat) (A : Nat → Prop) (fa : Nat → Nat) (dv : Nat → Value) (mn ml : Option Nat) (vs : Value) (h : ProgRaw w g O c tk A fa dv mn ml vs) (x : ByteArray × ByteArray × Nat) (kd : Nat) (pp : Option Addr)
    (hx : encG fa x = [.int .i64 (kd : Nat), .string x.1, .string x.2.1, .pointer pp]) (hb1 : c.now.length ≤ 1099511627776) (hb2 : c.wait.length ≤ 1099511627776) (hn : x.2.1.size ≤ maxLen) (ho : x.1.size ≤ maxLen) (hk : x.1.size = 0 → x.2.1.size ≠ 0) :
    Calls Try.prog 27 #[.pointer (some ⟨g, 0, none⟩), .agg #[.int .i64 (kd : Nat), .string x.1, .string x.2.1, .pointer pp]] w fun e w' => e = .returned (.tuple #[]) ∧ RawPost w g O (namesC c x) tk A fa dv w' := by
  have HX : Hid (encG fa x = [.int .i64 (kd : Nat), .string x.1, .string x.2.1, .pointer pp]) := hx
  have HK : Hid (x.1.size = 0 → x.2.1.size ≠ 0) := hk
  have HNL : Hid (x.2.1.size ≤ maxLen) := hn
  have HOL : Hid (x.1.size ≤ maxLen) := ho
  have hraw := h.below (below_new w (.cells #[.int .i64 (kd : Nat), .string x.1, .string x.2.1, .pointer pp] 76))
  obtain ⟨az, cs, hvs, -, -, -⟩ := h.since.at
  generalize hns : c.wait.length = ns at hvs
  subst hvs
  have HB2 : Hid (c.wait.length ≤ 1099511627776) := by unfold Hid; omega
  clear hns hb2 hx hk hn ho
  have x0 : (w.alloc (.cells #[.int .i64 (kd : Nat), .string x.1, .string x.2.1, .pointer pp] 76)).cell? ⟨w.heap.size, 0, none⟩ = some (.int .i64 (kd : Nat)) := by rw [cell_of_row _ w.heap.size _ _ _ _ (heap_alloc_last w _)]; rfl
  have x1 : (w.alloc (.cells #[.int .i64 (kd : Nat), .string x.1, .string x.2.1, .pointer pp] 76)).cell? ⟨w.heap.size, 1, none⟩ = some (.string x.1) := by rw [cell_of_row _ w.heap.size _ _ _ _ (heap_alloc_last w _)]; rfl
  have x2 : (w.alloc (.cells #[.int .i64 (kd : Nat), .string x.1, .string x.2.1, .pointer pp] 76)).cell? ⟨w.heap.size, 2, none⟩ = some (.string x.2.1) := by rw [cell_of_row _ w.heap.size _ _ _ _ (heap_alloc_last w _)]; rfl
  have x3 : (w.alloc (.cells #[.int .i64 (kd : Nat), .string x.1, .string x.2.1, .pointer pp] 76)).cell? ⟨w.heap.size, 3, none⟩ = some (.pointer pp) := by rw [cell_of_row _ w.heap.size _ _ _ _ (heap_alloc_last w _)]; rfl
  have HA1 : Hid (Apart O w (w.alloc (.cells #[.int .i64 (kd : Nat), .string x.1, .string x.2.1, .pointer pp] 76))) := apart_of (below_new w _) O
  have hp1 : w.heap.size < (w.alloc (.cells #[.int .i64 (kd : Nat), .string x.1, .string x.2.1, .pointer pp] 76)).heap.size := by simp
  have HWS : Hid (w.heap.size ≤ (w.alloc (.cells #[.int .i64 (kd : Nat), .string x.1, .string x.2.1, .pointer pp] 76)).heap.size) := Nat.le_of_lt hp1
  have HOP : Hid (¬ O w.heap.size) := fun e => absurd (h.lt _ e) (Nat.lt_irrefl _)
  have hgp : g < w.heap.size := h.lt g h.og
  clear h
  go_enter Try.func27, Try.ntmps27
  go_wp2_with fail
  generalize w.alloc (.cells #[.int .i64 (kd : Nat), .string x.1, .string x.2.1, .pointer pp] 76) = w1 at *
  obtain ⟨p, hp⟩ : ∃ p, p = w.heap.size := ⟨_, rfl⟩
  rw [← hp] at x0 x1 x2 x3 hp1 hgp HWS HOP
  have HPW : Hid (p = w.heap.size) := hp
  rw [← hp]
  have HRAW : Hid (ProgRaw w1.drew g O c tk A fa dv mn ml (.slice az ns cs)) := hraw.below (Below.refl _ _).drew
  have HAD : Hid (Apart O w w1.drew) := HA1.out.same (apart_of (Below.refl _ _).drew O)
  have hp1d : p < w1.drew.heap.size := hp1
  have HWSD : Hid (p ≤ w1.drew.heap.size) := HWS.out
  have hne : g ≠ p := by omega
  clear hraw HA1 hp
  refine wp_region_held_drew (S := fun w' => w'.cell? ⟨p, 0, none⟩ = some (.int .i64 (kd : Nat)) ∧ w'.cell? ⟨p, 1, none⟩ = some (.string x.1) ∧ w'.cell? ⟨p, 2, none⟩ = some (.string x.2.1) ∧ w'.cell? ⟨p, 3, none⟩ = some (.pointer pp)) (by kernel_rfl) (⟨x0, x1, x2, x3⟩) (fun hHeld => ?_)
  clear x0 x1 x2 x3 hp1 HWS
  generalize w1.drew = wd at *
  refine held_take 0 (some 4) (.pointer (some ⟨g, 0, none⟩)) rfl rfl (by kernel_rfl) (by kernel_rfl) (by kernel_rfl) (fun _ _ _ h => h) rfl (fun w' hS => ?_) hHeld ?_
  · clear hS; go_simp
  try simp only [Act.put, List.setIfInBounds_toArray, List.set_cons_zero, List.set_cons_succ]
  refine held_take 1 (some 5) (.pointer (some ⟨g, 0, none⟩)) rfl rfl (by kernel_rfl) (by kernel_rfl) (by kernel_rfl) (fun _ _ _ h => h) rfl (fun w' hS => ?_) hHeld ?_
  · clear hS; go_simp
  try simp only [Act.put, List.setIfInBounds_toArray, List.set_cons_zero, List.set_cons_succ]
  refine held_take 2 (some 6) (.pointer (some ⟨g, 0, none⟩)) rfl rfl (by kernel_rfl) (by kernel_rfl) (by kernel_rfl) (fun _ _ _ h => h) rfl (fun w' hS => ?_) hHeld ?_
  · clear hS; go_simp
  try simp only [Act.put, List.setIfInBounds_toArray, List.set_cons_zero, List.set_cons_succ]
  refine held_take 3 (some 7) (.pointer (some ⟨g, 0, none⟩)) rfl rfl (by kernel_rfl) (by kernel_rfl) (by kernel_rfl) (fun _ _ _ h => h) rfl (fun w' hS => ?_) hHeld ?_
  · clear hS; go_simp
  try simp only [Act.put, List.setIfInBounds_toArray, List.set_cons_zero, List.set_cons_succ]
  refine held_take 5 (some 9) (.agg #[.int .i64 (kd : Nat), .string x.1, .string x.2.1, .pointer pp]) rfl rfl (by kernel_rfl) (by kernel_rfl) (by kernel_rfl) (fun _ _ _ h => h) rfl (fun w' hS => ?_) hHeld ?_
  · obtain ⟨y0, y1, y2, y3⟩ := hS; go_simp
  try simp only [Act.put, List.setIfInBounds_toArray, List.set_cons_zero, List.set_cons_succ]
  have c0 := HRAW.out.cells.1
  refine held_one (i := 4) (by kernel_rfl) rfl rfl (fun K hK => ?_)
  go_simp
  refine hK.out _ _ hHeld ?_
  clear hK K
  try simp only [Act.put, List.setIfInBounds_toArray, List.set_cons_zero, List.set_cons_succ]
  refine held_one (i := 6) (by kernel_rfl) rfl rfl (fun K hK => ?_)
  go_simp
  have HWI : Hid _ := pwith_any wd mn c.now fa x HRAW.out.mapNow hb1 HNL.out HOL.out HK.out
  rw [HX.out] at HWI
  refine Calls.mono HWI.out ?_
  rintro _ w2 ⟨b2, rfl, hm2, hmb, ha2⟩
  dsimp only
  have hnp : ∀ k, k = p → mn ≠ some k := fun k e e' => HOP.out (e ▸ HRAW.out.on k e')
  have hS2 : w2.cell? ⟨p, 0, none⟩ = some (.int .i64 (kd : Nat)) ∧ w2.cell? ⟨p, 1, none⟩ = some (.string x.1) ∧ w2.cell? ⟨p, 2, none⟩ = some (.string x.2.1) ∧ w2.cell? ⟨p, 3, none⟩ = some (.pointer pp) := by
    have e := fun i => World.cell?_of_block (w := wd) (w' := w2) (a := ⟨p, i, none⟩) (ha2.block p hp1d (fun e => hnp p rfl e))
    exact ⟨(e 0).trans hHeld.1, (e 1).trans hHeld.2.1, (e 2).trans hHeld.2.2.1, (e 3).trans hHeld.2.2.2⟩
  obtain ⟨hc2, hf2⟩ := HRAW.out.midNow ha2
  obtain ⟨hraw3, ha3⟩ := HRAW.out.named ha2 hm2 hmb
  have HRAW3 : Hid (ProgRaw (w2.setCell ⟨g, 0, none⟩ (.map (some b2))) g (fun k => O k ∨ k = b2) { c with now := withC c.now x } tk A fa dv (some b2) ml (.slice az ns cs)) := hraw3
  have HA3 : Hid (Apart O w (w2.setCell ⟨g, 0, none⟩ (.map (some b2)))) := HAD.out.same ha3
  have HO3 : Hid (∀ k, (fun k => O k ∨ k = b2) k → O k ∨ p ≤ k) := by
    rintro k (e | e)
    · exact .inl e
    · rcases hmb with e' | ⟨_, e'⟩
      · exact .inl (HRAW.out.on k (e ▸ e'))
      · exact .inr (by rw [e]; exact Nat.le_trans HWSD.out e')
  have HPN : Hid (¬ (fun k => O k ∨ k = b2) p) := by
    rintro (e | e)
    · exact HOP.out e
    · rcases hmb with e' | ⟨_, e'⟩
      · exact hnp p rfl (e ▸ e')
      · omega
  have hp2 : p < w2.heap.size := Nat.lt_of_lt_of_le hp1d ha2.size
  have c0' : w2.cell? ⟨g, 0, none⟩ = some (.map mn) := (hc2 0).trans c0
  have f0' := hf2 0
  refine hK.out _ _ hS2 ?_
  clear hK K HRAW HAD c0 hHeld hm2 hmb ha2 hnp hc2 hf2 hraw3 ha3 HWI hp1d HWSD HOP hb1
  try simp only [Act.put, List.setIfInBounds_toArray, List.set_cons_zero, List.set_cons_succ]
  refine held_take 7 (some 11) (.pointer (some ⟨g, 0, none⟩)) rfl rfl (by kernel_rfl) (by kernel_rfl) (by kernel_rfl) (fun _ _ _ h => h) rfl (fun w' hS => ?_) hS2 ?_
  · clear hS; go_simp
  try simp only [Act.put, List.setIfInBounds_toArray, List.set_cons_zero, List.set_cons_succ]
  refine held_take 8 (some 12) (.pointer (some ⟨g, 0, none⟩)) rfl rfl (by kernel_rfl) (by kernel_rfl) (by kernel_rfl) (fun _ _ _ h => h) rfl (fun w' hS => ?_) hS2 ?_
  · clear hS; go_simp
  try simp only [Act.put, List.setIfInBounds_toArray, List.set_cons_zero, List.set_cons_succ]
  refine held_one (i := 9) (by kernel_rfl) rfl rfl (fun K hK => ?_)
  go_simp
  have HS3 : (w2.setCell ⟨g, 0, none⟩ (.map (some b2))).cell? ⟨p, 0, none⟩ = some (.int .i64 (kd : Nat)) ∧ (w2.setCell ⟨g, 0, none⟩ (.map (some b2))).cell? ⟨p, 1, none⟩ = some (.string x.1) ∧ (w2.setCell ⟨g, 0, none⟩ (.map (some b2))).cell? ⟨p, 2, none⟩ = some (.string x.2.1) ∧ (w2.setCell ⟨g, 0, none⟩ (.map (some b2))).cell? ⟨p, 3, none⟩ = some (.pointer pp) := by
    have e := fun i => World.cell?_of_block (w := w2) (w' := w2.setCell ⟨g, 0, none⟩ (.map (some b2))) (a := ⟨p, i, none⟩) (Below.heap_setCell w2 ⟨g, 0, none⟩ _ p (fun e => hne e.symm))
    exact ⟨(e 0).trans hS2.1, (e 1).trans hS2.2.1, (e 2).trans hS2.2.2.1, (e 3).trans hS2.2.2.2⟩
  have hp3 : p < (w2.setCell ⟨g, 0, none⟩ (.map (some b2))).heap.size := by simp [World.setCell]; exact hp2
  refine hK.out _ _ HS3 ?_
  clear hK K hS2 c0' f0' hp2
  generalize w2.setCell ⟨g, 0, none⟩ (.map (some b2)) = w3 at *
  try simp only [Act.put, List.setIfInBounds_toArray, List.set_cons_zero, List.set_cons_succ]
  refine wpAnyH_done (by kernel_rfl) ?_ _
  obtain ⟨y0, y1, y2, y3⟩ := HS3
  have HN : Hid (namesC c x = { ({ c with now := withC c.now x } : CabM) with wait := c.wait ++ [x] }) := rfl
  obtain ⟨c1, hc1⟩ : ∃ c1, c1 = ({ c with now := withC c.now x } : CabM) := ⟨_, rfl⟩
  have hcw : c1.wait = c.wait := by rw [hc1]
  rw [← hc1] at HRAW3 HN
  rw [← hcw] at HN HB2
  generalize (fun k => O k ∨ k = b2) = O3 at *
  have HRAW : Hid (ProgRaw w3.drew g O3 c1 tk A fa dv (some b2) ml (.slice az ns cs)) := HRAW3.out.below (Below.refl _ _).drew
  have HAD : Hid (Apart O w w3.drew) := HA3.out.same (apart_of (Below.refl _ _).drew O)
  have HO3' : Hid (∀ k, O3 k → O k ∨ p ≤ k) := HO3.out
  have HPN' : Hid (¬ O3 p) := HPN.out
  have z0 : w3.drew.cell? ⟨p, 0, none⟩ = some (.int .i64 (kd : Nat)) := y0
  have z1 : w3.drew.cell? ⟨p, 1, none⟩ = some (.string x.1) := y1
  have z2 : w3.drew.cell? ⟨p, 2, none⟩ = some (.string x.2.1) := y2
  have z3 : w3.drew.cell? ⟨p, 3, none⟩ = some (.pointer pp) := y3
  have hp3d : p < w3.drew.heap.size := hp3
  clear hc1 hcw HRAW3 HA3 y0 y1 y2 y3 hp3 HO3 HPN
  go_wp2_with fail
  refine wp_region_held_drew (S := fun w' => w'.cell? ⟨p, 0, none⟩ = some (.int .i64 (kd : Nat)) ∧ w'.cell? ⟨p, 1, none⟩ = some (.string x.1) ∧ w'.cell? ⟨p, 2, none⟩ = some (.string x.2.1) ∧ w'.cell? ⟨p, 3, none⟩ = some (.pointer pp)) (by kernel_rfl) (⟨z0, z1, z2, z3⟩) (fun hHeld => ?_)
  clear z0 z1 z2 z3
  generalize w3.drew = we at *
  refine held_take 0 (some 13) (.pointer (some ⟨g, 0, none⟩)) rfl rfl (by kernel_rfl) (by kernel_rfl) (by kernel_rfl) (fun _ _ _ h => h) rfl (fun w' hS => ?_) hHeld ?_
  · clear hS; go_simp
  try simp only [Act.put, List.setIfInBounds_toArray, List.set_cons_zero, List.set_cons_succ]
  refine held_take 1 (some 14) (.pointer (some ⟨g, 0, none⟩)) rfl rfl (by kernel_rfl) (by kernel_rfl) (by kernel_rfl) (fun _ _ _ h => h) rfl (fun w' hS => ?_) hHeld ?_
  · clear hS; go_simp
  try simp only [Act.put, List.setIfInBounds_toArray, List.set_cons_zero, List.set_cons_succ]
  refine held_take 2 (some 15) (.pointer (some ⟨g, 0, none⟩)) rfl rfl (by kernel_rfl) (by kernel_rfl) (by kernel_rfl) (fun _ _ _ h => h) rfl (fun w' hS => ?_) hHeld ?_
  · clear hS; go_simp
  try simp only [Act.put, List.setIfInBounds_toArray, List.set_cons_zero, List.set_cons_succ]
  refine held_take 3 (some 16) (.pointer (some ⟨g, 2, none⟩)) rfl rfl (by kernel_rfl) (by kernel_rfl) (by kernel_rfl) (fun _ _ _ h => h) rfl (fun w' hS => ?_) hHeld ?_
  · clear hS; go_simp
  try simp only [Act.put, List.setIfInBounds_toArray, List.set_cons_zero, List.set_cons_succ]
  refine held_take 5 (some 18) (.agg #[.int .i64 (kd : Nat), .string x.1, .string x.2.1, .pointer pp]) rfl rfl (by kernel_rfl) (by kernel_rfl) (by kernel_rfl) (fun _ _ _ h => h) rfl (fun w' hS => ?_) hHeld ?_
  · obtain ⟨y0, y1, y2, y3⟩ := hS; go_simp
  try simp only [Act.put, List.setIfInBounds_toArray, List.set_cons_zero, List.set_cons_succ]
  have c2 := HRAW.out.cells.2.2.1
  have HB5 : Hid (Below we.heap.size we (we.alloc (.cells #[.int .i64 (kd : Nat), .string x.1, .string x.2.1, .pointer pp] 76))) := below_new we _
  have hS5 : (we.alloc (.cells #[.int .i64 (kd : Nat), .string x.1, .string x.2.1, .pointer pp] 76)).cell? ⟨p, 0, none⟩ = some (.int .i64 (kd : Nat)) ∧ (we.alloc (.cells #[.int .i64 (kd : Nat), .string x.1, .string x.2.1, .pointer pp] 76)).cell? ⟨p, 1, none⟩ = some (.string x.1) ∧ (we.alloc (.cells #[.int .i64 (kd : Nat), .string x.1, .string x.2.1, .pointer pp] 76)).cell? ⟨p, 2, none⟩ = some (.string x.2.1) ∧ (we.alloc (.cells #[.int .i64 (kd : Nat), .string x.1, .string x.2.1, .pointer pp] 76)).cell? ⟨p, 3, none⟩ = some (.pointer pp) := ⟨(HB5.out.cell (p := ⟨p, 0, none⟩) hp3d).trans hHeld.1, (HB5.out.cell (p := ⟨p, 1, none⟩) hp3d).trans hHeld.2.1, (HB5.out.cell (p := ⟨p, 2, none⟩) hp3d).trans hHeld.2.2.1, (HB5.out.cell (p := ⟨p, 3, none⟩) hp3d).trans hHeld.2.2.2⟩
  have HRAW5 : Hid (ProgRaw (we.alloc (.cells #[.int .i64 (kd : Nat), .string x.1, .string x.2.1, .pointer pp] 76)) g O3 c1 tk A fa dv (some b2) ml (.slice az ns cs)) := HRAW.out.below HB5.out
  have HA5 : Hid (Apart O w (we.alloc (.cells #[.int .i64 (kd : Nat), .string x.1, .string x.2.1, .pointer pp] 76))) := HAD.out.same (apart_of HB5.out O)
  have hq5 : (we.alloc (.cells #[.int .i64 (kd : Nat), .string x.1, .string x.2.1, .pointer pp] 76)).heap[we.heap.size]? = some (.cells #[.int .i64 (kd : Nat), .string x.1, .string x.2.1, .pointer pp] 76 (0, 0)) := heap_alloc_last we _
  have c2' := HRAW5.out.cells.2.2.1
  have hp5 : p < (we.alloc (.cells #[.int .i64 (kd : Nat), .string x.1, .string x.2.1, .pointer pp] 76)).heap.size := Nat.lt_of_lt_of_le hp3d HB5.out.size
  have HPW5 : Hid (p ≤ (we.alloc (.cells #[.int .i64 (kd : Nat), .string x.1, .string x.2.1, .pointer pp] 76)).heap.size) := Nat.le_of_lt hp5
  refine held_two (i := 4) (j := 6) (by kernel_rfl) rfl rfl rfl rfl (fun K hK => ?_) (fun K hK => ?_)
  · go_simp
    refine hK.out _ _ hHeld ?_
    clear hK K
    try simp only [Act.put, List.setIfInBounds_toArray, List.set_cons_zero, List.set_cons_succ]
    refine held_one (i := 6) (by kernel_rfl) rfl rfl (fun K hK => ?_)
    go_simp
    refine hK.out _ _ hS5 ?_
    clear hK K hHeld
    try simp only [Act.put, List.setIfInBounds_toArray, List.set_cons_zero, List.set_cons_succ]
    generalize we.alloc (.cells #[.int .i64 (kd : Nat), .string x.1, .string x.2.1, .pointer pp] 76) = w5 at *
    generalize we.heap.size = q at *
    refine held_one (i := 7) (by kernel_rfl) rfl rfl (fun K hK => ?_)
    refine appendG_at w5 _ _ rfl (.slice az ns cs) fa c1.wait rfl HRAW5.out.since q x kd x.1 x.2.1 pp HX.out rfl hq5 HB2.out (some 20) rfl ?_
    intro v6 w6 hown6 hgr6 hbk6
    obtain ⟨hc6, hf6⟩ := HRAW5.out.midSince hgr6
    obtain ⟨hraw7, ha7⟩ := HRAW5.out.waits hgr6 hown6 hbk6
    obtain ⟨a6, n6, k6, hv6⟩ := hown6.slice
    subst hv6
    have c26 : w6.cell? ⟨g, 2, none⟩ = some (.slice az ns cs) := (hc6 2).trans c2'
    have f26 := hf6 2
    have hpw : (Value.slice az ns cs).ownBlock ≠ some p := fun e => HPN'.out (HRAW5.out.os p e)
    have hS6 : w6.cell? ⟨p, 0, none⟩ = some (.int .i64 (kd : Nat)) ∧ w6.cell? ⟨p, 1, none⟩ = some (.string x.1) ∧ w6.cell? ⟨p, 2, none⟩ = some (.string x.2.1) ∧ w6.cell? ⟨p, 3, none⟩ = some (.pointer pp) := by
      have e := fun i => World.cell?_of_block (w := w5) (w' := w6) (a := ⟨p, i, none⟩) (grown_ne hgr6 hp5 hpw)
      exact ⟨(e 0).trans hS5.1, (e 1).trans hS5.2.1, (e 2).trans hS5.2.2.1, (e 3).trans hS5.2.2.2⟩
    refine hK.out _ _ hS6 ?_
    clear hK K
    try simp only [Act.put, List.setIfInBounds_toArray, List.set_cons_zero, List.set_cons_succ]
    refine held_take 8 (some 21) (.pointer (some ⟨g, 0, none⟩)) rfl rfl (by kernel_rfl) (by kernel_rfl) (by kernel_rfl) (fun _ _ _ h => h) rfl (fun w' hS => ?_) hS6 ?_
    · clear hS; go_simp
    try simp only [Act.put, List.setIfInBounds_toArray, List.set_cons_zero, List.set_cons_succ]
    refine held_take 9 (some 22) (.pointer (some ⟨g, 2, none⟩)) rfl rfl (by kernel_rfl) (by kernel_rfl) (by kernel_rfl) (fun _ _ _ h => h) rfl (fun w' hS => ?_) hS6 ?_
    · clear hS; go_simp
    try simp only [Act.put, List.setIfInBounds_toArray, List.set_cons_zero, List.set_cons_succ]
    refine held_one (i := 10) (by kernel_rfl) rfl rfl (fun K hK => ?_)
    go_simp
    have HS7 : (w6.setCell ⟨g, 2, none⟩ (.slice a6 n6 k6)).cell? ⟨p, 0, none⟩ = some (.int .i64 (kd : Nat)) ∧ (w6.setCell ⟨g, 2, none⟩ (.slice a6 n6 k6)).cell? ⟨p, 1, none⟩ = some (.string x.1) ∧ (w6.setCell ⟨g, 2, none⟩ (.slice a6 n6 k6)).cell? ⟨p, 2, none⟩ = some (.string x.2.1) ∧ (w6.setCell ⟨g, 2, none⟩ (.slice a6 n6 k6)).cell? ⟨p, 3, none⟩ = some (.pointer pp) := by
      have e := fun i => World.cell?_of_block (w := w6) (w' := w6.setCell ⟨g, 2, none⟩ (.slice a6 n6 k6)) (a := ⟨p, i, none⟩) (Below.heap_setCell w6 ⟨g, 2, none⟩ _ p (fun e => hne e.symm))
      exact ⟨(e 0).trans hS6.1, (e 1).trans hS6.2.1, (e 2).trans hS6.2.2.1, (e 3).trans hS6.2.2.2⟩
    refine hK.out _ _ HS7 ?_
    have HPF : Hid (RawPost w g O (namesC c x) tk A fa dv (w6.setCell ⟨g, 2, none⟩ (.slice a6 n6 k6))) := by
      unfold Hid
      rw [HN.out]
      refine ⟨_, _, _, _, hraw7, ?_, HA5.out.trans ha7 (fun k e => by rw [← HPW.out]; exact HO3'.out k e)⟩
      rintro k (e | e)
      · rw [← HPW.out]; exact HO3'.out k e
      · rcases hbk6 k e with e | e
        · rw [← HPW.out]; exact HO3'.out k (HRAW5.out.os k e)
        · rw [← HPW.out]; exact .inr (Nat.le_trans HPW5.out e)
    clear hK K HS7 hS6 hraw7 ha7 hgr6 hown6 hbk6 c26 f26 hc6 hf6
    try simp only [Act.put, List.setIfInBounds_toArray, List.set_cons_zero, List.set_cons_succ]
    refine wpAnyH_done (by kernel_rfl) ?_ _
    go_wp2_with fail
    go_end0
    exact ⟨rfl, HPF.out⟩
  · go_simp
    refine hK.out _ _ hS5 ?_
    clear hK K hHeld
    try simp only [Act.put, List.setIfInBounds_toArray, List.set_cons_zero, List.set_cons_succ]
    refine held_one (i := 4) (by kernel_rfl) rfl rfl (fun K hK => ?_)
    go_simp
    refine hK.out _ _ hS5 ?_
    clear hK K
    try simp only [Act.put, List.setIfInBounds_toArray, List.set_cons_zero, List.set_cons_succ]
    generalize we.alloc (.cells #[.int .i64 (kd : Nat), .string x.1, .string x.2.1, .pointer pp] 76) = w5 at *
    generalize we.heap.size = q at *
    refine held_one (i := 7) (by kernel_rfl) rfl rfl (fun K hK => ?_)
    refine appendG_at w5 _ _ rfl (.slice az ns cs) fa c1.wait rfl HRAW5.out.since q x kd x.1 x.2.1 pp HX.out rfl hq5 HB2.out (some 20) rfl ?_
    intro v6 w6 hown6 hgr6 hbk6
    obtain ⟨hc6, hf6⟩ := HRAW5.out.midSince hgr6
    obtain ⟨hraw7, ha7⟩ := HRAW5.out.waits hgr6 hown6 hbk6
    obtain ⟨a6, n6, k6, hv6⟩ := hown6.slice
    subst hv6
    have c26 : w6.cell? ⟨g, 2, none⟩ = some (.slice az ns cs) := (hc6 2).trans c2'
    have f26 := hf6 2
    have hpw : (Value.slice az ns cs).ownBlock ≠ some p := fun e => HPN'.out (HRAW5.out.os p e)
    have hS6 : w6.cell? ⟨p, 0, none⟩ = some (.int .i64 (kd : Nat)) ∧ w6.cell? ⟨p, 1, none⟩ = some (.string x.1) ∧ w6.cell? ⟨p, 2, none⟩ = some (.string x.2.1) ∧ w6.cell? ⟨p, 3, none⟩ = some (.pointer pp) := by
      have e := fun i => World.cell?_of_block (w := w5) (w' := w6) (a := ⟨p, i, none⟩) (grown_ne hgr6 hp5 hpw)
      exact ⟨(e 0).trans hS5.1, (e 1).trans hS5.2.1, (e 2).trans hS5.2.2.1, (e 3).trans hS5.2.2.2⟩
    refine hK.out _ _ hS6 ?_
    clear hK K
    try simp only [Act.put, List.setIfInBounds_toArray, List.set_cons_zero, List.set_cons_succ]
    refine held_take 8 (some 21) (.pointer (some ⟨g, 0, none⟩)) rfl rfl (by kernel_rfl) (by kernel_rfl) (by kernel_rfl) (fun _ _ _ h => h) rfl (fun w' hS => ?_) hS6 ?_
    · clear hS; go_simp
    try simp only [Act.put, List.setIfInBounds_toArray, List.set_cons_zero, List.set_cons_succ]
    refine held_take 9 (some 22) (.pointer (some ⟨g, 2, none⟩)) rfl rfl (by kernel_rfl) (by kernel_rfl) (by kernel_rfl) (fun _ _ _ h => h) rfl (fun w' hS => ?_) hS6 ?_
    · clear hS; go_simp
    try simp only [Act.put, List.setIfInBounds_toArray, List.set_cons_zero, List.set_cons_succ]
    refine held_one (i := 10) (by kernel_rfl) rfl rfl (fun K hK => ?_)
    go_simp
    have HS7 : (w6.setCell ⟨g, 2, none⟩ (.slice a6 n6 k6)).cell? ⟨p, 0, none⟩ = some (.int .i64 (kd : Nat)) ∧ (w6.setCell ⟨g, 2, none⟩ (.slice a6 n6 k6)).cell? ⟨p, 1, none⟩ = some (.string x.1) ∧ (w6.setCell ⟨g, 2, none⟩ (.slice a6 n6 k6)).cell? ⟨p, 2, none⟩ = some (.string x.2.1) ∧ (w6.setCell ⟨g, 2, none⟩ (.slice a6 n6 k6)).cell? ⟨p, 3, none⟩ = some (.pointer pp) := by
      have e := fun i => World.cell?_of_block (w := w6) (w' := w6.setCell ⟨g, 2, none⟩ (.slice a6 n6 k6)) (a := ⟨p, i, none⟩) (Below.heap_setCell w6 ⟨g, 2, none⟩ _ p (fun e => hne e.symm))
      exact ⟨(e 0).trans hS6.1, (e 1).trans hS6.2.1, (e 2).trans hS6.2.2.1, (e 3).trans hS6.2.2.2⟩
    refine hK.out _ _ HS7 ?_
    have HPF : Hid (RawPost w g O (namesC c x) tk A fa dv (w6.setCell ⟨g, 2, none⟩ (.slice a6 n6 k6))) := by
      unfold Hid
      rw [HN.out]
      refine ⟨_, _, _, _, hraw7, ?_, HA5.out.trans ha7 (fun k e => by rw [← HPW.out]; exact HO3'.out k e)⟩
      rintro k (e | e)
      · rw [← HPW.out]; exact HO3'.out k e
      · rcases hbk6 k e with e | e
        · rw [← HPW.out]; exact HO3'.out k (HRAW5.out.os k e)
        · rw [← HPW.out]; exact .inr (Nat.le_trans HPW5.out e)
    clear hK K HS7 hS6 hraw7 ha7 hgr6 hown6 hbk6 c26 f26 hc6 hf6
    try simp only [Act.put, List.setIfInBounds_toArray, List.set_cons_zero, List.set_cons_succ]
    refine wpAnyH_done (by kernel_rfl) ?_ _
    go_wp2_with fail
    go_end0
    exact ⟨rfl, HPF.out⟩
end Go.Proofs.Ytlhmeebbdjiokaa
