/-
  The program's cabinet: settle: so many changes of names last.
-/
import Derived.Test.YtlhmeebbdjiokaaCabPRecord
namespace Go.Proofs.Ytlhmeebbdjiokaa
open Go.ChangeShapes Go.WideShapes Go.ChangeAt Go.RowKit Go.Maps Go.MapKept Go.ChangeMaps
set_option linter.unusedVariables false
set_option linter.unusedSimpArgs false
def sureC (c : CabM) (l : List (ByteArray × Nat)) : CabM := { c with sure := l }
theorem OwnG.pp {fa : Nat → Nat} (x : ByteArray × ByteArray × Nat) : ∃ kd pp, encG fa x = [.int .i64 (kd : Nat), .string x.1, .string x.2.1, .pointer pp] := by
  unfold encG
  by_cases h : kindG x = 2
  · exact ⟨_, none, by rw [if_pos h]⟩
  · exact ⟨_, _, by rw [if_neg h]⟩
theorem ProgRaw.waitAt {w : World} {g : Nat} {O : Nat → Prop} {c : CabM} {tk : Nat} {A : Nat → Prop} {fa : Nat → Nat} {dv : Nat → Value} {mn ml : Option Nat} {az : Option Addr} {ns cs : Nat} (h : ProgRaw w g O c tk A fa dv mn ml (.slice az ns cs)) (i : Nat) (hi : i < c.wait.length) :
    ∃ b, az = some ⟨b, 0, none⟩ ∧ b < w.heap.size ∧ ∀ j, j < 4 → w.cell? ⟨b, i * 4 + j, none⟩ = (encG fa (chgAt c.wait i))[j]? := by
  obtain ⟨a, cap, hv, -, -, hr⟩ := h.since.at
  injection hv with h1 h2 h3
  obtain ⟨b, hb, -, hl, hc⟩ := hr i hi
  exact ⟨b, h1.trans hb, hl, hc⟩
theorem ownG_nil (w : World) (fa : Nat → Nat) : OwnG w (.slice none 0 0) fa [] := ⟨rfl, .inl ⟨rfl, rfl⟩⟩
set_option maxRecDepth 100000 in
set_option maxHeartbeats 16000000 in
theorem psettle_any (w : World) (g : Nat) (O : Nat → Prop) (c : CabM) (tk : Nat) (A : Nat → Prop) (fa : Nat → Nat) (dv : Nat → Value) (mn ml : Option Nat) (vs : Value) (h : ProgRaw w g O c tk A fa dv mn ml vs) (n : Nat) (hn : n ≤ c.wait.length)
    (hb1 : ∀ k, ((c.wait.take k).foldl withC c.sure).length ≤ 1099511627776) (hb2 : c.wait.length ≤ 1099511627776) (hx : ∀ x ∈ c.wait, x.2.1.size ≤ maxLen ∧ x.1.size ≤ maxLen ∧ (x.1.size = 0 → x.2.1.size ≠ 0)) :
    Calls Try.prog 29 #[.pointer (some ⟨g, 0, none⟩), .int .i64 (n : Nat)] w fun e w' => e = .returned (.tuple #[]) ∧ RawPost w g O { c with sure := (c.wait.take n).foldl withC c.sure, wait := [] } tk A fa dv w' := by
  obtain ⟨az, cs, hvs, hlc, hcm, hrow⟩ := h.since.at
  have c2 := h.cells.2.2.1
  rw [hvs] at c2
  obtain ⟨ns, hns⟩ : ∃ ns, ns = c.wait.length := ⟨_, rfl⟩
  rw [← hns] at c2 hvs hlc hn hb2
  have HNS : Hid (ns = c.wait.length) := hns
  have hncs : n ≤ cs := by omega
  have HRAW0 : Hid (ProgRaw w g O (sureC c ((c.wait.take 0).foldl withC c.sure)) tk A fa dv mn ml (.slice az ns cs)) := by rw [← hvs]; exact h
  have HBN : Hid (∀ k, ((c.wait.take k).foldl withC c.sure).length ≤ 1099511627776) := hb1
  have HXN : Hid (∀ x ∈ c.wait, x.2.1.size ≤ maxLen ∧ x.1.size ≤ maxLen ∧ (x.1.size = 0 → x.2.1.size ≠ 0)) := hx
  clear hrow h hns hvs hcm hb1 hx
  go_enter Try.func29, Try.ntmps29
  go_wp2_with fail
  clear c2
  go_loopw [13] (fun ix wr => ∃ (wz : World) (i : Nat) (O1 : Nat → Prop) (m1 : Option Nat), wz = wr ∧ ix = .int .i64 i ∧ i ≤ n ∧ ProgRaw wz g O1 (sureC c ((c.wait.take i).foldl withC c.sure)) tk A fa dv mn m1 (.slice az ns cs) ∧ (∀ b, O1 b → O b ∨ w.heap.size ≤ b) ∧ Apart O w wz) (fun ix _ => n - (intOf ix).toNat)
  case atStart => exact ⟨_, 0, O, ml, rfl, rfl, Nat.zero_le _, HRAW0.out, fun _ h => .inl h, Apart.refl _ _⟩
  case round =>
    clear HRAW0
    obtain ⟨wr, i, O1, m1, hwr, rfl, hi, hraw, hO1, ha1⟩ := hrel
    subst hwr
    have HRAW : Hid (ProgRaw wr g O1 (sureC c ((c.wait.take i).foldl withC c.sure)) tk A fa dv mn m1 (.slice az ns cs)) := hraw
    have HO1 : Hid (∀ b, O1 b → O b ∨ w.heap.size ≤ b) := hO1
    have HA1 : Hid (Apart O w wr) := ha1
    clear hraw hO1 ha1
    by_cases hlt : i < n
    · have hii : (i : Int) < (n : Int) := by omega
      have hiw : i < c.wait.length := by rw [← HNS.out]; omega
      obtain ⟨b, hab, hbl, hcl⟩ : ∃ b, az = some ⟨b, 0, none⟩ ∧ b < wr.heap.size ∧ ∀ j, j < 4 → wr.cell? ⟨b, i * 4 + j, none⟩ = (encG fa (chgAt c.wait i))[j]? := HRAW.out.waitAt i hiw
      subst hab
      obtain ⟨kd, pp, hx4⟩ := OwnG.pp (fa := fa) (chgAt c.wait i)
      have e0 : wr.cell? ⟨b, i * 4, none⟩ = some (.int .i64 (kd : Nat)) := by have := hcl 0 (by omega); rw [hx4] at this; exact this
      have e1 : wr.cell? ⟨b, i * 4 + 1, none⟩ = some (.string (chgAt c.wait i).1) := by have := hcl 1 (by omega); rw [hx4] at this; exact this
      have e2 : wr.cell? ⟨b, i * 4 + 2, none⟩ = some (.string (chgAt c.wait i).2.1) := by have := hcl 2 (by omega); rw [hx4] at this; exact this
      have e3 : wr.cell? ⟨b, i * 4 + 3, none⟩ = some (.pointer pp) := by have := hcl 3 (by omega); rw [hx4] at this; exact this
      have HX : Hid (encG fa (chgAt c.wait i) = [.int .i64 (kd : Nat), .string (chgAt c.wait i).1, .string (chgAt c.wait i).2.1, .pointer pp]) := hx4
      have HFX : Hid ((chgAt c.wait i).2.1.size ≤ maxLen ∧ (chgAt c.wait i).1.size ≤ maxLen ∧ ((chgAt c.wait i).1.size = 0 → (chgAt c.wait i).2.1.size ≠ 0)) := HXN.out _ (by unfold chgAt; rw [List.getD_eq_getElem?_getD, List.getElem?_eq_getElem hiw]; exact List.getElem_mem hiw)
      have HST : Hid ((c.wait.take (i + 1)).foldl withC c.sure = withC ((c.wait.take i).foldl withC c.sure) (chgAt c.wait i)) := by
        unfold Hid chgAt
        rw [List.take_succ_eq_append_getElem hiw, List.foldl_append, List.getD_eq_getElem?_getD, List.getElem?_eq_getElem hiw]
        rfl
      clear hx4 hcl hiw
      generalize chgAt c.wait i = x at *
      go_wp2_with fail
      clear e0 e1 e2 e3 hbl
      obtain ⟨l0, hl0⟩ : ∃ l0, l0 = (c.wait.take i).foldl withC c.sure := ⟨_, rfl⟩
      have HBL : Hid (l0.length ≤ 1099511627776) := by unfold Hid; rw [hl0]; exact HBN.out i
      rw [← hl0] at HST HRAW
      clear hl0
      have hp1 : wr.heap.size < (wr.alloc (.cells #[.int .i64 (kd : Nat), .string x.1, .string x.2.1, .pointer pp] 76)).heap.size := by simp
      have x0 : (wr.alloc (.cells #[.int .i64 (kd : Nat), .string x.1, .string x.2.1, .pointer pp] 76)).cell? ⟨wr.heap.size, 0, none⟩ = some (.int .i64 (kd : Nat)) := by rw [cell_of_row _ wr.heap.size _ _ _ _ (heap_alloc_last wr _)]; rfl
      have x1 : (wr.alloc (.cells #[.int .i64 (kd : Nat), .string x.1, .string x.2.1, .pointer pp] 76)).cell? ⟨wr.heap.size, 1, none⟩ = some (.string x.1) := by rw [cell_of_row _ wr.heap.size _ _ _ _ (heap_alloc_last wr _)]; rfl
      have x2 : (wr.alloc (.cells #[.int .i64 (kd : Nat), .string x.1, .string x.2.1, .pointer pp] 76)).cell? ⟨wr.heap.size, 2, none⟩ = some (.string x.2.1) := by rw [cell_of_row _ wr.heap.size _ _ _ _ (heap_alloc_last wr _)]; rfl
      have x3 : (wr.alloc (.cells #[.int .i64 (kd : Nat), .string x.1, .string x.2.1, .pointer pp] 76)).cell? ⟨wr.heap.size, 3, none⟩ = some (.pointer pp) := by rw [cell_of_row _ wr.heap.size _ _ _ _ (heap_alloc_last wr _)]; rfl
      have HA2 : Hid (Apart O w (wr.alloc (.cells #[.int .i64 (kd : Nat), .string x.1, .string x.2.1, .pointer pp] 76))) := HA1.out.same (apart_of (below_new wr _) O)
      have HR1 : Hid (ProgRaw (wr.alloc (.cells #[.int .i64 (kd : Nat), .string x.1, .string x.2.1, .pointer pp] 76)) g O1 (sureC c l0) tk A fa dv mn m1 (.slice (some ⟨b, 0, none⟩) ns cs)) := HRAW.out.below (below_new wr _)
      have HOP : Hid (¬ O1 wr.heap.size) := fun e => absurd (HRAW.out.lt _ e) (Nat.lt_irrefl _)
      have HWZ : Hid (w.heap.size ≤ wr.heap.size) := HA1.out.size
      have hne : g ≠ wr.heap.size := fun e => HOP.out (e ▸ HRAW.out.og)
      clear HRAW HA1
      generalize wr.alloc (.cells #[.int .i64 (kd : Nat), .string x.1, .string x.2.1, .pointer pp] 76) = w1 at *
      generalize wr.heap.size = p at *
      have HRAW : Hid (ProgRaw w1.drew g O1 (sureC c l0) tk A fa dv mn m1 (.slice (some ⟨b, 0, none⟩) ns cs)) := HR1.out.below (Below.refl _ _).drew
      have HAD : Hid (Apart O w w1.drew) := HA2.out.same (apart_of (Below.refl _ _).drew O)
      have hp1d : p < w1.drew.heap.size := hp1
      clear HR1 HA2
      refine wp_region_held_drew (S := fun w' => w'.cell? ⟨p, 0, none⟩ = some (.int .i64 (kd : Nat)) ∧ w'.cell? ⟨p, 1, none⟩ = some (.string x.1) ∧ w'.cell? ⟨p, 2, none⟩ = some (.string x.2.1) ∧ w'.cell? ⟨p, 3, none⟩ = some (.pointer pp)) (by kernel_rfl) (⟨x0, x1, x2, x3⟩) (fun hHeld => ?_)
      clear x0 x1 x2 x3 hp1
      generalize w1.drew = wd at *
      refine held_take 0 (some 17) (.pointer (some ⟨g, 0, none⟩)) rfl rfl (by kernel_rfl) (by kernel_rfl) (by kernel_rfl) (fun _ _ _ h => h) rfl (fun w' hS => ?_) hHeld ?_
      · clear hS; go_simp
      try simp only [Act.put, List.setIfInBounds_toArray, List.set_cons_zero, List.set_cons_succ]
      refine held_take 1 (some 18) (.pointer (some ⟨g, 0, none⟩)) rfl rfl (by kernel_rfl) (by kernel_rfl) (by kernel_rfl) (fun _ _ _ h => h) rfl (fun w' hS => ?_) hHeld ?_
      · clear hS; go_simp
      try simp only [Act.put, List.setIfInBounds_toArray, List.set_cons_zero, List.set_cons_succ]
      refine held_take 2 (some 19) (.pointer (some ⟨g, 0, none⟩)) rfl rfl (by kernel_rfl) (by kernel_rfl) (by kernel_rfl) (fun _ _ _ h => h) rfl (fun w' hS => ?_) hHeld ?_
      · clear hS; go_simp
      try simp only [Act.put, List.setIfInBounds_toArray, List.set_cons_zero, List.set_cons_succ]
      refine held_take 3 (some 20) (.pointer (some ⟨g, 1, none⟩)) rfl rfl (by kernel_rfl) (by kernel_rfl) (by kernel_rfl) (fun _ _ _ h => h) rfl (fun w' hS => ?_) hHeld ?_
      · clear hS; go_simp
      try simp only [Act.put, List.setIfInBounds_toArray, List.set_cons_zero, List.set_cons_succ]
      refine held_take 5 (some 22) (.agg #[.int .i64 (kd : Nat), .string x.1, .string x.2.1, .pointer pp]) rfl rfl (by kernel_rfl) (by kernel_rfl) (by kernel_rfl) (fun _ _ _ h => h) rfl (fun w' hS => ?_) hHeld ?_
      · obtain ⟨y0, y1, y2, y3⟩ := hS; go_simp
      try simp only [Act.put, List.setIfInBounds_toArray, List.set_cons_zero, List.set_cons_succ]
      have c1 := HRAW.out.cells.2.1
      refine held_one (i := 4) (by kernel_rfl) rfl rfl (fun K hK => ?_)
      go_simp
      refine hK.out _ _ hHeld ?_
      clear hK K
      try simp only [Act.put, List.setIfInBounds_toArray, List.set_cons_zero, List.set_cons_succ]
      refine held_one (i := 6) (by kernel_rfl) rfl rfl (fun K hK => ?_)
      go_simp
      have HWI : Hid _ := pwith_any wd m1 l0 fa x HRAW.out.mapLast HBL.out HFX.out.1 HFX.out.2.1 HFX.out.2.2
      rw [HX.out] at HWI
      refine Calls.mono HWI.out ?_
      rintro _ w2 ⟨b2, rfl, hm2, hmb, ha2⟩
      dsimp only
      have hnp : ∀ k, k = p → m1 ≠ some k := fun k e e' => HOP.out (e ▸ HRAW.out.ol k e')
      have hS2 : w2.cell? ⟨p, 0, none⟩ = some (.int .i64 (kd : Nat)) ∧ w2.cell? ⟨p, 1, none⟩ = some (.string x.1) ∧ w2.cell? ⟨p, 2, none⟩ = some (.string x.2.1) ∧ w2.cell? ⟨p, 3, none⟩ = some (.pointer pp) := by
        have e := fun i => World.cell?_of_block (w := wd) (w' := w2) (a := ⟨p, i, none⟩) (ha2.block p hp1d (fun e => hnp p rfl e))
        exact ⟨(e 0).trans hHeld.1, (e 1).trans hHeld.2.1, (e 2).trans hHeld.2.2.1, (e 3).trans hHeld.2.2.2⟩
      obtain ⟨hc2, hf2⟩ := HRAW.out.midLast ha2
      obtain ⟨hraw3, ha3⟩ := HRAW.out.lasted ha2 hm2 hmb
      have HRAW3 : Hid (ProgRaw (w2.setCell ⟨g, 1, none⟩ (.map (some b2))) g (fun k => O1 k ∨ k = b2) (sureC c ((c.wait.take (i + 1)).foldl withC c.sure)) tk A fa dv mn (some b2) (.slice (some ⟨b, 0, none⟩) ns cs)) := by
        unfold Hid
        rw [HST.out]
        exact hraw3
      have HA3 : Hid (Apart O w (w2.setCell ⟨g, 1, none⟩ (.map (some b2)))) := HAD.out.trans ha3 HO1.out
      have HO3 : Hid (∀ k, (O1 k ∨ k = b2) → O k ∨ w.heap.size ≤ k) := by
        rintro k (e | e)
        · exact HO1.out k e
        · rcases hmb with e' | ⟨_, e'⟩
          · exact HO1.out k (HRAW.out.ol k (e ▸ e'))
          · exact .inr (by rw [e]; exact Nat.le_trans HAD.out.size e')
      have c1' : w2.cell? ⟨g, 1, none⟩ = some (.map m1) := (hc2 1).trans c1
      have f1' := hf2 1
      refine hK.out _ _ hS2 ?_
      clear hK K HRAW HAD c1 hHeld hm2 hmb ha2 hnp hc2 hf2 hraw3 ha3 HWI hp1d HOP HST HBL
      try simp only [Act.put, List.setIfInBounds_toArray, List.set_cons_zero, List.set_cons_succ]
      refine held_take 7 (some 24) (.pointer (some ⟨g, 0, none⟩)) rfl rfl (by kernel_rfl) (by kernel_rfl) (by kernel_rfl) (fun _ _ _ h => h) rfl (fun w' hS => ?_) hS2 ?_
      · clear hS; go_simp
      try simp only [Act.put, List.setIfInBounds_toArray, List.set_cons_zero, List.set_cons_succ]
      refine held_take 8 (some 25) (.pointer (some ⟨g, 1, none⟩)) rfl rfl (by kernel_rfl) (by kernel_rfl) (by kernel_rfl) (fun _ _ _ h => h) rfl (fun w' hS => ?_) hS2 ?_
      · clear hS; go_simp
      try simp only [Act.put, List.setIfInBounds_toArray, List.set_cons_zero, List.set_cons_succ]
      refine held_one (i := 9) (by kernel_rfl) rfl rfl (fun K hK => ?_)
      go_simp
      have HS3 : (w2.setCell ⟨g, 1, none⟩ (.map (some b2))).cell? ⟨p, 0, none⟩ = some (.int .i64 (kd : Nat)) ∧ (w2.setCell ⟨g, 1, none⟩ (.map (some b2))).cell? ⟨p, 1, none⟩ = some (.string x.1) ∧ (w2.setCell ⟨g, 1, none⟩ (.map (some b2))).cell? ⟨p, 2, none⟩ = some (.string x.2.1) ∧ (w2.setCell ⟨g, 1, none⟩ (.map (some b2))).cell? ⟨p, 3, none⟩ = some (.pointer pp) := by
        have e := fun i => World.cell?_of_block (w := w2) (w' := w2.setCell ⟨g, 1, none⟩ (.map (some b2))) (a := ⟨p, i, none⟩) (Below.heap_setCell w2 ⟨g, 1, none⟩ _ p (fun e => hne e.symm))
        exact ⟨(e 0).trans hS2.1, (e 1).trans hS2.2.1, (e 2).trans hS2.2.2.1, (e 3).trans hS2.2.2.2⟩
      refine hK.out _ _ HS3 ?_
      clear hK K hS2 c1' f1' HS3
      generalize w2.setCell ⟨g, 1, none⟩ (.map (some b2)) = w3 at *
      try simp only [Act.put, List.setIfInBounds_toArray, List.set_cons_zero, List.set_cons_succ]
      refine wpAnyH_done (by kernel_rfl) ?_ _
      go_wp2_with fail
      go_roundw
      case rel => exact ⟨w3, i + 1, _, some b2, rfl, by go_num, by omega, HRAW3.out, HO3.out, HA3.out⟩
      case measure => simp [intOf]; omega
    · have hii : ¬ (i : Int) < (n : Int) := by omega
      obtain rfl : i = n := by omega
      have c2 := HRAW.out.cells.2.2.1
      have f2 := HRAW.out.frozen 2
      have HP : Hid (RawPost w g O { c with sure := (c.wait.take i).foldl withC c.sure, wait := [] } tk A fa dv (wr.setCell ⟨g, 2, none⟩ (.slice none 0 0))) := by
        have hw := HRAW.out.waits (w2 := wr) (v := .slice none 0 0) (xs := []) ⟨rfl, rfl, rfl, Nat.le_refl _, fun _ _ _ => rfl⟩ (ownG_nil wr fa) (fun b e => by cases e)
        refine ⟨_, _, _, _, hw.1, ?_, HA1.out.trans hw.2 HO1.out⟩
        rintro k (e | e)
        · exact HO1.out k e
        · cases e
      clear HRAW HA1 HO1
      go_wp2_with fail
      go_end0
      exact ⟨rfl, HP.out⟩
end Go.Proofs.Ytlhmeebbdjiokaa
