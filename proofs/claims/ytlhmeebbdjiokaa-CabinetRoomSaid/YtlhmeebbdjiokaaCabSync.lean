/-
  The document's cabinet: Read, Sync.
-/
import Derived.Test.YtlhmeebbdjiokaaCabMoves
namespace Go.Proofs.Ytlhmeebbdjiokaa
open Go.ChangeShapes Go.WideShapes Go.ChangeAt Go.RowKit
set_option linter.unusedVariables false
set_option linter.unusedSimpArgs false
def readR (c : CabM) (nm : ByteArray) : ByteArray × Nat := if c.off then (ByteArray.mk #[], 11) else match findC c.now nm with | none => (ByteArray.mk #[], 7) | some n => ((fileC c n).1, 0)
def syncR (c : CabM) (nm : ByteArray) : Nat × CabM := doneC (someE c nm) c (fun c' => syncC c' (numC c nm))
theorem OwnF.at1 {w : World} {a : Option Addr} {n cap : Nat} {ts : List (ByteArray × Nat)} (h : OwnF w (.slice a n cap) ts) (i : Nat) (hi : i < ts.length) : ∃ b, a = some ⟨b, 0, none⟩ ∧ (Value.slice a n cap).ownBlock = some b ∧ b < w.heap.size ∧ w.cell? ⟨b, i * 2, none⟩ = some (.string (entAt ts i).1) ∧ w.cell? ⟨b, i * 2 + 1, none⟩ = some (.int .i64 ((entAt ts i).2 : Nat)) ∧ ∀ j, w.frozen? ⟨b, j, none⟩ = false := by
  have h0 := h
  obtain ⟨a', cap', hv, -, -, hc⟩ := h.at
  cases hv
  obtain ⟨b, h1, h2, h3, h4, h5⟩ := hc i hi
  obtain ⟨cur, hcur⟩ := owns_type h0 h2
  exact ⟨b, h1, h2, h3, h4, h5, fun j => frozen_of_row w b j _ _ hcur⟩
set_option maxHeartbeats 4000000 in
theorem rread_any (w : World) (g : Nat) (O : Nat → Prop) (c : CabM) (h : CabAt w g O c) (nm : ByteArray) (hb1 : c.now.length ≤ 1099511627776) (hfl : ∀ n, findC c.now nm = some n → n < c.files.length) (hb3 : c.files.length ≤ 1099511627776) :
    Calls Try.prog 19 #[.pointer (some ⟨g, 0, none⟩), .string nm] w fun e w' => e = .returned (.tuple #[.string (readR c nm).1, .int .i64 ((readR c nm).2 : Nat)]) ∧ w' = w := by
  obtain ⟨af, nf, cf, an, nn, cn, az, ns, cs, aw, nw, cw, hraw, hnf, hnn, -, -, hcn, -, hrn, -⟩ := h.open
  have HF : Hid _ := rfind_any an nn cn c.now nm w hrn hnn.symm (by omega)
  have c1 := hraw.cells.2.1
  have c2 := hraw.cells.2.2.1
  have c7 := hraw.cells.2.2.2.2.2.2.2
  have hown := hraw.parts.1
  clear hraw hrn hnn hcn h
  cases hoff : c.off with
  | true =>
    rw [hoff] at c7
    have HR : Hid (readR c nm = (ByteArray.mk #[], 11)) := by unfold Hid readR; rw [hoff]; rfl
    generalize findI c.now nm = z at *
    clear hoff hown hfl
    go_enter Try.func19, Try.ntmps19
    go_wp2_with fail
    refine Calls.mono HF.out ?_
    rintro _ w1 ⟨rfl, hw1⟩
    replace hw1 := hw1.symm
    subst hw1
    go_wp2_with fail
    go_ret2
    exact ⟨by rw [HR.out]; rfl, rfl⟩
  | false =>
    rw [hoff] at c7
    cases hfc : findC c.now nm with
    | none =>
      have HR : Hid (readR c nm = (ByteArray.mk #[], 7)) := by unfold Hid readR; rw [hoff, hfc]; rfl
      have hfi : findI c.now nm = -1 := by unfold findI; rw [hfc]
      rw [hfi] at HF
      clear hoff hfc hfi hown hfl
      go_enter Try.func19, Try.ntmps19
      go_wp2_with fail
      refine Calls.mono HF.out ?_
      rintro _ w1 ⟨rfl, hw1⟩
      replace hw1 := hw1.symm
      subst hw1
      go_wp2_with fail
      go_ret2
      exact ⟨by rw [HR.out]; rfl, rfl⟩
    | some n =>
      have hfi : findI c.now nm = (n : Nat) := by unfold findI; rw [hfc]
      have hlt := hfl n hfc
      have HR : Hid (readR c nm = ((fileC c n).1, 0)) := by unfold Hid readR; rw [hoff, hfc]; rfl
      rw [hfi] at HF
      have hn0 : ¬ ((n : Nat) : Int) < 0 := by omega
      have hnf2 : ((n : Nat) : Int) < (nf : Int) := by omega
      have hnf3 : n < nf := by omega
      obtain ⟨b, hab, -, -, hcell, -, -⟩ := hown.at1 n hlt
      subst hab
      have hcell' : w.cell? ⟨b, n * 2, none⟩ = some (.string (fileC c n).1) := hcell
      generalize (fileC c n).1 = T at *
      clear hoff hfc hfi hown hfl hcell hnf hlt
      go_enter Try.func19, Try.ntmps19
      go_wp2_with fail
      refine Calls.mono HF.out ?_
      rintro _ w1 ⟨rfl, hw1⟩
      replace hw1 := hw1.symm
      subst hw1
      go_wp2_with fail
      go_ret2
      exact ⟨by rw [HR.out]; rfl, rfl⟩
theorem cell_set_other (w : World) (b i j : Nat) (v : Value) (h : i ≠ j) : (w.setCell ⟨b, j, none⟩ v).cell? ⟨b, i, none⟩ = w.cell? ⟨b, i, none⟩ := by
  simp [go_sem, h, Ne.symm h]
set_option maxRecDepth 100000 in
set_option maxHeartbeats 4000000 in
theorem rsync_any (w : World) (g : Nat) (O : Nat → Prop) (c : CabM) (h : CabAt w g O c) (ht : TimeC c) (nm : ByteArray) (hb1 : c.now.length ≤ 1099511627776) (hfl : ∀ n, findC c.now nm = some n → n < c.files.length) (hb3 : c.files.length ≤ 1099511627776) (hsz : ∀ n, findC c.now nm = some n → (fileC c n).1.size ≤ 1048576) :
    Calls Try.prog 39 #[.pointer (some ⟨g, 0, none⟩), .string nm] w fun e w' => e = .returned (.int .i64 ((syncR c nm).1 : Nat)) ∧ CabPost w g O (syncR c nm).2 w' := by
  have HPW : Hid _ := rpower_any w g O c h ht
  have HSELF : Hid (CabPost w g O c w) := ⟨⟨O, h, fun _ e => .inl e⟩, Apart.refl _ _⟩
  obtain ⟨af, nf, cf, an, nn, cn, az, ns, cs, aw, nw, cw, hraw, -, hnn, -, -, hcn, -, hrn, -⟩ := h.open
  have HF : Hid _ := rfind_any an nn cn c.now nm w hrn hnn.symm (by omega)
  have c2 := hraw.cells.2.2.1
  have c7 := hraw.cells.2.2.2.2.2.2.2
  clear hraw hrn hnn hcn h
  cases hoff : c.off with
  | true =>
    rw [hoff] at c7
    have HR : Hid (syncR c nm = (11, c)) := by unfold Hid syncR someE; rw [hoff]; exact done_no (e := 11) (by decide) _ _
    generalize findI c.now nm = z at *
    clear HPW hoff
    go_enter Try.func39, Try.ntmps39
    go_wp2_with fail
    refine Calls.mono HF.out ?_
    rintro _ w1 ⟨rfl, hw1⟩
    replace hw1 := hw1.symm
    subst hw1
    go_wp2_with fail
    go_ret
    exact ⟨by rw [HR.out]; rfl, by rw [HR.out]; exact HSELF.out⟩
  | false =>
    rw [hoff] at c7
    cases hfc : findC c.now nm with
    | none =>
      have HR : Hid (syncR c nm = (7, c)) := by unfold Hid syncR someE; rw [hoff, hfc]; exact done_no (e := 7) (by decide) _ _
      have hfi : findI c.now nm = -1 := by unfold findI; rw [hfc]
      rw [hfi] at HF
      clear HPW hoff hfc hfi
      go_enter Try.func39, Try.ntmps39
      go_wp2_with fail
      refine Calls.mono HF.out ?_
      rintro _ w1 ⟨rfl, hw1⟩
      replace hw1 := hw1.symm
      subst hw1
      go_wp2_with fail
      go_ret
      exact ⟨by rw [HR.out]; rfl, by rw [HR.out]; exact HSELF.out⟩
    | some n =>
      have hfi : findI c.now nm = (n : Nat) := by unfold findI; rw [hfc]
      have HNC : Hid (numC c nm = n) := by unfold Hid numC; rw [hfc]; rfl
      rw [hfi] at HF
      have hn0 : ¬ ((n : Nat) : Int) < 0 := by omega
      have HT0 : Hid (syncR c nm = doneC 0 c (fun c' => syncC c' n)) := by unfold Hid syncR someE; rw [hoff, hfc, HNC.out]; rfl
      have hlt0 := hfl n hfc
      have hsz0 := hsz n hfc
      clear hoff hfc hfi HNC hfl hsz
      rcases power_two c with hpe | hpe
      · have HR : Hid (syncR c nm = (0, syncC (powerC c) n)) := HT0.out.trans (done_yes hpe _)
        rw [hpe] at HPW
        have hlt : n < (powerC c).files.length := by rw [(power_lists c).2.2.1]; exact hlt0
        have hb4 : (powerC c).files.length ≤ 1099511627776 := by rw [(power_lists c).2.2.1]; exact hb3
        have hszp : (fileC (powerC c) n).1.size ≤ 1048576 := by unfold fileC; rw [(power_lists c).2.2.1]; exact hsz0
        clear hpe HT0 HSELF hlt0 hsz0
        go_enter Try.func39, Try.ntmps39
        go_wp2_with fail
        refine Calls.mono HF.out ?_
        rintro _ w1 ⟨rfl, hw1⟩
        replace hw1 := hw1.symm
        subst hw1
        go_wp2_with fail
        refine Calls.mono HPW.out ?_
        rintro _ w2 ⟨rfl, ⟨O2, hc2, hO2⟩, ha2⟩
        have HO2 : Hid (∀ b, O2 b → O b ∨ w.heap.size ≤ b) := hO2
        have HA2 : Hid (Apart O w w2.drew) := ha2.same (apart_of (Below.refl _ _).drew O)
        have hc2d := hc2.below (Below.refl _ _).drew
        generalize powerC c = c' at *
        obtain ⟨af, nf, cf, an, nn, cn, az, ns, cs, aw, nw, cw, hraw, hnf, -⟩ := hc2d.open
        obtain ⟨b, hab, hvb, hblt, hcl0, hcl1, hfz⟩ := hraw.parts.1.at1 n hlt
        subst hab
        have e1 := hraw.cells.2.1
        have hnf3 : n < nf := by omega
        have hnfi : ((n : Nat) : Int) < (nf : Int) := by omega
        have HPS : Hid (CabPost w2.drew g O2 (syncC c' n) (w2.drew.setCell ⟨b, n * 2 + 1, none⟩ (.int .i64 ((fileC c' n).1.size : Nat)))) := hraw.refile b n hvb hlt 1 (by decide) _ ((fileC c' n).1, (fileC c' n).1.size) rfl
        have hgb : g ≠ b := fun e => block_of_struct hraw.1 hraw.parts.1 (by decide) (e ▸ hvb)
        have hcl0' : w2.drew.cell? ⟨b, n * 2, none⟩ = some (.string (fileC c' n).1) := hcl0
        have HFZ : Hid (w2.drew.frozen? ⟨b, n * 2 + 1, none⟩ = false) := hfz _
        have HE2 : Hid (w2.drew.cell? ⟨b, n * 2 + 1, none⟩ = some (.int .i64 ((entAt c'.files n).2 : Nat))) := hcl1
        generalize (entAt c'.files n).2 = s0 at *
        obtain ⟨T, hT⟩ : ∃ T, T = (fileC c' n).1 := ⟨_, rfl⟩
        rw [← hT] at HPS hcl0' hszp
        clear hraw hfz hcl0 hcl1 hc2d hc2 hO2 ha2 HPW HF c2 c7 hT hnf hvb hb4 hlt
        go_wp2_with fail
        refine wp_region_held_drew (S := fun w' => w'.cell? ⟨g, 1, none⟩ = some (.slice (some ⟨b, 0, none⟩) nf cf) ∧ w'.cell? ⟨b, n * 2, none⟩ = some (.string T)) (by kernel_rfl) (⟨e1, hcl0'⟩) (fun hHeld => ?_)
        clear e1 hcl0'
        generalize w2.drew = wd at *
        refine held_take 0 (some 23) (.pointer (some ⟨g, 0, none⟩)) rfl rfl (by kernel_rfl) (by kernel_rfl) (by kernel_rfl) (fun _ _ _ h => h) rfl (fun w' hS => ?_) hHeld ?_
        · clear hS; go_simp
        try simp only [Act.put, List.setIfInBounds_toArray, List.set_cons_zero, List.set_cons_succ]
        refine held_take 1 (some 24) (.pointer (some ⟨g, 0, none⟩)) rfl rfl (by kernel_rfl) (by kernel_rfl) (by kernel_rfl) (fun _ _ _ h => h) rfl (fun w' hS => ?_) hHeld ?_
        · clear hS; go_simp
        try simp only [Act.put, List.setIfInBounds_toArray, List.set_cons_zero, List.set_cons_succ]
        refine held_take 2 (some 25) (.pointer (some ⟨g, 1, none⟩)) rfl rfl (by kernel_rfl) (by kernel_rfl) (by kernel_rfl) (fun _ _ _ h => h) rfl (fun w' hS => ?_) hHeld ?_
        · clear hS; go_simp
        try simp only [Act.put, List.setIfInBounds_toArray, List.set_cons_zero, List.set_cons_succ]
        refine held_take 3 (some 26) (.slice (some ⟨b, 0, none⟩) nf cf) rfl rfl (by kernel_rfl) (by kernel_rfl) (by kernel_rfl) (fun _ _ _ h => h) rfl (fun w' hS => ?_) hHeld ?_
        · obtain ⟨y0, y1⟩ := hS; go_simp
        try simp only [Act.put, List.setIfInBounds_toArray, List.set_cons_zero, List.set_cons_succ]
        refine held_take 4 (some 27) (.int .i64 (n : Nat)) rfl rfl (by kernel_rfl) (by kernel_rfl) (by kernel_rfl) (fun _ _ _ h => h) rfl (fun w' hS => ?_) hHeld ?_
        · clear hS; go_simp
        try simp only [Act.put, List.setIfInBounds_toArray, List.set_cons_zero, List.set_cons_succ]
        refine held_take 5 (some 28) (.pointer (some ⟨g, 0, none⟩)) rfl rfl (by kernel_rfl) (by kernel_rfl) (by kernel_rfl) (fun _ _ _ h => h) rfl (fun w' hS => ?_) hHeld ?_
        · clear hS; go_simp
        try simp only [Act.put, List.setIfInBounds_toArray, List.set_cons_zero, List.set_cons_succ]
        refine held_take 6 (some 29) (.pointer (some ⟨g, 0, none⟩)) rfl rfl (by kernel_rfl) (by kernel_rfl) (by kernel_rfl) (fun _ _ _ h => h) rfl (fun w' hS => ?_) hHeld ?_
        · clear hS; go_simp
        try simp only [Act.put, List.setIfInBounds_toArray, List.set_cons_zero, List.set_cons_succ]
        refine held_take 7 (some 30) (.pointer (some ⟨g, 1, none⟩)) rfl rfl (by kernel_rfl) (by kernel_rfl) (by kernel_rfl) (fun _ _ _ h => h) rfl (fun w' hS => ?_) hHeld ?_
        · clear hS; go_simp
        try simp only [Act.put, List.setIfInBounds_toArray, List.set_cons_zero, List.set_cons_succ]
        refine held_take 8 (some 31) (.slice (some ⟨b, 0, none⟩) nf cf) rfl rfl (by kernel_rfl) (by kernel_rfl) (by kernel_rfl) (fun _ _ _ h => h) rfl (fun w' hS => ?_) hHeld ?_
        · obtain ⟨y0, y1⟩ := hS; go_simp
        try simp only [Act.put, List.setIfInBounds_toArray, List.set_cons_zero, List.set_cons_succ]
        refine held_take 9 (some 32) (.int .i64 (n : Nat)) rfl rfl (by kernel_rfl) (by kernel_rfl) (by kernel_rfl) (fun _ _ _ h => h) rfl (fun w' hS => ?_) hHeld ?_
        · clear hS; go_simp
        try simp only [Act.put, List.setIfInBounds_toArray, List.set_cons_zero, List.set_cons_succ]
        refine held_take 10 (some 33) (.pointer (some ⟨b, n * 2, none⟩)) rfl rfl (by kernel_rfl) (by kernel_rfl) (by kernel_rfl) (fun _ _ _ h => h) rfl (fun w' hS => ?_) hHeld ?_
        · clear hS; go_simp
        try simp only [Act.put, List.setIfInBounds_toArray, List.set_cons_zero, List.set_cons_succ]
        refine held_take 11 (some 34) (.pointer (some ⟨b, n * 2, none⟩)) rfl rfl (by kernel_rfl) (by kernel_rfl) (by kernel_rfl) (fun _ _ _ h => h) rfl (fun w' hS => ?_) hHeld ?_
        · clear hS; go_simp
        try simp only [Act.put, List.setIfInBounds_toArray, List.set_cons_zero, List.set_cons_succ]
        refine held_take 12 (some 35) (.string T) rfl rfl (by kernel_rfl) (by kernel_rfl) (by kernel_rfl) (fun _ _ _ h => h) rfl (fun w' hS => ?_) hHeld ?_
        · obtain ⟨y0, y1⟩ := hS; go_simp
        try simp only [Act.put, List.setIfInBounds_toArray, List.set_cons_zero, List.set_cons_succ]
        refine held_take 13 (some 36) (.int .i64 (T.size : Nat)) rfl rfl (by kernel_rfl) (by kernel_rfl) (by kernel_rfl) (fun _ _ _ h => h) rfl (fun w' hS => ?_) hHeld ?_
        · clear hS; go_simp
        try simp only [Act.put, List.setIfInBounds_toArray, List.set_cons_zero, List.set_cons_succ]
        refine held_take 14 (some 37) (.pointer (some ⟨b, n * 2, none⟩)) rfl rfl (by kernel_rfl) (by kernel_rfl) (by kernel_rfl) (fun _ _ _ h => h) rfl (fun w' hS => ?_) hHeld ?_
        · clear hS; go_simp
        try simp only [Act.put, List.setIfInBounds_toArray, List.set_cons_zero, List.set_cons_succ]
        refine held_take 15 (some 38) (.pointer (some ⟨b, n * 2 + 1, none⟩)) rfl rfl (by kernel_rfl) (by kernel_rfl) (by kernel_rfl) (fun _ _ _ h => h) rfl (fun w' hS => ?_) hHeld ?_
        · clear hS; go_simp
        try simp only [Act.put, List.setIfInBounds_toArray, List.set_cons_zero, List.set_cons_succ]
        have e2 := HE2.out
        have ef := HFZ.out
        refine held_one (i := 16) (by kernel_rfl) rfl rfl (fun K hK => ?_)
        go_simp
        have HS7 : (wd.setCell ⟨b, n * 2 + 1, none⟩ (.int .i64 (T.size : Nat))).cell? ⟨g, 1, none⟩ = some (.slice (some ⟨b, 0, none⟩) nf cf) ∧ (wd.setCell ⟨b, n * 2 + 1, none⟩ (.int .i64 (T.size : Nat))).cell? ⟨b, n * 2, none⟩ = some (.string T) := by
          have e := World.cell?_of_block (w := wd) (w' := wd.setCell ⟨b, n * 2 + 1, none⟩ (.int .i64 (T.size : Nat))) (a := ⟨g, 1, none⟩) (Below.heap_setCell wd ⟨b, n * 2 + 1, none⟩ _ g hgb)
          refine ⟨e.trans hHeld.1, ?_⟩
          rw [← hHeld.2]
          exact cell_set_other wd b (n * 2) (n * 2 + 1) _ (by omega)
        refine hK.out _ _ HS7 ?_
        clear hK K HS7 hHeld e2 ef
        try simp only [Act.put, List.setIfInBounds_toArray, List.set_cons_zero, List.set_cons_succ]
        refine wpAnyH_done (by kernel_rfl) ?_ _
        go_wp2_with fail
        go_ret
        exact ⟨by rw [HR.out]; rfl, by rw [HR.out]; exact CabPost.trans HO2.out HA2.out HPS.out⟩
      · have HR : Hid (syncR c nm = (11, powerC c)) := HT0.out.trans (done_down hpe _)
        rw [hpe] at HPW
        clear hpe HT0 HSELF
        go_enter Try.func39, Try.ntmps39
        go_wp2_with fail
        refine Calls.mono HF.out ?_
        rintro _ w1 ⟨rfl, hw1⟩
        replace hw1 := hw1.symm
        subst hw1
        go_wp2_with fail
        refine Calls.mono HPW.out ?_
        rintro _ w2 ⟨rfl, hp⟩
        have HP : Hid (CabPost w g O (powerC c) w2) := hp
        clear HPW c7 hp HF c2
        go_wp2_with fail
        go_ret
        exact ⟨by rw [HR.out]; rfl, by rw [HR.out]; exact HP.out⟩
end Go.Proofs.Ytlhmeebbdjiokaa
