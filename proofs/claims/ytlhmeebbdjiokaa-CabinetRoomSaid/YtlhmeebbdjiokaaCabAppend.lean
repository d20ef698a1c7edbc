/-
  The document's cabinet: Append.
-/
import Derived.Test.YtlhmeebbdjiokaaCabUsed
namespace Go.Proofs.Ytlhmeebbdjiokaa
open Go.ChangeShapes Go.WideShapes Go.ChangeAt Go.RowKit
set_option linter.unusedVariables false
set_option linter.unusedSimpArgs false
theorem RowL.apart {k : IntKind} {O : Nat → Prop} {w w' : World} {a : Option Addr} {len : Nat} {xs : List Nat} (h : RowL k w a len xs) (hp : Apart O w w') (hd : 0 < len → ∀ ad, a = some ad → ¬ O ad.block) : RowL k w' a len xs := by
  obtain ⟨h1, h4⟩ := h
  refine ⟨h1, ?_⟩
  rcases h4 with h4 | ⟨b, off, ha, hlt, hc⟩
  · exact .inl h4
  · exact .inr ⟨b, off, ha, Nat.lt_of_lt_of_le hlt hp.size, fun i hi => (World.cell?_of_block (w := w) (w' := w') (a := ⟨b, off + i, none⟩) (hp.block b hlt (hd (by omega) _ ha))).trans (hc i hi)⟩
def appendR (c : CabM) (nm B : ByteArray) : Nat × CabM := doneC (appendE c nm B) c (fun c' => appendC c' (numC c nm) B)
theorem used_power (c : CabM) : usedC (powerC c) = usedC c := by
  unfold powerC
  split
  · rfl
  · split <;> rfl
set_option maxRecDepth 100000 in
set_option maxHeartbeats 16000000 in
theorem rappend_any (w : World) (g : Nat) (O : Nat → Prop) (c : CabM) (h : CabAt w g O c) (ht : TimeC c) (hinv : InvC c) (nm B : ByteArray) (a : Option Addr) (len cap : Nat) (hrow : RowL .u8 w a len (txt B)) (hn : a = none → len = 0) (hd : 0 < len → ∀ ad, a = some ad → ¬ O ad.block)
    (hlen : len ≤ 140737488355328) (hq : c.quota ≤ 1099511627776) (hb1 : c.now.length ≤ 1099511627776) (hb2 : c.wait.length ≤ 1099511627776) (hb3 : c.files.length ≤ 1099511627776) (hb4 : c.sure.length ≤ 1099511627776) :
    Calls Try.prog 37 #[.pointer (some ⟨g, 0, none⟩), .string nm, .slice a len cap] w fun e w' => e = .returned (.int .i64 ((appendR c nm B).1 : Nat)) ∧ CabPost w g O (appendR c nm B).2 w' := by
  have HAT : Hid (CabAt w g O c) := h
  have HSELF : Hid (CabPost w g O c w) := ⟨⟨O, h, fun _ e => .inl e⟩, Apart.refl _ _⟩
  have HTC : Hid (TimeC c) := ht
  have HINV : Hid (InvC c) := hinv
  have hBs : B.size = len := by rw [← txt_length, hrow.1]
  have HROW : Hid (RowL .u8 w a len (txt B)) := hrow
  have HD : Hid (0 < len → ∀ ad, a = some ad → ¬ O ad.block) := hd
  have HN0 : Hid (a = none → len = 0) := hn
  obtain ⟨af, nf, cf, an, nn, cn, az, ns, cs, aw, nw, cw, hraw, hnf, hnn, -, -, hcn, -, hrn, -⟩ := h.open
  have HF : Hid _ := rfind_any an nn cn c.now nm w hrn hnn.symm (by omega)
  have c0 := hraw.cells.1
  have c1 := hraw.cells.2.1
  have c2 := hraw.cells.2.2.1
  have c7 := hraw.cells.2.2.2.2.2.2.2
  have HOWN : Hid (OwnF w (.slice af nf cf) c.files) := hraw.parts.1
  clear hraw hrn hnn hcn h ht hinv hrow hn hd
  go_enter Try.func37, Try.ntmps37
  go_wp2_with fail
  refine Calls.mono HF.out ?_
  rintro _ w1 ⟨rfl, hw1⟩
  replace hw1 := hw1.symm
  subst hw1
  clear HF c2
  cases hoff : c.off with
  | true =>
    rw [hoff] at c7
    have HR : Hid (appendR c nm B = (11, c)) := by unfold Hid appendR appendE; rw [hoff]; exact done_no (e := 11) (by decide) _ _
    generalize findI c.now nm = z at *
    clear hoff
    go_wp2_with fail
    go_ret
    exact ⟨by rw [HR.out]; rfl, by rw [HR.out]; exact HSELF.out⟩
  | false =>
    rw [hoff] at c7
    cases hfc : findC c.now nm with
    | none =>
      have HR : Hid (appendR c nm B = (7, c)) := by unfold Hid appendR appendE; rw [hoff, hfc]; exact done_no (e := 7) (by decide) _ _
      have hfi : findI c.now nm = -1 := by unfold findI; rw [hfc]
      rw [hfi]
      clear hoff hfc hfi
      go_wp2_with fail
      go_ret
      exact ⟨by rw [HR.out]; rfl, by rw [HR.out]; exact HSELF.out⟩
    | some n =>
      have hfi : findI c.now nm = (n : Nat) := by unfold findI; rw [hfc]
      rw [hfi]
      obtain ⟨hlt, htk⟩ := inv_files HINV.out hfc
      have HNC : Hid (numC c nm = n) := by unfold Hid numC; rw [hfc]; rfl
      have hn0 : ¬ ((n : Nat) : Int) < 0 := by omega
      have hnf2 : ((n : Nat) : Int) < (nf : Int) := by omega
      have hnf3 : n < nf := by omega
      obtain ⟨b, hab, -, -, hcell, -, -⟩ := OwnF.at1 HOWN.out n hlt
      subst hab
      have hcell' : w.cell? ⟨b, n * 2, none⟩ = some (.string (fileC c n).1) := hcell
      have hsz := (HINV.out.2.2.1 n).2
      have HE0 : Hid (appendE c nm B = if 1048576 < (fileC c n).1.size + B.size then 17 else if c.quota < usedC c + B.size then 10 else 0) := by unfold Hid appendE; rw [hoff, hfc]; rfl
      rw [hBs] at HE0
      have HT0 : Hid (appendR c nm B = doneC (appendE c nm B) c (fun c' => appendC c' n B)) := by unfold Hid appendR; rw [HNC.out]
      clear hoff hfc hfi hcell HNC htk
      obtain ⟨T, hT⟩ : ∃ T, T = (fileC c n).1 := ⟨_, rfl⟩
      rw [← hT] at hcell' hsz HE0
      have HTT : Hid (T = (fileC c n).1) := hT
      clear hT
      by_cases hlg : 1048576 < T.size + len
      · have hlgi : (1048576 : Int) - (T.size : Int) < (len : Int) := by omega
        have HR : Hid (appendR c nm B = (17, c)) := by unfold Hid; rw [HT0.out, HE0.out, if_pos hlg]; exact done_no (e := 17) (by decide) _ _
        clear hlg HE0 HT0
        go_wp2_with fail
        go_ret
        exact ⟨by rw [HR.out]; rfl, by rw [HR.out]; exact HSELF.out⟩
      · have hlgi : decide ((1048576 : Int) - (T.size : Int) < (len : Int)) = false := by rw [decide_eq_false_iff_not]; omega
        rw [if_neg hlg] at HE0
        have hbb : T.size + len ≤ 1048576 := by omega
        clear hlg
        have hu : usedC c ≤ c.quota := HINV.out.2.2.2
        have HWD : Hid (CabAt w.drew g O c) := HAT.out.below (Below.refl _ _).drew
        have HUS : Hid _ := rused_any w.drew g O c HWD.out HINV.out hb3 hb4 hb2
        obtain ⟨q, hqq⟩ : ∃ q, q = c.quota := ⟨_, rfl⟩
        obtain ⟨u, huu⟩ : ∃ u, u = usedC c := ⟨_, rfl⟩
        rw [← hqq] at hu HE0 c0 hq
        rw [← huu] at hu HE0 HUS
        have HWR : Hid (IntKind.i64.wrap ((q : Int) - (u : Int)) = (q : Int) - (u : Int)) := by unfold Hid; rw [IntKind.wrap_i64]; omega
        have c0d : w.drew.cell? ⟨g, 0, none⟩ = some (.int .i64 (q : Nat)) := c0
        by_cases hsp : q < u + len
        · have HSP : Hid (decide ((q : Int) - (u : Int) < (len : Int)) = true) := by unfold Hid; rw [decide_eq_true_eq]; omega
          have HR : Hid (appendR c nm B = (10, c)) := by unfold Hid; rw [HT0.out, HE0.out, if_pos hsp]; exact done_no (e := 10) (by decide) _ _
          clear hsp HE0 HT0 hqq huu
          go_wp2_with fail
          refine wp_region_held_drew (S := fun w' => w'.cell? ⟨g, 0, none⟩ = some (.int .i64 (q : Nat))) (by kernel_rfl) (c0d) (fun hHeld => ?_)
          refine held_take 0 (some 38) (.slice a len cap) rfl rfl (by kernel_rfl) (by kernel_rfl) (by kernel_rfl) (fun _ _ _ h => h) rfl (fun w' hS => ?_) hHeld ?_
          · clear hS; go_simp
          try simp only [Act.put, List.setIfInBounds_toArray, List.set_cons_zero, List.set_cons_succ]
          refine held_take 1 (some 39) (.int .i64 (len : Nat)) rfl rfl (by kernel_rfl) (by kernel_rfl) (by kernel_rfl) (fun _ _ _ h => h) rfl (fun w' hS => ?_) hHeld ?_
          · clear hS; go_simp
          try simp only [Act.put, List.setIfInBounds_toArray, List.set_cons_zero, List.set_cons_succ]
          refine held_take 2 (some 40) (.pointer (some ⟨g, 0, none⟩)) rfl rfl (by kernel_rfl) (by kernel_rfl) (by kernel_rfl) (fun _ _ _ h => h) rfl (fun w' hS => ?_) hHeld ?_
          · clear hS; go_simp
          try simp only [Act.put, List.setIfInBounds_toArray, List.set_cons_zero, List.set_cons_succ]
          refine held_take 3 (some 41) (.pointer (some ⟨g, 0, none⟩)) rfl rfl (by kernel_rfl) (by kernel_rfl) (by kernel_rfl) (fun _ _ _ h => h) rfl (fun w' hS => ?_) hHeld ?_
          · clear hS; go_simp
          try simp only [Act.put, List.setIfInBounds_toArray, List.set_cons_zero, List.set_cons_succ]
          refine held_take 4 (some 42) (.pointer (some ⟨g, 0, none⟩)) rfl rfl (by kernel_rfl) (by kernel_rfl) (by kernel_rfl) (fun _ _ _ h => h) rfl (fun w' hS => ?_) hHeld ?_
          · clear hS; go_simp
          try simp only [Act.put, List.setIfInBounds_toArray, List.set_cons_zero, List.set_cons_succ]
          refine held_take 5 (some 43) (.int .i64 (q : Nat)) rfl rfl (by kernel_rfl) (by kernel_rfl) (by kernel_rfl) (fun _ _ _ h => h) rfl (fun w' hS => ?_) hHeld ?_
          · go_simp
          try simp only [Act.put, List.setIfInBounds_toArray, List.set_cons_zero, List.set_cons_succ]
          refine held_take 6 (some 44) (.pointer (some ⟨g, 0, none⟩)) rfl rfl (by kernel_rfl) (by kernel_rfl) (by kernel_rfl) (fun _ _ _ h => h) rfl (fun w' hS => ?_) hHeld ?_
          · clear hS; go_simp
          try simp only [Act.put, List.setIfInBounds_toArray, List.set_cons_zero, List.set_cons_succ]
          refine held_one (i := 7) (by kernel_rfl) rfl rfl (fun K hK => ?_)
          go_simp
          refine Calls.mono HUS.out ?_
          rintro _ w3 ⟨rfl, hb3'⟩
          dsimp only
          have hlg0 : g < w.drew.heap.size := by
            obtain ⟨_, _, _, _, hr0⟩ := HWD.out
            exact hr0.lt
          have hS3 : w3.cell? ⟨g, 0, none⟩ = some (.int .i64 (q : Nat)) := (hb3'.cell (p := ⟨g, 0, none⟩) hlg0).trans hHeld
          have HBD : Hid (Below w.heap.size w w3) := (Below.refl w.heap.size w).drew.trans hb3'
          refine hK.out _ _ hS3 ?_
          clear hK K hHeld c0d HUS hlg0
          try simp only [Act.put, List.setIfInBounds_toArray, List.set_cons_zero, List.set_cons_succ]
          refine held_take 8 (some 46) (.int .i64 ((q : Int) - (u : Int))) rfl rfl (by kernel_rfl) (by kernel_rfl) (by kernel_rfl) (fun _ _ _ h => h) rfl (fun w' hS => ?_) hS3 ?_
          · clear hS; have hwr := HWR.out; go_simp
          try simp only [Act.put, List.setIfInBounds_toArray, List.set_cons_zero, List.set_cons_succ]
          refine held_take 9 (some 47) (.bool true) rfl rfl (by kernel_rfl) (by kernel_rfl) (by kernel_rfl) (fun _ _ _ h => h) rfl (fun w' hS => ?_) hS3 ?_
          · clear hS; have hsp := HSP.out; go_simp
          try simp only [Act.put, List.setIfInBounds_toArray, List.set_cons_zero, List.set_cons_succ]
          refine held_take 10 (some 37) (.bool true) rfl rfl (by kernel_rfl) (by kernel_rfl) (by kernel_rfl) (fun _ _ _ h => h) rfl (fun w' hS => ?_) hS3 ?_
          · clear hS; go_simp
          try simp only [Act.put, List.setIfInBounds_toArray, List.set_cons_zero, List.set_cons_succ]
          refine wpAnyH_done (by kernel_rfl) ?_ _
          clear hS3
          go_wp2_with fail
          go_ret
          exact ⟨by rw [HR.out]; rfl, by rw [HR.out]; exact ⟨⟨O, HWD.out.below hb3', fun _ e => .inl e⟩, apart_of HBD.out O⟩⟩
        · have HSP : Hid (decide ((q : Int) - (u : Int) < (len : Int)) = false) := by unfold Hid; rw [decide_eq_false_iff_not]; omega
          rw [HE0.out, if_neg hsp] at HT0
          clear hsp HE0 hqq huu
          go_wp2_with fail
          refine wp_region_held_drew (S := fun w' => w'.cell? ⟨g, 0, none⟩ = some (.int .i64 (q : Nat))) (by kernel_rfl) (c0d) (fun hHeld => ?_)
          refine held_take 0 (some 38) (.slice a len cap) rfl rfl (by kernel_rfl) (by kernel_rfl) (by kernel_rfl) (fun _ _ _ h => h) rfl (fun w' hS => ?_) hHeld ?_
          · clear hS; go_simp
          try simp only [Act.put, List.setIfInBounds_toArray, List.set_cons_zero, List.set_cons_succ]
          refine held_take 1 (some 39) (.int .i64 (len : Nat)) rfl rfl (by kernel_rfl) (by kernel_rfl) (by kernel_rfl) (fun _ _ _ h => h) rfl (fun w' hS => ?_) hHeld ?_
          · clear hS; go_simp
          try simp only [Act.put, List.setIfInBounds_toArray, List.set_cons_zero, List.set_cons_succ]
          refine held_take 2 (some 40) (.pointer (some ⟨g, 0, none⟩)) rfl rfl (by kernel_rfl) (by kernel_rfl) (by kernel_rfl) (fun _ _ _ h => h) rfl (fun w' hS => ?_) hHeld ?_
          · clear hS; go_simp
          try simp only [Act.put, List.setIfInBounds_toArray, List.set_cons_zero, List.set_cons_succ]
          refine held_take 3 (some 41) (.pointer (some ⟨g, 0, none⟩)) rfl rfl (by kernel_rfl) (by kernel_rfl) (by kernel_rfl) (fun _ _ _ h => h) rfl (fun w' hS => ?_) hHeld ?_
          · clear hS; go_simp
          try simp only [Act.put, List.setIfInBounds_toArray, List.set_cons_zero, List.set_cons_succ]
          refine held_take 4 (some 42) (.pointer (some ⟨g, 0, none⟩)) rfl rfl (by kernel_rfl) (by kernel_rfl) (by kernel_rfl) (fun _ _ _ h => h) rfl (fun w' hS => ?_) hHeld ?_
          · clear hS; go_simp
          try simp only [Act.put, List.setIfInBounds_toArray, List.set_cons_zero, List.set_cons_succ]
          refine held_take 5 (some 43) (.int .i64 (q : Nat)) rfl rfl (by kernel_rfl) (by kernel_rfl) (by kernel_rfl) (fun _ _ _ h => h) rfl (fun w' hS => ?_) hHeld ?_
          · go_simp
          try simp only [Act.put, List.setIfInBounds_toArray, List.set_cons_zero, List.set_cons_succ]
          refine held_take 6 (some 44) (.pointer (some ⟨g, 0, none⟩)) rfl rfl (by kernel_rfl) (by kernel_rfl) (by kernel_rfl) (fun _ _ _ h => h) rfl (fun w' hS => ?_) hHeld ?_
          · clear hS; go_simp
          try simp only [Act.put, List.setIfInBounds_toArray, List.set_cons_zero, List.set_cons_succ]
          refine held_one (i := 7) (by kernel_rfl) rfl rfl (fun K hK => ?_)
          go_simp
          refine Calls.mono HUS.out ?_
          rintro _ w3 ⟨rfl, hb3'⟩
          dsimp only
          have hlg0 : g < w.drew.heap.size := by
            obtain ⟨_, _, _, _, hr0⟩ := HWD.out
            exact hr0.lt
          have hS3 : w3.cell? ⟨g, 0, none⟩ = some (.int .i64 (q : Nat)) := (hb3'.cell (p := ⟨g, 0, none⟩) hlg0).trans hHeld
          have HBD : Hid (Below w.heap.size w w3) := (Below.refl w.heap.size w).drew.trans hb3'
          refine hK.out _ _ hS3 ?_
          clear hK K hHeld c0d HUS hlg0
          try simp only [Act.put, List.setIfInBounds_toArray, List.set_cons_zero, List.set_cons_succ]
          refine held_take 8 (some 46) (.int .i64 ((q : Int) - (u : Int))) rfl rfl (by kernel_rfl) (by kernel_rfl) (by kernel_rfl) (fun _ _ _ h => h) rfl (fun w' hS => ?_) hS3 ?_
          · clear hS; have hwr := HWR.out; go_simp
          try simp only [Act.put, List.setIfInBounds_toArray, List.set_cons_zero, List.set_cons_succ]
          refine held_take 9 (some 47) (.bool false) rfl rfl (by kernel_rfl) (by kernel_rfl) (by kernel_rfl) (fun _ _ _ h => h) rfl (fun w' hS => ?_) hS3 ?_
          · clear hS; have hsp := HSP.out; go_simp
          try simp only [Act.put, List.setIfInBounds_toArray, List.set_cons_zero, List.set_cons_succ]
          refine held_take 10 (some 37) (.bool false) rfl rfl (by kernel_rfl) (by kernel_rfl) (by kernel_rfl) (fun _ _ _ h => h) rfl (fun w' hS => ?_) hS3 ?_
          · clear hS; go_simp
          try simp only [Act.put, List.setIfInBounds_toArray, List.set_cons_zero, List.set_cons_succ]
          refine wpAnyH_done (by kernel_rfl) ?_ _
          clear hS3
          have HC3 : Hid (CabAt w3 g O c) := HWD.out.below hb3'
          have HA3 : Hid (Apart O w w3) := apart_of HBD.out O
          have HRW3 : Hid (RowL .u8 w3 a len (txt B)) := HROW.out.below HBD.out
          clear hb3' HBD HWD HROW HAT c0 c1 c7 hcell' HOWN
          go_wp2_with fail
          have HPW : Hid _ := rpower_any w3 g O c HC3.out HTC.out
          refine Calls.mono HPW.out ?_
          rintro _ w4 ⟨rfl, ⟨O2, hc2, hO2⟩, ha2⟩
          clear HPW
          have HP4 : Hid (CabPost w g O (powerC c) w4) := CabPost.trans (fun _ e => .inl e) HA3.out ⟨⟨O2, hc2, hO2⟩, ha2⟩
          rcases power_two c with hpe | hpe
          · have HR : Hid (appendR c nm B = (0, appendC (powerC c) n B)) := HT0.out.trans (done_yes hpe _)
            rw [hpe]
            have hfp : (fileC (powerC c) n).1 = T := by unfold fileC; rw [(power_lists c).2.2.1, HTT.out]; rfl
            have hlp : n < (powerC c).files.length := by rw [(power_lists c).2.2.1]; exact hlt
            have HO2 : Hid (∀ b, O2 b → O b ∨ w3.heap.size ≤ b) := hO2
            have HA4 : Hid (Apart O w3 w4.drew) := ha2.same (apart_of (Below.refl _ _).drew O)
            have hc2d := hc2.below (Below.refl _ _).drew
            generalize powerC c = c' at *
            obtain ⟨af, nf', cf, an, nn, cn, az, ns, cs, aw, nw, cw, hraw, hnf', -⟩ := hc2d.open
            obtain ⟨b', hab, hvb, hblt, hcl0, hcl1, hfz⟩ := hraw.parts.1.at1 n hlp
            subst hab
            have e1 := hraw.cells.2.1
            have hnf3' : n < nf' := by omega
            have hnfi' : ((n : Nat) : Int) < (nf' : Int) := by omega
            have hcl0' : w4.drew.cell? ⟨b', n * 2, none⟩ = some (.string T) := by rw [← hfp]; exact hcl0
            have HPS : Hid (CabPost w4.drew g O2 (appendC c' n B) (w4.drew.setCell ⟨b', n * 2 + 0, none⟩ (.string (T ++ B)))) := hraw.refile b' n hvb hlp 0 (by decide) (.string (T ++ B)) ((fileC c' n).1 ++ B, (fileC c' n).2) (by rw [hfp]; rfl)
            have hgb : g ≠ b' := fun e => block_of_struct hraw.1 hraw.parts.1 (by decide) (e ▸ hvb)
            have HFZ : Hid (w4.drew.frozen? ⟨b', n * 2, none⟩ = false) := hfz _
            have HOB : Hid (O2 b') := hraw.parts.2.2.2.2.2.1 b' hvb
            have HRW4 : Hid (RowL .u8 w4.drew a len (txt B)) := HRW3.out.apart HA4.out HD.out
            have HDB : Hid (∀ ad, a = some ad → len ≠ 0 → ad.block ≠ b') := by
              intro ad had hl0 hbb'
              rcases HRW3.out.2 with h0 | ⟨bb, off, ha, hlt', -⟩
              · exact hl0 h0
              · rw [ha] at had
                cases had
                have hob := HOB.out
                rw [← show bb = b' from hbb'] at hob
                rcases HO2.out bb hob with e | e
                · exact HD.out (Nat.pos_of_ne_zero hl0) ⟨bb, off, none⟩ ha e
                · omega
            have hadd : ∀ W, (Op.stringOp .add T B).run Try.prog W = .ok (.string (T ++ B)) W := fun W => run_string_add_sum W T B (by omega)
            clear hraw hfz hcl0 hcl1 hc2d hc2 hO2 ha2 hnf' hvb hlp hfp hpe
            go_wp2_with fail
            refine wp_region_held_drew (S := fun w' => w'.cell? ⟨g, 1, none⟩ = some (.slice (some ⟨b', 0, none⟩) nf' cf) ∧ RowL .u8 w' a len (txt B)) (by kernel_rfl) (⟨e1, HRW4.out⟩) (fun hHeld => ?_)
            have HC0 : Hid (w4.drew.cell? ⟨b', n * 2, none⟩ = some (.string T)) := hcl0'
            clear e1 HRW4 hcl0'
            generalize w4.drew = wd at *
            refine held_take 0 (some 52) (.pointer (some ⟨g, 0, none⟩)) rfl rfl (by kernel_rfl) (by kernel_rfl) (by kernel_rfl) (fun _ _ _ h => h) rfl (fun w' hS => ?_) hHeld ?_
            · clear hS; go_simp
            try simp only [Act.put, List.setIfInBounds_toArray, List.set_cons_zero, List.set_cons_succ]
            refine held_take 1 (some 53) (.pointer (some ⟨g, 0, none⟩)) rfl rfl (by kernel_rfl) (by kernel_rfl) (by kernel_rfl) (fun _ _ _ h => h) rfl (fun w' hS => ?_) hHeld ?_
            · clear hS; go_simp
            try simp only [Act.put, List.setIfInBounds_toArray, List.set_cons_zero, List.set_cons_succ]
            refine held_take 2 (some 54) (.pointer (some ⟨g, 1, none⟩)) rfl rfl (by kernel_rfl) (by kernel_rfl) (by kernel_rfl) (fun _ _ _ h => h) rfl (fun w' hS => ?_) hHeld ?_
            · clear hS; go_simp
            try simp only [Act.put, List.setIfInBounds_toArray, List.set_cons_zero, List.set_cons_succ]
            refine held_take 3 (some 55) (.slice (some ⟨b', 0, none⟩) nf' cf) rfl rfl (by kernel_rfl) (by kernel_rfl) (by kernel_rfl) (fun _ _ _ h => h) rfl (fun w' hS => ?_) hHeld ?_
            · obtain ⟨y0, y1⟩ := hS; go_simp
            try simp only [Act.put, List.setIfInBounds_toArray, List.set_cons_zero, List.set_cons_succ]
            refine held_take 4 (some 56) (.int .i64 (n : Nat)) rfl rfl (by kernel_rfl) (by kernel_rfl) (by kernel_rfl) (fun _ _ _ h => h) rfl (fun w' hS => ?_) hHeld ?_
            · clear hS; go_simp
            try simp only [Act.put, List.setIfInBounds_toArray, List.set_cons_zero, List.set_cons_succ]
            refine held_take 5 (some 57) (.pointer (some ⟨b', n * 2, none⟩)) rfl rfl (by kernel_rfl) (by kernel_rfl) (by kernel_rfl) (fun _ _ _ h => h) rfl (fun w' hS => ?_) hHeld ?_
            · clear hS; go_simp
            try simp only [Act.put, List.setIfInBounds_toArray, List.set_cons_zero, List.set_cons_succ]
            refine held_take 6 (some 58) (.pointer (some ⟨b', n * 2, none⟩)) rfl rfl (by kernel_rfl) (by kernel_rfl) (by kernel_rfl) (fun _ _ _ h => h) rfl (fun w' hS => ?_) hHeld ?_
            · clear hS; go_simp
            try simp only [Act.put, List.setIfInBounds_toArray, List.set_cons_zero, List.set_cons_succ]
            refine held_take 8 (some 60) (.slice a len cap) rfl rfl (by kernel_rfl) (by kernel_rfl) (by kernel_rfl) (fun _ _ _ h => h) rfl (fun w' hS => ?_) hHeld ?_
            · clear hS; go_simp
            try simp only [Act.put, List.setIfInBounds_toArray, List.set_cons_zero, List.set_cons_succ]
            refine held_take 9 (some 61) (.string B) rfl rfl (by kernel_rfl) (by kernel_rfl) (by kernel_rfl) (fun _ _ _ h => h) rfl (fun w' hS => ?_) hHeld ?_
            · have hcv := conv_any hS.2 HN0.out cap; rw [strN_txt] at hcv; go_simp
            try simp only [Act.put, List.setIfInBounds_toArray, List.set_cons_zero, List.set_cons_succ]
            have y0 := HC0.out
            have ef := HFZ.out
            refine held_one (i := 7) (by kernel_rfl) rfl rfl (fun K hK => ?_)
            go_simp
            refine hK.out _ _ hHeld ?_
            clear hK K
            try simp only [Act.put, List.setIfInBounds_toArray, List.set_cons_zero, List.set_cons_succ]
            refine held_take 10 (some 62) (.string (T ++ B)) rfl rfl (by kernel_rfl) (by kernel_rfl) (by kernel_rfl) (fun _ _ _ h => h) rfl (fun w' hS => ?_) hHeld ?_
            · clear hS; go_simp
            try simp only [Act.put, List.setIfInBounds_toArray, List.set_cons_zero, List.set_cons_succ]
            refine held_take 11 (some 63) (.pointer (some ⟨b', n * 2, none⟩)) rfl rfl (by kernel_rfl) (by kernel_rfl) (by kernel_rfl) (fun _ _ _ h => h) rfl (fun w' hS => ?_) hHeld ?_
            · clear hS; go_simp
            try simp only [Act.put, List.setIfInBounds_toArray, List.set_cons_zero, List.set_cons_succ]
            refine held_take 12 (some 64) (.pointer (some ⟨b', n * 2, none⟩)) rfl rfl (by kernel_rfl) (by kernel_rfl) (by kernel_rfl) (fun _ _ _ h => h) rfl (fun w' hS => ?_) hHeld ?_
            · clear hS; go_simp
            try simp only [Act.put, List.setIfInBounds_toArray, List.set_cons_zero, List.set_cons_succ]
            refine held_one (i := 13) (by kernel_rfl) rfl rfl (fun K hK => ?_)
            go_simp
            have HS7 : (wd.setCell ⟨b', n * 2, none⟩ (.string (T ++ B))).cell? ⟨g, 1, none⟩ = some (.slice (some ⟨b', 0, none⟩) nf' cf) ∧ RowL .u8 (wd.setCell ⟨b', n * 2, none⟩ (.string (T ++ B))) a len (txt B) := by
              have e := World.cell?_of_block (w := wd) (w' := wd.setCell ⟨b', n * 2, none⟩ (.string (T ++ B))) (a := ⟨g, 1, none⟩) (Below.heap_setCell wd ⟨b', n * 2, none⟩ _ g hgb)
              refine ⟨e.trans hHeld.1, ?_⟩
              obtain ⟨r1, r2⟩ := hHeld.2
              refine ⟨r1, ?_⟩
              rcases r2 with r0 | ⟨bb, off, ha, hlt', hc'⟩
              · exact .inl r0
              · by_cases hl0 : len = 0
                · exact .inl hl0
                · exact .inr ⟨bb, off, ha, by simp [World.setCell]; exact hlt', fun i hi => (World.cell?_of_block (w := wd) (w' := wd.setCell ⟨b', n * 2, none⟩ (.string (T ++ B))) (a := ⟨bb, off + i, none⟩) (Below.heap_setCell wd ⟨b', n * 2, none⟩ _ bb (HDB.out ⟨bb, off, none⟩ ha hl0))).trans (hc' i hi)⟩
            refine hK.out _ _ HS7 ?_
            clear hK K HS7 hHeld y0 ef
            try simp only [Act.put, List.setIfInBounds_toArray, List.set_cons_zero, List.set_cons_succ]
            refine wpAnyH_done (by kernel_rfl) ?_ _
            go_wp2_with fail
            go_ret
            exact ⟨by rw [HR.out]; rfl, by rw [HR.out]; exact CabPost.trans (fun b e => .inl e) HA3.out (CabPost.trans HO2.out HA4.out HPS.out)⟩
          · have HR : Hid (appendR c nm B = (11, powerC c)) := HT0.out.trans (done_down hpe _)
            rw [hpe]
            clear hpe HT0 hc2 hO2 ha2
            go_wp2_with fail
            go_ret
            exact ⟨by rw [HR.out]; rfl, by rw [HR.out]; exact HP4.out⟩
end Go.Proofs.Ytlhmeebbdjiokaa
