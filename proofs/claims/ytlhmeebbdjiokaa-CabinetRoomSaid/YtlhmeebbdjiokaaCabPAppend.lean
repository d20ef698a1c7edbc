/-
  The program's cabinet: Append.
-/
import Derived.Test.YtlhmeebbdjiokaaCabPAdd
namespace Go.Proofs.Ytlhmeebbdjiokaa
open Go.ChangeShapes Go.WideShapes Go.ChangeAt Go.RowKit Go.Maps Go.MapKept Go.ChangeMaps
set_option linter.unusedVariables false
set_option linter.unusedSimpArgs false
/-- Bytes behind a slice of bytes, whatever slice: where the new one lies. -/
theorem append_bytes {w : World} {ops : Array Oper} {rest : List Oper} {o : Oper} {a : Act} {Q : Exit → Act → World → Prop} (hgd : o.guard = none) (sl x : Operand)
    (ho : o.op = .call { callee := .builtin .append, args := #[sl, x], argTypes := #[35, 35] })
    (v : Value) (xs : List Nat) (hs : a.eval sl = v) (hown : OwnL 5 .u8 w 0 v xs) (ax : Option Addr) (m c : Nat) (ys : List Nat) (hx : a.eval x = .slice ax m c) (hrow : RowL .u8 w ax m ys) (hb : xs.length + m ≤ 140737488355328)
    (h : ∀ v' w', OwnL 5 .u8 w' 0 v' (xs ++ ys) → w.grownBy w' v.ownBlock → (∀ b, v'.ownBlock = some b → v.ownBlock = some b ∨ w.heap.size ≤ b) → wpList Try.prog ops Q rest (a.put o.dst v') w') : wpList Try.prog ops Q (o :: rest) a w := by
  obtain ⟨i0, hi, hz0, hz1, hz2⟩ := info_parts byteC
  obtain ⟨hyl, hrow'⟩ := hrow
  by_cases hm : m = 0
  · subst hm
    have hys : ys = [] := List.eq_nil_of_length_eq_zero hyl
    subst hys
    obtain ⟨a0, cap0, hv, -, hcap, -⟩ := hown.row
    have hr : (Builtin.append_ #[35, 35] o.type #[v, .slice ax 0 c]).run Try.prog w = .ok v w := by
      rw [hv]
      cases a0 <;> cases ax <;> simp [Builtin.append_, run_underlying Try.underlying35, sizeOf, typeInfo, hi, Builtin.lenOf, Builtin.firstCells, loadCells, storeCells, hcap]
      all_goals rfl
    refine wpList_plain hgd fun _ hK => ?_
    unfold Oper.wp
    simp [execOp, ho, resolve, invoke, builtin, hs, hx, hr, Result.andThen]
    refine hK _ _ (h v w ?_ ⟨rfl, rfl, rfl, Nat.le_refl _, fun _ _ _ => rfl⟩ (fun b e => .inl e))
    rw [List.append_nil]
    exact hown
  · rcases hrow' with h0 | ⟨b, off, rfl, hbl, hc⟩
    · exact absurd h0 hm
    · refine wpList_plain hgd fun _ hK => wp_append_where w sl x 35 ho 5 i0 (.int .u8 0) 1 1 Try.underlying35 hi hz0 hz1 hz2 rfl (by decide) v xs.length (xs.map (encV .u8)) hs hown ⟨b, off, none⟩ m c (ys.map (encV .u8)) hx (by rw [List.length_map, hyl, Nat.mul_one]) ?_ ?_ (by unfold maxLen; omega) (by omega) o.dst rfl ?_
      · intro j u hj
        have hj' : j < ys.length := by have := (List.getElem?_eq_some_iff.1 hj).1; simpa using this
        have hp : (⟨b, off, none⟩ : Addr).add j = ⟨b, off + j, none⟩ := by unfold Addr.add; split <;> simp_all
        rw [hp, hc j (by omega)]
        rw [List.getElem?_map, List.getElem?_eq_getElem hj'] at hj
        simp at hj
        rw [← hj]
        simp [hj', encV]
      · intro u hu
        obtain ⟨z, _, rfl⟩ := List.mem_map.1 hu
        rfl
      · intro v' w' h1 h2 h3
        refine hK _ _ (h v' w' ?_ h2 h3)
        unfold OwnL
        have e : (xs ++ ys).length = xs.length + m := by rw [List.length_append, hyl]
        rw [e, List.map_append]
        exact h1
theorem filled {w1 w2 : World} {g : Nat} {O : Nat → Prop} {c : CabM} {fa : Nat → Nat} {dv : Nat → Value} {mn ml : Option Nat} {vs : Value} (hr : ProgIs w1 g O c fa dv mn ml vs) {k : Nat} (htk : takenC c k = true) (hlt : k < c.files.length) (B : ByteArray) {a1 : Option Addr} {sz cap1 : Nat} (hv1 : dv k = .slice a1 sz cap1) {v2 : Value}
    (hown2 : OwnL 5 .u8 w2 0 v2 (txt (fileC c k).1 ++ txt B)) (hgr2 : w1.grownBy w2 (Value.slice a1 sz cap1).ownBlock) (hnew2 : ∀ b, v2.ownBlock = some b → (Value.slice a1 sz cap1).ownBlock = some b ∨ w1.heap.size ≤ b) :
    ∃ a2 n2 cap2, v2 = .slice a2 n2 cap2 ∧ w2.cell? ⟨fa k, 0, none⟩ = some (dv k) ∧ w2.frozen? ⟨fa k, 0, none⟩ = false ∧ (∃ O' dv', ProgRaw (w2.setCell ⟨fa k, 0, none⟩ v2) g O' (appendC c k B) (usedC c) (fun i => takenC c i = true) fa dv' mn ml vs ∧ ∀ b, O' b → O b ∨ w1.heap.size ≤ b) ∧ Apart O w1 (w2.setCell ⟨fa k, 0, none⟩ v2) := by
  have hfile := hr.file k htk
  rw [← hv1] at hgr2 hnew2
  have hne : (dv k).ownBlock ≠ some (fa k) := fun e => by
    obtain ⟨cur, hb⟩ := owns_type hfile.2 e
    exact absurd (cells_ne hb hfile.1) (by decide)
  have hfl : fa k < w1.heap.size := (Array.getElem?_eq_some_iff.1 hfile.1).1
  have hk2 : w2.heap[fa k]? = some (.cells #[dv k, .int .i64 ((fileC c k).2 : Nat)] 74 (0, 0)) := (grown_ne hgr2 hfl hne).trans hfile.1
  obtain ⟨a2, cap2, hv2, -⟩ := hown2.row
  have hk3 := heap_set w2 (fa k) 0 v2 _ _ hk2
  have hvf : ∀ b, v2.ownBlock = some b → b ≠ fa k := fun b e e' => by
    rcases hnew2 b e with e2 | e2
    · exact hne (by rw [← e']; exact e2)
    · omega
  have hf3 : FileAt (w2.setCell ⟨fa k, 0, none⟩ v2) (fa k) v2 ((fileC c k).1 ++ B, (fileC c k).2) := by
    refine ⟨hk3, ?_⟩
    have h3 := owns_keep (w' := w2.setCell ⟨fa k, 0, none⟩ v2) hown2 fun b e => Below.heap_setCell w2 ⟨fa k, 0, none⟩ v2 b (hvf b e)
    unfold OwnL
    rw [txt_app]
    exact h3
  have hap : Apart (fun x => x = fa k ∨ (dv k).ownBlock = some x) w1 (w2.setCell ⟨fa k, 0, none⟩ v2) :=
    ((Apart.refl _ w1).grown hgr2 (fun x e => .inr e)).set (g := fa k) (.inl rfl) 0 v2
  have h4 := hr.refile htk (c' := appendC c k B) hf3 hap hnew2 hlt rfl rfl rfl rfl rfl rfl rfl rfl
  refine ⟨a2, _, cap2, hv2, cell_of_row w2 (fa k) 0 _ _ _ hk2, frozen_of_row w2 (fa k) 0 _ _ hk2, ⟨_, _, h4.1, ?_⟩, h4.2⟩
  rintro b (e | e)
  · exact .inl e
  · rcases hnew2 b e with e | e
    · exact .inl ((hr.of k htk).2 b e)
    · exact .inr e
theorem appendE_off {c : CabM} {nm B : ByteArray} (h : c.off = true) : appendE c nm B = 11 := by unfold appendE; rw [h]; rfl
theorem appendE_no {c : CabM} {nm B : ByteArray} (h : c.off = false) (hf : findC c.now nm = none) : appendE c nm B = 7 := by unfold appendE; rw [h, hf]; rfl
theorem appendE_yes {c : CabM} {nm B : ByteArray} {k : Nat} (h : c.off = false) (hf : findC c.now nm = some k) : appendE c nm B = if 1048576 < (fileC c k).1.size + B.size then 17 else if c.quota < usedC c + B.size then 10 else 0 := by unfold appendE; rw [h, hf]; rfl
set_option maxRecDepth 100000 in
set_option maxHeartbeats 8000000 in
theorem pappend_any (w : World) (g : Nat) (O : Nat → Prop) (c : CabM) (n : Nat) (nm B : ByteArray) (a : Option Addr) (len cap : Nat) (h : ProgAt w g O c) (hg : GoodC c n) (hn : n ≤ 1000) (hnm : nm.size ≤ 9223372036854775806) (hrow : RowL .u8 w a len (txt B)) (hnil : a = none → len = 0) (hout : 0 < len → ∀ ad, a = some ad → ¬ O ad.block) (hlen : len ≤ 1200000) :
    Calls Try.prog 11 #[.pointer (some ⟨g, 0, none⟩), .string nm, .slice a len cap] w fun e w' => e = .returned (.int .i64 ((appendR c nm B).1 : Nat)) ∧ PostP ProgAt w g O (appendR c nm B).2 w' := by
  obtain ⟨fa, dv, mn, ml, vs, hraw, ho⟩ := h
  have HIS : Hid (ProgIs w g O c fa dv mn ml vs) := hraw
  have HO : Hid (OrdC c) := ho
  have HG : Hid (GoodC c n) := hg
  have HFD : Hid _ := pfind_any w g O c _ _ fa dv mn ml vs hraw nm hnm
  have HGO : Hid _ := pgoes_is w g O c fa dv mn ml vs hraw hg.2.1
  have HSELF : Hid (PostP ProgAt w g O c w) := post_self ⟨fa, dv, mn, ml, vs, hraw, ho⟩
  have HROW : Hid (RowL .u8 w a len (txt B)) := hrow
  have HOUT : Hid (0 < len → ∀ ad, a = some ad → ¬ O ad.block) := hout
  have HBL : Hid (B.size = len) := by have := hrow.1; rw [txt_length] at this; exact this
  clear hraw ho hg hrow hout hnil
  cases hoff : c.off with
  | true =>
    have HR : Hid (appendR c nm B = (11, c)) := by unfold Hid appendR; rw [appendE_off hoff]; exact done_no (e := 11) (by decide) _ _
    rw [findV_off hoff] at HFD
    clear hoff HGO HIS HG HO
    go_enter Try.func11, Try.ntmps11
    go_wp2_with fail
    refine Calls.mono HFD.out ?_
    rintro _ w1 ⟨rfl, hw1⟩
    replace hw1 := hw1.symm
    subst hw1
    go_wp2_with fail
    go_ret
    exact ⟨by rw [HR.out]; rfl, by rw [HR.out]; exact HSELF.out⟩
  | false =>
    cases hf : findC c.now nm with
    | none =>
      have HR : Hid (appendR c nm B = (7, c)) := by unfold Hid appendR; rw [appendE_no hoff hf]; exact done_no (e := 7) (by decide) _ _
      rw [findV_no hoff hf] at HFD
      clear hoff hf HGO HIS HG HO
      go_enter Try.func11, Try.ntmps11
      go_wp2_with fail
      refine Calls.mono HFD.out ?_
      rintro _ w1 ⟨rfl, hw1⟩
      replace hw1 := hw1.symm
      subst hw1
      go_wp2_with fail
      go_ret
      exact ⟨by rw [HR.out]; rfl, by rw [HR.out]; exact HSELF.out⟩
    | some k =>
      rw [findV_yes hoff hf] at HFD
      have HNC : Hid (numC c nm = k) := numC_eq hf
      have HE : Hid (appendE c nm B = if 1048576 < (fileC c k).1.size + B.size then 17 else if c.quota < usedC c + B.size then 10 else 0) := appendE_yes hoff hf
      have hfp := find_power hf
      have HTK : Hid (takenC (powerC c) k = true) := (inv_files (inv_power HG.out.1) hfp).2
      have HTC : Hid (takenC c k = true) := (inv_files HG.out.1 hf).2
      have HFP : Hid (findC (powerC c).now nm = some k) := hfp
      have HLT : Hid (k < (powerC c).files.length) := (inv_files (inv_power HG.out.1) hfp).1
      have hfile := HIS.out.file k HTC.out
      obtain ⟨a0, cap0, hv0, d0, -, -, -, -, -, -⟩ := hfile.len
      have hsz : (fileC c k).1.size ≤ 1048576 := (HG.out.1.2.2.1 k).2
      have huq : usedC c ≤ c.quota := HG.out.1.2.2.2
      have hqb : c.quota ≤ 1073741824 := HG.out.2.2.2.2.2
      have c3 := HIS.out.cells.2.2.2.1
      have c4 := HIS.out.cells.2.2.2.2.1
      rw [HBL.out] at HE
      have HFS : Hid (fileC (powerC c) k = fileC c k) := by unfold Hid fileC; rw [(power_lists c).2.2.1]
      have HQ : Hid (∀ q, q = c.quota → c.quota = q) := fun q e => e.symm
      clear hfile hv0 hoff hf hfp
      obtain ⟨sz, hszn⟩ : ∃ sz, sz = (fileC c k).1.size := ⟨_, rfl⟩
      obtain ⟨q, hq⟩ : ∃ q, q = c.quota := ⟨_, rfl⟩
      obtain ⟨u, hu⟩ : ∃ u, u = usedC c := ⟨_, rfl⟩
      have HSZ : Hid (sz = (fileC c k).1.size) := hszn
      have HQE : Hid (q = c.quota) := hq
      have HUE : Hid (u = usedC c) := hu
      rw [← hszn, ← hq, ← hu] at HE
      rw [← hszn] at hsz d0
      rw [← hu] at huq c3
      rw [← hq] at huq hqb c4
      clear hszn hq hu HQ
      by_cases h1 : 1048576 < sz + len
      · have HR : Hid (appendR c nm B = (17, c)) := by unfold Hid appendR; rw [HE.out, if_pos h1]; exact done_no (e := 17) (by decide) _ _
        have i1 : (1048576 : Int) - (sz : Int) < (len : Int) := by omega
        clear HE h1 HGO HIS HG HO
        go_enter Try.func11, Try.ntmps11
        go_wp2_with fail
        refine Calls.mono HFD.out ?_
        rintro _ w1 ⟨rfl, hw1⟩
        replace hw1 := hw1.symm
        subst hw1
        go_wp2_with fail
        go_ret
        exact ⟨by rw [HR.out]; rfl, by rw [HR.out]; exact HSELF.out⟩
      · have i1 : ¬ (1048576 : Int) - (sz : Int) < (len : Int) := by omega
        have hqu : IntKind.i64.wrap ((q : Int) - (u : Int)) = (q : Int) - (u : Int) := by rw [IntKind.wrap_i64]; omega
        by_cases h2 : q < u + len
        · have HR : Hid (appendR c nm B = (10, c)) := by unfold Hid appendR; rw [HE.out, if_neg h1, if_pos h2]; exact done_no (e := 10) (by decide) _ _
          have i2 : (q : Int) - (u : Int) < (len : Int) := by omega
          have HSD : Hid (∀ nq, PostP ProgAt w g O c (w.drewN nq)) := fun nq => post_same (ProgIs.at (w := w.drewN nq) (HIS.out.below (below_drew (Below.refl _ _) nq)) HO.out) (apart_of (below_drew (Below.refl _ _) nq) _)
          clear HE h1 h2 HGO HIS HG HO
          go_enter Try.func11, Try.ntmps11
          go_wp2_with fail
          refine Calls.mono HFD.out ?_
          rintro _ w1 ⟨rfl, hw1⟩
          replace hw1 := hw1.symm
          subst hw1
          go_wp2_with fail
          go_quiet (fail)
          go_wp2_with fail
          go_ret
          exact ⟨by rw [HR.out]; rfl, by rw [HR.out]; exact HSD.out _⟩
        · have i2 : ¬ (q : Int) - (u : Int) < (len : Int) := by omega
          have HT0 : Hid (appendR c nm B = doneC 0 c (fun c' => appendC c' k B)) := by unfold Hid appendR; rw [HE.out, if_neg h1, if_neg h2, HNC.out]
          have HGQ : Hid (∀ nq, Calls Try.prog 26 #[.pointer (some ⟨g, 0, none⟩)] (w.drewN nq) fun e w' => e = .returned (.bool (decide (powerE c = 11))) ∧ ProgIs w' g O (powerC c) fa dv mn ml vs ∧ Apart O w w') := fun nq =>
            (pgoes_is (w.drewN nq) g O c fa dv mn ml vs (HIS.out.below (below_drew (Below.refl _ _) nq)) HG.out.2.1).mono fun e w' ⟨he, hp, ha⟩ => ⟨he, hp, (apart_of (below_drew (Below.refl _ _) nq) O).same ha⟩
          rcases power_two c with hpe | hpe
          · have HR : Hid (appendR c nm B = (0, appendC (powerC c) k B)) := HT0.out.trans (done_yes hpe _)
            have hd : decide (powerE c = 11) = false := by rw [hpe]; rfl
            rw [hd] at HGQ
            have HAP : Hid (InvC (appendC (powerC c) k B) ∧ usedC (appendC (powerC c) k B) = u + len) := by
              have := inv_append (inv_power HG.out.1) B HFP.out (by rw [HFS.out, ← HSZ.out, HBL.out]; omega) (by rw [used_power, (power_lists c).2.2.2.2, ← HUE.out, ← HQE.out, HBL.out]; omega)
              rw [used_power, ← HUE.out, HBL.out] at this
              exact this
            have HOP : Hid (OrdC (appendC (powerC c) k B)) := (ord_power HO.out).lists rfl rfl rfl
            have HUP : Hid (usedC (powerC c) = u) := by unfold Hid; rw [used_power, HUE.out]
            clear HE h1 h2 HGO HIS HG HO hpe HT0 hd HNC
            go_enter Try.func11, Try.ntmps11
            go_wp2_with fail
            refine Calls.mono HFD.out ?_
            rintro _ w1 ⟨rfl, hw1⟩
            replace hw1 := hw1.symm
            subst hw1
            go_wp2_with fail
            go_quiet (fail)
            go_wp2_with fail
            refine Calls.mono (HGQ.out _) ?_
            rintro _ w1 ⟨rfl, hr1, ha1⟩
            have HR1 : Hid (ProgIs w1 g O (powerC c) fa dv mn ml vs) := hr1
            have HA1 : Hid (Apart O w w1) := ha1
            have hrow1 : RowL .u8 w1 a len (txt B) := by
              refine ⟨HROW.out.1, ?_⟩
              rcases Nat.eq_zero_or_pos len with h00 | hpos
              · exact .inl h00
              rcases HROW.out.2 with h0 | ⟨b, off, e, hb, hc⟩
              · exact .inl h0
              · refine .inr ⟨b, off, e, Nat.lt_of_lt_of_le hb ha1.size, fun i hi => ?_⟩
                rw [← hc i hi]
                exact World.cell?_of_block (a := ⟨b, off + i, none⟩) (ha1.block b hb (HOUT.out hpos _ e))
            have HROW1 : Hid (RowL .u8 w1 a len (txt B)) := hrow1
            have hfile := hr1.file k HTK.out
            rw [HFS.out] at hfile
            obtain ⟨a1, cap1, hv1, e0, -, -, -, -, -, -⟩ := hfile.len
            rw [← HSZ.out] at hv1 e0
            have HOWN : Hid (OwnL 5 .u8 w1 0 (.slice a1 sz cap1) (txt (fileC (powerC c) k).1)) := by rw [← hv1, HFS.out]; exact hfile.2
            have HV1 : Hid (dv k = .slice a1 sz cap1) := hv1
            have HTL : Hid ((txt (fileC (powerC c) k).1).length = sz) := by unfold Hid; rw [txt_length, HFS.out, HSZ.out]
            have HSU : Hid (((u + len : Nat) : Int) = (u : Int) + (len : Int)) := Int.natCast_add u len
            have hul : IntKind.i64.wrap ((u : Int) + (len : Int)) = (u : Int) + (len : Int) := by rw [IntKind.wrap_i64]; omega
            clear hr1 ha1 hrow1 hfile hv1 c3 c4 d0 HGQ HFD
            generalize powerC c = c' at *
            go_wp2_with (at_builtin; (refine append_bytes rfl _ _ rfl (.slice a1 sz cap1) (txt (fileC c' k).1) rfl HOWN.out a len cap (txt B) rfl HROW1.out (by rw [HTL.out]; omega) ?_; intro v2 w2 hown2 hgr2 hnew2; obtain ⟨a2, n2, cap2, hv2, d0, g0, ⟨O3, dv3, hr3, hO3⟩, ha3⟩ := filled HR1.out HTK.out HLT.out B HV1.out hown2 hgr2 hnew2; subst hv2; have e3 := hr3.cells.2.2.2.1; have g3 := hr3.frozen 3; rw [HUP.out] at e3; have HR3 : Hid _ := hr3; have HO3 : Hid (∀ b, O3 b → O b ∨ w1.heap.size ≤ b) := hO3; have HA3 : Hid (Apart O w1 (w2.setCell ⟨fa k, 0, none⟩ (.slice a2 n2 cap2))) := ha3; clear hown2 hgr2 hnew2 hr3 hO3 ha3))
            go_ret
            refine ⟨by rw [HR.out]; rfl, ?_⟩
            rw [HR.out]
            have hr3 : ProgRaw (w2.setCell ⟨fa k, 0, none⟩ (.slice a2 n2 cap2)) g O3 (appendC c' k B) (usedC c') (fun i => takenC c' i = true) fa dv3 mn ml vs := HR3.out
            have h5 := hr3.plain 3 (.int .i64 ((u : Int) + (len : Int))) (c' := appendC c' k B) (tk' := u + len) (by rw [← HSU.out]; rfl) rfl rfl rfl rfl
            rw [← HAP.out.2] at h5
            exact post_from HA1.out (post_refile h5 (HA3.out.set HR1.out.og _ _) HOP.out HO3.out)
          · have HR : Hid (appendR c nm B = (11, powerC c)) := HT0.out.trans (done_down hpe _)
            have hd : decide (powerE c = 11) = true := by rw [hpe]; rfl
            rw [hd] at HGQ
            have HOP : Hid (OrdC (powerC c)) := ord_power HO.out
            clear HE h1 h2 HGO HIS HG HO hpe HT0 hd HNC
            go_enter Try.func11, Try.ntmps11
            go_wp2_with fail
            refine Calls.mono HFD.out ?_
            rintro _ w1 ⟨rfl, hw1⟩
            replace hw1 := hw1.symm
            subst hw1
            go_wp2_with fail
            go_quiet (fail)
            go_wp2_with fail
            refine Calls.mono (HGQ.out _) ?_
            rintro _ w1 ⟨rfl, hr1, ha1⟩
            have HP : Hid (PostP ProgAt w g O (powerC c) w1) := post_same (hr1.at HOP.out) ha1
            clear hr1 ha1 c3 c4 d0 HGQ HFD
            go_wp2_with fail
            go_ret
            exact ⟨by rw [HR.out]; rfl, by rw [HR.out]; exact HP.out⟩
end Go.Proofs.Ytlhmeebbdjiokaa
