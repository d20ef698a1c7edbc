/-
  The document's cabinet: Create.
-/
import Derived.Test.YtlhmeebbdjiokaaCabSync
namespace Go.Proofs.Ytlhmeebbdjiokaa
open Go.ChangeShapes Go.WideShapes Go.ChangeAt Go.RowKit
set_option linter.unusedVariables false
set_option linter.unusedSimpArgs false
theorem fileT : (Try.prog.info? 89).map (fun i => (i.zero, i.size, i.bytes)) = some (some (.agg #[.string ByteArray.empty, .int .i64 0]), 2, 24) := by kernel_rfl
/-- One empty file behind a row of files. -/
theorem appendF {ops : Array Oper} {rest : List Oper} (w : World) {o : Oper} {a : Act} {Q : Exit → Act → World → Prop} (hgd : o.guard = none) (sl x : Operand)
    (ho : o.op = .call { callee := .builtin .append, args := #[sl, x], argTypes := #[48, 48] })
    (v : Value) (ts : List (ByteArray × Nat)) (hs : a.eval sl = v) (hown : OwnF w v ts) (q : Nat) (y : ByteArray × Nat) (hx : a.eval x = .slice (some ⟨q, 0, none⟩) 1 1)
    (hq : w.heap[q]? = some (.cells #[.string y.1, .int .i64 (y.2 : Nat)] 89 (0, 0))) (hl : ts.length ≤ 1099511627776) (d : Option Tmp) (hd : o.dst = d)
    (h : ∀ v' w', OwnF w' v' (ts ++ [y]) → w.grownBy w' v.ownBlock → (∀ b, v'.ownBlock = some b → v.ownBlock = some b ∨ w.heap.size ≤ b) → wpList Try.prog ops Q rest (a.put d v') w') : wpList Try.prog ops Q (o :: rest) a w := by
  obtain ⟨i0, hi, hz0, hz1, hz2⟩ := info_parts fileT
  refine wpList_plain hgd fun K hK => wp_append_where w sl x 48 ho 89 i0 (.agg #[.string ByteArray.empty, .int .i64 0]) 2 24 Try.underlying48 hi hz0 hz1 hz2 rfl (by decide) v ts.length (encNs ts) hs hown ⟨q, 0, none⟩ 1 1 (encN y) hx rfl ?_ ?_ (by unfold maxLen; omega) (by omega) d hd ?_
  · intro j u hj
    have e := fun i => cell_of_row w q i _ _ _ hq
    match j, hj with
    | 0, hj => simp [encN] at hj; subst hj; exact e 0
    | 1, hj => simp [encN] at hj; subst hj; exact e 1
    | j + 2, hj => simp [encN] at hj
  · intro u hu
    simp [encN] at hu
    rcases hu with rfl | rfl <;> rfl
  · intro v' w' h1 h2 h3
    refine hK _ _ (h v' w' ?_ h2 h3)
    unfold OwnF
    rw [List.length_append, encNs_app]
    have e : encNs [y] = encN y := by unfold encNs; simp
    rw [e]
    exact h1
theorem OwnF.slice {w : World} {v : Value} {ts : List (ByteArray × Nat)} (h : OwnF w v ts) : ∃ a k, v = .slice a ts.length k := by
  obtain ⟨a, cap, hv, -⟩ := h.at
  exact ⟨a, cap, hv⟩
def createR (c : CabM) (nm : ByteArray) : Nat × CabM := doneC (createE c nm) c (fun c' => createC c' nm)
set_option maxRecDepth 100000 in
set_option maxHeartbeats 8000000 in
theorem rcreate_any (w : World) (g : Nat) (O : Nat → Prop) (c : CabM) (h : CabAt w g O c) (ht : TimeC c) (nm : ByteArray) (hsz : nm.size ≤ 9223372036854775806) (hb1 : c.now.length ≤ 1099511627776) (hb2 : c.wait.length ≤ 1099511627776) (hb3 : c.files.length ≤ 1099511627775) :
    Calls Try.prog 36 #[.pointer (some ⟨g, 0, none⟩), .string nm] w fun e w' => e = .returned (.int .i64 ((createR c nm).1 : Nat)) ∧ CabPost w g O (createR c nm).2 w' := by
  have HPW : Hid _ := rpower_any w g O c h ht
  have HSELF : Hid (CabPost w g O c w) := ⟨⟨O, h, fun _ e => .inl e⟩, Apart.refl _ _⟩
  obtain ⟨af, nf, cf, an, nn, cn, az, ns, cs, aw, nw, cw, hraw, -, hnn, -, -, hcn, -, hrn, -⟩ := h.open
  have HF : Hid (∀ V, V = w → Calls Try.prog 47 #[.slice an nn cn, .string nm] V fun e w' => e = .returned (.int .i64 (findI c.now nm)) ∧ w' = V) := fun V hV => by rw [hV]; exact rfind_any an nn cn c.now nm w hrn hnn.symm (by omega)
  have HGD : Hid _ := rgood_any nm w hsz
  have c2 := hraw.cells.2.2.1
  have c7 := hraw.cells.2.2.2.2.2.2.2
  have HNN : Hid (nn = c.now.length) := hnn
  have hnnb : nn ≤ 1099511627776 := by omega
  clear hraw hrn hnn hcn h
  cases hoff : c.off with
  | true =>
    rw [hoff] at c7
    have HR : Hid (createR c nm = (11, c)) := by unfold Hid createR createE; rw [hoff]; exact done_no (e := 11) (by decide) _ _
    clear HPW hoff HGD HF
    go_enter Try.func36, Try.ntmps36
    go_wp2_with fail
    go_ret
    exact ⟨by rw [HR.out]; rfl, by rw [HR.out]; exact HSELF.out⟩
  | false =>
    rw [hoff] at c7
    cases hgd : goodC nm with
    | false =>
      rw [hgd] at HGD
      have HR : Hid (createR c nm = (6, c)) := by unfold Hid createR createE; rw [hoff, hgd]; exact done_no (e := 6) (by decide) _ _
      clear HPW hoff HF hgd
      go_enter Try.func36, Try.ntmps36
      go_wp2_with fail
      refine Calls.mono HGD.out ?_
      rintro _ w1 ⟨rfl, hw1⟩
      replace hw1 := hw1.symm
      subst hw1
      go_wp2_with fail
      go_ret
      exact ⟨by rw [HR.out]; rfl, by rw [HR.out]; exact HSELF.out⟩
    | true =>
      rw [hgd] at HGD
      cases hfc : findC c.now nm with
      | some n =>
        have hfi : findI c.now nm = (n : Nat) := by unfold findI; rw [hfc]
        rw [hfi] at HF
        have hn0 : (0 : Int) ≤ ((n : Nat) : Int) := by omega
        have HR : Hid (createR c nm = (8, c)) := by unfold Hid createR createE; rw [hoff, hgd, hfc]; exact done_no (e := 8) (by decide) _ _
        clear HPW hoff hgd hfc hfi
        go_enter Try.func36, Try.ntmps36
        go_wp2_with fail
        refine Calls.mono HGD.out ?_
        rintro _ w1 ⟨rfl, hw1⟩
        replace hw1 := hw1.symm
        subst hw1
        go_wp2_with fail
        refine Calls.mono (HF.out _ rfl) ?_
        rintro _ w1' ⟨rfl, hw1'⟩
        replace hw1' := hw1'.symm
        subst hw1'
        go_wp2_with fail
        go_ret
        exact ⟨by rw [HR.out]; rfl, by rw [HR.out]; exact HSELF.out⟩
      | none =>
        have hfi : findI c.now nm = -1 := by unfold findI; rw [hfc]
        rw [hfi] at HF
        by_cases hful : 4096 ≤ nn
        · have hful2 : (4096 : Int) ≤ (nn : Int) := by omega
          have HR : Hid (createR c nm = (9, c)) := by unfold Hid createR createE; rw [hoff, hgd, hfc, ← HNN.out, if_pos hful]; exact done_no (e := 9) (by decide) _ _
          clear HPW hoff hgd hfc hfi hful
          go_enter Try.func36, Try.ntmps36
          go_wp2_with fail
          refine Calls.mono HGD.out ?_
          rintro _ w1 ⟨rfl, hw1⟩
          replace hw1 := hw1.symm
          subst hw1
          go_wp2_with fail
          refine Calls.mono (HF.out _ rfl) ?_
          rintro _ w1' ⟨rfl, hw1'⟩
          replace hw1' := hw1'.symm
          subst hw1'
          go_wp2_with fail
          go_ret
          exact ⟨by rw [HR.out]; rfl, by rw [HR.out]; exact HSELF.out⟩
        · have hful2 : ¬ (4096 : Int) ≤ (nn : Int) := by omega
          have HT0 : Hid (createR c nm = doneC 0 c (fun c' => createC c' nm)) := by unfold Hid createR createE; rw [hoff, hgd, hfc, ← HNN.out, if_neg hful]; rfl
          clear hoff hgd hfc hfi hful
          rcases power_two c with hpe | hpe
          · have HR : Hid (createR c nm = (0, createC (powerC c) nm)) := HT0.out.trans (done_yes hpe _)
            rw [hpe] at HPW
            have HLN : Hid ((powerC c).now.length ≤ 1099511627776) := by unfold Hid; rw [(power_lists c).1]; exact hb1
            have HLW : Hid ((powerC c).wait.length ≤ 1099511627776) := by unfold Hid; rw [(power_lists c).2.1]; exact hb2
            have HLF : Hid ((powerC c).files.length ≤ 1099511627775) := by unfold Hid; rw [(power_lists c).2.2.1]; exact hb3
            clear hpe HT0 HSELF
            go_enter Try.func36, Try.ntmps36
            go_wp2_with fail
            refine Calls.mono HGD.out ?_
            rintro _ w1 ⟨rfl, hw1⟩
            replace hw1 := hw1.symm
            subst hw1
            go_wp2_with fail
            refine Calls.mono (HF.out _ rfl) ?_
            rintro _ w1' ⟨rfl, hw1'⟩
            replace hw1' := hw1'.symm
            subst hw1'
            go_wp2_with fail
            refine Calls.mono HPW.out ?_
            rintro _ w2 ⟨rfl, ⟨O2, hc2, hO2⟩, ha2⟩
            have HO2 : Hid (∀ b, O2 b → O b ∨ w.heap.size ≤ b) := hO2
            have HA2 : Hid (Apart O w w2) := ha2
            generalize powerC c = c' at *
            have HB3 : Hid (Below w2.heap.size w2 (w2.alloc (.cells #[.string (ByteArray.mk #[]), .int .i64 0] 89))) := below_new w2 _
            have hq3 : (w2.alloc (.cells #[.string (ByteArray.mk #[]), .int .i64 0] 89)).heap[w2.heap.size]? = some (.cells #[.string (ByteArray.mk #[]), .int .i64 0] 89 (0, 0)) := heap_alloc_last w2 _
            obtain ⟨af, nf, cf, an, nn, cn, az, ns, cs, aw, nw, cw, hraw2, hnf, -⟩ := hc2.open
            have e1 := hraw2.cells.2.1
            have HRAW3 : Hid (CabRaw (w2.alloc (.cells #[.string (ByteArray.mk #[]), .int .i64 0] 89)) g O2 c' (.slice af nf cf) (.slice an nn cn) (.slice az ns cs) (.slice aw nw cw)) := hraw2.below HB3.out
            have HNF : Hid (nf = c'.files.length) := hnf
            have hnfb : nf ≤ 1099511627775 := by have := HLF.out; omega
            clear hc2 hO2 ha2 hraw2 HPW HF HGD c2 c7 hnf
            go_wp2_with (at_builtin; (refine appendF (w2.alloc (.cells #[.string (ByteArray.mk #[]), .int .i64 0] 89)) rfl _ _ rfl (.slice af nf cf) c'.files rfl HRAW3.out.parts.1 w2.heap.size (ByteArray.mk #[], 0) rfl hq3 (by have := HLF.out; omega) (some 41) rfl ?_; intro v4 w4 hown4 hgr4 hbk4; obtain ⟨HP4, c14, f14⟩ := HRAW3.out.filed hgr4 hown4 hbk4; obtain ⟨a4, k4, hv4⟩ := hown4.slice; obtain ⟨n4, hn4⟩ : ∃ n4, n4 = (c'.files ++ [(ByteArray.mk #[], 0)]).length := ⟨_, rfl⟩; rw [← hn4] at hv4; subst hv4; have hn5 : n4 = nf + 1 := (by rw [hn4, List.length_append, ← HNF.out]; rfl); have hn4i : (n4 : Int) - 1 = (nf : Int) := (by omega); have hn4b : n4 ≤ 1099511627776 := (by omega); clear hn4 hn5; have HP4' : Hid (CabPost w g O ({ c' with files := c'.files ++ [(ByteArray.mk #[], 0)] } : CabM) (w4.setCell ⟨g, 1, none⟩ (.slice a4 n4 k4))) := CabPost.trans HO2.out HA2.out (CabPost.trans (fun b e => .inl e) (apart_of HB3.out O2) HP4); have HC4 : Hid ((w4.setCell ⟨g, 1, none⟩ (.slice a4 n4 k4)).cell? ⟨g, 1, none⟩ = some (.slice a4 n4 k4)) := World.cell?_setCell_same _ _ _ c14; clear hown4 hgr4 hbk4 HP4))
            obtain ⟨⟨O5, hc5, hO5⟩, ha5⟩ := HP4'.out
            have HO5 : Hid (∀ b, O5 b → O b ∨ w.heap.size ≤ b) := hO5
            have HA5 : Hid (Apart O w (w4.setCell ⟨g, 1, none⟩ (.slice a4 n4 k4))) := ha5
            have HC5 : Hid (CabAt (w4.setCell ⟨g, 1, none⟩ (.slice a4 n4 k4)) g O5 ({ c' with files := c'.files ++ [(ByteArray.mk #[], 0)] } : CabM)) := hc5
            clear hc5 hO5 ha5
            refine Calls.mono (rnames_any _ g O5 ({ c' with files := c'.files ++ [(ByteArray.mk #[], 0)] } : CabM) HC5.out (ByteArray.mk #[]) nm nf HLN.out HLW.out) ?_
            rintro _ w6 ⟨rfl, hp6⟩
            have HP6 : Hid (CabPost w g O (createC c' nm) w6) := by
              have := CabPost.trans HO5.out HA5.out hp6
              unfold Hid createC
              rw [← HNF.out]
              exact this
            clear hp6
            go_wp2_with fail
            go_ret
            exact ⟨by rw [HR.out]; rfl, by rw [HR.out]; exact HP6.out⟩
          · have HR : Hid (createR c nm = (11, powerC c)) := HT0.out.trans (done_down hpe _)
            rw [hpe] at HPW
            clear hpe HT0 HSELF
            go_enter Try.func36, Try.ntmps36
            go_wp2_with fail
            refine Calls.mono HGD.out ?_
            rintro _ w1 ⟨rfl, hw1⟩
            replace hw1 := hw1.symm
            subst hw1
            go_wp2_with fail
            refine Calls.mono (HF.out _ rfl) ?_
            rintro _ w1' ⟨rfl, hw1'⟩
            replace hw1' := hw1'.symm
            subst hw1'
            go_wp2_with fail
            refine Calls.mono HPW.out ?_
            rintro _ w2 ⟨rfl, hp⟩
            have HP : Hid (CabPost w g O (powerC c) w2) := hp
            clear HPW c7 hp HF c2
            go_wp2_with fail
            go_ret
            exact ⟨by rw [HR.out]; rfl, by rw [HR.out]; exact HP.out⟩
end Go.Proofs.Ytlhmeebbdjiokaa
