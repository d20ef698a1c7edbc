/-
  The document's cabinet: Remove, Rename.
-/
import Derived.Test.YtlhmeebbdjiokaaCabNames
namespace Go.Proofs.Ytlhmeebbdjiokaa
open Go.ChangeShapes Go.WideShapes Go.ChangeAt Go.RowKit
set_option linter.unusedVariables false
set_option linter.unusedSimpArgs false
def numC (c : CabM) (nm : ByteArray) : Nat := (findC c.now nm).getD 0
def removeR (c : CabM) (nm : ByteArray) : Nat × CabM := doneC (someE c nm) c (fun c' => namesC c' (nm, ByteArray.mk #[], numC c nm))
def renameR (c : CabM) (old nm : ByteArray) : Nat × CabM := doneC (renameE c old nm) c (fun c' => namesC c' (old, nm, numC c old))
theorem power_lists (c : CabM) : (powerC c).now = c.now ∧ (powerC c).wait = c.wait ∧ (powerC c).files = c.files ∧ (powerC c).sure = c.sure ∧ (powerC c).quota = c.quota := by
  unfold powerC
  split
  · exact ⟨rfl, rfl, rfl, rfl, rfl⟩
  · split <;> exact ⟨rfl, rfl, rfl, rfl, rfl⟩
set_option maxRecDepth 100000 in
set_option maxHeartbeats 4000000 in
theorem rremove_any (w : World) (g : Nat) (O : Nat → Prop) (c : CabM) (h : CabAt w g O c) (ht : TimeC c) (nm : ByteArray) (hb1 : c.now.length ≤ 1099511627776) (hb2 : c.wait.length ≤ 1099511627776) :
    Calls Try.prog 43 #[.pointer (some ⟨g, 0, none⟩), .string nm] w fun e w' => e = .returned (.int .i64 ((removeR c nm).1 : Nat)) ∧ CabPost w g O (removeR c nm).2 w' := by
  have HPW : Hid _ := rpower_any w g O c h ht
  have HSELF : Hid (CabPost w g O c w) := ⟨⟨O, h, fun _ e => .inl e⟩, Apart.refl _ _⟩
  obtain ⟨af, nf, cf, an, nn, cn, az, ns, cs, aw, nw, cw, hraw, -, hnn, -, -, hcn, -, hrn, -⟩ := h.open
  have HF : Hid _ := rfind_any an nn cn c.now nm w hrn hnn.symm (by omega)
  have c2 := hraw.cells.2.2.1
  have c7 := hraw.cells.2.2.2.2.2.2.2
  clear hraw hrn hnn hcn h
  cases hoff : c.off with
  | true =>
    rw [hoff] at c7
    have HR : Hid (removeR c nm = (11, c)) := by unfold Hid removeR someE; rw [hoff]; exact done_no (e := 11) (by decide) _ _
    generalize findI c.now nm = z at *
    clear HPW hoff
    go_enter Try.func43, Try.ntmps43
    go_wp2_with fail
    refine Calls.mono HF.out ?_
    rintro _ w1 ⟨rfl, hw1⟩
    replace hw1 := hw1.symm
    subst hw1
    go_wp2_with fail
    go_ret
    exact ⟨by rw [HR.out]; rfl, by rw [HR.out]; exact HSELF.out⟩
  | false =>
    rw [hoff] at c7
    cases hfc : findC c.now nm with
    | none =>
      have HR : Hid (removeR c nm = (7, c)) := by unfold Hid removeR someE; rw [hoff, hfc]; exact done_no (e := 7) (by decide) _ _
      have hfi : findI c.now nm = -1 := by unfold findI; rw [hfc]
      rw [hfi] at HF
      clear HPW hoff hfc hfi
      go_enter Try.func43, Try.ntmps43
      go_wp2_with fail
      refine Calls.mono HF.out ?_
      rintro _ w1 ⟨rfl, hw1⟩
      replace hw1 := hw1.symm
      subst hw1
      go_wp2_with fail
      go_ret
      exact ⟨by rw [HR.out]; rfl, by rw [HR.out]; exact HSELF.out⟩
    | some n =>
      have hfi : findI c.now nm = (n : Nat) := by unfold findI; rw [hfc]
      have HNC : Hid (numC c nm = n) := by unfold Hid numC; rw [hfc]; rfl
      rw [hfi] at HF
      have hn0 : ¬ ((n : Nat) : Int) < 0 := by omega
      have HT0 : Hid (removeR c nm = doneC 0 c (fun c' => namesC c' (nm, (ByteArray.mk #[]), n))) := by unfold Hid removeR someE; rw [hoff, hfc]; rw [HNC.out]; rfl
      clear hoff hfc hfi HNC
      rcases power_two c with hpe | hpe
      · have HR : Hid (removeR c nm = (0, namesC (powerC c) (nm, (ByteArray.mk #[]), n))) := HT0.out.trans (done_yes hpe _)
        rw [hpe] at HPW
        have HLN : Hid ((powerC c).now.length ≤ 1099511627776) := by unfold Hid; rw [(power_lists c).1]; exact hb1
        have HLW : Hid ((powerC c).wait.length ≤ 1099511627776) := by unfold Hid; rw [(power_lists c).2.1]; exact hb2
        clear hpe HT0 HSELF
        go_enter Try.func43, Try.ntmps43
        go_wp2_with fail
        refine Calls.mono HF.out ?_
        rintro _ w1 ⟨rfl, hw1⟩
        replace hw1 := hw1.symm
        subst hw1
        go_wp2_with fail
        refine Calls.mono HPW.out ?_
        rintro _ w2 ⟨rfl, ⟨O2, hc2, hO2⟩, ha2⟩
        have HC2 : Hid (CabAt w2 g O2 (powerC c)) := hc2
        have HO2 : Hid (∀ b, O2 b → O b ∨ w.heap.size ≤ b) := hO2
        have HA2 : Hid (Apart O w w2) := ha2
        clear HPW HF c2 c7 hc2 hO2 ha2
        go_wp2_with fail
        refine Calls.mono (rnames_any w2 g O2 (powerC c) HC2.out nm (ByteArray.mk #[]) n HLN.out HLW.out) ?_
        rintro _ w3 ⟨rfl, hp3⟩
        have HP3 : Hid (CabPost w g O (namesC (powerC c) (nm, (ByteArray.mk #[]), n)) w3) := CabPost.trans HO2.out HA2.out hp3
        clear hp3
        go_wp2_with fail
        go_ret
        exact ⟨by rw [HR.out]; rfl, by rw [HR.out]; exact HP3.out⟩
      · have HR : Hid (removeR c nm = (11, powerC c)) := HT0.out.trans (done_down hpe _)
        rw [hpe] at HPW
        clear hpe HT0 HSELF
        go_enter Try.func43, Try.ntmps43
        go_wp2_with fail
        refine Calls.mono HF.out ?_
        rintro _ w1 ⟨rfl, hw1⟩
        replace hw1 := hw1.symm
        subst hw1
        go_wp2_with fail
        refine Calls.mono HPW.out ?_
        rintro _ w2 ⟨rfl, hp⟩
        have HP : Hid (CabPost w g O (powerC c) w2) := hp
        clear HPW c7 hp HF c2
        go_wp2_with fail
        go_ret
        exact ⟨by rw [HR.out]; rfl, by rw [HR.out]; exact HP.out⟩
set_option maxRecDepth 100000 in
set_option maxHeartbeats 4000000 in
theorem rrename_any (w : World) (g : Nat) (O : Nat → Prop) (c : CabM) (h : CabAt w g O c) (ht : TimeC c) (old nm : ByteArray) (hsz : nm.size ≤ 9223372036854775806) (hb1 : c.now.length ≤ 1099511627776) (hb2 : c.wait.length ≤ 1099511627776) :
    Calls Try.prog 41 #[.pointer (some ⟨g, 0, none⟩), .string old, .string nm] w fun e w' => e = .returned (.int .i64 ((renameR c old nm).1 : Nat)) ∧ CabPost w g O (renameR c old nm).2 w' := by
  have HPW : Hid _ := rpower_any w g O c h ht
  have HSELF : Hid (CabPost w g O c w) := ⟨⟨O, h, fun _ e => .inl e⟩, Apart.refl _ _⟩
  obtain ⟨af, nf, cf, an, nn, cn, az, ns, cs, aw, nw, cw, hraw, -, hnn, -, -, hcn, -, hrn, -⟩ := h.open
  have HF : Hid _ := rfind_any an nn cn c.now old w hrn hnn.symm (by omega)
  have c2 := hraw.cells.2.2.1
  have c7 := hraw.cells.2.2.2.2.2.2.2
  clear hraw hrn hnn hcn h
  have HGD : Hid (∀ V, Calls Try.prog 53 #[.string nm] V fun e w' => e = .returned (.bool (goodC nm)) ∧ w' = V) := fun V => rgood_any nm V hsz
  cases hoff : c.off with
  | true =>
    rw [hoff] at c7
    have HR : Hid (renameR c old nm = (11, c)) := by unfold Hid renameR renameE; rw [hoff]; exact done_no (e := 11) (by decide) _ _
    generalize findI c.now old = z at *
    clear HPW hoff
    go_enter Try.func41, Try.ntmps41
    go_wp2_with fail
    refine Calls.mono HF.out ?_
    rintro _ w1 ⟨rfl, hw1⟩
    replace hw1 := hw1.symm
    subst hw1
    go_wp2_with fail
    go_ret
    exact ⟨by rw [HR.out]; rfl, by rw [HR.out]; exact HSELF.out⟩
  | false =>
    rw [hoff] at c7
    cases hfc : findC c.now old with
    | none =>
      have HR : Hid (renameR c old nm = (7, c)) := by unfold Hid renameR renameE; rw [hoff, hfc]; exact done_no (e := 7) (by decide) _ _
      have hfi : findI c.now old = -1 := by unfold findI; rw [hfc]
      rw [hfi] at HF
      clear HPW hoff hfc hfi
      go_enter Try.func41, Try.ntmps41
      go_wp2_with fail
      refine Calls.mono HF.out ?_
      rintro _ w1 ⟨rfl, hw1⟩
      replace hw1 := hw1.symm
      subst hw1
      go_wp2_with fail
      go_ret
      exact ⟨by rw [HR.out]; rfl, by rw [HR.out]; exact HSELF.out⟩
    | some n =>
      have hfi : findI c.now old = (n : Nat) := by unfold findI; rw [hfc]
      have HNC : Hid (numC c old = n) := by unfold Hid numC; rw [hfc]; rfl
      rw [hfi] at HF
      have hn0 : ¬ ((n : Nat) : Int) < 0 := by omega
      cases hgd : goodC nm with
      | false =>
        rw [hgd] at HGD
        have HR : Hid (renameR c old nm = (6, c)) := by unfold Hid renameR renameE; rw [hoff, hfc]; show doneC (if (!goodC nm) = true then 6 else 0) c _ = _; rw [hgd]; exact done_no (e := 6) (by decide) _ _
        clear HPW hoff hfc hfi HNC hgd
        go_enter Try.func41, Try.ntmps41
        go_wp2_with fail
        refine Calls.mono HF.out ?_
        rintro _ w1 ⟨rfl, hw1⟩
        replace hw1 := hw1.symm
        subst hw1
        go_wp2_with fail
        refine Calls.mono (HGD.out _) ?_
        rintro _ w1' ⟨rfl, hw1'⟩
        replace hw1' := hw1'.symm
        subst hw1'
        go_wp2_with fail
        go_ret
        exact ⟨by rw [HR.out]; rfl, by rw [HR.out]; exact HSELF.out⟩
      | true =>
        rw [hgd] at HGD
        have HT0 : Hid (renameR c old nm = doneC 0 c (fun c' => namesC c' (old, nm, n))) := by unfold Hid renameR renameE; rw [hoff, hfc]; show doneC (if (!goodC nm) = true then 6 else 0) c _ = _; rw [hgd, HNC.out]; rfl
        clear hoff hfc hfi HNC hgd
        rcases power_two c with hpe | hpe
        · have HR : Hid (renameR c old nm = (0, namesC (powerC c) (old, nm, n))) := HT0.out.trans (done_yes hpe _)
          rw [hpe] at HPW
          have HLN : Hid ((powerC c).now.length ≤ 1099511627776) := by unfold Hid; rw [(power_lists c).1]; exact hb1
          have HLW : Hid ((powerC c).wait.length ≤ 1099511627776) := by unfold Hid; rw [(power_lists c).2.1]; exact hb2
          clear hpe HT0 HSELF
          go_enter Try.func41, Try.ntmps41
          go_wp2_with fail
          refine Calls.mono HF.out ?_
          rintro _ w1 ⟨rfl, hw1⟩
          replace hw1 := hw1.symm
          subst hw1
          go_wp2_with fail
          refine Calls.mono (HGD.out _) ?_
          rintro _ w1' ⟨rfl, hw1'⟩
          replace hw1' := hw1'.symm
          subst hw1'
          go_wp2_with fail
          refine Calls.mono HPW.out ?_
          rintro _ w2 ⟨rfl, ⟨O2, hc2, hO2⟩, ha2⟩
          have HC2 : Hid (CabAt w2 g O2 (powerC c)) := hc2
          have HO2 : Hid (∀ b, O2 b → O b ∨ w.heap.size ≤ b) := hO2
          have HA2 : Hid (Apart O w w2) := ha2
          clear HPW HF c2 c7 hc2 hO2 ha2
          go_wp2_with fail
          refine Calls.mono (rnames_any w2 g O2 (powerC c) HC2.out old nm n HLN.out HLW.out) ?_
          rintro _ w3 ⟨rfl, hp3⟩
          have HP3 : Hid (CabPost w g O (namesC (powerC c) (old, nm, n)) w3) := CabPost.trans HO2.out HA2.out hp3
          clear hp3
          go_wp2_with fail
          go_ret
          exact ⟨by rw [HR.out]; rfl, by rw [HR.out]; exact HP3.out⟩
        · have HR : Hid (renameR c old nm = (11, powerC c)) := HT0.out.trans (done_down hpe _)
          rw [hpe] at HPW
          clear hpe HT0 HSELF
          go_enter Try.func41, Try.ntmps41
          go_wp2_with fail
          refine Calls.mono HF.out ?_
          rintro _ w1 ⟨rfl, hw1⟩
          replace hw1 := hw1.symm
          subst hw1
          go_wp2_with fail
          refine Calls.mono (HGD.out _) ?_
          rintro _ w1' ⟨rfl, hw1'⟩
          replace hw1' := hw1'.symm
          subst hw1'
          go_wp2_with fail
          refine Calls.mono HPW.out ?_
          rintro _ w2 ⟨rfl, hp⟩
          have HP : Hid (CabPost w g O (powerC c) w2) := hp
          clear HPW c7 hp HF c2
          go_wp2_with fail
          go_ret
          exact ⟨by rw [HR.out]; rfl, by rw [HR.out]; exact HP.out⟩
end Go.Proofs.Ytlhmeebbdjiokaa
