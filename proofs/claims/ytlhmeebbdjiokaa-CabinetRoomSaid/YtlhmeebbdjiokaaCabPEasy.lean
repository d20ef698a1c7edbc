/-
  The program's cabinet: New, Used, Fail, Read, Names; no cabinet.
-/
import Derived.Test.YtlhmeebbdjiokaaCabPForget
import Derived.Test.YtlhmeebbdjiokaaCabPSettle
import Derived.Test.YtlhmeebbdjiokaaCabPair
namespace Go.Proofs.Ytlhmeebbdjiokaa
open Go.ChangeShapes Go.WideShapes Go.ChangeAt Go.RowKit Go.Maps Go.MapKept Go.ChangeMaps
set_option linter.unusedVariables false
set_option linter.unusedSimpArgs false
section
variable {w w' : World} {g : Nat} {O : Nat → Prop} {c : CabM} {tk : Nat} {A : Nat → Prop} {fa : Nat → Nat} {dv : Nat → Value} {mn ml : Option Nat} {vs : Value}
/-- Fewer files need be there. -/
theorem ProgRaw.less (h : ProgRaw w g O c tk A fa dv mn ml vs) {A' : Nat → Prop} (hA : ∀ i, A' i → A i) : ProgRaw w g O c tk A' fa dv mn ml vs :=
  ⟨h.cabBlock, h.mapNow, h.mapLast, h.since, fun i hi => h.file i (hA i hi), fun i j hi hj => h.inj i j (hA i hi) (hA j hj), fun i j b hi hj => h.injD i j b (hA i hi) (hA j hj), h.two, h.og, h.on, h.ol, h.os, fun i hi => h.of i (hA i hi), h.lt⟩
theorem ProgRaw.apart (h : ProgRaw w g O c tk A fa dv mn ml vs) (hb : Below w.heap.size w w') : ProgRaw w' g O c tk A fa dv mn ml vs ∧ Apart O w w' := ⟨h.below hb, apart_of hb O⟩
end
theorem prog_new (w : World) (q : Nat) : ProgAt (w.alloc (.cells #[.map none, .map none, .slice none 0 0, .int .i64 0, .int .i64 (q : Nat), .bool false, .int .i64 0, .bool false] 47)) w.heap.size (fun b => b = w.heap.size) (newC q) := by
  have hno : ∀ i, takenC (newC q) i = true → False := fun i hi => by
    rcases (taken_iff _ _).1 hi with ⟨e, he, _⟩ | ⟨x, hx, _⟩
    · cases he
    · cases hx
  refine ⟨fun _ => 0, fun _ => .slice none 0 0, none, none, .slice none 0 0, ⟨?_, .inl ⟨rfl, rfl⟩, .inl ⟨rfl, rfl⟩, ownG_nil _ _, fun i hi => (hno i hi).elim, fun i j hi => (hno i hi).elim, fun i j b hi => (hno i hi).elim, fun b e => (by cases e), rfl, fun b e => (by cases e), fun b e => (by cases e), fun b e => (by cases e), fun i hi => (hno i hi).elim, fun b e => (by rw [e]; simp)⟩, ord_new q⟩
  exact heap_alloc_last w _
set_option maxHeartbeats 1000000 in
theorem pnew_any (w : World) (z : Int) : Calls Try.prog 5 #[.int .i64 z] w fun e w' => NewP ProgAt w z e w' := by
  by_cases h1 : z < 1
  · have HR : Hid (newOk z = false) := by unfold Hid newOk; rw [decide_eq_false (by omega)]; rfl
    go_enter Try.func5, Try.ntmps5
    go_wp2_with fail
    go_ret2
    unfold NewP
    rw [HR.out]
    exact ⟨rfl, Below.refl _ _⟩
  · by_cases h2 : 1073741824 < z
    · have HR : Hid (newOk z = false) := by unfold Hid newOk; rw [decide_eq_false (show ¬ z ≤ 1073741824 by omega), Bool.and_false]
      go_enter Try.func5, Try.ntmps5
      go_wp2_with fail
      go_ret2
      unfold NewP
      rw [HR.out]
      exact ⟨rfl, Below.refl _ _⟩
    · have HR : Hid (newOk z = true) := by unfold Hid newOk; rw [decide_eq_true (by omega), decide_eq_true (by omega)]; rfl
      obtain ⟨q, rfl⟩ : ∃ q : Nat, z = (q : Int) := ⟨z.toNat, by omega⟩
      have HC : Hid _ := prog_new w q
      have HB : Hid (Below w.heap.size w (w.alloc (.cells #[.map none, .map none, .slice none 0 0, .int .i64 0, .int .i64 (q : Nat), .bool false, .int .i64 0, .bool false] 47))) := below_new w _
      go_enter Try.func5, Try.ntmps5
      go_wp2_with fail
      go_ret2
      unfold NewP
      rw [HR.out]
      exact ⟨w.heap.size, _, rfl, HC.out, fun b e => by rw [e]; exact Nat.le_refl _, HB.out⟩
set_option maxHeartbeats 1000000 in
theorem pused_any (w : World) (g : Nat) (O : Nat → Prop) (c : CabM) (n : Nat) (h : ProgAt w g O c) (hg : GoodC c n) :
    Calls Try.prog 9 #[.pointer (some ⟨g, 0, none⟩)] w fun e w' => e = .returned (.tuple #[.int .i64 (usedC c : Nat), .int .i64 (c.quota : Nat)]) ∧ Below w.heap.size w w' := by
  obtain ⟨fa, dv, mn, ml, vs, hraw, -⟩ := h
  have c3 := hraw.cells.2.2.2.1
  have c4 := hraw.cells.2.2.2.2.1
  clear hraw hg
  generalize usedC c = u at *
  generalize c.quota = q at *
  go_enter Try.func9, Try.ntmps9
  go_wp2_with fail
  go_quiet (fail)
  have HB : Hid (Below w.heap.size w (w.drewN nq)) := below_drew (Below.refl _ _) nq
  generalize w.drewN nq = wq at *
  go_wp2_with fail
  go_ret2
  exact ⟨rfl, HB.out⟩
theorem pused_nil (w : World) : Calls Try.prog 9 #[.pointer none] w fun e w' => e = .returned (.tuple #[.int .i64 0, .int .i64 0]) ∧ w' = w := by
  go_enter Try.func9, Try.ntmps9
  go_wp2_with fail
  go_ret2
  exact ⟨rfl, rfl⟩
set_option maxHeartbeats 1000000 in
theorem pfail_any (w : World) (g : Nat) (O : Nat → Prop) (c : CabM) (n : Nat) (z : Int) (h : ProgAt w g O c) :
    Calls Try.prog 16 #[.pointer (some ⟨g, 0, none⟩), .int .i64 z] w fun e w' => e = .returned (.tuple #[]) ∧ PostP ProgAt w g O (failC c z) w' := by
  obtain ⟨fa, dv, mn, ml, vs, hraw, ho⟩ := h
  obtain ⟨c0, c1, c2, c3, c4, c5, c6, c7⟩ := hraw.cells
  have f5 := hraw.frozen 5
  have f6 := hraw.frozen 6
  have hr5 : ProgRaw (w.setCell ⟨g, 5, none⟩ (.bool (decide (0 ≤ z)))) g O { c with timed := decide (0 ≤ z) } (usedC c) (fun i => takenC c i = true) fa dv mn ml vs := hraw.plain 5 (.bool (decide (0 ≤ z))) rfl rfl rfl rfl rfl
  have d6 := hr5.cells.2.2.2.2.2.2.1
  have e6 := hr5.frozen 6
  have HP : Hid (PostP ProgAt w g O (failC c z) ((w.setCell ⟨g, 5, none⟩ (.bool (decide (0 ≤ z)))).setCell ⟨g, 6, none⟩ (.int .i64 z))) := by
    refine ⟨⟨O, ⟨fa, dv, mn, ml, vs, ?_, ho.lists rfl rfl rfl⟩, fun _ h => .inl h⟩, ((Apart.refl _ _).set hraw.og _ _).set hraw.og _ _⟩
    exact hr5.plain (c' := failC c z) 6 (.int .i64 z) rfl rfl rfl rfl rfl
  clear hr5 hraw c0 c1 c2 c3 c4 c7 ho
  go_enter Try.func16, Try.ntmps16
  go_wp2_with fail
  go_end0
  exact ⟨rfl, HP.out⟩
theorem pfail_nil (w : World) (z : Int) : Calls Try.prog 16 #[.pointer none, .int .i64 z] w fun e w' => e = .returned (.tuple #[]) ∧ w' = w := by
  go_enter Try.func16, Try.ntmps16
  go_wp2_with fail
  (try simp only [Exit.inBlock, Exit.then])
  refine bodyPost_ret (results_none rfl _ _ _) rfl ?_
  exact ⟨rfl, rfl⟩
theorem FileAt.form {w : World} {b : Nat} {v : Value} {f : ByteArray × Nat} (h : FileAt w b v f) : ∃ a cap, v = .slice a f.1.size cap ∧ ∀ ad, a = some ad → ∃ b off, ad = ⟨b, off, none⟩ := by
  obtain ⟨a, cap, hv, hr, -, -⟩ := h.2.row
  rw [txt_length] at hv
  refine ⟨a, cap, hv, fun ad e => ?_⟩
  rcases h.2.2 with ⟨e4, -⟩ | ⟨g, cap2, cur, e4, -⟩
  · rw [hv] at e4; injection e4 with e4; rw [e] at e4; cases e4
  · rw [hv] at e4; injection e4 with e4; rw [e] at e4; injection e4 with e4; exact ⟨g, 0, e4⟩
theorem findV_off {c : CabM} {fa : Nat → Nat} {nm : ByteArray} (h : c.off = true) : findV c fa nm = .tuple #[.pointer none, .int .i64 11] := by unfold findV; rw [h]; rfl
theorem findV_no {c : CabM} {fa : Nat → Nat} {nm : ByteArray} (h : c.off = false) (hf : findC c.now nm = none) : findV c fa nm = .tuple #[.pointer none, .int .i64 7] := by unfold findV; rw [h, hf]; rfl
theorem findV_yes {c : CabM} {fa : Nat → Nat} {nm : ByteArray} {n : Nat} (h : c.off = false) (hf : findC c.now nm = some n) : findV c fa nm = .tuple #[.pointer (some ⟨fa n, 0, none⟩), .int .i64 0] := by unfold findV; rw [h, hf]; rfl
set_option maxHeartbeats 2000000 in
theorem pread_any (w : World) (g : Nat) (O : Nat → Prop) (c : CabM) (n : Nat) (nm : ByteArray) (h : ProgAt w g O c) (hg : GoodC c n) (hn : nm.size ≤ 9223372036854775806) :
    Calls Try.prog 14 #[.pointer (some ⟨g, 0, none⟩), .string nm] w fun e w' => ReadP c nm e w' ∧ Below w.heap.size w w' := by
  obtain ⟨fa, dv, mn, ml, vs, hraw, ho⟩ := h
  have HFD : Hid _ := pfind_any w g O c _ _ fa dv mn ml vs hraw nm hn
  cases hoff : c.off with
  | true =>
    have HR : Hid (readR c nm = (ByteArray.mk #[], 11)) := by unfold Hid readR; rw [hoff]; rfl
    rw [findV_off hoff] at HFD
    clear hraw ho hg hoff
    go_enter Try.func14, Try.ntmps14
    go_wp2_with fail
    refine Calls.mono HFD.out ?_
    rintro _ w1 ⟨rfl, hw1⟩
    replace hw1 := hw1.symm
    subst hw1
    go_wp2_with fail
    go_ret2
    refine ⟨⟨none, 0, 0, by rw [HR.out]; rfl, by rw [HR.out]; exact ⟨rfl, .inl rfl⟩, fun _ => rfl, Nat.le_refl _⟩, Below.refl _ _⟩
  | false =>
    cases hf : findC c.now nm with
    | none =>
      have HR : Hid (readR c nm = (ByteArray.mk #[], 7)) := by unfold Hid readR; rw [hoff, hf]; rfl
      rw [findV_no hoff hf] at HFD
      clear hraw ho hg hoff hf
      go_enter Try.func14, Try.ntmps14
      go_wp2_with fail
      refine Calls.mono HFD.out ?_
      rintro _ w1 ⟨rfl, hw1⟩
      replace hw1 := hw1.symm
      subst hw1
      go_wp2_with fail
      go_ret2
      refine ⟨⟨none, 0, 0, by rw [HR.out]; rfl, by rw [HR.out]; exact ⟨rfl, .inl rfl⟩, fun _ => rfl, Nat.le_refl _⟩, Below.refl _ _⟩
    | some k =>
      have HR : Hid (readR c nm = ((fileC c k).1, 0)) := by unfold Hid readR; rw [hoff, hf]; rfl
      rw [findV_yes hoff hf] at HFD
      have hfile := hraw.file k (inv_files hg.1 hf).2
      have hsz : (fileC c k).1.size ≤ 1048576 := (hg.1.2.2.1 k).2
      obtain ⟨a, cap, hv, d0, -, -, hrow, -, hnil, -⟩ := hfile.len
      obtain ⟨a', cap', hv', hform⟩ := hfile.form
      have haa : a' = a := by rw [hv] at hv'; injection hv' with e; exact e.symm
      subst haa
      have HRW : Hid (RowL .u8 w a' (fileC c k).1.size (txt (fileC c k).1)) := hrow
      have HNI : Hid (a' = none → (fileC c k).1.size = 0) := hnil
      have HFO : Hid (∀ ad, a' = some ad → ∃ b off, ad = ⟨b, off, none⟩) := hform
      have HSZ : Hid ((fileC c k).1.size ≤ 1048576) := hsz
      clear hraw ho hg hoff hf hfile hv hrow hnil hv' hform hsz
      generalize (fileC c k).1 = T at *
      obtain ⟨tz, htz⟩ : ∃ tz, tz = T.size := ⟨_, rfl⟩
      rw [← htz] at d0 HRW HNI HSZ
      clear htz
      go_enter Try.func14, Try.ntmps14
      go_wp2_with fail
      refine Calls.mono HFD.out ?_
      rintro _ w1 ⟨rfl, hw1⟩
      replace hw1 := hw1.symm
      subst hw1
      go_wp2_with fail
      refine Calls.mono (pbytes_any _ a' tz cap (txt T) HRW.out HNI.out HFO.out (by have := HSZ.out; omega)) ?_
      rintro _ w2 ⟨v2, rfl, ho2, hb2⟩
      obtain ⟨a2, cap2, hv2, hr2, hc2, hx2⟩ := ho2.row
      obtain ⟨n2, hn2⟩ : ∃ n2, n2 = (txt T).length := ⟨_, rfl⟩
      rw [← hn2] at hv2 hr2 hc2
      subst hv2
      have HLC : Hid (n2 ≤ cap2) := hc2
      have HN2 : Hid (a2 = none → n2 = 0) := by
        intro e
        rcases hr2.2 with h0 | ⟨_, _, e', _⟩
        · exact h0
        · rw [e] at e'; cases e'
      have HR2 : Hid (RowL .u8 w2 a2 n2 (txt T)) := hr2
      have HB2 : Hid (Below _ _ w2) := hb2
      clear ho2 hb2 hr2 hc2 hx2 hn2
      go_wp2_with fail
      go_ret2
      exact ⟨⟨a2, n2, cap2, by rw [HR.out]; rfl, by rw [HR.out]; exact HR2.out, HN2.out, HLC.out⟩, HB2.out⟩
theorem pread_nil (w : World) (nm : ByteArray) : Calls Try.prog 14 #[.pointer none, .string nm] w fun e w' => e = .returned (.tuple #[.slice none 0 0, .int .i64 1]) ∧ w' = w := by
  have HFD : Hid _ := pfind_nil w nm
  go_enter Try.func14, Try.ntmps14
  go_wp2_with fail
  refine Calls.mono HFD.out ?_
  rintro _ w1 ⟨rfl, hw1⟩
  replace hw1 := hw1.symm
  subst hw1
  go_wp2_with fail
  go_ret2
  exact ⟨rfl, rfl⟩
set_option maxHeartbeats 2000000 in
theorem plist_any (w : World) (g : Nat) (O : Nat → Prop) (c : CabM) (n : Nat) (h : ProgAt w g O c) (hg : GoodC c n) (hn : n ≤ 1000) :
    Calls Try.prog 20 #[.pointer (some ⟨g, 0, none⟩)] w fun e w' => namesP c e w' ∧ Below w.heap.size w w' := by
  obtain ⟨fa, dv, mn, ml, vs, hraw, ho⟩ := h
  obtain ⟨c0, c1, c2, c3, c4, c5, c6, c7⟩ := hraw.cells
  have HRD : Hid _ := pready_any w g c.off c7
  have hnl : c.now.length ≤ 1099511627776 := by have := hg.2.2.1; omega
  have HST : Hid _ := psorted_any w mn c.now fa hraw.mapNow ho.sortNow hnl
  clear hraw c1 c2 c3 c4 c5 c6 c7 ho hg hn hnl
  cases hoff : c.off with
  | true =>
    have HR : Hid (namesR c = [] ∧ namesE c = 11) := by unfold Hid namesR namesE; rw [hoff]; exact ⟨rfl, rfl⟩
    rw [hoff] at HRD
    clear hoff HST
    go_enter Try.func20, Try.ntmps20
    go_wp2_with fail
    refine Calls.mono HRD.out ?_
    rintro _ w1 ⟨rfl, hw1⟩
    replace hw1 := hw1.symm
    subst hw1
    go_wp2_with fail
    go_ret2
    unfold namesP
    rw [HR.out.1, HR.out.2]
    exact ⟨⟨none, 0, rfl, .inl rfl⟩, Below.refl _ _⟩
  | false =>
    have HR : Hid (namesR c = c.now.map (·.1) ∧ namesE c = 0) := by unfold Hid namesR namesE; rw [hoff]; exact ⟨rfl, rfl⟩
    rw [hoff] at HRD
    clear hoff
    go_enter Try.func20, Try.ntmps20
    go_wp2_with fail
    refine Calls.mono HRD.out ?_
    rintro _ w1 ⟨rfl, hw1⟩
    replace hw1 := hw1.symm
    subst hw1
    go_wp2_with fail
    refine Calls.mono HST.out ?_
    rintro _ w2 ⟨v2, rfl, ho2, hb2⟩
    obtain ⟨a2, cap2, hv2, hr2, -, -⟩ := ho2.row
    have HR2 : Hid (RowS w2 a2 (c.now.map (·.1))) := hr2
    have HB2 : Hid (Below w.heap.size w w2) := hb2
    obtain ⟨n2, hn2⟩ : ∃ n2, n2 = (c.now.map (·.1)).length := ⟨_, rfl⟩
    have HN2 : Hid (n2 = (c.now.map (·.1)).length) := hn2
    rw [← hn2] at hv2
    subst hv2
    clear ho2 hb2 hr2 hn2 HST
    go_wp2_with fail
    go_ret2
    unfold namesP
    rw [HR.out.1, HR.out.2, ← HN2.out]
    exact ⟨⟨a2, cap2, rfl, HR2.out⟩, HB2.out⟩
theorem plist_nil (w : World) : Calls Try.prog 20 #[.pointer none] w fun e w' => e = .returned (.tuple #[.slice none 0 0, .int .i64 1]) ∧ w' = w := by
  have HRD : Hid _ := pready_nil w
  go_enter Try.func20, Try.ntmps20
  go_wp2_with fail
  refine Calls.mono HRD.out ?_
  rintro _ w1 ⟨rfl, hw1⟩
  replace hw1 := hw1.symm
  subst hw1
  go_wp2_with fail
  go_ret2
  exact ⟨rfl, rfl⟩
end Go.Proofs.Ytlhmeebbdjiokaa
