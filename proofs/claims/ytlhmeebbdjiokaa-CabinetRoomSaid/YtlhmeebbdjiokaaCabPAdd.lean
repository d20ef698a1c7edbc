/-
  The program's cabinet: Create, Append.
-/
import Derived.Test.YtlhmeebbdjiokaaCabPTurn
import Derived.Test.YtlhmeebbdjiokaaAppendWhere
namespace Go.Proofs.Ytlhmeebbdjiokaa
open Go.ChangeShapes Go.WideShapes Go.ChangeAt Go.RowKit Go.Maps Go.MapKept Go.ChangeMaps
set_option linter.unusedVariables false
set_option linter.unusedSimpArgs false
theorem used_create {c : CabM} (h : InvC c) (nm : ByteArray) : usedC (createC c nm) = usedC c := by
  have ht : ∀ i, takenC (createC c nm) i = (takenC c i || c.files.length == i) := fun i => taken_names { c with files := c.files ++ [(ByteArray.empty, 0)] } (ByteArray.empty, nm, c.files.length) i
  show sumC (c.files ++ [(ByteArray.empty, 0)]) (takenC (createC c nm)) = sumC c.files (takenC c)
  rw [sum_more]
  have e0 : (if takenC (createC c nm) c.files.length = true then (ByteArray.empty, 0).1.size else 0) = 0 := by split <;> rfl
  rw [e0, Nat.add_zero]
  refine sum_agree _ _ _ fun i hi => ?_
  rw [ht]
  have : (c.files.length == i) = false := by rw [beq_eq_false_iff_ne]; omega
  rw [this, Bool.or_false]
theorem createE_off {c : CabM} {nm : ByteArray} (h : c.off = true) : createE c nm = 11 := by unfold createE; rw [h]; rfl
theorem createE_bad {c : CabM} {nm : ByteArray} (h : c.off = false) (hg : goodC nm = false) : createE c nm = 6 := by unfold createE; rw [h, hg]; rfl
theorem createE_there {c : CabM} {nm : ByteArray} {k : Nat} (h : c.off = false) (hg : goodC nm = true) (hf : findC c.now nm = some k) : createE c nm = 8 := by unfold createE; rw [h, hg, hf]; rfl
theorem createE_ok {c : CabM} {nm : ByteArray} {n : Nat} (h : c.off = false) (hg : goodC nm = true) (hf : findC c.now nm = none) (hl : c.now.length ≤ n) (hn : n ≤ 1000) : createE c nm = 0 := by unfold createE; rw [h, hg, hf]; simp; omega
/-- A file is made: a block of its own, then the change. -/
theorem pmade_any (w : World) (g : Nat) (O : Nat → Prop) (c : CabM) (n : Nat) (fa : Nat → Nat) (dv : Nat → Value) (mn ml : Option Nat) (vs : Value) (h : ProgIs w g O c fa dv mn ml vs) (ho : OrdC c) (hg : GoodC c n) (hn : n ≤ 1000) (nm : ByteArray) (hgd : goodC nm = true) :
    Calls Try.prog 27 #[.pointer (some ⟨g, 0, none⟩), .agg #[.int .i64 0, .string (ByteArray.mk #[]), .string nm, .pointer (some ⟨w.heap.size, 0, none⟩)]] (w.alloc (.cells #[.slice none 0 0, .int .i64 0] 74)) fun e w' => e = .returned (.tuple #[]) ∧ PostP ProgAt w g O (createC c nm) w' := by
  have hI := hg.1
  have hwait : ∀ x ∈ c.wait, takenC c x.2.2 = true := fun x hx => (taken_iff _ _).2 (.inr ⟨x, hx, rfl⟩)
  have hsure : ∀ e ∈ c.sure, takenC c e.2 = true := fun e he => (taken_iff _ _).2 (.inl ⟨e, he, rfl⟩)
  have hcr := h.created (c' := { c with files := c.files ++ [(ByteArray.empty, 0)] }) (fun i hi => hI.2.1 i hi) hI.1 hsure hwait rfl rfl rfl rfl rfl rfl rfl rfl
  have hs := good_size hgd
  have hl := hg.2.2
  have hlen : c.now.length ≤ 1099511627776 ∧ c.wait.length ≤ 1099511627776 := by obtain ⟨h1, h2, -, -⟩ := hl; omega
  have hk := kind0 (x := (ByteArray.mk #[], nm, c.files.length)) (fun i => if i = c.files.length then w.heap.size else fa i) rfl
  dsimp only at hk
  rw [if_pos rfl] at hk
  have hp := precord_any (w.alloc (.cells #[.slice none 0 0, .int .i64 0] 74)) g _ _ _ _ _ _ mn ml vs hcr (ByteArray.mk #[], nm, c.files.length) 0 (some ⟨w.heap.size, 0, none⟩) hk hlen.1 hlen.2 (Nat.le_trans hs.2 (by decide)) (Nat.zero_le _) (fun _ => hs.1)
  refine hp.mono fun e w' ⟨he, O', mn2, ml2, vs2, hr, hO, ha⟩ => ⟨he, ?_⟩
  have hnew : ¬ O w.heap.size := fun e => absurd (h.lt _ e) (Nat.lt_irrefl _)
  have hord : OrdC (createC c nm) := by
    refine ord_names (c := { c with files := c.files ++ [(ByteArray.empty, 0)] }) (ho.lists rfl rfl rfl) (ByteArray.empty, nm, c.files.length) ⟨hs.2, fun _ => hs.1, Nat.zero_le _⟩ (with_one_create ho.oneNow nm _ fun e he hn' => ?_)
    have := (hI.2.1 _ (hI.1 e he))
    omega
  have hsub : ∀ i, takenC (createC c nm) i = true → takenC c i = true ∨ i = c.files.length := fun i hi => by
    have ht : takenC (createC c nm) i = (takenC c i || c.files.length == i) := taken_names { c with files := c.files ++ [(ByteArray.empty, 0)] } (ByteArray.empty, nm, c.files.length) i
    rw [ht, Bool.or_eq_true] at hi
    rcases hi with hi | hi
    · exact .inl hi
    · exact .inr (beq_iff_eq.1 hi).symm
  have h3 := hr.less (A' := fun i => takenC (createC c nm) i = true) hsub
  rw [← used_create hI nm] at h3
  refine post_refile h3 ((apart_of (below_new w _) O).trans ha (fun k e => ?_)) hord (fun b hb => ?_)
  · rcases e with e | e
    · exact .inl e
    · exact .inr (by rw [e]; exact Nat.le_refl _)
  · rcases hO b hb with (e | e) | e
    · exact .inl e
    · exact .inr (by rw [e]; exact Nat.le_refl _)
    · exact .inr (Nat.le_trans (by simp) e)
set_option maxRecDepth 100000 in
set_option maxHeartbeats 4000000 in
theorem pcreate_any (w : World) (g : Nat) (O : Nat → Prop) (c : CabM) (n : Nat) (nm : ByteArray) (h : ProgAt w g O c) (hg : GoodC c n) (hn : n ≤ 1000) (hnm : nm.size ≤ 9223372036854775806) :
    Calls Try.prog 10 #[.pointer (some ⟨g, 0, none⟩), .string nm] w fun e w' => e = .returned (.int .i64 ((createR c nm).1 : Nat)) ∧ PostP ProgAt w g O (createR c nm).2 w' := by
  obtain ⟨fa, dv, mn, ml, vs, hraw, ho⟩ := h
  obtain ⟨c0, c1, c2, c3, c4, c5, c6, c7⟩ := hraw.cells
  have HRD : Hid _ := pready_any w g c.off c7
  have HNM : Hid _ := pname_any nm w hnm
  have HGO : Hid _ := pgoes_is w g O c fa dv mn ml vs hraw hg.2.1
  have HSELF : Hid (PostP ProgAt w g O c w) := post_self ⟨fa, dv, mn, ml, vs, hraw, ho⟩
  have HO : Hid (OrdC c) := ho
  have HG : Hid (GoodC c n) := hg
  have hlook := hraw.mapNow.look nm (by unfold maxLen; omega)
  have hlen := hraw.mapNow.len
  have HNL : Hid (c.now.length ≤ n) := hg.2.2.1
  clear hraw ho hg c7 c1 c2 c3 c4 c5 c6
  cases hoff : c.off with
  | true =>
    have HR : Hid (createR c nm = (11, c)) := by unfold Hid createR; rw [createE_off hoff]; exact done_no (by decide) _ _
    rw [hoff] at HRD
    clear hoff HGO HO HG hlook hlen HNM
    go_enter Try.func10, Try.ntmps10
    go_wp2_with fail
    refine Calls.mono HRD.out ?_
    rintro _ w1 ⟨rfl, hw1⟩
    replace hw1 := hw1.symm
    subst hw1
    go_wp2_with fail
    go_ret
    exact ⟨by rw [HR.out]; rfl, by rw [HR.out]; exact HSELF.out⟩
  | false =>
    rw [hoff] at HRD
    cases hgd : goodC nm with
    | false =>
      have HR : Hid (createR c nm = (6, c)) := by unfold Hid createR; rw [createE_bad hoff hgd]; exact done_no (by decide) _ _
      rw [hgd] at HNM
      clear hoff HGO HO HG hlook hlen hgd
      go_enter Try.func10, Try.ntmps10
      go_wp2_with fail
      refine Calls.mono HRD.out ?_
      rintro _ w1 ⟨rfl, hw1⟩
      replace hw1 := hw1.symm
      subst hw1
      go_wp2_with fail
      refine Calls.mono HNM.out ?_
      rintro _ w1 ⟨rfl, hw1⟩
      replace hw1 := hw1.symm
      subst hw1
      go_wp2_with fail
      go_ret
      exact ⟨by rw [HR.out]; rfl, by rw [HR.out]; exact HSELF.out⟩
    | true =>
      rw [hgd] at HNM
      cases hf : findC c.now nm with
      | some k =>
        have HR : Hid (createR c nm = (8, c)) := by unfold Hid createR; rw [createE_there hoff hgd hf]; exact done_no (by decide) _ _
        rw [hf] at hlook
        unfold ptrV at hlook
        dsimp only at hlook
        clear hoff HGO HO HG hlen hgd hf
        go_enter Try.func10, Try.ntmps10
        go_wp2_with fail
        refine Calls.mono HRD.out ?_
        rintro _ w1 ⟨rfl, hw1⟩
        replace hw1 := hw1.symm
        subst hw1
        go_wp2_with fail
        refine Calls.mono HNM.out ?_
        rintro _ w1 ⟨rfl, hw1⟩
        replace hw1 := hw1.symm
        subst hw1
        go_wp2_with fail
        go_ret
        exact ⟨by rw [HR.out]; rfl, by rw [HR.out]; exact HSELF.out⟩
      | none =>
        have HT0 : Hid (createR c nm = doneC 0 c (fun c' => createC c' nm)) := by unfold Hid createR; rw [createE_ok hoff hgd hf HNL.out hn]
        rw [hf] at hlook
        unfold ptrV at hlook
        dsimp only at hlook
        obtain ⟨nl, hnl⟩ : ∃ nl, nl = c.now.length := ⟨_, rfl⟩
        rw [← hnl] at hlen HNL
        have hnl4 : ¬ (4096 : Int) ≤ (nl : Int) := by have := HNL.out; omega
        clear hnl HSELF
        rcases power_two c with hpe | hpe
        · have HR : Hid (createR c nm = (0, createC (powerC c) nm)) := HT0.out.trans (done_yes hpe _)
          have hd : decide (powerE c = 11) = false := by rw [hpe]; rfl
          rw [hd] at HGO
          have HMA : Hid (∀ w1 : World, ProgIs w1 g O (powerC c) fa dv mn ml vs → Calls Try.prog 27 #[.pointer (some ⟨g, 0, none⟩), .agg #[.int .i64 0, .string (ByteArray.mk #[]), .string nm, .pointer (some ⟨w1.heap.size, 0, none⟩)]] (w1.alloc (.cells #[.slice none 0 0, .int .i64 0] 74)) fun e w' => e = .returned (.tuple #[]) ∧ PostP ProgAt w1 g O (createC (powerC c) nm) w') :=
            fun w1 h1 => pmade_any w1 g O (powerC c) n fa dv mn ml vs h1 (ord_power HO.out) (good_power HG.out) hn nm hgd
          clear hoff hgd hf hpe HT0 hd HO HG
          go_enter Try.func10, Try.ntmps10
          go_wp2_with fail
          refine Calls.mono HRD.out ?_
          rintro _ w1 ⟨rfl, hw1⟩
          replace hw1 := hw1.symm
          subst hw1
          go_wp2_with fail
          refine Calls.mono HNM.out ?_
          rintro _ w1 ⟨rfl, hw1⟩
          replace hw1 := hw1.symm
          subst hw1
          go_wp2_with fail
          refine Calls.mono HGO.out ?_
          rintro _ w1 ⟨rfl, hr1, ha1⟩
          have HR1 : Hid (ProgIs w1 g O (powerC c) fa dv mn ml vs) := hr1
          have HA1 : Hid (Apart O w w1) := ha1
          clear hr1 ha1 hlook hlen c0
          go_wp2_with fail
          refine Calls.mono (HMA.out w1 HR1.out) ?_
          rintro _ w2 ⟨rfl, hp⟩
          have HP : Hid (PostP ProgAt w g O (createC (powerC c) nm) w2) := post_from HA1.out hp
          clear hp
          go_wp2_with fail
          go_ret
          exact ⟨by rw [HR.out]; rfl, by rw [HR.out]; exact HP.out⟩
        · have HR : Hid (createR c nm = (11, powerC c)) := HT0.out.trans (done_down hpe _)
          have hd : decide (powerE c = 11) = true := by rw [hpe]; rfl
          rw [hd] at HGO
          have HOP : Hid (OrdC (powerC c)) := ord_power HO.out
          clear hoff hgd hf hpe HT0 hd HO HG
          go_enter Try.func10, Try.ntmps10
          go_wp2_with fail
          refine Calls.mono HRD.out ?_
          rintro _ w1 ⟨rfl, hw1⟩
          replace hw1 := hw1.symm
          subst hw1
          go_wp2_with fail
          refine Calls.mono HNM.out ?_
          rintro _ w1 ⟨rfl, hw1⟩
          replace hw1 := hw1.symm
          subst hw1
          go_wp2_with fail
          refine Calls.mono HGO.out ?_
          rintro _ w1 ⟨rfl, hr1, ha1⟩
          have HP : Hid (PostP ProgAt w g O (powerC c) w1) := post_same (hr1.at HOP.out) ha1
          clear hr1 ha1 hlook hlen c0
          go_wp2_with fail
          go_ret
          exact ⟨by rw [HR.out]; rfl, by rw [HR.out]; exact HP.out⟩
end Go.Proofs.Ytlhmeebbdjiokaa
