/-
  The program's cabinet: Remove, Rename, Sync, Turn, Create.
-/
import Derived.Test.YtlhmeebbdjiokaaCabPFile
namespace Go.Proofs.Ytlhmeebbdjiokaa
open Go.ChangeShapes Go.WideShapes Go.ChangeAt Go.RowKit Go.Maps Go.MapKept Go.ChangeMaps
set_option linter.unusedVariables false
set_option linter.unusedSimpArgs false
theorem good_size {nm : ByteArray} (h : goodC nm = true) : nm.size ≠ 0 ∧ nm.size ≤ 32 := by
  unfold goodC at h
  rw [Bool.and_eq_true, Bool.and_eq_true, decide_eq_true_eq, decide_eq_true_eq] at h
  omega
theorem lens_power {c : CabM} {n : Nat} (h : GoodC c n) (hn : n ≤ 1000) : (powerC c).now.length ≤ 1099511627776 ∧ (powerC c).wait.length ≤ 1099511627776 := by
  have := h.2.2
  rw [(power_lists c).1, (power_lists c).2.1]
  obtain ⟨h1, h2, h3, h4⟩ := this
  omega
theorem find_power {c : CabM} {nm : ByteArray} {k : Nat} (h : findC c.now nm = some k) : findC (powerC c).now nm = some k := by rw [(power_lists c).1]; exact h
set_option maxRecDepth 100000 in
set_option maxHeartbeats 4000000 in
theorem premove_any (w : World) (g : Nat) (O : Nat → Prop) (c : CabM) (n : Nat) (nm : ByteArray) (h : ProgAt w g O c) (hg : GoodC c n) (hn : n ≤ 1000) (hnm : nm.size ≤ 9223372036854775806) :
    Calls Try.prog 42 #[.pointer (some ⟨g, 0, none⟩), .string nm] w fun e w' => e = .returned (.int .i64 ((removeR c nm).1 : Nat)) ∧ PostP ProgAt w g O (removeR c nm).2 w' := by
  obtain ⟨fa, dv, mn, ml, vs, hraw, ho⟩ := h
  have HIS : Hid (ProgIs w g O c fa dv mn ml vs) := hraw
  have HO : Hid (OrdC c) := ho
  have HG : Hid (GoodC c n) := hg
  have HFD : Hid _ := pfind_any w g O c _ _ fa dv mn ml vs hraw nm hnm
  have HGO : Hid _ := pgoes_is w g O c fa dv mn ml vs hraw hg.2.1
  have HSELF : Hid (PostP ProgAt w g O c w) := post_self ⟨fa, dv, mn, ml, vs, hraw, ho⟩
  clear hraw ho hg
  cases hoff : c.off with
  | true =>
    have HR : Hid (removeR c nm = (11, c)) := by unfold Hid removeR someE; rw [hoff]; exact done_no (e := 11) (by decide) _ _
    rw [findV_off hoff] at HFD
    clear hoff HGO HIS HG HO
    go_enter Try.func42, Try.ntmps42
    go_wp2_with fail
    refine Calls.mono HFD.out ?_
    rintro _ w1 ⟨rfl, hw1⟩
    replace hw1 := hw1.symm
    subst hw1
    go_wp2_with fail
    go_ret
    exact ⟨by rw [HR.out]; rfl, by rw [HR.out]; exact HSELF.out⟩
  | false =>
    cases hf : findC c.now nm with
    | none =>
      have HR : Hid (removeR c nm = (7, c)) := by unfold Hid removeR someE; rw [hoff, hf]; exact done_no (e := 7) (by decide) _ _
      rw [findV_no hoff hf] at HFD
      clear hoff hf HGO HIS HG HO
      go_enter Try.func42, Try.ntmps42
      go_wp2_with fail
      refine Calls.mono HFD.out ?_
      rintro _ w1 ⟨rfl, hw1⟩
      replace hw1 := hw1.symm
      subst hw1
      go_wp2_with fail
      go_ret
      exact ⟨by rw [HR.out]; rfl, by rw [HR.out]; exact HSELF.out⟩
    | some k =>
      rw [findV_yes hoff hf] at HFD
      have HNC : Hid (numC c nm = k) := numC_eq hf
      have HT0 : Hid (removeR c nm = doneC 0 c (fun c' => namesC c' (nm, ByteArray.mk #[], k))) := by unfold Hid removeR someE; rw [hoff, hf, HNC.out]; rfl
      have hent := find_entry _ _ _ hf
      have hfull := HO.out.fullNow _ hent
      have hfp := find_power hf
      have HTK : Hid (takenC (powerC c) k = true) := (inv_files (inv_power HG.out.1) hfp).2
      have HLT : Hid (k < (powerC c).files.length) := (inv_files (inv_power HG.out.1) hfp).1
      have HORD : Hid (OrdC (namesC (powerC c) (nm, ByteArray.mk #[], k))) := ord_names (ord_power HO.out) (nm, ByteArray.mk #[], k) ⟨(show (ByteArray.mk #[]).size ≤ 32 by decide), fun e => absurd e hfull.1, hfull.2⟩ (by
        rw [(power_lists c).1]
        exact with_one_remove HO.out.oneNow nm k)
      have hlen := lens_power HG.out hn
      have HRC : Hid (∀ w1 : World, ProgIs w1 g O (powerC c) fa dv mn ml vs → Calls Try.prog 27 #[.pointer (some ⟨g, 0, none⟩), .agg #[.int .i64 2, .string nm, .string (ByteArray.mk #[]), .pointer none]] w1 fun e w' => e = .returned (.tuple #[]) ∧ RawPost w1 g O (namesC (powerC c) (nm, ByteArray.mk #[], k)) (usedC (powerC c)) (fun i => takenC (powerC c) i = true) fa dv w') := fun w1 h1 =>
        precord_any w1 g O (powerC c) _ _ fa dv mn ml vs h1 (nm, ByteArray.mk #[], k) 2 none (kind2 fa hfull.1 rfl) hlen.1 hlen.2 (Nat.le_trans (show (ByteArray.mk #[]).size ≤ 32 by decide) (by decide)) (Nat.le_trans hfull.2 (by decide)) (fun e => absurd e hfull.1)
      clear hlen
      rcases power_two c with hpe | hpe
      · have HR : Hid (removeR c nm = (0, namesC (powerC c) (nm, ByteArray.mk #[], k))) := HT0.out.trans (done_yes hpe _)
        have hd : decide (powerE c = 11) = false := by rw [hpe]; rfl
        rw [hd] at HGO
        clear hoff hf hpe HT0 hd hent hfull hfp HSELF HIS HNC HG HO
        go_enter Try.func42, Try.ntmps42
        go_wp2_with fail
        refine Calls.mono HFD.out ?_
        rintro _ w1 ⟨rfl, hw1⟩
        replace hw1 := hw1.symm
        subst hw1
        go_wp2_with fail
        refine Calls.mono HGO.out ?_
        rintro _ w1 ⟨rfl, hr1, ha1⟩
        have HR1 : Hid (ProgIs w1 g O (powerC c) fa dv mn ml vs) := hr1
        have HA1 : Hid (Apart O w w1) := ha1
        clear hr1 ha1
        go_wp2_with fail
        refine Calls.mono (HRC.out w1 HR1.out) ?_
        rintro _ w2 ⟨rfl, hp⟩
        have HP : Hid (PostP ProgAt w g O (namesC (powerC c) (nm, ByteArray.mk #[], k)) w2) := post_from HA1.out (post_names hp HTK.out HORD.out)
        clear hp
        go_wp2_with fail
        go_ret
        exact ⟨by rw [HR.out]; rfl, by rw [HR.out]; exact HP.out⟩
      · have HR : Hid (removeR c nm = (11, powerC c)) := HT0.out.trans (done_down hpe _)
        have hd : decide (powerE c = 11) = true := by rw [hpe]; rfl
        rw [hd] at HGO
        have HOP : Hid (OrdC (powerC c)) := ord_power HO.out
        clear hoff hf hpe HT0 hd hent hfull hfp HSELF HIS HNC HG HO HRC HORD HTK HLT
        go_enter Try.func42, Try.ntmps42
        go_wp2_with fail
        refine Calls.mono HFD.out ?_
        rintro _ w1 ⟨rfl, hw1⟩
        replace hw1 := hw1.symm
        subst hw1
        go_wp2_with fail
        refine Calls.mono HGO.out ?_
        rintro _ w1 ⟨rfl, hr1, ha1⟩
        have HP : Hid (PostP ProgAt w g O (powerC c) w1) := post_same (hr1.at HOP.out) ha1
        clear hr1 ha1
        go_wp2_with fail
        go_ret
        exact ⟨by rw [HR.out]; rfl, by rw [HR.out]; exact HP.out⟩
set_option maxRecDepth 100000 in
set_option maxHeartbeats 4000000 in
theorem prename_any (w : World) (g : Nat) (O : Nat → Prop) (c : CabM) (n : Nat) (old nm : ByteArray) (h : ProgAt w g O c) (hg : GoodC c n) (hn : n ≤ 1000) (hold : old.size ≤ 9223372036854775806) (hnm : nm.size ≤ 9223372036854775806) :
    Calls Try.prog 40 #[.pointer (some ⟨g, 0, none⟩), .string old, .string nm] w fun e w' => e = .returned (.int .i64 ((renameR c old nm).1 : Nat)) ∧ PostP ProgAt w g O (renameR c old nm).2 w' := by
  obtain ⟨fa, dv, mn, ml, vs, hraw, ho⟩ := h
  have HIS : Hid (ProgIs w g O c fa dv mn ml vs) := hraw
  have HO : Hid (OrdC c) := ho
  have HG : Hid (GoodC c n) := hg
  have HFD : Hid _ := pfind_any w g O c _ _ fa dv mn ml vs hraw old hold
  have HGO : Hid _ := pgoes_is w g O c fa dv mn ml vs hraw hg.2.1
  have HSELF : Hid (PostP ProgAt w g O c w) := post_self ⟨fa, dv, mn, ml, vs, hraw, ho⟩
  have HNM : Hid _ := pname_any nm w hnm
  clear hraw ho hg
  cases hoff : c.off with
  | true =>
    have HR : Hid (renameR c old nm = (11, c)) := by unfold Hid renameR renameE; rw [hoff]; exact done_no (e := 11) (by decide) _ _
    rw [findV_off hoff] at HFD
    clear hoff HGO HIS HG HO
    go_enter Try.func40, Try.ntmps40
    go_wp2_with fail
    refine Calls.mono HFD.out ?_
    rintro _ w1 ⟨rfl, hw1⟩
    replace hw1 := hw1.symm
    subst hw1
    go_wp2_with fail
    go_ret
    exact ⟨by rw [HR.out]; rfl, by rw [HR.out]; exact HSELF.out⟩
  | false =>
    cases hf : findC c.now old with
    | none =>
      have HR : Hid (renameR c old nm = (7, c)) := by unfold Hid renameR renameE; rw [hoff, hf]; exact done_no (e := 7) (by decide) _ _
      rw [findV_no hoff hf] at HFD
      clear hoff hf HGO HIS HG HO
      go_enter Try.func40, Try.ntmps40
      go_wp2_with fail
      refine Calls.mono HFD.out ?_
      rintro _ w1 ⟨rfl, hw1⟩
      replace hw1 := hw1.symm
      subst hw1
      go_wp2_with fail
      go_ret
      exact ⟨by rw [HR.out]; rfl, by rw [HR.out]; exact HSELF.out⟩
    | some k =>
      rw [findV_yes hoff hf] at HFD
      have HNC : Hid (numC c old = k) := numC_eq hf
      cases hgd : goodC nm with
      | false =>
        have HR : Hid (renameR c old nm = (6, c)) := by unfold Hid renameR renameE; rw [hoff, hf, hgd]; exact done_no (e := 6) (by decide) _ _
        rw [hgd] at HNM
        clear hoff hf HGO HIS HNC HG HO hgd
        go_enter Try.func40, Try.ntmps40
        go_wp2_with fail
        refine Calls.mono HFD.out ?_
        rintro _ w1 ⟨rfl, hw1⟩
        replace hw1 := hw1.symm
        subst hw1
        go_wp2_with fail
        refine Calls.mono HNM.out ?_
        rintro _ w1 ⟨rfl, hw1⟩
        replace hw1 := hw1.symm
        subst hw1
        go_wp2_with fail
        go_ret
        exact ⟨by rw [HR.out]; rfl, by rw [HR.out]; exact HSELF.out⟩
      | true =>
        rw [hgd] at HNM
        have HT0 : Hid (renameR c old nm = doneC 0 c (fun c' => namesC c' (old, nm, k))) := by unfold Hid renameR renameE; rw [hoff, hf, HNC.out, hgd]; rfl
        have hent := find_entry _ _ _ hf
        have hfull := HO.out.fullNow _ hent
        have hfp := find_power hf
        have HTK : Hid (takenC (powerC c) k = true) := (inv_files (inv_power HG.out.1) hfp).2
        have HLT : Hid (k < (powerC c).files.length) := (inv_files (inv_power HG.out.1) hfp).1
        have HORD : Hid (OrdC (namesC (powerC c) (old, nm, k))) := ord_names (ord_power HO.out) (old, nm, k) ⟨(good_size hgd).2, fun e => absurd e hfull.1, hfull.2⟩ (by
          rw [(power_lists c).1]
          exact with_one_rename HO.out.oneNow hfull.1 hent)
        have hlen := lens_power HG.out hn
        have HRC : Hid (∀ w1 : World, ProgIs w1 g O (powerC c) fa dv mn ml vs → Calls Try.prog 27 #[.pointer (some ⟨g, 0, none⟩), .agg #[.int .i64 1, .string old, .string nm, .pointer (some ⟨fa k, 0, none⟩)]] w1 fun e w' => e = .returned (.tuple #[]) ∧ RawPost w1 g O (namesC (powerC c) (old, nm, k)) (usedC (powerC c)) (fun i => takenC (powerC c) i = true) fa dv w') := fun w1 h1 =>
          precord_any w1 g O (powerC c) _ _ fa dv mn ml vs h1 (old, nm, k) 1 (some ⟨fa k, 0, none⟩) (kind1 fa hfull.1 (good_size hgd).1) hlen.1 hlen.2 (Nat.le_trans (good_size hgd).2 (by decide)) (Nat.le_trans hfull.2 (by decide)) (fun e => absurd e hfull.1)
        clear hlen
        rcases power_two c with hpe | hpe
        · have HR : Hid (renameR c old nm = (0, namesC (powerC c) (old, nm, k))) := HT0.out.trans (done_yes hpe _)
          have hd : decide (powerE c = 11) = false := by rw [hpe]; rfl
          rw [hd] at HGO
          clear hoff hf hpe HT0 hd hent hfull hfp HSELF HIS HNC HG HO
          go_enter Try.func40, Try.ntmps40
          go_wp2_with fail
          refine Calls.mono HFD.out ?_
          rintro _ w1 ⟨rfl, hw1⟩
          replace hw1 := hw1.symm
          subst hw1
          go_wp2_with fail
          refine Calls.mono HNM.out ?_
          rintro _ w1 ⟨rfl, hw1⟩
          replace hw1 := hw1.symm
          subst hw1
          go_wp2_with fail
          refine Calls.mono HGO.out ?_
          rintro _ w1 ⟨rfl, hr1, ha1⟩
          have HR1 : Hid (ProgIs w1 g O (powerC c) fa dv mn ml vs) := hr1
          have HA1 : Hid (Apart O w w1) := ha1
          clear hr1 ha1
          go_wp2_with fail
          refine Calls.mono (HRC.out w1 HR1.out) ?_
          rintro _ w2 ⟨rfl, hp⟩
          have HP : Hid (PostP ProgAt w g O (namesC (powerC c) (old, nm, k)) w2) := post_from HA1.out (post_names hp HTK.out HORD.out)
          clear hp
          go_wp2_with fail
          go_ret
          exact ⟨by rw [HR.out]; rfl, by rw [HR.out]; exact HP.out⟩
        · have HR : Hid (renameR c old nm = (11, powerC c)) := HT0.out.trans (done_down hpe _)
          have hd : decide (powerE c = 11) = true := by rw [hpe]; rfl
          rw [hd] at HGO
          have HOP : Hid (OrdC (powerC c)) := ord_power HO.out
          clear hoff hf hpe HT0 hd hent hfull hfp HSELF HIS HNC HG HO HRC HORD HTK HLT
          go_enter Try.func40, Try.ntmps40
          go_wp2_with fail
          refine Calls.mono HFD.out ?_
          rintro _ w1 ⟨rfl, hw1⟩
          replace hw1 := hw1.symm
          subst hw1
          go_wp2_with fail
          refine Calls.mono HNM.out ?_
          rintro _ w1 ⟨rfl, hw1⟩
          replace hw1 := hw1.symm
          subst hw1
          go_wp2_with fail
          refine Calls.mono HGO.out ?_
          rintro _ w1 ⟨rfl, hr1, ha1⟩
          have HP : Hid (PostP ProgAt w g O (powerC c) w1) := post_same (hr1.at HOP.out) ha1
          clear hr1 ha1
          go_wp2_with fail
          go_ret
          exact ⟨by rw [HR.out]; rfl, by rw [HR.out]; exact HP.out⟩
set_option maxRecDepth 100000 in
set_option maxHeartbeats 4000000 in
theorem psync_any (w : World) (g : Nat) (O : Nat → Prop) (c : CabM) (n : Nat) (nm : ByteArray) (h : ProgAt w g O c) (hg : GoodC c n) (hn : n ≤ 1000) (hnm : nm.size ≤ 9223372036854775806) :
    Calls Try.prog 38 #[.pointer (some ⟨g, 0, none⟩), .string nm] w fun e w' => e = .returned (.int .i64 ((syncR c nm).1 : Nat)) ∧ PostP ProgAt w g O (syncR c nm).2 w' := by
  obtain ⟨fa, dv, mn, ml, vs, hraw, ho⟩ := h
  have HIS : Hid (ProgIs w g O c fa dv mn ml vs) := hraw
  have HO : Hid (OrdC c) := ho
  have HG : Hid (GoodC c n) := hg
  have HFD : Hid _ := pfind_any w g O c _ _ fa dv mn ml vs hraw nm hnm
  have HGO : Hid _ := pgoes_is w g O c fa dv mn ml vs hraw hg.2.1
  have HSELF : Hid (PostP ProgAt w g O c w) := post_self ⟨fa, dv, mn, ml, vs, hraw, ho⟩
  clear hraw ho hg
  cases hoff : c.off with
  | true =>
    have HR : Hid (syncR c nm = (11, c)) := by unfold Hid syncR someE; rw [hoff]; exact done_no (e := 11) (by decide) _ _
    rw [findV_off hoff] at HFD
    clear hoff HGO HIS HG HO
    go_enter Try.func38, Try.ntmps38
    go_wp2_with fail
    refine Calls.mono HFD.out ?_
    rintro _ w1 ⟨rfl, hw1⟩
    replace hw1 := hw1.symm
    subst hw1
    go_wp2_with fail
    go_ret
    exact ⟨by rw [HR.out]; rfl, by rw [HR.out]; exact HSELF.out⟩
  | false =>
    cases hf : findC c.now nm with
    | none =>
      have HR : Hid (syncR c nm = (7, c)) := by unfold Hid syncR someE; rw [hoff, hf]; exact done_no (e := 7) (by decide) _ _
      rw [findV_no hoff hf] at HFD
      clear hoff hf HGO HIS HG HO
      go_enter Try.func38, Try.ntmps38
      go_wp2_with fail
      refine Calls.mono HFD.out ?_
      rintro _ w1 ⟨rfl, hw1⟩
      replace hw1 := hw1.symm
      subst hw1
      go_wp2_with fail
      go_ret
      exact ⟨by rw [HR.out]; rfl, by rw [HR.out]; exact HSELF.out⟩
    | some k =>
      rw [findV_yes hoff hf] at HFD
      have HNC : Hid (numC c nm = k) := numC_eq hf
      have HT0 : Hid (syncR c nm = doneC 0 c (fun c' => syncC c' k)) := by unfold Hid syncR someE; rw [hoff, hf, HNC.out]; rfl
      have hent := find_entry _ _ _ hf
      have hfull := HO.out.fullNow _ hent
      have hfp := find_power hf
      have HTK : Hid (takenC (powerC c) k = true) := (inv_files (inv_power HG.out.1) hfp).2
      have HLT : Hid (k < (powerC c).files.length) := (inv_files (inv_power HG.out.1) hfp).1
      have hsz0 : (fileC (powerC c) k).1.size ≤ 1048576 := ((inv_power HG.out.1).2.2.1 k).2
      have HSZ : Hid ((fileC (powerC c) k).1.size ≤ 1048576) := hsz0
      have HUS : Hid (usedC (syncC (powerC c) k) = usedC (powerC c)) := (inv_sync (inv_power HG.out.1) hfp).2
      have HOP : Hid (OrdC (syncC (powerC c) k)) := (ord_power HO.out).lists rfl rfl rfl
      clear hsz0
      rcases power_two c with hpe | hpe
      · have HR : Hid (syncR c nm = (0, syncC (powerC c) k)) := HT0.out.trans (done_yes hpe _)
        have hd : decide (powerE c = 11) = false := by rw [hpe]; rfl
        rw [hd] at HGO
        clear hoff hf hpe HT0 hd hent hfull hfp HSELF HIS HNC HG HO
        go_enter Try.func38, Try.ntmps38
        go_wp2_with fail
        refine Calls.mono HFD.out ?_
        rintro _ w1 ⟨rfl, hw1⟩
        replace hw1 := hw1.symm
        subst hw1
        go_wp2_with fail
        refine Calls.mono HGO.out ?_
        rintro _ w1 ⟨rfl, hr1, ha1⟩
        have HR1 : Hid (ProgIs w1 g O (powerC c) fa dv mn ml vs) := hr1
        have HA1 : Hid (Apart O w w1) := ha1
        clear hr1 ha1
        have hfile := HR1.out.file k HTK.out
        obtain ⟨a, cap, hv, d0, d1, hfr, -, -, -, -⟩ := hfile.len
        have f1 := hfr 1
        have hk2 : w1.heap[fa k]? = some (.cells #[dv k, .int .i64 ((fileC (powerC c) k).2 : Nat)] 74 (0, 0)) := hfile.1
        have HP : Hid (PostP ProgAt w g O (syncC (powerC c) k) (w1.setCell ⟨fa k, 1, none⟩ (.int .i64 ((fileC (powerC c) k).1.size : Nat)))) := by
          have hset := heap_set w1 (fa k) 1 (.int .i64 ((fileC (powerC c) k).1.size : Nat)) _ _ hk2
          have hf3 : FileAt (w1.setCell ⟨fa k, 1, none⟩ (.int .i64 ((fileC (powerC c) k).1.size : Nat))) (fa k) (dv k) ((fileC (powerC c) k).1, (fileC (powerC c) k).1.size) := by
            refine ⟨hset, owns_keep hfile.2 fun b e => Below.heap_setCell w1 ⟨fa k, 1, none⟩ _ b (fun e' => ?_)⟩
            obtain ⟨cur, hb⟩ := owns_type hfile.2 e
            rw [show b = fa k from e'] at hb
            exact absurd (cells_ne hb hk2) (by decide)
          have hr := HR1.out.refile HTK.out (c' := syncC (powerC c) k) hf3 ((Apart.refl _ w1).set (g := fa k) (.inl rfl) 1 _) (fun b e => .inl e) HLT.out rfl rfl rfl rfl rfl rfl rfl rfl
          have h3 := hr.1
          rw [← HUS.out] at h3
          refine post_from HA1.out (post_refile h3 hr.2 HOP.out ?_)
          rintro b (e | e)
          · exact .inl e
          · exact .inl ((HR1.out.of k HTK.out).2 b e)
        clear hfile hfr hk2
        generalize (fileC (powerC c) k).1.size = sz at *
        generalize (fileC (powerC c) k).2 = la at *
        go_wp2_with fail
        go_ret
        exact ⟨by rw [HR.out]; rfl, by rw [HR.out]; exact HP.out⟩
      · have HR : Hid (syncR c nm = (11, powerC c)) := HT0.out.trans (done_down hpe _)
        have hd : decide (powerE c = 11) = true := by rw [hpe]; rfl
        rw [hd] at HGO
        have HOPP : Hid (OrdC (powerC c)) := ord_power HO.out
        clear hoff hf hpe HT0 hd hent hfull hfp HSELF HIS HNC HG HO HTK HLT HSZ HUS HOP
        go_enter Try.func38, Try.ntmps38
        go_wp2_with fail
        refine Calls.mono HFD.out ?_
        rintro _ w1 ⟨rfl, hw1⟩
        replace hw1 := hw1.symm
        subst hw1
        go_wp2_with fail
        refine Calls.mono HGO.out ?_
        rintro _ w1 ⟨rfl, hr1, ha1⟩
        have HP : Hid (PostP ProgAt w g O (powerC c) w1) := post_same (hr1.at HOPP.out) ha1
        clear hr1 ha1
        go_wp2_with fail
        go_ret
        exact ⟨by rw [HR.out]; rfl, by rw [HR.out]; exact HP.out⟩
end Go.Proofs.Ytlhmeebbdjiokaa
