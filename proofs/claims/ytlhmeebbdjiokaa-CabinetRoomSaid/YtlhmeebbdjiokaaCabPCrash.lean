/-
  The program's cabinet: Crash.
-/
import Derived.Test.YtlhmeebbdjiokaaCabPAppend
namespace Go.Proofs.Ytlhmeebbdjiokaa
open Go.ChangeShapes Go.WideShapes Go.ChangeAt Go.RowKit Go.Maps Go.MapKept Go.ChangeMaps
set_option linter.unusedVariables false
set_option linter.unusedSimpArgs false
/-- The names now are those of a new map. -/
theorem ProgRaw.cloned {w w2 : World} {g : Nat} {O : Nat → Prop} {c : CabM} {tk : Nat} {A : Nat → Prop} {fa : Nat → Nat} {dv : Nat → Value} {mn ml : Option Nat} {vs : Value} (h : ProgRaw w g O c tk A fa dv mn ml vs) {l : List (ByteArray × Nat)} {m' : Option Nat} (hb : Below w.heap.size w w2) (hm : MapF w2 m' l fa) (hn : ∀ b, m' = some b → w.heap.size ≤ b) :
    ProgRaw (w2.setCell ⟨g, 0, none⟩ (.map m')) g (fun k => O k ∨ m' = some k) { c with now := l } tk A fa dv m' ml vs ∧ Apart O w (w2.setCell ⟨g, 0, none⟩ (.map m')) := by
  have h2 := h.below hb
  refine ⟨h2.field 0 (.map m') (c' := { c with now := l }) rfl (fun b e => .inl e) (fun b e => ?_) hm h2.mapLast h2.since rfl (fun b e e' => ?_) (fun b e => .inr e) (fun b e => .inl (h2.ol b e)) (fun b e => .inl (h2.os b e)), (apart_of hb O).set h.og _ _⟩
  · rcases e with e | e
    · exact h2.lt b e
    · exact hm.lt b e
  · have h3 := hn b e
    have h4 := h.lt b (h.ol b e')
    omega
/-- A crash under way: so many of the files are cut. -/
def midP (c : CabM) (L : List (ByteArray × Nat)) (fs : List (ByteArray × Nat)) : CabM := { c with now := L, sure := L, wait := [], files := fs }
theorem keep_zero (keep : List Int) (i : Nat) (h : i < keep.length) : (keep.drop i).headD 0 = keep.getD i 0 := by
  rw [List.drop_eq_getElem_cons h, List.getD_eq_getElem?_getD, List.getElem?_eq_getElem h]
  rfl
theorem keep_past (keep : List Int) (i : Nat) (h : ¬ i < keep.length) : (keep.drop i).headD 0 = 0 := by
  rw [List.drop_of_length_le (by omega)]
  rfl
theorem RowZ.apart0 {O : Nat → Prop} {w w' : World} {a : Option Addr} {len : Nat} {zs : List Int} (h : RowZ w a len zs) (hp : Apart O w w') (hd : 0 < len → ∀ ad, a = some ad → ¬ O ad.block) : RowZ w' a len zs := by
  rcases Nat.eq_zero_or_pos len with h0 | hpos
  · exact ⟨h.1, .inl h0⟩
  · exact h.apart hp (fun _ => hd hpos)
theorem RowS.apart {O : Nat → Prop} {w w' : World} {a : Option Addr} {ss : List ByteArray} (h : RowS w a ss) (hp : Apart O w w') (hd : ∀ ad, a = some ad → ¬ O ad.block) : RowS w' a ss := by
  rcases h with h | ⟨b, off, ha, hlt, hc⟩
  · exact .inl h
  · exact .inr ⟨b, off, ha, Nat.lt_of_lt_of_le hlt hp.size, fun i hi => (World.cell?_of_block (w := w) (w' := w') (a := ⟨b, off + i, none⟩) (hp.block b hlt (hd _ ha))).trans (hc i hi)⟩
/-- What stands while a crash is under way, behind i files. -/
def CrashMid (w : World) (g : Nat) (O : Nat → Prop) (c : CabM) (L : List (ByteArray × Nat)) (keep : List Int) (t : UInt8) (fa : Nat → Nat) (ml : Option Nat) (vs : Value) (mn : Option Nat) (av : Option Addr) (i : Nat) (wr : World) : Prop :=
  ∃ (O1 : Nat → Prop) (dv : Nat → Value), ProgRaw wr g O1 (midP c L (crashF (L.take i) keep t c.files)) (usedC c) (fun i => takenC c i = true) fa dv mn ml vs ∧ (∀ b, O1 b → O b ∨ w.heap.size ≤ b) ∧ Apart O w wr ∧ RowS wr av (L.map (·.1)) ∧ ∀ ad, av = some ad → ¬ O1 ad.block
/-- One file more. -/
theorem CrashMid.step {w wr w3 : World} {g : Nat} {O : Nat → Prop} {c : CabM} {L : List (ByteArray × Nat)} {keep : List Int} {t : UInt8} {fa : Nat → Nat} {ml : Option Nat} {vs : Value} {mn : Option Nat} {av : Option Addr} {i : Nat} {O1 : Nat → Prop} {dv : Nat → Value}
    (hr : ProgRaw wr g O1 (midP c L (crashF (L.take i) keep t c.files)) (usedC c) (fun i => takenC c i = true) fa dv mn ml vs) (hO : ∀ b, O1 b → O b ∨ w.heap.size ≤ b) (ha : Apart O w wr) (hs : RowS wr av (L.map (·.1))) (hav : ∀ ad, av = some ad → ¬ O1 ad.block) (hl : ∀ ad, av = some ad → ad.block < wr.heap.size)
    (hi : i < L.length) (hL : ∀ e ∈ L, takenC c e.2 = true) (hI : InvC c) {v' : Value}
    (hfile : FileAt w3 (fa (entAt L i).2) v' (cutF ((crashF (L.take i) keep t c.files).getD (entAt L i).2 (ByteArray.empty, 0)) (keep.drop i) t)) (hnew : ∀ k, v'.ownBlock = some k → wr.heap.size ≤ k) (hap : Apart (fun k => k = fa (entAt L i).2 ∨ (dv (entAt L i).2).ownBlock = some k) wr w3) :
    CrashMid w g O c L keep t fa ml vs mn av (i + 1) w3 := by
  have hent : entAt L i ∈ L := by
    unfold entAt
    rw [List.getD_eq_getElem?_getD, List.getElem?_eq_getElem hi]
    exact List.getElem_mem hi
  have htk := hL _ hent
  have hmid := crash_mid c hI L (fun e he => hI.2.1 _ (hL e he)) i keep t
  have h4 := hr.refile (n := (entAt L i).2) htk (c' := midP c L (crashF (L.take (i + 1)) keep t c.files)) hfile hap (fun k e => .inr (hnew k e)) (by
    show _ < (crashF (L.take i) keep t c.files).length
    rw [hmid.1]
    exact hI.2.1 _ htk) (by
    show crashF (L.take (i + 1)) keep t c.files = _
    rw [crash_step L i hi]
    rfl) rfl rfl rfl rfl rfl rfl rfl
  refine ⟨_, _, h4.1, ?_, ha.trans h4.2 hO, hs.apart h4.2 hav, ?_⟩
  · rintro b (e | e)
    · exact hO b e
    · exact .inr (Nat.le_trans ha.size (hnew b e))
  · rintro ad e (e' | e')
    · exact hav ad e e'
    · have := hnew _ e'
      have := hl ad e
      omega
theorem sizes_bound (fs : List (ByteArray × Nat)) (l : List (ByteArray × Nat)) (h : ∀ k, (fs.getD k (ByteArray.empty, 0)).1.size ≤ 1048576) : sizesC fs l ≤ l.length * 1048576 := by
  unfold sizesC
  induction l with
  | nil => exact Nat.zero_le _
  | cons e l ih =>
    rw [List.map_cons, List.sum_cons, List.length_cons]
    have := h e.2
    omega
set_option maxRecDepth 100000 in
set_option maxHeartbeats 8000000 in
theorem pcrash_any (w : World) (g : Nat) (O : Nat → Prop) (c : CabM) (n : Nat) (names : Int) (keep : List Int) (t : UInt8) (tn : Nat) (ak : Option Addr) (lk ck : Nat) (h : ProgAt w g O c) (hg : GoodC c n) (hn : n ≤ 1000) (htn : tn = t.toNat) (hkp : RowZ w ak lk keep) (hd : 0 < lk → ∀ ad, ak = some ad → ¬ O ad.block) (hlk : lk ≤ 9223372036854775807) :
    Calls Try.prog 13 #[.pointer (some ⟨g, 0, none⟩), .int .i64 names, .slice ak lk ck, .int .u8 (tn : Nat)] w fun e w' => e = .returned (.tuple #[]) ∧ PostP ProgAt w g O (crashC c names keep t) w' := by
  obtain ⟨fa, dv, mn, ml, vs, hraw, ho⟩ := h
  have HO : Hid (OrdC c) := ho
  have HG : Hid (GoodC c n) := hg
  have HTN : Hid (tn = t.toNat) := htn
  have HKP : Hid (RowZ w ak lk keep) := hkp
  have HD : Hid (0 < lk → ∀ ad, ak = some ad → ¬ O ad.block) := hd
  have HRG : Hid (O g) := hraw.og
  have HRAW : Hid (ProgRaw w g O c (usedC c) (fun i => takenC c i = true) fa dv mn ml vs) := hraw
  obtain ⟨az, cs, hvs, -, -, -⟩ := hraw.since.at
  have c2 := hraw.cells.2.2.1
  rw [hvs] at c2
  obtain ⟨ns, hns⟩ : ∃ ns, ns = c.wait.length := ⟨_, rfl⟩
  rw [← hns] at c2
  have HNS : Hid (ns = c.wait.length) := hns
  have HMO : Hid _ := pmost_any w names ns
  have hpl : partC names ns ≤ ns := part_le _ _
  have hwl : c.wait.length ≤ 1099511627776 ∧ ∀ k, ((c.wait.take k).foldl withC c.sure).length ≤ 1099511627776 := by
    have h1 := hg.2.2.2.1
    exact ⟨by omega, fun k => by have := fold_lens c k; omega⟩
  have HSE : Hid (Calls Try.prog 29 #[.pointer (some ⟨g, 0, none⟩), .int .i64 (partC names ns : Nat)] w fun e w' => e = .returned (.tuple #[]) ∧ RawPost w g O { c with sure := lastC c names, wait := [] } (usedC c) (fun i => takenC c i = true) fa dv w') := by
    have hs := psettle_any w g O c _ _ fa dv mn ml vs hraw (partC names ns) (by omega) hwl.2 hwl.1 (fun x hx => by
      obtain ⟨h1, h2, h3⟩ := ho.2.2.1 x hx
      exact ⟨Nat.le_trans h1 (by decide), Nat.le_trans h3 (by decide), h2⟩)
    have hL : (c.wait.take (partC names ns)).foldl withC c.sure = lastC c names := by unfold lastC; rw [hns]
    rw [hL] at hs
    exact hs
  have HLL : Hid ((lastC c names).length ≤ n) := by
    have h1 := hg.2.2.2.1
    have := fold_lens c (partC names c.wait.length)
    unfold Hid lastC
    omega
  obtain ⟨L, hL⟩ : ∃ L, L = lastC c names := ⟨_, rfl⟩
  have HLE : Hid (L = lastC c names) := hL
  rw [← hL] at HSE HLL
  have HOL : Hid (SortC L ∧ FullC L ∧ OneC L) := by unfold Hid; rw [hL]; exact ord_last ho names
  have HLT : Hid (∀ e ∈ L, takenC c e.2 = true) := by unfold Hid; rw [hL]; exact last_less hg.1 names
  clear hraw ho hg htn hkp hd hvs hns hpl hwl hL
  generalize partC names ns = pn at *
  go_enter Try.func13, Try.ntmps13
  go_wp2_with fail
  refine Calls.mono HMO.out ?_
  rintro _ w1 ⟨rfl, hw1⟩
  replace hw1 := hw1.symm
  subst hw1
  go_wp2_with fail
  refine Calls.mono HSE.out ?_
  rintro _ w2 ⟨rfl, O2, mn2, ml2, vs2, hr2, hO2, ha2⟩
  have HR2 : Hid (ProgRaw w2 g O2 { c with sure := L, wait := [] } (usedC c) (fun i => takenC c i = true) fa dv mn2 ml2 vs2) := hr2
  have HA2 : Hid (Apart O w w2) := ha2
  have HO2 : Hid (∀ b, O2 b → O b ∨ w.heap.size ≤ b) := hO2
  have e1 := hr2.cells.2.1
  clear hr2 ha2 hO2 c2 HSE HMO HRAW
  go_wp2_with fail
  refine Calls.mono (pclone_any w2 ml2 L fa HR2.out.mapLast) ?_
  rintro _ w3 ⟨m3, rfl, hm3, hn3, hb3⟩
  have d0 := (HR2.out.below hb3).cells.1
  have f0 := (HR2.out.below hb3).frozen 0
  obtain ⟨hr4, ha4⟩ := HR2.out.cloned hb3 hm3 hn3
  have HA4 : Hid (Apart O w (w3.setCell ⟨g, 0, none⟩ (.map m3))) := HA2.out.trans ha4 HO2.out
  obtain ⟨O4, hO4⟩ : ∃ O4 : Nat → Prop, O4 = fun k => O2 k ∨ m3 = some k := ⟨_, rfl⟩
  have HR4 : Hid (ProgRaw (w3.setCell ⟨g, 0, none⟩ (.map m3)) g O4 (midP c L c.files) (usedC c) (fun i => takenC c i = true) fa dv m3 ml2 vs2) := by unfold Hid; rw [hO4]; exact hr4
  have HO4 : Hid (∀ b, O4 b → O b ∨ w.heap.size ≤ b) := by
    intro b e
    rw [hO4] at e
    rcases e with e | e
    · exact HO2.out b e
    · exact .inr (Nat.le_trans HA2.out.size (hn3 b e))
  have g0 := HR4.out.cells.1
  have hst : Calls Try.prog 33 #[.map m3] (w3.setCell ⟨g, 0, none⟩ (.map m3)) fun e w' => ∃ v, e = .returned v ∧ OwnT w' (w3.setCell ⟨g, 0, none⟩ (.map m3)).heap.size v (L.map (·.1)) ∧ Below (w3.setCell ⟨g, 0, none⟩ (.map m3)).heap.size (w3.setCell ⟨g, 0, none⟩ (.map m3)) w' :=
    psorted_any _ m3 L fa HR4.out.mapNow HOL.out.1 (by have := HLL.out; omega)
  have HST : Hid _ := hst
  clear hr4 ha4 hm3 hn3 hb3 e1 HR2 HA2 HO2 hst hO4
  go_wp2_with fail
  generalize w3.setCell ⟨g, 0, none⟩ (.map m3) = w4 at *
  refine Calls.mono HST.out ?_
  rintro _ w5 ⟨v5, rfl, ho5, hb5⟩
  obtain ⟨av, cap5, hv5, hrs5, -, -⟩ := ho5.row
  obtain ⟨nl, hnl⟩ : ∃ nl, nl = L.length := ⟨_, rfl⟩
  rw [List.length_map, ← hnl] at hv5
  subst hv5
  have HNL : Hid (nl = L.length) := hnl
  have HAV : Hid (∀ ad, av = some ad → w4.heap.size ≤ ad.block ∧ ad.block < w5.heap.size) := fun ad e => by
    have := World.ownsRow.lt ho5 ad.block (by rw [e]; rfl)
    exact this
  have HM5 : Hid (CrashMid w g O c L keep t fa ml2 vs2 m3 av 0 w5) := by
    refine ⟨O4, dv, HR4.out.below hb5, HO4.out, HA4.out.same (apart_of hb5 O), hrs5, fun ad e e' => ?_⟩
    have h1 := HR4.out.lt _ e'
    have h2 := (HAV.out ad e).1
    omega
  have hnlb : nl ≤ 1000 := by rw [hnl]; have := HLL.out; omega
  clear ho5 hb5 hrs5 hnl g0 d0 f0 HR4 HA4 HO4 HST
  go_wp2_with fail
  go_loopw [36] (fun ix wr => ∃ (wz : World) (i : Nat), wz = wr ∧ ix = .int .i64 i ∧ i ≤ nl ∧ w5.heap.size ≤ wz.heap.size ∧ CrashMid w g O c L keep t fa ml2 vs2 m3 av i wz) (fun ix _ => nl - (intOf ix).toNat)
  case atStart => exact ⟨_, 0, rfl, rfl, Nat.zero_le _, Nat.le_refl _, HM5.out⟩
  case round =>
    clear HM5
    obtain ⟨wr, i, hwr, rfl, hi, hsz, hmid⟩ := hrel
    subst hwr
    have HMID : Hid (CrashMid w g O c L keep t fa ml2 vs2 m3 av i wr) := hmid
    have HSZ : Hid (w5.heap.size ≤ wr.heap.size) := hsz
    clear hmid hsz
    by_cases hlt : i < nl
    · have hii : (i : Int) < (nl : Int) := by omega
      have hiL : i < L.length := by rw [← HNL.out]; exact hlt
      have HIL : Hid (i < L.length) := hiL
      obtain ⟨O1, dv1, hr1, hO1, ha1, hs1, hav1⟩ := HMID.out
      have HR1 : Hid (ProgRaw wr g O1 (midP c L (crashF (L.take i) keep t c.files)) (usedC c) (fun i => takenC c i = true) fa dv1 m3 ml2 vs2) := hr1
      have HO1 : Hid (∀ b, O1 b → O b ∨ w.heap.size ≤ b) := hO1
      have HA1 : Hid (Apart O w wr) := ha1
      have HS1 : Hid (RowS wr av (L.map (·.1))) := hs1
      have HAV1 : Hid (∀ ad, av = some ad → ¬ O1 ad.block) := hav1
      have hent : entAt L i ∈ L := by
        unfold entAt
        rw [List.getD_eq_getElem?_getD, List.getElem?_eq_getElem hiL]
        exact List.getElem_mem hiL
      have htk := HLT.out _ hent
      have hnm : textAt (L.map (·.1)) i = (entAt L i).1 := by
        unfold textAt entAt
        rw [List.getD_eq_getElem?_getD, List.getD_eq_getElem?_getD, List.getElem?_map, List.getElem?_eq_getElem hiL]
        rfl
      have hfull := HOL.out.2.1 _ hent
      have hfind : findC L (entAt L i).1 = some (entAt L i).2 := find_in HOL.out.1 hent
      have HK : Hid (crashF (L.take i) keep t c.files = (midP c L (crashF (L.take i) keep t c.files)).files) := rfl
      have hfile := hr1.file (entAt L i).2 htk
      have hmid2 := crash_mid c HG.out.1 L (fun e he => HG.out.1.2.1 _ (HLT.out e he)) i keep t
      have hbnd := hmid2.2 (entAt L i).2
      have hlook := hr1.mapNow.look (entAt L i).1 (Nat.le_trans hfull.2 (by decide))
      rw [show findC (midP c L (crashF (L.take i) keep t c.files)).now (entAt L i).1 = some (entAt L i).2 from hfind] at hlook
      obtain ⟨rb, ro, hav, hrl, hcells⟩ : ∃ b off, av = some ⟨b, off, none⟩ ∧ b < wr.heap.size ∧ wr.cell? ⟨b, off + i, none⟩ = some (.string (entAt L i).1) := by
        rcases hs1 with h0 | ⟨b, off, e1, e2, e3⟩
        · rw [List.length_map] at h0; omega
        · exact ⟨b, off, e1, e2, by rw [e3 i (by rw [List.length_map]; exact hiL), hnm]⟩
      subst hav
      have c0 := hr1.cells.1
      have hkr := HKP.out.apart0 ha1 HD.out
      have HSTEP : Hid (∀ (w3 : World) (v' : Value), FileAt w3 (fa (entAt L i).2) v' (cutF ((crashF (L.take i) keep t c.files).getD (entAt L i).2 (ByteArray.empty, 0)) (keep.drop i) t) → (∀ k, v'.ownBlock = some k → wr.heap.size ≤ k) → Apart (fun k => k = fa (entAt L i).2 ∨ (dv1 (entAt L i).2).ownBlock = some k) wr w3 → CrashMid w g O c L keep t fa ml2 vs2 m3 (some ⟨rb, ro, none⟩) (i + 1) w3) := fun w3 v' h1 h2 h3 =>
        CrashMid.step HR1.out HO1.out HA1.out HS1.out HAV1.out (fun ad e => by cases e; exact hrl) HIL.out HLT.out HG.out.1 h1 h2 h3
      have HCUT : Hid (∀ z : Int, z = (keep.drop i).headD 0 → cutF ((crashF (L.take i) keep t c.files).getD (entAt L i).2 (ByteArray.empty, 0)) (keep.drop i) t = (cutZ ((crashF (L.take i) keep t c.files).getD (entAt L i).2 (ByteArray.empty, 0)) z t, (cutZ ((crashF (L.take i) keep t c.files).getD (entAt L i).2 (ByteArray.empty, 0)) z t).size)) := fun z hz => by
        unfold cutF
        rw [hz, cut_head]
      replace hfile : FileAt wr (fa (entAt L i).2) (dv1 (entAt L i).2) ((crashF (L.take i) keep t c.files).getD (entAt L i).2 (ByteArray.empty, 0)) := hfile
      have HFO : Hid (∀ z : Int, Calls Try.prog 34 #[.pointer (some ⟨fa (entAt L i).2, 0, none⟩), .int .i64 z, .int .u8 (tn : Nat)] wr fun e w' => e = .returned (.tuple #[]) ∧ ∃ v', FileAt w' (fa (entAt L i).2) v' (cutZ ((crashF (L.take i) keep t c.files).getD (entAt L i).2 (ByteArray.empty, 0)) z t, (cutZ ((crashF (L.take i) keep t c.files).getD (entAt L i).2 (ByteArray.empty, 0)) z t).size) ∧ (∀ k, v'.ownBlock = some k → wr.heap.size ≤ k) ∧ Apart (fun k => k = fa (entAt L i).2 ∨ (dv1 (entAt L i).2).ownBlock = some k) wr w') := fun z =>
        pforget_any wr _ _ _ hfile hbnd.1 hbnd.2 z t tn HTN.out
      have HFN : Hid (∀ z : Int, z = (keep.drop i).headD 0 → ∀ (e : Ending) (w3 : World), (e = .returned (.tuple #[]) ∧ ∃ v', FileAt w3 (fa (entAt L i).2) v' (cutZ ((crashF (L.take i) keep t c.files).getD (entAt L i).2 (ByteArray.empty, 0)) z t, (cutZ ((crashF (L.take i) keep t c.files).getD (entAt L i).2 (ByteArray.empty, 0)) z t).size) ∧ (∀ k, v'.ownBlock = some k → wr.heap.size ≤ k) ∧ Apart (fun k => k = fa (entAt L i).2 ∨ (dv1 (entAt L i).2).ownBlock = some k) wr w3) → e = .returned (.tuple #[]) ∧ w5.heap.size ≤ w3.heap.size ∧ CrashMid w g O c L keep t fa ml2 vs2 m3 (some ⟨rb, ro, none⟩) (i + 1) w3) := fun z hz e w3 ⟨he, v', h1, h2, h3⟩ => ⟨he, Nat.le_trans HSZ.out h3.size, HSTEP.out w3 v' (by rw [HCUT.out z hz]; exact h1) h2 h3⟩
      have HFC : Hid (∀ z : Int, z = (keep.drop i).headD 0 → Calls Try.prog 34 #[.pointer (some ⟨fa (entAt L i).2, 0, none⟩), .int .i64 z, .int .u8 (tn : Nat)] wr fun e w' => e = .returned (.tuple #[]) ∧ w5.heap.size ≤ w'.heap.size ∧ CrashMid w g O c L keep t fa ml2 vs2 m3 (some ⟨rb, ro, none⟩) (i + 1) w') := fun z hz => (HFO.out z).mono (HFN.out z hz)
      clear hr1 hO1 ha1 hs1 hav1 hent htk hnm hfull hfind HK hfile hmid2 hbnd HSTEP HCUT HFO HFN HMID HR1 HO1 HA1 HS1 HAV1 hiL
      unfold ptrV at hlook
      dsimp only at hlook
      generalize (entAt L i).1 = nm at *
      generalize fa (entAt L i).2 = fb at *
      have HKL : Hid (keep.length = lk) := hkr.1
      by_cases hk : i < lk
      · have hki : (i : Int) < (lk : Int) := by omega
        obtain ⟨kb, ko, hak, hkb, hkc⟩ : ∃ b off, ak = some ⟨b, off, none⟩ ∧ b < wr.heap.size ∧ wr.cell? ⟨b, off + i, none⟩ = some (.int .i64 (keep.getD i 0)) := by
          rcases hkr.2 with h0 | ⟨b, off, e1, e2, e3⟩
          · omega
          · exact ⟨b, off, e1, e2, e3 i hk⟩
        subst hak
        have HF : Hid _ := HFC.out (keep.getD i 0) (keep_zero keep i (by rw [HKL.out]; exact hk)).symm
        clear HFC hkr hk
        generalize keep.getD i 0 = z at *
        go_wp2_with fail
        refine Calls.mono HF.out ?_
        rintro _ w6 ⟨rfl, hs6, hm6⟩
        have HS6 : Hid (w5.heap.size ≤ w6.heap.size) := hs6
        have HM6 : Hid (CrashMid w g O c L keep t fa ml2 vs2 m3 (some ⟨rb, ro, none⟩) (i + 1) w6) := hm6
        clear hs6 hm6 HF hlook hcells c0 hkc
        go_wp2_with fail
        go_roundw
        case rel => exact ⟨w6, i + 1, rfl, by go_num, by omega, HS6.out, HM6.out⟩
        case measure => simp [intOf]; omega
      · have hki : ¬ (i : Int) < (lk : Int) := by omega
        have HF : Hid _ := HFC.out 0 (keep_past keep i (by rw [HKL.out]; exact hk)).symm
        clear HFC hkr hk
        go_wp2_with fail
        refine Calls.mono HF.out ?_
        rintro _ w6 ⟨rfl, hs6, hm6⟩
        have HS6 : Hid (w5.heap.size ≤ w6.heap.size) := hs6
        have HM6 : Hid (CrashMid w g O c L keep t fa ml2 vs2 m3 (some ⟨rb, ro, none⟩) (i + 1) w6) := hm6
        clear hs6 hm6 HF hlook hcells c0
        go_wp2_with fail
        go_roundw
        case rel => exact ⟨w6, i + 1, rfl, by go_num, by omega, HS6.out, HM6.out⟩
        case measure => simp [intOf]; omega
    · have hii : ¬ (i : Int) < (nl : Int) := fun h => hlt (Int.ofNat_lt.1 h)
      have hin : i = L.length := HNL.out ▸ Nat.le_antisymm hi (Nat.le_of_not_lt hlt)
      obtain ⟨O1, dv1, hr1, hO1, ha1, -, -⟩ := HMID.out
      rw [hin, List.take_length] at hr1
      have HR1 : Hid (ProgRaw wr g O1 (midP c L (crashF L keep t c.files)) (usedC c) (fun i => takenC c i = true) fa dv1 m3 ml2 vs2) := hr1
      have HO1 : Hid (∀ b, O1 b → O b ∨ w.heap.size ≤ b) := hO1
      have HA1 : Hid (Apart O w wr) := ha1
      have c0 := hr1.cells.1
      have hmid2 := crash_mid c HG.out.1 L (fun e he => HG.out.1.2.1 _ (HLT.out e he)) L.length keep t
      rw [List.take_length] at hmid2
      have hsl : sizesC (crashF L keep t c.files) L ≤ 4611686018427387904 := by
        have h1 := sizes_bound (crashF L keep t c.files) L (fun k => (hmid2.2 k).2)
        have h2 := HLL.out
        exact Nat.le_trans h1 (Nat.le_trans (Nat.mul_le_mul_right _ (Nat.le_trans h2 hn)) (by decide))
      have HSI : Hid _ := psize_any wr m3 L fa (crashF L keep t c.files) hr1.mapNow HOL.out.1 (fun x k hk => by
        have hf := hr1.file k (HLT.out _ (find_entry _ _ _ hk))
        obtain ⟨a, cap, -, h0, -, -, -, -, -, hl⟩ := hf.len
        exact ⟨a, cap, h0, hl⟩) hsl
      clear hr1 hO1 ha1 hmid2 hsl hin
      go_wp2_with fail
      refine Calls.mono HSI.out ?_
      rintro _ w6 ⟨rfl, hb6⟩
      have HR6 : Hid (ProgRaw w6 g O1 (midP c L (crashF L keep t c.files)) (usedC c) (fun i => takenC c i = true) fa dv1 m3 ml2 vs2) := HR1.out.below hb6
      have HA6 : Hid (Apart O w w6) := HA1.out.same (apart_of hb6 _)
      have hp7 := HR6.out.plain 3 (.int .i64 (sizesC (crashF L keep t c.files) L : Nat)) (c' := midP c L (crashF L keep t c.files)) (tk' := sizesC (crashF L keep t c.files) L) rfl rfl rfl rfl rfl
      have hp8 := hp7.plain 5 (.bool false) (c' := { midP c L (crashF L keep t c.files) with timed := false }) rfl rfl rfl rfl rfl
      have hp9 := hp8.plain 7 (.bool false) (c' := { midP c L (crashF L keep t c.files) with timed := false, off := false }) rfl rfl rfl rfl rfl
      have d3 := HR6.out.cells.2.2.2.1
      have f3 := HR6.out.frozen 3
      have d5 := hp7.cells.2.2.2.2.2.1
      have f5 := hp7.frozen 5
      have d7 := hp8.cells.2.2.2.2.2.2.2
      have f7 := hp8.frozen 7
      have HCR : Hid (({ midP c L (crashF L keep t c.files) with timed := false, off := false } : CabM) = crashC c names keep t) := by unfold Hid crashC midP; rw [← HLE.out]
      have HUS : Hid (usedC (crashC c names keep t) = sizesC (crashF L keep t c.files) L) := by
        have := used_crash HO.out HG.out.1 names keep t
        rw [← HLE.out, ← HCR.out] at this
        rw [← HCR.out]
        exact this
      have HP : Hid (PostP ProgAt w g O (crashC c names keep t) (((w6.setCell ⟨g, 3, none⟩ (.int .i64 (sizesC (crashF L keep t c.files) L : Nat))).setCell ⟨g, 5, none⟩ (.bool false)).setCell ⟨g, 7, none⟩ (.bool false))) := by
        have h9 := hp9.less (A' := fun i => takenC (crashC c names keep t) i = true) (fun i hi => by
          rcases (taken_iff _ _).1 hi with ⟨e, he, rfl⟩ | ⟨x, hx, _⟩
          · exact last_less HG.out.1 names e he
          · cases hx)
        rw [HCR.out, ← HUS.out] at h9
        rw [← HUS.out]
        exact post_refile h9 (((HA6.out.set HRG.out _ _).set HRG.out _ _).set HRG.out _ _) (ord_crash HO.out names keep t) HO1.out
      clear hb6 hp7 hp8 hp9 HSI c0
      generalize sizesC (crashF L keep t c.files) L = sz at *
      generalize usedC c = uz at *
      go_wp2_with fail
      go_end0
      exact ⟨rfl, HP.out⟩
end Go.Proofs.Ytlhmeebbdjiokaa
