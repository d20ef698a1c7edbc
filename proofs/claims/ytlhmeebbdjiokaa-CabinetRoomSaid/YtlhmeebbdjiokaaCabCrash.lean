/-
  The document's cabinet: Crash.
-/
import Derived.Test.YtlhmeebbdjiokaaCabCrashN
import Derived.BigRegion
namespace Go.Proofs.Ytlhmeebbdjiokaa
open Go.ChangeShapes Go.WideShapes Go.ChangeAt Go.RowKit
set_option linter.unusedVariables false
set_option linter.unusedSimpArgs false
theorem str_upto (s : ByteArray) (k : Nat) (kd : IntKind) (h : k ≤ s.size) (W : World) : (Instr.slice 9 (.string s) none (some (.int kd (k : Nat))) none).run Try.prog W = .ok (.string (s.extract 0 k)) W := by
  rw [run_slice_string_h W _ s Try.underlying9 kd (k : Nat) (by omega) (by omega), Int.toNat_natCast]
theorem turned_byte (T : ByteArray) (E : Nat) (t : UInt8) (h : E < T.size) : strN [(T[E]'h).toNat ^^^ t.toNat] = (⟨#[T.data.getD E 0 ^^^ t]⟩ : ByteArray) := by
  have h' : E < T.data.size := h
  apply ByteArray.ext
  show [UInt8.ofNat ((T[E]'h).toNat ^^^ t.toNat)].toArray = #[T.data.getD E 0 ^^^ t]
  have e : T.data.getD E 0 = T[E]'h := by
    rw [Array.getD_eq_getD_getElem?, Array.getElem?_eq_getElem h']
    rfl
  rw [e]
  have e2 : UInt8.ofNat ((T[E]'h).toNat ^^^ t.toNat) = T[E]'h ^^^ t := by
    apply UInt8.toNat_inj.1
    rw [UInt8.toNat_xor, UInt8.toNat_ofNat']
    exact Nat.mod_eq_of_lt (Nat.xor_lt_two_pow (n := 8) (T[E]'h).toNat_lt t.toNat_lt)
  rw [e2]
def midC (c : CabM) (L : List (ByteArray × Nat)) (keep : List Int) (t : UInt8) (i : Nat) : CabM := { c with files := crashF (L.take i) keep t c.files }
set_option maxRecDepth 100000 in
set_option maxHeartbeats 32000000 in
theorem rcrash_any (w : World) (g : Nat) (O : Nat → Prop) (c : CabM) (h : CabAt w g O c) (hinv : InvC c) (names : Int) (keep : List Int) (t : UInt8) (tn : Nat) (htn : tn = t.toNat) (ak : Option Addr) (nk ck : Nat) (hkp : RowZ w ak nk keep) (hd : 0 < nk → ∀ ad, ak = some ad → ¬ O ad.block)
    (hnk : nk ≤ 9223372036854775807) (hb1 : c.sure.length ≤ 549755813888) (hb2 : c.wait.length ≤ 549755813888) (hb3 : c.files.length ≤ 1099511627776) :
    Calls Try.prog 18 #[.pointer (some ⟨g, 0, none⟩), .int .i64 names, .slice ak nk ck, .int .u8 (tn : Nat)] w fun e w' => e = .returned (.tuple #[]) ∧ CabPost w g O (crashC c names keep t) w' := by
  obtain ⟨af, nf, cf, an, nn, cn, az, ns, cs, aw, nw, cw, hraw, hnf, hnn, hns, hnw, -, -, -, -⟩ := h.open
  have HRAW : Hid (CabRaw w g O c (.slice af nf cf) (.slice an nn cn) (.slice az ns cs) (.slice aw nw cw)) := hraw
  have HINV : Hid (InvC c) := hinv
  have HTN : Hid (tn = t.toNat) := htn
  have htb : tn < 256 := by rw [htn]; exact t.toNat_lt
  clear htn
  have HKP : Hid (RowZ w ak nk keep) := hkp
  have HD : Hid (0 < nk → ∀ ad, ak = some ad → ¬ O ad.block) := hd
  have HNF : Hid (nf = c.files.length) := hnf
  have HNW : Hid (nw = c.wait.length) := hnw
  have HNS : Hid (ns = c.sure.length) := hns
  have hnwb : nw ≤ 549755813888 := by omega
  have hnsb : ns ≤ 549755813888 := by omega
  have hnfb : nf ≤ 1099511627776 := by omega
  have c3 := hraw.cells.2.2.2.1
  have HL0 : Hid (OwnE w (.slice az ns cs) (lastN c 0)) := hraw.parts.2.2.1
  have HB0 : Hid (∀ b, (Value.slice az ns cs).ownBlock = some b → O b ∨ w.heap.size ≤ b) := fun b e => .inl (hraw.parts.2.2.2.2.2.2.2.1 b e)
  obtain ⟨P, hP⟩ : ∃ P, P = partC names nw := ⟨_, rfl⟩
  have HP : Hid (P = partC names nw) := hP
  have hPn : P ≤ nw := by rw [hP]; exact part_le _ _
  clear hraw hnf hns hnw hnn hinv h hkp hd hP
  go_enter Try.func18, Try.ntmps18
  go_wp2_with fail
  go_loopw [8, 9] (fun lv ix wr => ∃ (wz : World) (v0 : Value) (i : Nat), wz = wr ∧ lv = v0 ∧ ix = .int .i64 (i : Nat) ∧ i ≤ P ∧ OwnE wz v0 (lastN c i) ∧ (∀ b, v0.ownBlock = some b → O b ∨ w.heap.size ≤ b) ∧ Below w.heap.size w wz) (fun _ ix _ => P - (intOf ix).toNat)
  case atStart => exact ⟨_, _, 0, rfl, rfl, rfl, Nat.zero_le _, HL0.out, HB0.out, Below.refl _ _⟩
  case round =>
    clear HL0 HB0 c3
    obtain ⟨wz, v0, i, hwz, hov, rfl, hi, hown, hvb, hbe⟩ := hrel
    subst hwz
    replace hov := hov.symm
    subst hov
    obtain ⟨al, kl, hv, hlc, -, hrl⟩ := OwnE.at hown
    subst hv
    have HLE : (lastN c i).length ≤ 1099511627776 := by
      have := last_len c i (by rw [← HNW.out]; omega)
      rw [← HNS.out] at this
      omega
    obtain ⟨nl, hnl⟩ : ∃ nl, nl = (lastN c i).length := ⟨_, rfl⟩
    rw [← hnl] at hown hvb hlc HLE
    rw [← hnl]
    have HNL : Hid (nl = (lastN c i).length) := hnl
    have hnlb : nl ≤ 1099511627776 := HLE
    have HOWN : Hid (OwnE wz (.slice al nl kl) (lastN c i)) := hown
    have HRL : Hid (RowN wz al (lastN c i)) := hrl
    have HLC : Hid (nl ≤ kl) := hlc
    have HVB : Hid (∀ b, (Value.slice al nl kl).ownBlock = some b → O b ∨ w.heap.size ≤ b) := hvb
    have HBE : Hid (Below w.heap.size w wz) := hbe
    have hraw := HRAW.out.below hbe
    have c4 := hraw.cells.2.2.2.2.1
    have HPT : Hid _ := rpart_any wz names nw
    rw [← HP.out] at HPT
    clear hown hrl hlc hvb hbe hnl HLE
    go_wp2_with fail
    refine Calls.mono HPT.out ?_
    rintro _ w1 ⟨rfl, hw1⟩
    replace hw1 := hw1.symm
    subst hw1
    clear HPT
    by_cases hlt : i < P
    · have hii : (i : Int) < (P : Int) := by omega
      have hil : i < c.wait.length := by rw [← HNW.out]; omega
      have hinw : i < nw := by omega
      have hinwi : (i : Int) < (nw : Int) := by omega
      obtain ⟨a', cap', hv, -, -, hr⟩ := OwnX.at hraw.parts.2.2.2.1
      cases hv
      obtain ⟨b, ha, -, hblt, y0, y1, y2⟩ := hr i hil
      subst ha
      have HST : Hid _ := last_step c i hil
      obtain ⟨x, hx⟩ : ∃ x, x = chgAt c.wait i := ⟨_, rfl⟩
      rw [← hx] at y0 y1 y2 HST
      obtain ⟨old, nm, f⟩ := x
      dsimp only at y0 y1 y2
      clear hr hx hraw hil
      go_wp2_with fail
      refine Calls.mono (rwith_any al nl kl (lastN c i) old nm f wz HRL.out HNL.out.symm hnlb HLC.out HOWN.out) ?_
      rintro _ w2 ⟨⟨a2, k2, rfl, hr2, hl2, ho2, hbk2⟩, hb2'⟩
      have HO2 : Hid (OwnE w2 (.slice a2 (withC (lastN c i) (old, nm, f)).length k2) (lastN c (i + 1))) := by unfold Hid; rw [HST.out]; exact ho2
      have HBK : Hid (∀ b, (Value.slice a2 (withC (lastN c i) (old, nm, f)).length k2).ownBlock = some b → O b ∨ w.heap.size ≤ b) := fun b e => by
        rcases hbk2 b e with e | e
        · exact .inr (Nat.le_trans HBE.out.size e)
        · exact HVB.out b e
      have HB2 : Hid (Below w.heap.size w w2) := HBE.out.trans (hb2'.mono HBE.out.size)
      clear hr2 hl2 ho2 hbk2 hb2' HST HBE HVB HRL HOWN HLC HNL y0 y1 y2 c4
      generalize (withC (lastN c i) (old, nm, f)).length = n2 at *
      go_wp2_with fail
      go_roundw
      case rel => exact ⟨_, _, i + 1, rfl, rfl, by go_num, by omega, HO2.out, HBK.out, HB2.out⟩
      case measure => simp [intOf]; omega
    · have hii : ¬ (i : Int) < (P : Int) := by omega
      have hiP : i = P := by omega
      have HLC2 : Hid (lastN c i = lastC c names) := by unfold Hid lastN lastC; rw [hiP, HP.out, HNW.out]
      rw [HLC2.out] at HOWN HNL
      have HLF : Hid (∀ e ∈ lastC c names, e.2 < c.files.length) := by
        have := last_files c HINV.out i
        rw [HLC2.out] at this
        exact this
      have HRW0 : Hid (CabRaw wz g O (midC c (lastC c names) keep t 0) (.slice af nf cf) (.slice an nn cn) (.slice az ns cs) (.slice aw nw cw)) := hraw
      have HKP0 : Hid (RowZ wz ak nk keep) := HKP.out.below HBE.out
      have HAP0 : Hid (Apart O w wz) := apart_of HBE.out O
      clear hiP HLC2 hraw HRL HLC hi hlt HKP HBE HP hPn
      have HCC : Hid (crashC c names keep t = { c with files := crashF (lastC c names) keep t c.files, now := lastC c names, sure := lastC c names, wait := [], timed := false, off := false }) := rfl
      generalize lastC c names = L at *
      go_wp2_with fail
      have hdP : decide (i < P) = false := decide_eq_false (by omega)
      simp only [hdP]
      clear hdP
      go_loopw [10] (fun ix wr => ∃ (wy : World) (j : Nat), wy = wr ∧ ix = .int .i64 (j : Nat) ∧ j ≤ nl ∧ CabRaw wy g O (midC c L keep t j) (.slice af nf cf) (.slice an nn cn) (.slice az ns cs) (.slice aw nw cw) ∧ OwnE wy (.slice al nl kl) L ∧ RowZ wy ak nk keep ∧ Apart O w wy) (fun ix _ => nl - (intOf ix).toNat)
      case atStart => exact ⟨_, 0, rfl, rfl, Nat.zero_le _, HRW0.out, HOWN.out, HKP0.out, HAP0.out⟩
      case round =>
        clear HRW0 HOWN HKP0 HAP0 c4
        obtain ⟨wy, j, hwy, rfl, hj, hrw, how, hkz, hap⟩ := hrel
        subst hwy
        have HRW : Hid (CabRaw wy g O (midC c L keep t j) (.slice af nf cf) (.slice an nn cn) (.slice az ns cs) (.slice aw nw cw)) := hrw
        have HOW : Hid (OwnE wy (.slice al nl kl) L) := how
        have HKZ : Hid (RowZ wy ak nk keep) := hkz
        have HAP : Hid (Apart O w wy) := hap
        clear hrw how hkz hap
        by_cases hlt : j < nl
        · have hji : (j : Int) < (nl : Int) := by omega
          have hjl : j < L.length := by rw [← HNL.out]; exact hlt
          have hjk : (entAt L j).2 < c.files.length := HLF.out _ (by unfold entAt; rw [List.getD_eq_getElem?_getD, List.getElem?_eq_getElem hjl]; exact List.getElem_mem hjl)
          obtain ⟨hml, hmf⟩ := crash_mid c HINV.out L HLF.out j keep t
          have hnm : (entAt L j).2 < (midC c L keep t j).files.length := by show _ < (crashF _ _ _ _).length; rw [hml]; exact hjk
          have HST : Hid _ := crash_step L j hjl keep t c.files
          obtain ⟨b, hab, hvb, hblt, y0, y1, hfz⟩ := OwnF.at1 HRW.out.parts.1 (entAt L j).2 hnm
          subst hab
          obtain ⟨a', cap', hv, -, -, hr⟩ := OwnE.at HOW.out
          injection hv with hv1 hv2 hv3
          rw [← hv1] at hr
          clear hv1 hv2 hv3
          rcases hr with h0 | ⟨bl, off, ha, hllt, hcl⟩
          · omega
          · subst ha
            have z1 := (hcl j hjl).2
            have hn0 : (entAt L j).2 < nf := by rw [HNF.out]; exact hjk
            have hT := hmf (entAt L j).2
            have HE : Hid (crashF (L.take (j + 1)) keep t c.files = (midC c L keep t j).files.set (entAt L j).2 (cutF (entAt (midC c L keep t j).files (entAt L j).2) (keep.drop j) t)) := HST.out
            have hT' : (entAt (midC c L keep t j).files (entAt L j).2).2 ≤ (entAt (midC c L keep t j).files (entAt L j).2).1.size ∧ (entAt (midC c L keep t j).files (entAt L j).2).1.size ≤ 1048576 := hT
            generalize entAt (midC c L keep t j).files (entAt L j).2 = F at *
            obtain ⟨T, s⟩ := F
            dsimp only at y0 y1 hT'
            obtain ⟨hT1, hT2⟩ := hT'
            have HZ : Hid (∀ W : World, OwnE W (.slice (some ⟨bl, off, none⟩) nl kl) L → W.cell? ⟨bl, off + j * 2 + 1, none⟩ = some (.int .i64 ((entAt L j).2 : Nat)) ∧ bl < W.heap.size) := by
              intro W hW
              obtain ⟨a', cap', hv, -, -, hr⟩ := OwnE.at hW
              injection hv with hv1 hv2 hv3
              rw [← hv1] at hr
              rcases hr with h0 | ⟨bl', off', ha, hllt, hcl⟩
              · omega
              · cases ha
                exact ⟨(hcl j hjl).2, hllt⟩
            generalize (entAt L j).2 = n at *
            have HVF : Hid ((Value.slice (some ⟨b, 0, none⟩) nf cf).ownBlock = some b) := hvb
            have HNM : Hid (n < (midC c L keep t j).files.length) := hnm
            have hni : (n : Int) < (nf : Int) := by omega
            have e1 := HRW.out.cells.2.1
            have hgb : g ≠ b := fun e => block_of_struct HRW.out.1 HRW.out.parts.1 (by decide) (e ▸ hvb)
            clear hT hmf hml HST hcl hfz
            have d1 : wy.drew.cell? ⟨g, 1, none⟩ = some (.slice (some ⟨b, 0, none⟩) nf cf) := e1
            have d2 : wy.drew.cell? ⟨bl, off + j * 2 + 1, none⟩ = some (.int .i64 (n : Nat)) := z1
            have d3 : wy.drew.cell? ⟨b, n * 2, none⟩ = some (.string T) := y0
            have d4 : wy.drew.cell? ⟨b, n * 2 + 1, none⟩ = some (.int .i64 (s : Nat)) := y1
            have HRD : Hid (CabRaw wy.drew g O (midC c L keep t j) (.slice (some ⟨b, 0, none⟩) nf cf) (.slice an nn cn) (.slice az ns cs) (.slice aw nw cw)) := HRW.out.below (Below.refl _ _).drew
            have HOD : Hid (OwnE wy.drew (.slice (some ⟨bl, off, none⟩) nl kl) L) := owns_keep HOW.out (fun _ _ => rfl)
            have HKD : Hid (RowZ wy.drew ak nk keep) := HKZ.out.below (Below.refl _ _).drew
            have HAD : Hid (Apart O w wy.drew) := HAP.out.same (apart_of (Below.refl _ _).drew O)
            have hlg : g < wy.drew.heap.size := HRD.out.lt
            have hllt : bl < wy.drew.heap.size := hllt
            have hblt : b < wy.drew.heap.size := hblt
            clear HRW HOW HKZ HAP e1 z1 y0 y1
            go_wp2_with fail
            refine wp_region_held_drew (S := fun w' => w'.cell? ⟨g, 1, none⟩ = some (.slice (some ⟨b, 0, none⟩) nf cf) ∧ w'.cell? ⟨bl, off + j * 2 + 1, none⟩ = some (.int .i64 (n : Nat)) ∧ w'.cell? ⟨b, n * 2, none⟩ = some (.string T) ∧ w'.cell? ⟨b, n * 2 + 1, none⟩ = some (.int .i64 (s : Nat))) (by kernel_rfl) (⟨d1, d2, d3, d4⟩) (fun hHeld => ?_)
            clear d1 d2 d3 d4
            generalize wy.drew = wd at *
            refine held_take 0 (some 45) (.pointer (some ⟨g, 0, none⟩)) rfl rfl (by kernel_rfl) (by kernel_rfl) (by kernel_rfl) (fun _ _ _ h => h) rfl (fun w' hS => ?_) hHeld ?_
            · clear hS; go_simp
            try simp only [Act.put, List.setIfInBounds_toArray, List.set_cons_zero, List.set_cons_succ]
            refine held_take 1 (some 46) (.pointer (some ⟨g, 0, none⟩)) rfl rfl (by kernel_rfl) (by kernel_rfl) (by kernel_rfl) (fun _ _ _ h => h) rfl (fun w' hS => ?_) hHeld ?_
            · clear hS; go_simp
            try simp only [Act.put, List.setIfInBounds_toArray, List.set_cons_zero, List.set_cons_succ]
            refine held_take 2 (some 47) (.pointer (some ⟨g, 1, none⟩)) rfl rfl (by kernel_rfl) (by kernel_rfl) (by kernel_rfl) (fun _ _ _ h => h) rfl (fun w' hS => ?_) hHeld ?_
            · clear hS; go_simp
            try simp only [Act.put, List.setIfInBounds_toArray, List.set_cons_zero, List.set_cons_succ]
            refine held_take 3 (some 48) (.slice (some ⟨b, 0, none⟩) nf cf) rfl rfl (by kernel_rfl) (by kernel_rfl) (by kernel_rfl) (fun _ _ _ h => h) rfl (fun w' hS => ?_) hHeld ?_
            · obtain ⟨y0, y1, y2, y3⟩ := hS; go_simp
            try simp only [Act.put, List.setIfInBounds_toArray, List.set_cons_zero, List.set_cons_succ]
            refine held_take 4 (some 49) (.slice (some ⟨bl, off, none⟩) nl kl) rfl rfl (by kernel_rfl) (by kernel_rfl) (by kernel_rfl) (fun _ _ _ h => h) rfl (fun w' hS => ?_) hHeld ?_
            · clear hS; go_simp
            try simp only [Act.put, List.setIfInBounds_toArray, List.set_cons_zero, List.set_cons_succ]
            refine held_take 5 (some 50) (.int .i64 (j : Nat)) rfl rfl (by kernel_rfl) (by kernel_rfl) (by kernel_rfl) (fun _ _ _ h => h) rfl (fun w' hS => ?_) hHeld ?_
            · clear hS; go_simp
            try simp only [Act.put, List.setIfInBounds_toArray, List.set_cons_zero, List.set_cons_succ]
            refine held_take 6 (some 51) (.pointer (some ⟨bl, off + j * 2, none⟩)) rfl rfl (by kernel_rfl) (by kernel_rfl) (by kernel_rfl) (fun _ _ _ h => h) rfl (fun w' hS => ?_) hHeld ?_
            · clear hS; go_simp
            try simp only [Act.put, List.setIfInBounds_toArray, List.set_cons_zero, List.set_cons_succ]
            refine held_take 7 (some 52) (.pointer (some ⟨bl, off + j * 2 + 1, none⟩)) rfl rfl (by kernel_rfl) (by kernel_rfl) (by kernel_rfl) (fun _ _ _ h => h) rfl (fun w' hS => ?_) hHeld ?_
            · clear hS; go_simp
            try simp only [Act.put, List.setIfInBounds_toArray, List.set_cons_zero, List.set_cons_succ]
            refine held_take 8 (some 53) (.int .i64 (n : Nat)) rfl rfl (by kernel_rfl) (by kernel_rfl) (by kernel_rfl) (fun _ _ _ h => h) rfl (fun w' hS => ?_) hHeld ?_
            · obtain ⟨y0, y1, y2, y3⟩ := hS; go_simp
            try simp only [Act.put, List.setIfInBounds_toArray, List.set_cons_zero, List.set_cons_succ]
            refine held_take 9 (some 54) (.pointer (some ⟨b, n * 2, none⟩)) rfl rfl (by kernel_rfl) (by kernel_rfl) (by kernel_rfl) (fun _ _ _ h => h) rfl (fun w' hS => ?_) hHeld ?_
            · clear hS; go_simp
            try simp only [Act.put, List.setIfInBounds_toArray, List.set_cons_zero, List.set_cons_succ]
            refine held_take 10 (some 55) (.agg #[.string T, .int .i64 (s : Nat)]) rfl rfl (by kernel_rfl) (by kernel_rfl) (by kernel_rfl) (fun _ _ _ h => h) rfl (fun w' hS => ?_) hHeld ?_
            · obtain ⟨y0, y1, y2, y3⟩ := hS; go_simp
            try simp only [Act.put, List.setIfInBounds_toArray, List.set_cons_zero, List.set_cons_succ]
            refine held_one (i := 11) (by kernel_rfl) rfl rfl (fun K hK => ?_)
            go_simp
            have hS9 : (wd.alloc (.cells #[.string (ByteArray.mk #[]), .int .i64 0] 89)).cell? ⟨g, 1, none⟩ = some (.slice (some ⟨b, 0, none⟩) nf cf) ∧ (wd.alloc (.cells #[.string (ByteArray.mk #[]), .int .i64 0] 89)).cell? ⟨bl, off + j * 2 + 1, none⟩ = some (.int .i64 (n : Nat)) ∧ (wd.alloc (.cells #[.string (ByteArray.mk #[]), .int .i64 0] 89)).cell? ⟨b, n * 2, none⟩ = some (.string T) ∧ (wd.alloc (.cells #[.string (ByteArray.mk #[]), .int .i64 0] 89)).cell? ⟨b, n * 2 + 1, none⟩ = some (.int .i64 (s : Nat)) := by
              have hb := below_new wd (.cells #[.string (ByteArray.mk #[]), .int .i64 0] 89)
              exact ⟨(hb.cell (p := ⟨g, 1, none⟩) hlg).trans hHeld.1, (hb.cell (p := ⟨bl, off + j * 2 + 1, none⟩) hllt).trans hHeld.2.1, (hb.cell (p := ⟨b, n * 2, none⟩) hblt).trans hHeld.2.2.1, (hb.cell (p := ⟨b, n * 2 + 1, none⟩) hblt).trans hHeld.2.2.2⟩
            refine hK.out _ _ hS9 ?_
            clear hK K
            try simp only [Act.put, List.setIfInBounds_toArray, List.set_cons_zero, List.set_cons_succ]
            refine held_one (i := 12) (by kernel_rfl) rfl rfl (fun K hK => ?_)
            go_simp
            have HB8 : Hid (Below wd.heap.size wd (wd.alloc (.cells #[.string T, .int .i64 (s : Nat)] 89))) := below_new wd _
            have hS9' : (wd.alloc (.cells #[.string T, .int .i64 (s : Nat)] 89)).cell? ⟨g, 1, none⟩ = some (.slice (some ⟨b, 0, none⟩) nf cf) ∧ (wd.alloc (.cells #[.string T, .int .i64 (s : Nat)] 89)).cell? ⟨bl, off + j * 2 + 1, none⟩ = some (.int .i64 (n : Nat)) ∧ (wd.alloc (.cells #[.string T, .int .i64 (s : Nat)] 89)).cell? ⟨b, n * 2, none⟩ = some (.string T) ∧ (wd.alloc (.cells #[.string T, .int .i64 (s : Nat)] 89)).cell? ⟨b, n * 2 + 1, none⟩ = some (.int .i64 (s : Nat)) := ⟨(HB8.out.cell (p := ⟨g, 1, none⟩) hlg).trans hHeld.1, (HB8.out.cell (p := ⟨bl, off + j * 2 + 1, none⟩) hllt).trans hHeld.2.1, (HB8.out.cell (p := ⟨b, n * 2, none⟩) hblt).trans hHeld.2.2.1, (HB8.out.cell (p := ⟨b, n * 2 + 1, none⟩) hblt).trans hHeld.2.2.2⟩
            have x0 : (wd.alloc (.cells #[.string T, .int .i64 (s : Nat)] 89)).cell? ⟨wd.heap.size, 0, none⟩ = some (.string T) := by rw [cell_of_row _ wd.heap.size _ _ _ _ (heap_alloc_last wd _)]; rfl
            have x1 : (wd.alloc (.cells #[.string T, .int .i64 (s : Nat)] 89)).cell? ⟨wd.heap.size, 1, none⟩ = some (.int .i64 (s : Nat)) := by rw [cell_of_row _ wd.heap.size _ _ _ _ (heap_alloc_last wd _)]; rfl
            have HRX : Hid (CabRaw (wd.alloc (.cells #[.string T, .int .i64 (s : Nat)] 89)) g O (midC c L keep t j) (.slice (some ⟨b, 0, none⟩) nf cf) (.slice an nn cn) (.slice az ns cs) (.slice aw nw cw)) := HRD.out.below HB8.out
            have HOX : Hid (OwnE (wd.alloc (.cells #[.string T, .int .i64 (s : Nat)] 89)) (.slice (some ⟨bl, off, none⟩) nl kl) L) := OwnN.below HOD.out HB8.out
            have HKX : Hid (RowZ (wd.alloc (.cells #[.string T, .int .i64 (s : Nat)] 89)) ak nk keep) := HKD.out.below HB8.out
            have HAX : Hid (Apart O w (wd.alloc (.cells #[.string T, .int .i64 (s : Nat)] 89))) := HAD.out.same (apart_of HB8.out O)
            have hpx : wd.heap.size < (wd.alloc (.cells #[.string T, .int .i64 (s : Nat)] 89)).heap.size := by simp
            refine hK.out _ _ hS9' ?_
            clear hK K hS9 hS9' hHeld HB8 HRD HOD HKD HAD hlg hllt hblt
            try simp only [Act.put, List.setIfInBounds_toArray, List.set_cons_zero, List.set_cons_succ]
            refine wpAnyH_done (by kernel_rfl) ?_ _
            generalize wd.alloc (.cells #[.string T, .int .i64 (s : Nat)] 89) = wx at *
            generalize wd.heap.size = p at *
            by_cases hjk2 : j < nk
            · have hjki : (j : Int) < (nk : Int) := by omega
              rcases HKX.out.2 with h0 | ⟨bk, ok, hak, hbk, hck⟩
              · omega
              · subst hak
                have z0 := hck j hjk2
                have HKC : Hid (keepC (keep.drop j) (T.size - s) = partC (keep.getD j 0) (T.size - s)) := keep_at keep j _ (by rw [HKX.out.1]; exact hjk2)
                generalize keep.getD j 0 = z at *
                obtain ⟨m, hm⟩ : ∃ m, m = T.size - s := ⟨_, rfl⟩
                rw [← hm] at HKC
                have HM : Hid (m = T.size - s) := hm
                have HMI : Hid (IntKind.i64.wrap ((T.size : Int) - (s : Int)) = (m : Int)) := by unfold Hid; rw [IntKind.wrap_i64]; omega
                have u0 : wx.drew.cell? ⟨bk, ok + j, none⟩ = some (.int .i64 z) := z0
                have u1 : wx.drew.cell? ⟨p, 0, none⟩ = some (.string T) := x0
                have u2 : wx.drew.cell? ⟨p, 1, none⟩ = some (.int .i64 (s : Nat)) := x1
                clear hck z0 x0 x1 hm
                go_wp2_with fail
                refine wp_region_held_drew (S := fun w' => w'.cell? ⟨bk, ok + j, none⟩ = some (.int .i64 z) ∧ w'.cell? ⟨p, 0, none⟩ = some (.string T) ∧ w'.cell? ⟨p, 1, none⟩ = some (.int .i64 (s : Nat))) (by kernel_rfl) (⟨u0, u1, u2⟩) (fun hHeld => ?_)
                clear u0 u1 u2
                refine held_take 0 (some 60) (.slice (some ⟨bk, ok, none⟩) nk ck) rfl rfl (by kernel_rfl) (by kernel_rfl) (by kernel_rfl) (fun _ _ _ h => h) rfl (fun w' hS => ?_) hHeld ?_
                · clear hS; go_simp
                try simp only [Act.put, List.setIfInBounds_toArray, List.set_cons_zero, List.set_cons_succ]
                refine held_take 1 (some 61) (.int .i64 (j : Nat)) rfl rfl (by kernel_rfl) (by kernel_rfl) (by kernel_rfl) (fun _ _ _ h => h) rfl (fun w' hS => ?_) hHeld ?_
                · clear hS; go_simp
                try simp only [Act.put, List.setIfInBounds_toArray, List.set_cons_zero, List.set_cons_succ]
                refine held_take 2 (some 62) (.pointer (some ⟨bk, ok + j, none⟩)) rfl rfl (by kernel_rfl) (by kernel_rfl) (by kernel_rfl) (fun _ _ _ h => h) rfl (fun w' hS => ?_) hHeld ?_
                · clear hS; go_simp
                try simp only [Act.put, List.setIfInBounds_toArray, List.set_cons_zero, List.set_cons_succ]
                refine held_take 3 (some 63) (.int .i64 z) rfl rfl (by kernel_rfl) (by kernel_rfl) (by kernel_rfl) (fun _ _ _ h => h) rfl (fun w' hS => ?_) hHeld ?_
                · obtain ⟨y0, y1, y2⟩ := hS; go_simp
                try simp only [Act.put, List.setIfInBounds_toArray, List.set_cons_zero, List.set_cons_succ]
                refine held_take 4 (some 64) (.pointer (some ⟨p, 0, none⟩)) rfl rfl (by kernel_rfl) (by kernel_rfl) (by kernel_rfl) (fun _ _ _ h => h) rfl (fun w' hS => ?_) hHeld ?_
                · clear hS; go_simp
                try simp only [Act.put, List.setIfInBounds_toArray, List.set_cons_zero, List.set_cons_succ]
                refine held_take 5 (some 65) (.string T) rfl rfl (by kernel_rfl) (by kernel_rfl) (by kernel_rfl) (fun _ _ _ h => h) rfl (fun w' hS => ?_) hHeld ?_
                · obtain ⟨y0, y1, y2⟩ := hS; go_simp
                try simp only [Act.put, List.setIfInBounds_toArray, List.set_cons_zero, List.set_cons_succ]
                refine held_take 6 (some 66) (.int .i64 (T.size : Nat)) rfl rfl (by kernel_rfl) (by kernel_rfl) (by kernel_rfl) (fun _ _ _ h => h) rfl (fun w' hS => ?_) hHeld ?_
                · clear hS; go_simp
                try simp only [Act.put, List.setIfInBounds_toArray, List.set_cons_zero, List.set_cons_succ]
                refine held_take 7 (some 67) (.pointer (some ⟨p, 1, none⟩)) rfl rfl (by kernel_rfl) (by kernel_rfl) (by kernel_rfl) (fun _ _ _ h => h) rfl (fun w' hS => ?_) hHeld ?_
                · clear hS; go_simp
                try simp only [Act.put, List.setIfInBounds_toArray, List.set_cons_zero, List.set_cons_succ]
                refine held_take 8 (some 68) (.int .i64 (s : Nat)) rfl rfl (by kernel_rfl) (by kernel_rfl) (by kernel_rfl) (fun _ _ _ h => h) rfl (fun w' hS => ?_) hHeld ?_
                · obtain ⟨y0, y1, y2⟩ := hS; go_simp
                try simp only [Act.put, List.setIfInBounds_toArray, List.set_cons_zero, List.set_cons_succ]
                refine held_take 9 (some 69) (.int .i64 (m : Nat)) rfl rfl (by kernel_rfl) (by kernel_rfl) (by kernel_rfl) (fun _ _ _ h => h) rfl (fun w' hS => ?_) hHeld ?_
                · clear hS; have hmi := HMI.out; go_simp
                try simp only [Act.put, List.setIfInBounds_toArray, List.set_cons_zero, List.set_cons_succ]
                refine held_one (i := 10) (by kernel_rfl) rfl rfl (fun K hK => ?_)
                go_simp
                refine Calls.mono (rpart_any _ z m) ?_
                rintro _ v1 ⟨rfl, hv1⟩
                replace hv1 := hv1.symm
                subst hv1
                dsimp only
                refine hK.out _ _ hHeld ?_
                clear hK K
                try simp only [Act.put, List.setIfInBounds_toArray, List.set_cons_zero, List.set_cons_succ]
                refine held_take 11 (some 12) (.int .i64 (partC z m : Nat)) rfl rfl (by kernel_rfl) (by kernel_rfl) (by kernel_rfl) (fun _ _ _ h => h) rfl (fun w' hS => ?_) hHeld ?_
                · clear hS; go_simp
                try simp only [Act.put, List.setIfInBounds_toArray, List.set_cons_zero, List.set_cons_succ]
                refine wpAnyH_done (by kernel_rfl) ?_ _
                have HRX : Hid (CabRaw wx.drew g O (midC c L keep t j) (.slice (some ⟨b, 0, none⟩) nf cf) (.slice an nn cn) (.slice az ns cs) (.slice aw nw cw)) := HRX.out.below (Below.refl _ _).drew
                have HOX : Hid (OwnE wx.drew (.slice (some ⟨bl, off, none⟩) nl kl) L) := owns_keep HOX.out (fun _ _ => rfl)
                have HKX : Hid (RowZ wx.drew (some ⟨bk, ok, none⟩) nk keep) := HKX.out.below (Below.refl _ _).drew
                have HAX : Hid (Apart O w wx.drew) := HAX.out.same (apart_of (Below.refl _ _).drew O)
                have hpx : p < wx.drew.heap.size := hpx
                rw [HM.out] at HKC
                obtain ⟨x0, x1⟩ : wx.drew.cell? ⟨p, 0, none⟩ = some (.string T) ∧ wx.drew.cell? ⟨p, 1, none⟩ = some (.int .i64 (s : Nat)) := ⟨hHeld.2.1, hHeld.2.2⟩
                obtain ⟨kv, hkv⟩ : ∃ kv, kv = partC z m := ⟨_, rfl⟩
                have hkm : kv ≤ T.size - s := by rw [hkv, ← HM.out]; exact part_le _ _
                have HKV : Hid (keepC (keep.drop j) (T.size - s) = kv) := by unfold Hid; rw [HKC.out, hkv, HM.out]
                rw [← hkv]
                clear hkv HKC HM HMI hHeld
                generalize wx.drew = wx at *
                have hEs : s + kv ≤ T.size := by omega
                obtain ⟨E, hE⟩ : ∃ E, E = s + kv := ⟨_, rfl⟩
                have hEi : IntKind.i64.wrap ((s : Int) + (kv : Int)) = (E : Int) := by rw [IntKind.wrap_i64]; omega
                have hEi2 : (s : Int) + (kv : Int) = (E : Int) := by omega
                have hEl : E ≤ T.size := by omega
                have HCUT : Hid (cutC (T, s) (keep.drop j) t = if t ≠ 0 ∧ E < T.size then T.extract 0 E ++ ⟨#[T.data.getD E 0 ^^^ t]⟩ else T.extract 0 E) := by unfold Hid cutC; dsimp only; rw [HKV.out, ← hE]
                have hsl := fun W => str_upto T E .i64 hEl W
                clear hE hEs hkm HKV
                by_cases ht0 : tn = 0
                · have HR : Hid (cutC (T, s) (keep.drop j) t = T.extract 0 E) := by
                    unfold Hid
                    rw [HCUT.out, if_neg (fun h => h.1 (UInt8.toNat_inj.1 (by rw [← HTN.out, ht0]; rfl)))]
                  have htb0 : ((tn : Int) != 0) = false := by rw [ht0]; rfl
                  clear ht0 HCUT
                  have hRs : (T.extract 0 E).size ≤ 1048577 := by rw [ByteArray.size_extract]; omega
                  generalize T.extract 0 E = R at *
                  have hOb : O b := HRX.out.parts.2.2.2.2.2.1 b HVF.out
                  have HNB : Hid (bl ≠ b) := fun e => owns_ne HOX.out HRX.out.parts.1 (by decide) (b := bl) rfl (by rw [e]; rfl)
                  have HRX : Hid (CabRaw wx.drew g O (midC c L keep t j) (.slice (some ⟨b, 0, none⟩) nf cf) (.slice an nn cn) (.slice az ns cs) (.slice aw nw cw)) := HRX.out.below (Below.refl _ _).drew
                  have HOX : Hid (OwnE wx.drew (.slice (some ⟨bl, off, none⟩) nl kl) L) := owns_keep HOX.out (fun _ _ => rfl)
                  have HKX : Hid (RowZ wx.drew (some ⟨bk, ok, none⟩) nk keep) := HKX.out.below (Below.refl _ _).drew
                  have HAX : Hid (Apart O w wx.drew) := HAX.out.same (apart_of (Below.refl _ _).drew O)
                  have d1 := HRX.out.cells.2.1
                  have d2 := (HZ.out _ HOX.out).1
                  obtain ⟨bq, hbq, -, -, d3, d4, hfz⟩ := OwnF.at1 HRX.out.parts.1 n HNM.out
                  cases hbq
                  have HD3 : Hid _ := d3
                  have HD4 : Hid _ := d4
                  have HFZ : Hid _ := hfz
                  clear d3 d4 hfz
                  go_wp2_with fail
                  refine wp_region_held_drew (S := fun w' => w'.cell? ⟨g, 1, none⟩ = some (.slice (some ⟨b, 0, none⟩) nf cf) ∧ w'.cell? ⟨bl, off + j * 2 + 1, none⟩ = some (.int .i64 (n : Nat))) (by kernel_rfl) (⟨d1, d2⟩) (fun hHeld => ?_)
                  clear d1 d2
                  generalize wx.drew = wd at *
                  refine held_take 0 (some 98) (.pointer (some ⟨g, 0, none⟩)) rfl rfl (by kernel_rfl) (by kernel_rfl) (by kernel_rfl) (fun _ _ _ h => h) rfl (fun w' hS => ?_) hHeld ?_
                  · clear hS; go_simp
                  try simp only [Act.put, List.setIfInBounds_toArray, List.set_cons_zero, List.set_cons_succ]
                  refine held_take 1 (some 99) (.pointer (some ⟨g, 0, none⟩)) rfl rfl (by kernel_rfl) (by kernel_rfl) (by kernel_rfl) (fun _ _ _ h => h) rfl (fun w' hS => ?_) hHeld ?_
                  · clear hS; go_simp
                  try simp only [Act.put, List.setIfInBounds_toArray, List.set_cons_zero, List.set_cons_succ]
                  refine held_take 2 (some 100) (.pointer (some ⟨g, 1, none⟩)) rfl rfl (by kernel_rfl) (by kernel_rfl) (by kernel_rfl) (fun _ _ _ h => h) rfl (fun w' hS => ?_) hHeld ?_
                  · clear hS; go_simp
                  try simp only [Act.put, List.setIfInBounds_toArray, List.set_cons_zero, List.set_cons_succ]
                  refine held_take 3 (some 101) (.slice (some ⟨b, 0, none⟩) nf cf) rfl rfl (by kernel_rfl) (by kernel_rfl) (by kernel_rfl) (fun _ _ _ h => h) rfl (fun w' hS => ?_) hHeld ?_
                  · obtain ⟨y0, y1⟩ := hS; go_simp
                  try simp only [Act.put, List.setIfInBounds_toArray, List.set_cons_zero, List.set_cons_succ]
                  refine held_take 4 (some 102) (.slice (some ⟨bl, off, none⟩) nl kl) rfl rfl (by kernel_rfl) (by kernel_rfl) (by kernel_rfl) (fun _ _ _ h => h) rfl (fun w' hS => ?_) hHeld ?_
                  · clear hS; go_simp
                  try simp only [Act.put, List.setIfInBounds_toArray, List.set_cons_zero, List.set_cons_succ]
                  refine held_take 5 (some 103) (.int .i64 (j : Nat)) rfl rfl (by kernel_rfl) (by kernel_rfl) (by kernel_rfl) (fun _ _ _ h => h) rfl (fun w' hS => ?_) hHeld ?_
                  · clear hS; go_simp
                  try simp only [Act.put, List.setIfInBounds_toArray, List.set_cons_zero, List.set_cons_succ]
                  refine held_take 6 (some 104) (.pointer (some ⟨bl, off + j * 2, none⟩)) rfl rfl (by kernel_rfl) (by kernel_rfl) (by kernel_rfl) (fun _ _ _ h => h) rfl (fun w' hS => ?_) hHeld ?_
                  · clear hS; go_simp
                  try simp only [Act.put, List.setIfInBounds_toArray, List.set_cons_zero, List.set_cons_succ]
                  refine held_take 7 (some 105) (.pointer (some ⟨bl, off + j * 2 + 1, none⟩)) rfl rfl (by kernel_rfl) (by kernel_rfl) (by kernel_rfl) (fun _ _ _ h => h) rfl (fun w' hS => ?_) hHeld ?_
                  · clear hS; go_simp
                  try simp only [Act.put, List.setIfInBounds_toArray, List.set_cons_zero, List.set_cons_succ]
                  refine held_take 8 (some 106) (.int .i64 (n : Nat)) rfl rfl (by kernel_rfl) (by kernel_rfl) (by kernel_rfl) (fun _ _ _ h => h) rfl (fun w' hS => ?_) hHeld ?_
                  · obtain ⟨y0, y1⟩ := hS; go_simp
                  try simp only [Act.put, List.setIfInBounds_toArray, List.set_cons_zero, List.set_cons_succ]
                  refine held_take 9 (some 107) (.string R) rfl rfl (by kernel_rfl) (by kernel_rfl) (by kernel_rfl) (fun _ _ _ h => h) rfl (fun w' hS => ?_) hHeld ?_
                  · clear hS; go_simp
                  try simp only [Act.put, List.setIfInBounds_toArray, List.set_cons_zero, List.set_cons_succ]
                  refine held_take 10 (some 108) (.string R) rfl rfl (by kernel_rfl) (by kernel_rfl) (by kernel_rfl) (fun _ _ _ h => h) rfl (fun w' hS => ?_) hHeld ?_
                  · clear hS; go_simp
                  try simp only [Act.put, List.setIfInBounds_toArray, List.set_cons_zero, List.set_cons_succ]
                  refine held_take 11 (some 109) (.int .i64 (R.size : Nat)) rfl rfl (by kernel_rfl) (by kernel_rfl) (by kernel_rfl) (fun _ _ _ h => h) rfl (fun w' hS => ?_) hHeld ?_
                  · clear hS; go_simp
                  try simp only [Act.put, List.setIfInBounds_toArray, List.set_cons_zero, List.set_cons_succ]
                  refine held_take 12 (some 110) (.agg #[.string R, .int .i64 (R.size : Nat)]) rfl rfl (by kernel_rfl) (by kernel_rfl) (by kernel_rfl) (fun _ _ _ h => h) rfl (fun w' hS => ?_) hHeld ?_
                  · clear hS; go_simp
                  try simp only [Act.put, List.setIfInBounds_toArray, List.set_cons_zero, List.set_cons_succ]
                  refine held_take 13 (some 111) (.pointer (some ⟨b, n * 2, none⟩)) rfl rfl (by kernel_rfl) (by kernel_rfl) (by kernel_rfl) (fun _ _ _ h => h) rfl (fun w' hS => ?_) hHeld ?_
                  · clear hS; go_simp
                  try simp only [Act.put, List.setIfInBounds_toArray, List.set_cons_zero, List.set_cons_succ]
                  have v3 := HD3.out
                  have v4 := HD4.out
                  have v5 := HFZ.out
                  refine held_one (i := 14) (by kernel_rfl) rfl rfl (fun K hK => ?_)
                  go_simp
                  have eg : ∀ q, q ≠ b → ((wd.setCell ⟨b, n * 2, none⟩ (.string R)).setCell ⟨b, n * 2 + 1, none⟩ (.int .i64 (R.size : Nat))).heap[q]? = wd.heap[q]? := fun q hq => (Below.heap_setCell (wd.setCell ⟨b, n * 2, none⟩ (.string R)) ⟨b, n * 2 + 1, none⟩ _ q hq).trans (Below.heap_setCell wd ⟨b, n * 2, none⟩ _ q hq)
                  have HS7 : ((wd.setCell ⟨b, n * 2, none⟩ (.string R)).setCell ⟨b, n * 2 + 1, none⟩ (.int .i64 (R.size : Nat))).cell? ⟨g, 1, none⟩ = some (.slice (some ⟨b, 0, none⟩) nf cf) ∧ ((wd.setCell ⟨b, n * 2, none⟩ (.string R)).setCell ⟨b, n * 2 + 1, none⟩ (.int .i64 (R.size : Nat))).cell? ⟨bl, off + j * 2 + 1, none⟩ = some (.int .i64 (n : Nat)) := ⟨(World.cell?_of_block (w := wd) (w' := (wd.setCell ⟨b, n * 2, none⟩ (.string R)).setCell ⟨b, n * 2 + 1, none⟩ (.int .i64 (R.size : Nat))) (a := ⟨g, 1, none⟩) (eg g hgb)).trans hHeld.1, (World.cell?_of_block (w := wd) (w' := (wd.setCell ⟨b, n * 2, none⟩ (.string R)).setCell ⟨b, n * 2 + 1, none⟩ (.int .i64 (R.size : Nat))) (a := ⟨bl, off + j * 2 + 1, none⟩) (eg bl HNB.out)).trans hHeld.2⟩
                  refine hK.out _ _ HS7 ?_
                  have HRF : Hid (CabRaw ((wd.setCell ⟨b, n * 2, none⟩ (.string R)).setCell ⟨b, n * 2 + 1, none⟩ (.int .i64 (R.size : Nat))) g O (midC c L keep t (j + 1)) (.slice (some ⟨b, 0, none⟩) nf cf) (.slice an nn cn) (.slice az ns cs) (.slice aw nw cw)) := by
                    have hq := HRX.out.refile2 b n HVF.out HNM.out (R, R.size)
                    have e : midC c L keep t (j + 1) = ({ midC c L keep t j with files := (midC c L keep t j).files.set n (R, R.size) } : CabM) := by
                      show ({ c with files := crashF (L.take (j + 1)) keep t c.files } : CabM) = _
                      rw [HE.out]
                      unfold cutF
                      rw [HR.out]
                      rfl
                    unfold Hid
                    rw [e]
                    exact hq
                  have HOF : Hid (OwnE ((wd.setCell ⟨b, n * 2, none⟩ (.string R)).setCell ⟨b, n * 2 + 1, none⟩ (.int .i64 (R.size : Nat))) (.slice (some ⟨bl, off, none⟩) nl kl) L) := owns_keep HOX.out (fun q hq => eg q (fun e => HNB.out (by cases hq; exact e)))
                  have HAF0 : Apart O wd ((wd.setCell ⟨b, n * 2, none⟩ (.string R)).setCell ⟨b, n * 2 + 1, none⟩ (.int .i64 (R.size : Nat))) := ((Apart.refl O wd).set hOb _ _).set hOb _ _
                  have HKF : Hid (RowZ ((wd.setCell ⟨b, n * 2, none⟩ (.string R)).setCell ⟨b, n * 2 + 1, none⟩ (.int .i64 (R.size : Nat))) (some ⟨bk, ok, none⟩) nk keep) := HKX.out.apart HAF0 HD.out
                  have HAF : Hid (Apart O w ((wd.setCell ⟨b, n * 2, none⟩ (.string R)).setCell ⟨b, n * 2 + 1, none⟩ (.int .i64 (R.size : Nat)))) := HAX.out.same HAF0
                  clear hK K HS7 hHeld v3 v4 v5 HD3 HD4 HFZ eg HAF0 HRX HOX HKX HAX
                  try simp only [Act.put, List.setIfInBounds_toArray, List.set_cons_zero, List.set_cons_succ]
                  refine wpAnyH_done (by kernel_rfl) ?_ _
                  generalize (wd.setCell ⟨b, n * 2, none⟩ (.string R)).setCell ⟨b, n * 2 + 1, none⟩ (.int .i64 (R.size : Nat)) = wS at *
                  go_wp2_with fail
                  go_roundw
                  case rel => exact ⟨_, j + 1, rfl, by go_num, by omega, HRF.out, HOF.out, HKF.out, HAF.out⟩
                  case measure => simp [intOf]; omega
                · have htb0 : ((tn : Int) != 0) = true := by rw [bne_iff_ne]; omega
                  by_cases hE2 : E < T.size
                  · have hE2i : (E : Int) < (T.size : Int) := by omega
                    have HR0 : Hid (cutC (T, s) (keep.drop j) t = T.extract 0 E ++ strN [(T[E]'hE2).toNat ^^^ tn]) := by
                      unfold Hid
                      rw [HCUT.out, if_pos ⟨fun h => ht0 (by rw [HTN.out, h]; rfl), hE2⟩, HTN.out, turned_byte]
                    have hRs0 : (T.extract 0 E).size ≤ 1048577 := by rw [ByteArray.size_extract]; omega
                    clear HCUT ht0
                    obtain ⟨x, hx⟩ : ∃ x, x = (T[E]'hE2).toNat := ⟨_, rfl⟩
                    have hxb : x < 256 := by rw [hx]; exact (T[E]'hE2).toNat_lt
                    rw [← hx] at HR0
                    have hxs : ((T[E]'hE2).toNat : Int) = (x : Int) := by rw [hx]
                    have hxor := u8_xor_nat x tn hxb htb
                    clear hx
                    generalize x ^^^ tn = y at *
                    have hrow : RowL .u8 (wx.alloc (.cells #[.int .u8 (y : Nat)] 5)) (some ⟨wx.heap.size, 0, none⟩) 1 [y] := (Blk.new wx 5 .u8 [y]).row
                    have hcv := conv_row hrow 1
                    have hadd : ∀ W, (Op.stringOp .add (T.extract 0 E) (strN [y])).run Try.prog W = .ok (.string (T.extract 0 E ++ strN [y])) W := fun W => run_string_add_sum W _ _ (by rw [strN_size]; show _ + 1 ≤ _; omega)
                    have hRs : (T.extract 0 E ++ strN [y]).size ≤ 1048578 := by rw [ByteArray.size_append, strN_size]; show _ + 1 ≤ _; omega
                    clear hrow
                    have HB9 : Hid (Below wx.heap.size wx (wx.alloc (.cells #[.int .u8 (y : Nat)] 5))) := below_new wx _
                    have HRX : Hid (CabRaw (wx.alloc (.cells #[.int .u8 (y : Nat)] 5)) g O (midC c L keep t j) (.slice (some ⟨b, 0, none⟩) nf cf) (.slice an nn cn) (.slice az ns cs) (.slice aw nw cw)) := HRX.out.below HB9.out
                    have HOX : Hid (OwnE (wx.alloc (.cells #[.int .u8 (y : Nat)] 5)) (.slice (some ⟨bl, off, none⟩) nl kl) L) := OwnN.below HOX.out HB9.out
                    have HKX : Hid (RowZ (wx.alloc (.cells #[.int .u8 (y : Nat)] 5)) (some ⟨bk, ok, none⟩) nk keep) := HKX.out.below HB9.out
                    have HAX : Hid (Apart O w (wx.alloc (.cells #[.int .u8 (y : Nat)] 5))) := HAX.out.same (apart_of HB9.out O)
                    have HR : Hid (cutC (T, s) (keep.drop j) t = T.extract 0 E ++ strN [y]) := HR0.out
                    clear HR0 HB9
                    generalize T.extract 0 E ++ strN [y] = R at *
                    generalize T.extract 0 E = R0 at *
                    generalize strN [y] = R1 at *
                    have hOb : O b := HRX.out.parts.2.2.2.2.2.1 b HVF.out
                    have HNB : Hid (bl ≠ b) := fun e => owns_ne HOX.out HRX.out.parts.1 (by decide) (b := bl) rfl (by rw [e]; rfl)
                    have HRX : Hid (CabRaw (wx.alloc (.cells #[.int .u8 (y : Nat)] 5)).drew g O (midC c L keep t j) (.slice (some ⟨b, 0, none⟩) nf cf) (.slice an nn cn) (.slice az ns cs) (.slice aw nw cw)) := HRX.out.below (Below.refl _ _).drew
                    have HOX : Hid (OwnE (wx.alloc (.cells #[.int .u8 (y : Nat)] 5)).drew (.slice (some ⟨bl, off, none⟩) nl kl) L) := owns_keep HOX.out (fun _ _ => rfl)
                    have HKX : Hid (RowZ (wx.alloc (.cells #[.int .u8 (y : Nat)] 5)).drew (some ⟨bk, ok, none⟩) nk keep) := HKX.out.below (Below.refl _ _).drew
                    have HAX : Hid (Apart O w (wx.alloc (.cells #[.int .u8 (y : Nat)] 5)).drew) := HAX.out.same (apart_of (Below.refl _ _).drew O)
                    have d1 := HRX.out.cells.2.1
                    have d2 := (HZ.out _ HOX.out).1
                    obtain ⟨bq, hbq, -, -, d3, d4, hfz⟩ := OwnF.at1 HRX.out.parts.1 n HNM.out
                    cases hbq
                    have HD3 : Hid _ := d3
                    have HD4 : Hid _ := d4
                    have HFZ : Hid _ := hfz
                    clear d3 d4 hfz
                    go_wp2_with fail
                    refine wp_region_held_drew (S := fun w' => w'.cell? ⟨g, 1, none⟩ = some (.slice (some ⟨b, 0, none⟩) nf cf) ∧ w'.cell? ⟨bl, off + j * 2 + 1, none⟩ = some (.int .i64 (n : Nat))) (by kernel_rfl) (⟨d1, d2⟩) (fun hHeld => ?_)
                    clear d1 d2
                    generalize (wx.alloc (.cells #[.int .u8 (y : Nat)] 5)).drew = wd at *
                    refine held_take 0 (some 98) (.pointer (some ⟨g, 0, none⟩)) rfl rfl (by kernel_rfl) (by kernel_rfl) (by kernel_rfl) (fun _ _ _ h => h) rfl (fun w' hS => ?_) hHeld ?_
                    · clear hS; go_simp
                    try simp only [Act.put, List.setIfInBounds_toArray, List.set_cons_zero, List.set_cons_succ]
                    refine held_take 1 (some 99) (.pointer (some ⟨g, 0, none⟩)) rfl rfl (by kernel_rfl) (by kernel_rfl) (by kernel_rfl) (fun _ _ _ h => h) rfl (fun w' hS => ?_) hHeld ?_
                    · clear hS; go_simp
                    try simp only [Act.put, List.setIfInBounds_toArray, List.set_cons_zero, List.set_cons_succ]
                    refine held_take 2 (some 100) (.pointer (some ⟨g, 1, none⟩)) rfl rfl (by kernel_rfl) (by kernel_rfl) (by kernel_rfl) (fun _ _ _ h => h) rfl (fun w' hS => ?_) hHeld ?_
                    · clear hS; go_simp
                    try simp only [Act.put, List.setIfInBounds_toArray, List.set_cons_zero, List.set_cons_succ]
                    refine held_take 3 (some 101) (.slice (some ⟨b, 0, none⟩) nf cf) rfl rfl (by kernel_rfl) (by kernel_rfl) (by kernel_rfl) (fun _ _ _ h => h) rfl (fun w' hS => ?_) hHeld ?_
                    · obtain ⟨y0, y1⟩ := hS; go_simp
                    try simp only [Act.put, List.setIfInBounds_toArray, List.set_cons_zero, List.set_cons_succ]
                    refine held_take 4 (some 102) (.slice (some ⟨bl, off, none⟩) nl kl) rfl rfl (by kernel_rfl) (by kernel_rfl) (by kernel_rfl) (fun _ _ _ h => h) rfl (fun w' hS => ?_) hHeld ?_
                    · clear hS; go_simp
                    try simp only [Act.put, List.setIfInBounds_toArray, List.set_cons_zero, List.set_cons_succ]
                    refine held_take 5 (some 103) (.int .i64 (j : Nat)) rfl rfl (by kernel_rfl) (by kernel_rfl) (by kernel_rfl) (fun _ _ _ h => h) rfl (fun w' hS => ?_) hHeld ?_
                    · clear hS; go_simp
                    try simp only [Act.put, List.setIfInBounds_toArray, List.set_cons_zero, List.set_cons_succ]
                    refine held_take 6 (some 104) (.pointer (some ⟨bl, off + j * 2, none⟩)) rfl rfl (by kernel_rfl) (by kernel_rfl) (by kernel_rfl) (fun _ _ _ h => h) rfl (fun w' hS => ?_) hHeld ?_
                    · clear hS; go_simp
                    try simp only [Act.put, List.setIfInBounds_toArray, List.set_cons_zero, List.set_cons_succ]
                    refine held_take 7 (some 105) (.pointer (some ⟨bl, off + j * 2 + 1, none⟩)) rfl rfl (by kernel_rfl) (by kernel_rfl) (by kernel_rfl) (fun _ _ _ h => h) rfl (fun w' hS => ?_) hHeld ?_
                    · clear hS; go_simp
                    try simp only [Act.put, List.setIfInBounds_toArray, List.set_cons_zero, List.set_cons_succ]
                    refine held_take 8 (some 106) (.int .i64 (n : Nat)) rfl rfl (by kernel_rfl) (by kernel_rfl) (by kernel_rfl) (fun _ _ _ h => h) rfl (fun w' hS => ?_) hHeld ?_
                    · obtain ⟨y0, y1⟩ := hS; go_simp
                    try simp only [Act.put, List.setIfInBounds_toArray, List.set_cons_zero, List.set_cons_succ]
                    refine held_take 9 (some 107) (.string R) rfl rfl (by kernel_rfl) (by kernel_rfl) (by kernel_rfl) (fun _ _ _ h => h) rfl (fun w' hS => ?_) hHeld ?_
                    · clear hS; go_simp
                    try simp only [Act.put, List.setIfInBounds_toArray, List.set_cons_zero, List.set_cons_succ]
                    refine held_take 10 (some 108) (.string R) rfl rfl (by kernel_rfl) (by kernel_rfl) (by kernel_rfl) (fun _ _ _ h => h) rfl (fun w' hS => ?_) hHeld ?_
                    · clear hS; go_simp
                    try simp only [Act.put, List.setIfInBounds_toArray, List.set_cons_zero, List.set_cons_succ]
                    refine held_take 11 (some 109) (.int .i64 (R.size : Nat)) rfl rfl (by kernel_rfl) (by kernel_rfl) (by kernel_rfl) (fun _ _ _ h => h) rfl (fun w' hS => ?_) hHeld ?_
                    · clear hS; go_simp
                    try simp only [Act.put, List.setIfInBounds_toArray, List.set_cons_zero, List.set_cons_succ]
                    refine held_take 12 (some 110) (.agg #[.string R, .int .i64 (R.size : Nat)]) rfl rfl (by kernel_rfl) (by kernel_rfl) (by kernel_rfl) (fun _ _ _ h => h) rfl (fun w' hS => ?_) hHeld ?_
                    · clear hS; go_simp
                    try simp only [Act.put, List.setIfInBounds_toArray, List.set_cons_zero, List.set_cons_succ]
                    refine held_take 13 (some 111) (.pointer (some ⟨b, n * 2, none⟩)) rfl rfl (by kernel_rfl) (by kernel_rfl) (by kernel_rfl) (fun _ _ _ h => h) rfl (fun w' hS => ?_) hHeld ?_
                    · clear hS; go_simp
                    try simp only [Act.put, List.setIfInBounds_toArray, List.set_cons_zero, List.set_cons_succ]
                    have v3 := HD3.out
                    have v4 := HD4.out
                    have v5 := HFZ.out
                    refine held_one (i := 14) (by kernel_rfl) rfl rfl (fun K hK => ?_)
                    go_simp
                    have eg : ∀ q, q ≠ b → ((wd.setCell ⟨b, n * 2, none⟩ (.string R)).setCell ⟨b, n * 2 + 1, none⟩ (.int .i64 (R.size : Nat))).heap[q]? = wd.heap[q]? := fun q hq => (Below.heap_setCell (wd.setCell ⟨b, n * 2, none⟩ (.string R)) ⟨b, n * 2 + 1, none⟩ _ q hq).trans (Below.heap_setCell wd ⟨b, n * 2, none⟩ _ q hq)
                    have HS7 : ((wd.setCell ⟨b, n * 2, none⟩ (.string R)).setCell ⟨b, n * 2 + 1, none⟩ (.int .i64 (R.size : Nat))).cell? ⟨g, 1, none⟩ = some (.slice (some ⟨b, 0, none⟩) nf cf) ∧ ((wd.setCell ⟨b, n * 2, none⟩ (.string R)).setCell ⟨b, n * 2 + 1, none⟩ (.int .i64 (R.size : Nat))).cell? ⟨bl, off + j * 2 + 1, none⟩ = some (.int .i64 (n : Nat)) := ⟨(World.cell?_of_block (w := wd) (w' := (wd.setCell ⟨b, n * 2, none⟩ (.string R)).setCell ⟨b, n * 2 + 1, none⟩ (.int .i64 (R.size : Nat))) (a := ⟨g, 1, none⟩) (eg g hgb)).trans hHeld.1, (World.cell?_of_block (w := wd) (w' := (wd.setCell ⟨b, n * 2, none⟩ (.string R)).setCell ⟨b, n * 2 + 1, none⟩ (.int .i64 (R.size : Nat))) (a := ⟨bl, off + j * 2 + 1, none⟩) (eg bl HNB.out)).trans hHeld.2⟩
                    refine hK.out _ _ HS7 ?_
                    have HRF : Hid (CabRaw ((wd.setCell ⟨b, n * 2, none⟩ (.string R)).setCell ⟨b, n * 2 + 1, none⟩ (.int .i64 (R.size : Nat))) g O (midC c L keep t (j + 1)) (.slice (some ⟨b, 0, none⟩) nf cf) (.slice an nn cn) (.slice az ns cs) (.slice aw nw cw)) := by
                      have hq := HRX.out.refile2 b n HVF.out HNM.out (R, R.size)
                      have e : midC c L keep t (j + 1) = ({ midC c L keep t j with files := (midC c L keep t j).files.set n (R, R.size) } : CabM) := by
                        show ({ c with files := crashF (L.take (j + 1)) keep t c.files } : CabM) = _
                        rw [HE.out]
                        unfold cutF
                        rw [HR.out]
                        rfl
                      unfold Hid
                      rw [e]
                      exact hq
                    have HOF : Hid (OwnE ((wd.setCell ⟨b, n * 2, none⟩ (.string R)).setCell ⟨b, n * 2 + 1, none⟩ (.int .i64 (R.size : Nat))) (.slice (some ⟨bl, off, none⟩) nl kl) L) := owns_keep HOX.out (fun q hq => eg q (fun e => HNB.out (by cases hq; exact e)))
                    have HAF0 : Apart O wd ((wd.setCell ⟨b, n * 2, none⟩ (.string R)).setCell ⟨b, n * 2 + 1, none⟩ (.int .i64 (R.size : Nat))) := ((Apart.refl O wd).set hOb _ _).set hOb _ _
                    have HKF : Hid (RowZ ((wd.setCell ⟨b, n * 2, none⟩ (.string R)).setCell ⟨b, n * 2 + 1, none⟩ (.int .i64 (R.size : Nat))) (some ⟨bk, ok, none⟩) nk keep) := HKX.out.apart HAF0 HD.out
                    have HAF : Hid (Apart O w ((wd.setCell ⟨b, n * 2, none⟩ (.string R)).setCell ⟨b, n * 2 + 1, none⟩ (.int .i64 (R.size : Nat)))) := HAX.out.same HAF0
                    clear hK K HS7 hHeld v3 v4 v5 HD3 HD4 HFZ eg HAF0 HRX HOX HKX HAX
                    try simp only [Act.put, List.setIfInBounds_toArray, List.set_cons_zero, List.set_cons_succ]
                    refine wpAnyH_done (by kernel_rfl) ?_ _
                    generalize (wd.setCell ⟨b, n * 2, none⟩ (.string R)).setCell ⟨b, n * 2 + 1, none⟩ (.int .i64 (R.size : Nat)) = wS at *
                    go_wp2_with fail
                    go_roundw
                    case rel => exact ⟨_, j + 1, rfl, by go_num, by omega, HRF.out, HOF.out, HKF.out, HAF.out⟩
                    case measure => simp [intOf]; omega
                  · have hE2i : ¬ (E : Int) < (T.size : Int) := by omega
                    have HR : Hid (cutC (T, s) (keep.drop j) t = T.extract 0 E) := by
                      unfold Hid
                      rw [HCUT.out, if_neg (fun h => hE2 h.2)]
                    clear ht0 HCUT hE2
                    have hRs : (T.extract 0 E).size ≤ 1048577 := by rw [ByteArray.size_extract]; omega
                    generalize T.extract 0 E = R at *
                    have hOb : O b := HRX.out.parts.2.2.2.2.2.1 b HVF.out
                    have HNB : Hid (bl ≠ b) := fun e => owns_ne HOX.out HRX.out.parts.1 (by decide) (b := bl) rfl (by rw [e]; rfl)
                    have HRX : Hid (CabRaw wx.drew g O (midC c L keep t j) (.slice (some ⟨b, 0, none⟩) nf cf) (.slice an nn cn) (.slice az ns cs) (.slice aw nw cw)) := HRX.out.below (Below.refl _ _).drew
                    have HOX : Hid (OwnE wx.drew (.slice (some ⟨bl, off, none⟩) nl kl) L) := owns_keep HOX.out (fun _ _ => rfl)
                    have HKX : Hid (RowZ wx.drew (some ⟨bk, ok, none⟩) nk keep) := HKX.out.below (Below.refl _ _).drew
                    have HAX : Hid (Apart O w wx.drew) := HAX.out.same (apart_of (Below.refl _ _).drew O)
                    have d1 := HRX.out.cells.2.1
                    have d2 := (HZ.out _ HOX.out).1
                    obtain ⟨bq, hbq, -, -, d3, d4, hfz⟩ := OwnF.at1 HRX.out.parts.1 n HNM.out
                    cases hbq
                    have HD3 : Hid _ := d3
                    have HD4 : Hid _ := d4
                    have HFZ : Hid _ := hfz
                    clear d3 d4 hfz
                    go_wp2_with fail
                    refine wp_region_held_drew (S := fun w' => w'.cell? ⟨g, 1, none⟩ = some (.slice (some ⟨b, 0, none⟩) nf cf) ∧ w'.cell? ⟨bl, off + j * 2 + 1, none⟩ = some (.int .i64 (n : Nat))) (by kernel_rfl) (⟨d1, d2⟩) (fun hHeld => ?_)
                    clear d1 d2
                    generalize wx.drew = wd at *
                    refine held_take 0 (some 98) (.pointer (some ⟨g, 0, none⟩)) rfl rfl (by kernel_rfl) (by kernel_rfl) (by kernel_rfl) (fun _ _ _ h => h) rfl (fun w' hS => ?_) hHeld ?_
                    · clear hS; go_simp
                    try simp only [Act.put, List.setIfInBounds_toArray, List.set_cons_zero, List.set_cons_succ]
                    refine held_take 1 (some 99) (.pointer (some ⟨g, 0, none⟩)) rfl rfl (by kernel_rfl) (by kernel_rfl) (by kernel_rfl) (fun _ _ _ h => h) rfl (fun w' hS => ?_) hHeld ?_
                    · clear hS; go_simp
                    try simp only [Act.put, List.setIfInBounds_toArray, List.set_cons_zero, List.set_cons_succ]
                    refine held_take 2 (some 100) (.pointer (some ⟨g, 1, none⟩)) rfl rfl (by kernel_rfl) (by kernel_rfl) (by kernel_rfl) (fun _ _ _ h => h) rfl (fun w' hS => ?_) hHeld ?_
                    · clear hS; go_simp
                    try simp only [Act.put, List.setIfInBounds_toArray, List.set_cons_zero, List.set_cons_succ]
                    refine held_take 3 (some 101) (.slice (some ⟨b, 0, none⟩) nf cf) rfl rfl (by kernel_rfl) (by kernel_rfl) (by kernel_rfl) (fun _ _ _ h => h) rfl (fun w' hS => ?_) hHeld ?_
                    · obtain ⟨y0, y1⟩ := hS; go_simp
                    try simp only [Act.put, List.setIfInBounds_toArray, List.set_cons_zero, List.set_cons_succ]
                    refine held_take 4 (some 102) (.slice (some ⟨bl, off, none⟩) nl kl) rfl rfl (by kernel_rfl) (by kernel_rfl) (by kernel_rfl) (fun _ _ _ h => h) rfl (fun w' hS => ?_) hHeld ?_
                    · clear hS; go_simp
                    try simp only [Act.put, List.setIfInBounds_toArray, List.set_cons_zero, List.set_cons_succ]
                    refine held_take 5 (some 103) (.int .i64 (j : Nat)) rfl rfl (by kernel_rfl) (by kernel_rfl) (by kernel_rfl) (fun _ _ _ h => h) rfl (fun w' hS => ?_) hHeld ?_
                    · clear hS; go_simp
                    try simp only [Act.put, List.setIfInBounds_toArray, List.set_cons_zero, List.set_cons_succ]
                    refine held_take 6 (some 104) (.pointer (some ⟨bl, off + j * 2, none⟩)) rfl rfl (by kernel_rfl) (by kernel_rfl) (by kernel_rfl) (fun _ _ _ h => h) rfl (fun w' hS => ?_) hHeld ?_
                    · clear hS; go_simp
                    try simp only [Act.put, List.setIfInBounds_toArray, List.set_cons_zero, List.set_cons_succ]
                    refine held_take 7 (some 105) (.pointer (some ⟨bl, off + j * 2 + 1, none⟩)) rfl rfl (by kernel_rfl) (by kernel_rfl) (by kernel_rfl) (fun _ _ _ h => h) rfl (fun w' hS => ?_) hHeld ?_
                    · clear hS; go_simp
                    try simp only [Act.put, List.setIfInBounds_toArray, List.set_cons_zero, List.set_cons_succ]
                    refine held_take 8 (some 106) (.int .i64 (n : Nat)) rfl rfl (by kernel_rfl) (by kernel_rfl) (by kernel_rfl) (fun _ _ _ h => h) rfl (fun w' hS => ?_) hHeld ?_
                    · obtain ⟨y0, y1⟩ := hS; go_simp
                    try simp only [Act.put, List.setIfInBounds_toArray, List.set_cons_zero, List.set_cons_succ]
                    refine held_take 9 (some 107) (.string R) rfl rfl (by kernel_rfl) (by kernel_rfl) (by kernel_rfl) (fun _ _ _ h => h) rfl (fun w' hS => ?_) hHeld ?_
                    · clear hS; go_simp
                    try simp only [Act.put, List.setIfInBounds_toArray, List.set_cons_zero, List.set_cons_succ]
                    refine held_take 10 (some 108) (.string R) rfl rfl (by kernel_rfl) (by kernel_rfl) (by kernel_rfl) (fun _ _ _ h => h) rfl (fun w' hS => ?_) hHeld ?_
                    · clear hS; go_simp
                    try simp only [Act.put, List.setIfInBounds_toArray, List.set_cons_zero, List.set_cons_succ]
                    refine held_take 11 (some 109) (.int .i64 (R.size : Nat)) rfl rfl (by kernel_rfl) (by kernel_rfl) (by kernel_rfl) (fun _ _ _ h => h) rfl (fun w' hS => ?_) hHeld ?_
                    · clear hS; go_simp
                    try simp only [Act.put, List.setIfInBounds_toArray, List.set_cons_zero, List.set_cons_succ]
                    refine held_take 12 (some 110) (.agg #[.string R, .int .i64 (R.size : Nat)]) rfl rfl (by kernel_rfl) (by kernel_rfl) (by kernel_rfl) (fun _ _ _ h => h) rfl (fun w' hS => ?_) hHeld ?_
                    · clear hS; go_simp
                    try simp only [Act.put, List.setIfInBounds_toArray, List.set_cons_zero, List.set_cons_succ]
                    refine held_take 13 (some 111) (.pointer (some ⟨b, n * 2, none⟩)) rfl rfl (by kernel_rfl) (by kernel_rfl) (by kernel_rfl) (fun _ _ _ h => h) rfl (fun w' hS => ?_) hHeld ?_
                    · clear hS; go_simp
                    try simp only [Act.put, List.setIfInBounds_toArray, List.set_cons_zero, List.set_cons_succ]
                    have v3 := HD3.out
                    have v4 := HD4.out
                    have v5 := HFZ.out
                    refine held_one (i := 14) (by kernel_rfl) rfl rfl (fun K hK => ?_)
                    go_simp
                    have eg : ∀ q, q ≠ b → ((wd.setCell ⟨b, n * 2, none⟩ (.string R)).setCell ⟨b, n * 2 + 1, none⟩ (.int .i64 (R.size : Nat))).heap[q]? = wd.heap[q]? := fun q hq => (Below.heap_setCell (wd.setCell ⟨b, n * 2, none⟩ (.string R)) ⟨b, n * 2 + 1, none⟩ _ q hq).trans (Below.heap_setCell wd ⟨b, n * 2, none⟩ _ q hq)
                    have HS7 : ((wd.setCell ⟨b, n * 2, none⟩ (.string R)).setCell ⟨b, n * 2 + 1, none⟩ (.int .i64 (R.size : Nat))).cell? ⟨g, 1, none⟩ = some (.slice (some ⟨b, 0, none⟩) nf cf) ∧ ((wd.setCell ⟨b, n * 2, none⟩ (.string R)).setCell ⟨b, n * 2 + 1, none⟩ (.int .i64 (R.size : Nat))).cell? ⟨bl, off + j * 2 + 1, none⟩ = some (.int .i64 (n : Nat)) := ⟨(World.cell?_of_block (w := wd) (w' := (wd.setCell ⟨b, n * 2, none⟩ (.string R)).setCell ⟨b, n * 2 + 1, none⟩ (.int .i64 (R.size : Nat))) (a := ⟨g, 1, none⟩) (eg g hgb)).trans hHeld.1, (World.cell?_of_block (w := wd) (w' := (wd.setCell ⟨b, n * 2, none⟩ (.string R)).setCell ⟨b, n * 2 + 1, none⟩ (.int .i64 (R.size : Nat))) (a := ⟨bl, off + j * 2 + 1, none⟩) (eg bl HNB.out)).trans hHeld.2⟩
                    refine hK.out _ _ HS7 ?_
                    have HRF : Hid (CabRaw ((wd.setCell ⟨b, n * 2, none⟩ (.string R)).setCell ⟨b, n * 2 + 1, none⟩ (.int .i64 (R.size : Nat))) g O (midC c L keep t (j + 1)) (.slice (some ⟨b, 0, none⟩) nf cf) (.slice an nn cn) (.slice az ns cs) (.slice aw nw cw)) := by
                      have hq := HRX.out.refile2 b n HVF.out HNM.out (R, R.size)
                      have e : midC c L keep t (j + 1) = ({ midC c L keep t j with files := (midC c L keep t j).files.set n (R, R.size) } : CabM) := by
                        show ({ c with files := crashF (L.take (j + 1)) keep t c.files } : CabM) = _
                        rw [HE.out]
                        unfold cutF
                        rw [HR.out]
                        rfl
                      unfold Hid
                      rw [e]
                      exact hq
                    have HOF : Hid (OwnE ((wd.setCell ⟨b, n * 2, none⟩ (.string R)).setCell ⟨b, n * 2 + 1, none⟩ (.int .i64 (R.size : Nat))) (.slice (some ⟨bl, off, none⟩) nl kl) L) := owns_keep HOX.out (fun q hq => eg q (fun e => HNB.out (by cases hq; exact e)))
                    have HAF0 : Apart O wd ((wd.setCell ⟨b, n * 2, none⟩ (.string R)).setCell ⟨b, n * 2 + 1, none⟩ (.int .i64 (R.size : Nat))) := ((Apart.refl O wd).set hOb _ _).set hOb _ _
                    have HKF : Hid (RowZ ((wd.setCell ⟨b, n * 2, none⟩ (.string R)).setCell ⟨b, n * 2 + 1, none⟩ (.int .i64 (R.size : Nat))) (some ⟨bk, ok, none⟩) nk keep) := HKX.out.apart HAF0 HD.out
                    have HAF : Hid (Apart O w ((wd.setCell ⟨b, n * 2, none⟩ (.string R)).setCell ⟨b, n * 2 + 1, none⟩ (.int .i64 (R.size : Nat)))) := HAX.out.same HAF0
                    clear hK K HS7 hHeld v3 v4 v5 HD3 HD4 HFZ eg HAF0 HRX HOX HKX HAX
                    try simp only [Act.put, List.setIfInBounds_toArray, List.set_cons_zero, List.set_cons_succ]
                    refine wpAnyH_done (by kernel_rfl) ?_ _
                    generalize (wd.setCell ⟨b, n * 2, none⟩ (.string R)).setCell ⟨b, n * 2 + 1, none⟩ (.int .i64 (R.size : Nat)) = wS at *
                    go_wp2_with fail
                    go_roundw
                    case rel => exact ⟨_, j + 1, rfl, by go_num, by omega, HRF.out, HOF.out, HKF.out, HAF.out⟩
                    case measure => simp [intOf]; omega
            · have hjki : ¬ (j : Int) < (nk : Int) := by omega
              have HKV : Hid (keepC (keep.drop j) (T.size - s) = 0) := keep_none keep j _ (by rw [HKX.out.1]; exact hjk2)
              have hEl : s ≤ T.size := hT1
              have HCUT : Hid (cutC (T, s) (keep.drop j) t = if t ≠ 0 ∧ s < T.size then T.extract 0 s ++ ⟨#[T.data.getD s 0 ^^^ t]⟩ else T.extract 0 s) := by unfold Hid cutC; dsimp only; rw [HKV.out, Nat.add_zero]
              have hsl := fun W => str_upto T s .i64 hEl W
              clear  HKV
              by_cases ht0 : tn = 0
              · have HR : Hid (cutC (T, s) (keep.drop j) t = T.extract 0 s) := by
                  unfold Hid
                  rw [HCUT.out, if_neg (fun h => h.1 (UInt8.toNat_inj.1 (by rw [← HTN.out, ht0]; rfl)))]
                have htb0 : ((tn : Int) != 0) = false := by rw [ht0]; rfl
                clear ht0 HCUT
                have hRs : (T.extract 0 s).size ≤ 1048577 := by rw [ByteArray.size_extract]; omega
                generalize T.extract 0 s = R at *
                have hOb : O b := HRX.out.parts.2.2.2.2.2.1 b HVF.out
                have HNB : Hid (bl ≠ b) := fun e => owns_ne HOX.out HRX.out.parts.1 (by decide) (b := bl) rfl (by rw [e]; rfl)
                have HRX : Hid (CabRaw wx.drew g O (midC c L keep t j) (.slice (some ⟨b, 0, none⟩) nf cf) (.slice an nn cn) (.slice az ns cs) (.slice aw nw cw)) := HRX.out.below (Below.refl _ _).drew
                have HOX : Hid (OwnE wx.drew (.slice (some ⟨bl, off, none⟩) nl kl) L) := owns_keep HOX.out (fun _ _ => rfl)
                have HKX : Hid (RowZ wx.drew ak nk keep) := HKX.out.below (Below.refl _ _).drew
                have HAX : Hid (Apart O w wx.drew) := HAX.out.same (apart_of (Below.refl _ _).drew O)
                have d1 := HRX.out.cells.2.1
                have d2 := (HZ.out _ HOX.out).1
                obtain ⟨bq, hbq, -, -, d3, d4, hfz⟩ := OwnF.at1 HRX.out.parts.1 n HNM.out
                cases hbq
                have HD3 : Hid _ := d3
                have HD4 : Hid _ := d4
                have HFZ : Hid _ := hfz
                clear d3 d4 hfz
                go_wp2_with fail
                refine wp_region_held_drew (S := fun w' => w'.cell? ⟨g, 1, none⟩ = some (.slice (some ⟨b, 0, none⟩) nf cf) ∧ w'.cell? ⟨bl, off + j * 2 + 1, none⟩ = some (.int .i64 (n : Nat))) (by kernel_rfl) (⟨d1, d2⟩) (fun hHeld => ?_)
                clear d1 d2
                generalize wx.drew = wd at *
                refine held_take 0 (some 98) (.pointer (some ⟨g, 0, none⟩)) rfl rfl (by kernel_rfl) (by kernel_rfl) (by kernel_rfl) (fun _ _ _ h => h) rfl (fun w' hS => ?_) hHeld ?_
                · clear hS; go_simp
                try simp only [Act.put, List.setIfInBounds_toArray, List.set_cons_zero, List.set_cons_succ]
                refine held_take 1 (some 99) (.pointer (some ⟨g, 0, none⟩)) rfl rfl (by kernel_rfl) (by kernel_rfl) (by kernel_rfl) (fun _ _ _ h => h) rfl (fun w' hS => ?_) hHeld ?_
                · clear hS; go_simp
                try simp only [Act.put, List.setIfInBounds_toArray, List.set_cons_zero, List.set_cons_succ]
                refine held_take 2 (some 100) (.pointer (some ⟨g, 1, none⟩)) rfl rfl (by kernel_rfl) (by kernel_rfl) (by kernel_rfl) (fun _ _ _ h => h) rfl (fun w' hS => ?_) hHeld ?_
                · clear hS; go_simp
                try simp only [Act.put, List.setIfInBounds_toArray, List.set_cons_zero, List.set_cons_succ]
                refine held_take 3 (some 101) (.slice (some ⟨b, 0, none⟩) nf cf) rfl rfl (by kernel_rfl) (by kernel_rfl) (by kernel_rfl) (fun _ _ _ h => h) rfl (fun w' hS => ?_) hHeld ?_
                · obtain ⟨y0, y1⟩ := hS; go_simp
                try simp only [Act.put, List.setIfInBounds_toArray, List.set_cons_zero, List.set_cons_succ]
                refine held_take 4 (some 102) (.slice (some ⟨bl, off, none⟩) nl kl) rfl rfl (by kernel_rfl) (by kernel_rfl) (by kernel_rfl) (fun _ _ _ h => h) rfl (fun w' hS => ?_) hHeld ?_
                · clear hS; go_simp
                try simp only [Act.put, List.setIfInBounds_toArray, List.set_cons_zero, List.set_cons_succ]
                refine held_take 5 (some 103) (.int .i64 (j : Nat)) rfl rfl (by kernel_rfl) (by kernel_rfl) (by kernel_rfl) (fun _ _ _ h => h) rfl (fun w' hS => ?_) hHeld ?_
                · clear hS; go_simp
                try simp only [Act.put, List.setIfInBounds_toArray, List.set_cons_zero, List.set_cons_succ]
                refine held_take 6 (some 104) (.pointer (some ⟨bl, off + j * 2, none⟩)) rfl rfl (by kernel_rfl) (by kernel_rfl) (by kernel_rfl) (fun _ _ _ h => h) rfl (fun w' hS => ?_) hHeld ?_
                · clear hS; go_simp
                try simp only [Act.put, List.setIfInBounds_toArray, List.set_cons_zero, List.set_cons_succ]
                refine held_take 7 (some 105) (.pointer (some ⟨bl, off + j * 2 + 1, none⟩)) rfl rfl (by kernel_rfl) (by kernel_rfl) (by kernel_rfl) (fun _ _ _ h => h) rfl (fun w' hS => ?_) hHeld ?_
                · clear hS; go_simp
                try simp only [Act.put, List.setIfInBounds_toArray, List.set_cons_zero, List.set_cons_succ]
                refine held_take 8 (some 106) (.int .i64 (n : Nat)) rfl rfl (by kernel_rfl) (by kernel_rfl) (by kernel_rfl) (fun _ _ _ h => h) rfl (fun w' hS => ?_) hHeld ?_
                · obtain ⟨y0, y1⟩ := hS; go_simp
                try simp only [Act.put, List.setIfInBounds_toArray, List.set_cons_zero, List.set_cons_succ]
                refine held_take 9 (some 107) (.string R) rfl rfl (by kernel_rfl) (by kernel_rfl) (by kernel_rfl) (fun _ _ _ h => h) rfl (fun w' hS => ?_) hHeld ?_
                · clear hS; go_simp
                try simp only [Act.put, List.setIfInBounds_toArray, List.set_cons_zero, List.set_cons_succ]
                refine held_take 10 (some 108) (.string R) rfl rfl (by kernel_rfl) (by kernel_rfl) (by kernel_rfl) (fun _ _ _ h => h) rfl (fun w' hS => ?_) hHeld ?_
                · clear hS; go_simp
                try simp only [Act.put, List.setIfInBounds_toArray, List.set_cons_zero, List.set_cons_succ]
                refine held_take 11 (some 109) (.int .i64 (R.size : Nat)) rfl rfl (by kernel_rfl) (by kernel_rfl) (by kernel_rfl) (fun _ _ _ h => h) rfl (fun w' hS => ?_) hHeld ?_
                · clear hS; go_simp
                try simp only [Act.put, List.setIfInBounds_toArray, List.set_cons_zero, List.set_cons_succ]
                refine held_take 12 (some 110) (.agg #[.string R, .int .i64 (R.size : Nat)]) rfl rfl (by kernel_rfl) (by kernel_rfl) (by kernel_rfl) (fun _ _ _ h => h) rfl (fun w' hS => ?_) hHeld ?_
                · clear hS; go_simp
                try simp only [Act.put, List.setIfInBounds_toArray, List.set_cons_zero, List.set_cons_succ]
                refine held_take 13 (some 111) (.pointer (some ⟨b, n * 2, none⟩)) rfl rfl (by kernel_rfl) (by kernel_rfl) (by kernel_rfl) (fun _ _ _ h => h) rfl (fun w' hS => ?_) hHeld ?_
                · clear hS; go_simp
                try simp only [Act.put, List.setIfInBounds_toArray, List.set_cons_zero, List.set_cons_succ]
                have v3 := HD3.out
                have v4 := HD4.out
                have v5 := HFZ.out
                refine held_one (i := 14) (by kernel_rfl) rfl rfl (fun K hK => ?_)
                go_simp
                have eg : ∀ q, q ≠ b → ((wd.setCell ⟨b, n * 2, none⟩ (.string R)).setCell ⟨b, n * 2 + 1, none⟩ (.int .i64 (R.size : Nat))).heap[q]? = wd.heap[q]? := fun q hq => (Below.heap_setCell (wd.setCell ⟨b, n * 2, none⟩ (.string R)) ⟨b, n * 2 + 1, none⟩ _ q hq).trans (Below.heap_setCell wd ⟨b, n * 2, none⟩ _ q hq)
                have HS7 : ((wd.setCell ⟨b, n * 2, none⟩ (.string R)).setCell ⟨b, n * 2 + 1, none⟩ (.int .i64 (R.size : Nat))).cell? ⟨g, 1, none⟩ = some (.slice (some ⟨b, 0, none⟩) nf cf) ∧ ((wd.setCell ⟨b, n * 2, none⟩ (.string R)).setCell ⟨b, n * 2 + 1, none⟩ (.int .i64 (R.size : Nat))).cell? ⟨bl, off + j * 2 + 1, none⟩ = some (.int .i64 (n : Nat)) := ⟨(World.cell?_of_block (w := wd) (w' := (wd.setCell ⟨b, n * 2, none⟩ (.string R)).setCell ⟨b, n * 2 + 1, none⟩ (.int .i64 (R.size : Nat))) (a := ⟨g, 1, none⟩) (eg g hgb)).trans hHeld.1, (World.cell?_of_block (w := wd) (w' := (wd.setCell ⟨b, n * 2, none⟩ (.string R)).setCell ⟨b, n * 2 + 1, none⟩ (.int .i64 (R.size : Nat))) (a := ⟨bl, off + j * 2 + 1, none⟩) (eg bl HNB.out)).trans hHeld.2⟩
                refine hK.out _ _ HS7 ?_
                have HRF : Hid (CabRaw ((wd.setCell ⟨b, n * 2, none⟩ (.string R)).setCell ⟨b, n * 2 + 1, none⟩ (.int .i64 (R.size : Nat))) g O (midC c L keep t (j + 1)) (.slice (some ⟨b, 0, none⟩) nf cf) (.slice an nn cn) (.slice az ns cs) (.slice aw nw cw)) := by
                  have hq := HRX.out.refile2 b n HVF.out HNM.out (R, R.size)
                  have e : midC c L keep t (j + 1) = ({ midC c L keep t j with files := (midC c L keep t j).files.set n (R, R.size) } : CabM) := by
                    show ({ c with files := crashF (L.take (j + 1)) keep t c.files } : CabM) = _
                    rw [HE.out]
                    unfold cutF
                    rw [HR.out]
                    rfl
                  unfold Hid
                  rw [e]
                  exact hq
                have HOF : Hid (OwnE ((wd.setCell ⟨b, n * 2, none⟩ (.string R)).setCell ⟨b, n * 2 + 1, none⟩ (.int .i64 (R.size : Nat))) (.slice (some ⟨bl, off, none⟩) nl kl) L) := owns_keep HOX.out (fun q hq => eg q (fun e => HNB.out (by cases hq; exact e)))
                have HAF0 : Apart O wd ((wd.setCell ⟨b, n * 2, none⟩ (.string R)).setCell ⟨b, n * 2 + 1, none⟩ (.int .i64 (R.size : Nat))) := ((Apart.refl O wd).set hOb _ _).set hOb _ _
                have HKF : Hid (RowZ ((wd.setCell ⟨b, n * 2, none⟩ (.string R)).setCell ⟨b, n * 2 + 1, none⟩ (.int .i64 (R.size : Nat))) ak nk keep) := HKX.out.apart HAF0 HD.out
                have HAF : Hid (Apart O w ((wd.setCell ⟨b, n * 2, none⟩ (.string R)).setCell ⟨b, n * 2 + 1, none⟩ (.int .i64 (R.size : Nat)))) := HAX.out.same HAF0
                clear hK K HS7 hHeld v3 v4 v5 HD3 HD4 HFZ eg HAF0 HRX HOX HKX HAX
                try simp only [Act.put, List.setIfInBounds_toArray, List.set_cons_zero, List.set_cons_succ]
                refine wpAnyH_done (by kernel_rfl) ?_ _
                generalize (wd.setCell ⟨b, n * 2, none⟩ (.string R)).setCell ⟨b, n * 2 + 1, none⟩ (.int .i64 (R.size : Nat)) = wS at *
                go_wp2_with fail
                go_roundw
                case rel => exact ⟨_, j + 1, rfl, by go_num, by omega, HRF.out, HOF.out, HKF.out, HAF.out⟩
                case measure => simp [intOf]; omega
              · have htb0 : ((tn : Int) != 0) = true := by rw [bne_iff_ne]; omega
                by_cases hE2 : s < T.size
                · have hE2i : (s : Int) < (T.size : Int) := by omega
                  have HR0 : Hid (cutC (T, s) (keep.drop j) t = T.extract 0 s ++ strN [(T[s]'hE2).toNat ^^^ tn]) := by
                    unfold Hid
                    rw [HCUT.out, if_pos ⟨fun h => ht0 (by rw [HTN.out, h]; rfl), hE2⟩, HTN.out, turned_byte]
                  have hRs0 : (T.extract 0 s).size ≤ 1048577 := by rw [ByteArray.size_extract]; omega
                  clear HCUT ht0
                  obtain ⟨x, hx⟩ : ∃ x, x = (T[s]'hE2).toNat := ⟨_, rfl⟩
                  have hxb : x < 256 := by rw [hx]; exact (T[s]'hE2).toNat_lt
                  rw [← hx] at HR0
                  have hxs : ((T[s]'hE2).toNat : Int) = (x : Int) := by rw [hx]
                  have hxor := u8_xor_nat x tn hxb htb
                  clear hx
                  generalize x ^^^ tn = y at *
                  have hrow : RowL .u8 (wx.alloc (.cells #[.int .u8 (y : Nat)] 5)) (some ⟨wx.heap.size, 0, none⟩) 1 [y] := (Blk.new wx 5 .u8 [y]).row
                  have hcv := conv_row hrow 1
                  have hadd : ∀ W, (Op.stringOp .add (T.extract 0 s) (strN [y])).run Try.prog W = .ok (.string (T.extract 0 s ++ strN [y])) W := fun W => run_string_add_sum W _ _ (by rw [strN_size]; show _ + 1 ≤ _; omega)
                  have hRs : (T.extract 0 s ++ strN [y]).size ≤ 1048578 := by rw [ByteArray.size_append, strN_size]; show _ + 1 ≤ _; omega
                  clear hrow
                  have HB9 : Hid (Below wx.heap.size wx (wx.alloc (.cells #[.int .u8 (y : Nat)] 5))) := below_new wx _
                  have HRX : Hid (CabRaw (wx.alloc (.cells #[.int .u8 (y : Nat)] 5)) g O (midC c L keep t j) (.slice (some ⟨b, 0, none⟩) nf cf) (.slice an nn cn) (.slice az ns cs) (.slice aw nw cw)) := HRX.out.below HB9.out
                  have HOX : Hid (OwnE (wx.alloc (.cells #[.int .u8 (y : Nat)] 5)) (.slice (some ⟨bl, off, none⟩) nl kl) L) := OwnN.below HOX.out HB9.out
                  have HKX : Hid (RowZ (wx.alloc (.cells #[.int .u8 (y : Nat)] 5)) ak nk keep) := HKX.out.below HB9.out
                  have HAX : Hid (Apart O w (wx.alloc (.cells #[.int .u8 (y : Nat)] 5))) := HAX.out.same (apart_of HB9.out O)
                  have HR : Hid (cutC (T, s) (keep.drop j) t = T.extract 0 s ++ strN [y]) := HR0.out
                  clear HR0 HB9
                  generalize T.extract 0 s ++ strN [y] = R at *
                  generalize T.extract 0 s = R0 at *
                  generalize strN [y] = R1 at *
                  have hOb : O b := HRX.out.parts.2.2.2.2.2.1 b HVF.out
                  have HNB : Hid (bl ≠ b) := fun e => owns_ne HOX.out HRX.out.parts.1 (by decide) (b := bl) rfl (by rw [e]; rfl)
                  have HRX : Hid (CabRaw (wx.alloc (.cells #[.int .u8 (y : Nat)] 5)).drew g O (midC c L keep t j) (.slice (some ⟨b, 0, none⟩) nf cf) (.slice an nn cn) (.slice az ns cs) (.slice aw nw cw)) := HRX.out.below (Below.refl _ _).drew
                  have HOX : Hid (OwnE (wx.alloc (.cells #[.int .u8 (y : Nat)] 5)).drew (.slice (some ⟨bl, off, none⟩) nl kl) L) := owns_keep HOX.out (fun _ _ => rfl)
                  have HKX : Hid (RowZ (wx.alloc (.cells #[.int .u8 (y : Nat)] 5)).drew ak nk keep) := HKX.out.below (Below.refl _ _).drew
                  have HAX : Hid (Apart O w (wx.alloc (.cells #[.int .u8 (y : Nat)] 5)).drew) := HAX.out.same (apart_of (Below.refl _ _).drew O)
                  have d1 := HRX.out.cells.2.1
                  have d2 := (HZ.out _ HOX.out).1
                  obtain ⟨bq, hbq, -, -, d3, d4, hfz⟩ := OwnF.at1 HRX.out.parts.1 n HNM.out
                  cases hbq
                  have HD3 : Hid _ := d3
                  have HD4 : Hid _ := d4
                  have HFZ : Hid _ := hfz
                  clear d3 d4 hfz
                  go_wp2_with fail
                  refine wp_region_held_drew (S := fun w' => w'.cell? ⟨g, 1, none⟩ = some (.slice (some ⟨b, 0, none⟩) nf cf) ∧ w'.cell? ⟨bl, off + j * 2 + 1, none⟩ = some (.int .i64 (n : Nat))) (by kernel_rfl) (⟨d1, d2⟩) (fun hHeld => ?_)
                  clear d1 d2
                  generalize (wx.alloc (.cells #[.int .u8 (y : Nat)] 5)).drew = wd at *
                  refine held_take 0 (some 98) (.pointer (some ⟨g, 0, none⟩)) rfl rfl (by kernel_rfl) (by kernel_rfl) (by kernel_rfl) (fun _ _ _ h => h) rfl (fun w' hS => ?_) hHeld ?_
                  · clear hS; go_simp
                  try simp only [Act.put, List.setIfInBounds_toArray, List.set_cons_zero, List.set_cons_succ]
                  refine held_take 1 (some 99) (.pointer (some ⟨g, 0, none⟩)) rfl rfl (by kernel_rfl) (by kernel_rfl) (by kernel_rfl) (fun _ _ _ h => h) rfl (fun w' hS => ?_) hHeld ?_
                  · clear hS; go_simp
                  try simp only [Act.put, List.setIfInBounds_toArray, List.set_cons_zero, List.set_cons_succ]
                  refine held_take 2 (some 100) (.pointer (some ⟨g, 1, none⟩)) rfl rfl (by kernel_rfl) (by kernel_rfl) (by kernel_rfl) (fun _ _ _ h => h) rfl (fun w' hS => ?_) hHeld ?_
                  · clear hS; go_simp
                  try simp only [Act.put, List.setIfInBounds_toArray, List.set_cons_zero, List.set_cons_succ]
                  refine held_take 3 (some 101) (.slice (some ⟨b, 0, none⟩) nf cf) rfl rfl (by kernel_rfl) (by kernel_rfl) (by kernel_rfl) (fun _ _ _ h => h) rfl (fun w' hS => ?_) hHeld ?_
                  · obtain ⟨y0, y1⟩ := hS; go_simp
                  try simp only [Act.put, List.setIfInBounds_toArray, List.set_cons_zero, List.set_cons_succ]
                  refine held_take 4 (some 102) (.slice (some ⟨bl, off, none⟩) nl kl) rfl rfl (by kernel_rfl) (by kernel_rfl) (by kernel_rfl) (fun _ _ _ h => h) rfl (fun w' hS => ?_) hHeld ?_
                  · clear hS; go_simp
                  try simp only [Act.put, List.setIfInBounds_toArray, List.set_cons_zero, List.set_cons_succ]
                  refine held_take 5 (some 103) (.int .i64 (j : Nat)) rfl rfl (by kernel_rfl) (by kernel_rfl) (by kernel_rfl) (fun _ _ _ h => h) rfl (fun w' hS => ?_) hHeld ?_
                  · clear hS; go_simp
                  try simp only [Act.put, List.setIfInBounds_toArray, List.set_cons_zero, List.set_cons_succ]
                  refine held_take 6 (some 104) (.pointer (some ⟨bl, off + j * 2, none⟩)) rfl rfl (by kernel_rfl) (by kernel_rfl) (by kernel_rfl) (fun _ _ _ h => h) rfl (fun w' hS => ?_) hHeld ?_
                  · clear hS; go_simp
                  try simp only [Act.put, List.setIfInBounds_toArray, List.set_cons_zero, List.set_cons_succ]
                  refine held_take 7 (some 105) (.pointer (some ⟨bl, off + j * 2 + 1, none⟩)) rfl rfl (by kernel_rfl) (by kernel_rfl) (by kernel_rfl) (fun _ _ _ h => h) rfl (fun w' hS => ?_) hHeld ?_
                  · clear hS; go_simp
                  try simp only [Act.put, List.setIfInBounds_toArray, List.set_cons_zero, List.set_cons_succ]
                  refine held_take 8 (some 106) (.int .i64 (n : Nat)) rfl rfl (by kernel_rfl) (by kernel_rfl) (by kernel_rfl) (fun _ _ _ h => h) rfl (fun w' hS => ?_) hHeld ?_
                  · obtain ⟨y0, y1⟩ := hS; go_simp
                  try simp only [Act.put, List.setIfInBounds_toArray, List.set_cons_zero, List.set_cons_succ]
                  refine held_take 9 (some 107) (.string R) rfl rfl (by kernel_rfl) (by kernel_rfl) (by kernel_rfl) (fun _ _ _ h => h) rfl (fun w' hS => ?_) hHeld ?_
                  · clear hS; go_simp
                  try simp only [Act.put, List.setIfInBounds_toArray, List.set_cons_zero, List.set_cons_succ]
                  refine held_take 10 (some 108) (.string R) rfl rfl (by kernel_rfl) (by kernel_rfl) (by kernel_rfl) (fun _ _ _ h => h) rfl (fun w' hS => ?_) hHeld ?_
                  · clear hS; go_simp
                  try simp only [Act.put, List.setIfInBounds_toArray, List.set_cons_zero, List.set_cons_succ]
                  refine held_take 11 (some 109) (.int .i64 (R.size : Nat)) rfl rfl (by kernel_rfl) (by kernel_rfl) (by kernel_rfl) (fun _ _ _ h => h) rfl (fun w' hS => ?_) hHeld ?_
                  · clear hS; go_simp
                  try simp only [Act.put, List.setIfInBounds_toArray, List.set_cons_zero, List.set_cons_succ]
                  refine held_take 12 (some 110) (.agg #[.string R, .int .i64 (R.size : Nat)]) rfl rfl (by kernel_rfl) (by kernel_rfl) (by kernel_rfl) (fun _ _ _ h => h) rfl (fun w' hS => ?_) hHeld ?_
                  · clear hS; go_simp
                  try simp only [Act.put, List.setIfInBounds_toArray, List.set_cons_zero, List.set_cons_succ]
                  refine held_take 13 (some 111) (.pointer (some ⟨b, n * 2, none⟩)) rfl rfl (by kernel_rfl) (by kernel_rfl) (by kernel_rfl) (fun _ _ _ h => h) rfl (fun w' hS => ?_) hHeld ?_
                  · clear hS; go_simp
                  try simp only [Act.put, List.setIfInBounds_toArray, List.set_cons_zero, List.set_cons_succ]
                  have v3 := HD3.out
                  have v4 := HD4.out
                  have v5 := HFZ.out
                  refine held_one (i := 14) (by kernel_rfl) rfl rfl (fun K hK => ?_)
                  go_simp
                  have eg : ∀ q, q ≠ b → ((wd.setCell ⟨b, n * 2, none⟩ (.string R)).setCell ⟨b, n * 2 + 1, none⟩ (.int .i64 (R.size : Nat))).heap[q]? = wd.heap[q]? := fun q hq => (Below.heap_setCell (wd.setCell ⟨b, n * 2, none⟩ (.string R)) ⟨b, n * 2 + 1, none⟩ _ q hq).trans (Below.heap_setCell wd ⟨b, n * 2, none⟩ _ q hq)
                  have HS7 : ((wd.setCell ⟨b, n * 2, none⟩ (.string R)).setCell ⟨b, n * 2 + 1, none⟩ (.int .i64 (R.size : Nat))).cell? ⟨g, 1, none⟩ = some (.slice (some ⟨b, 0, none⟩) nf cf) ∧ ((wd.setCell ⟨b, n * 2, none⟩ (.string R)).setCell ⟨b, n * 2 + 1, none⟩ (.int .i64 (R.size : Nat))).cell? ⟨bl, off + j * 2 + 1, none⟩ = some (.int .i64 (n : Nat)) := ⟨(World.cell?_of_block (w := wd) (w' := (wd.setCell ⟨b, n * 2, none⟩ (.string R)).setCell ⟨b, n * 2 + 1, none⟩ (.int .i64 (R.size : Nat))) (a := ⟨g, 1, none⟩) (eg g hgb)).trans hHeld.1, (World.cell?_of_block (w := wd) (w' := (wd.setCell ⟨b, n * 2, none⟩ (.string R)).setCell ⟨b, n * 2 + 1, none⟩ (.int .i64 (R.size : Nat))) (a := ⟨bl, off + j * 2 + 1, none⟩) (eg bl HNB.out)).trans hHeld.2⟩
                  refine hK.out _ _ HS7 ?_
                  have HRF : Hid (CabRaw ((wd.setCell ⟨b, n * 2, none⟩ (.string R)).setCell ⟨b, n * 2 + 1, none⟩ (.int .i64 (R.size : Nat))) g O (midC c L keep t (j + 1)) (.slice (some ⟨b, 0, none⟩) nf cf) (.slice an nn cn) (.slice az ns cs) (.slice aw nw cw)) := by
                    have hq := HRX.out.refile2 b n HVF.out HNM.out (R, R.size)
                    have e : midC c L keep t (j + 1) = ({ midC c L keep t j with files := (midC c L keep t j).files.set n (R, R.size) } : CabM) := by
                      show ({ c with files := crashF (L.take (j + 1)) keep t c.files } : CabM) = _
                      rw [HE.out]
                      unfold cutF
                      rw [HR.out]
                      rfl
                    unfold Hid
                    rw [e]
                    exact hq
                  have HOF : Hid (OwnE ((wd.setCell ⟨b, n * 2, none⟩ (.string R)).setCell ⟨b, n * 2 + 1, none⟩ (.int .i64 (R.size : Nat))) (.slice (some ⟨bl, off, none⟩) nl kl) L) := owns_keep HOX.out (fun q hq => eg q (fun e => HNB.out (by cases hq; exact e)))
                  have HAF0 : Apart O wd ((wd.setCell ⟨b, n * 2, none⟩ (.string R)).setCell ⟨b, n * 2 + 1, none⟩ (.int .i64 (R.size : Nat))) := ((Apart.refl O wd).set hOb _ _).set hOb _ _
                  have HKF : Hid (RowZ ((wd.setCell ⟨b, n * 2, none⟩ (.string R)).setCell ⟨b, n * 2 + 1, none⟩ (.int .i64 (R.size : Nat))) ak nk keep) := HKX.out.apart HAF0 HD.out
                  have HAF : Hid (Apart O w ((wd.setCell ⟨b, n * 2, none⟩ (.string R)).setCell ⟨b, n * 2 + 1, none⟩ (.int .i64 (R.size : Nat)))) := HAX.out.same HAF0
                  clear hK K HS7 hHeld v3 v4 v5 HD3 HD4 HFZ eg HAF0 HRX HOX HKX HAX
                  try simp only [Act.put, List.setIfInBounds_toArray, List.set_cons_zero, List.set_cons_succ]
                  refine wpAnyH_done (by kernel_rfl) ?_ _
                  generalize (wd.setCell ⟨b, n * 2, none⟩ (.string R)).setCell ⟨b, n * 2 + 1, none⟩ (.int .i64 (R.size : Nat)) = wS at *
                  go_wp2_with fail
                  go_roundw
                  case rel => exact ⟨_, j + 1, rfl, by go_num, by omega, HRF.out, HOF.out, HKF.out, HAF.out⟩
                  case measure => simp [intOf]; omega
                · have hE2i : ¬ (s : Int) < (T.size : Int) := by omega
                  have HR : Hid (cutC (T, s) (keep.drop j) t = T.extract 0 s) := by
                    unfold Hid
                    rw [HCUT.out, if_neg (fun h => hE2 h.2)]
                  clear ht0 HCUT hE2
                  have hRs : (T.extract 0 s).size ≤ 1048577 := by rw [ByteArray.size_extract]; omega
                  generalize T.extract 0 s = R at *
                  have hOb : O b := HRX.out.parts.2.2.2.2.2.1 b HVF.out
                  have HNB : Hid (bl ≠ b) := fun e => owns_ne HOX.out HRX.out.parts.1 (by decide) (b := bl) rfl (by rw [e]; rfl)
                  have HRX : Hid (CabRaw wx.drew g O (midC c L keep t j) (.slice (some ⟨b, 0, none⟩) nf cf) (.slice an nn cn) (.slice az ns cs) (.slice aw nw cw)) := HRX.out.below (Below.refl _ _).drew
                  have HOX : Hid (OwnE wx.drew (.slice (some ⟨bl, off, none⟩) nl kl) L) := owns_keep HOX.out (fun _ _ => rfl)
                  have HKX : Hid (RowZ wx.drew ak nk keep) := HKX.out.below (Below.refl _ _).drew
                  have HAX : Hid (Apart O w wx.drew) := HAX.out.same (apart_of (Below.refl _ _).drew O)
                  have d1 := HRX.out.cells.2.1
                  have d2 := (HZ.out _ HOX.out).1
                  obtain ⟨bq, hbq, -, -, d3, d4, hfz⟩ := OwnF.at1 HRX.out.parts.1 n HNM.out
                  cases hbq
                  have HD3 : Hid _ := d3
                  have HD4 : Hid _ := d4
                  have HFZ : Hid _ := hfz
                  clear d3 d4 hfz
                  go_wp2_with fail
                  refine wp_region_held_drew (S := fun w' => w'.cell? ⟨g, 1, none⟩ = some (.slice (some ⟨b, 0, none⟩) nf cf) ∧ w'.cell? ⟨bl, off + j * 2 + 1, none⟩ = some (.int .i64 (n : Nat))) (by kernel_rfl) (⟨d1, d2⟩) (fun hHeld => ?_)
                  clear d1 d2
                  generalize wx.drew = wd at *
                  refine held_take 0 (some 98) (.pointer (some ⟨g, 0, none⟩)) rfl rfl (by kernel_rfl) (by kernel_rfl) (by kernel_rfl) (fun _ _ _ h => h) rfl (fun w' hS => ?_) hHeld ?_
                  · clear hS; go_simp
                  try simp only [Act.put, List.setIfInBounds_toArray, List.set_cons_zero, List.set_cons_succ]
                  refine held_take 1 (some 99) (.pointer (some ⟨g, 0, none⟩)) rfl rfl (by kernel_rfl) (by kernel_rfl) (by kernel_rfl) (fun _ _ _ h => h) rfl (fun w' hS => ?_) hHeld ?_
                  · clear hS; go_simp
                  try simp only [Act.put, List.setIfInBounds_toArray, List.set_cons_zero, List.set_cons_succ]
                  refine held_take 2 (some 100) (.pointer (some ⟨g, 1, none⟩)) rfl rfl (by kernel_rfl) (by kernel_rfl) (by kernel_rfl) (fun _ _ _ h => h) rfl (fun w' hS => ?_) hHeld ?_
                  · clear hS; go_simp
                  try simp only [Act.put, List.setIfInBounds_toArray, List.set_cons_zero, List.set_cons_succ]
                  refine held_take 3 (some 101) (.slice (some ⟨b, 0, none⟩) nf cf) rfl rfl (by kernel_rfl) (by kernel_rfl) (by kernel_rfl) (fun _ _ _ h => h) rfl (fun w' hS => ?_) hHeld ?_
                  · obtain ⟨y0, y1⟩ := hS; go_simp
                  try simp only [Act.put, List.setIfInBounds_toArray, List.set_cons_zero, List.set_cons_succ]
                  refine held_take 4 (some 102) (.slice (some ⟨bl, off, none⟩) nl kl) rfl rfl (by kernel_rfl) (by kernel_rfl) (by kernel_rfl) (fun _ _ _ h => h) rfl (fun w' hS => ?_) hHeld ?_
                  · clear hS; go_simp
                  try simp only [Act.put, List.setIfInBounds_toArray, List.set_cons_zero, List.set_cons_succ]
                  refine held_take 5 (some 103) (.int .i64 (j : Nat)) rfl rfl (by kernel_rfl) (by kernel_rfl) (by kernel_rfl) (fun _ _ _ h => h) rfl (fun w' hS => ?_) hHeld ?_
                  · clear hS; go_simp
                  try simp only [Act.put, List.setIfInBounds_toArray, List.set_cons_zero, List.set_cons_succ]
                  refine held_take 6 (some 104) (.pointer (some ⟨bl, off + j * 2, none⟩)) rfl rfl (by kernel_rfl) (by kernel_rfl) (by kernel_rfl) (fun _ _ _ h => h) rfl (fun w' hS => ?_) hHeld ?_
                  · clear hS; go_simp
                  try simp only [Act.put, List.setIfInBounds_toArray, List.set_cons_zero, List.set_cons_succ]
                  refine held_take 7 (some 105) (.pointer (some ⟨bl, off + j * 2 + 1, none⟩)) rfl rfl (by kernel_rfl) (by kernel_rfl) (by kernel_rfl) (fun _ _ _ h => h) rfl (fun w' hS => ?_) hHeld ?_
                  · clear hS; go_simp
                  try simp only [Act.put, List.setIfInBounds_toArray, List.set_cons_zero, List.set_cons_succ]
                  refine held_take 8 (some 106) (.int .i64 (n : Nat)) rfl rfl (by kernel_rfl) (by kernel_rfl) (by kernel_rfl) (fun _ _ _ h => h) rfl (fun w' hS => ?_) hHeld ?_
                  · obtain ⟨y0, y1⟩ := hS; go_simp
                  try simp only [Act.put, List.setIfInBounds_toArray, List.set_cons_zero, List.set_cons_succ]
                  refine held_take 9 (some 107) (.string R) rfl rfl (by kernel_rfl) (by kernel_rfl) (by kernel_rfl) (fun _ _ _ h => h) rfl (fun w' hS => ?_) hHeld ?_
                  · clear hS; go_simp
                  try simp only [Act.put, List.setIfInBounds_toArray, List.set_cons_zero, List.set_cons_succ]
                  refine held_take 10 (some 108) (.string R) rfl rfl (by kernel_rfl) (by kernel_rfl) (by kernel_rfl) (fun _ _ _ h => h) rfl (fun w' hS => ?_) hHeld ?_
                  · clear hS; go_simp
                  try simp only [Act.put, List.setIfInBounds_toArray, List.set_cons_zero, List.set_cons_succ]
                  refine held_take 11 (some 109) (.int .i64 (R.size : Nat)) rfl rfl (by kernel_rfl) (by kernel_rfl) (by kernel_rfl) (fun _ _ _ h => h) rfl (fun w' hS => ?_) hHeld ?_
                  · clear hS; go_simp
                  try simp only [Act.put, List.setIfInBounds_toArray, List.set_cons_zero, List.set_cons_succ]
                  refine held_take 12 (some 110) (.agg #[.string R, .int .i64 (R.size : Nat)]) rfl rfl (by kernel_rfl) (by kernel_rfl) (by kernel_rfl) (fun _ _ _ h => h) rfl (fun w' hS => ?_) hHeld ?_
                  · clear hS; go_simp
                  try simp only [Act.put, List.setIfInBounds_toArray, List.set_cons_zero, List.set_cons_succ]
                  refine held_take 13 (some 111) (.pointer (some ⟨b, n * 2, none⟩)) rfl rfl (by kernel_rfl) (by kernel_rfl) (by kernel_rfl) (fun _ _ _ h => h) rfl (fun w' hS => ?_) hHeld ?_
                  · clear hS; go_simp
                  try simp only [Act.put, List.setIfInBounds_toArray, List.set_cons_zero, List.set_cons_succ]
                  have v3 := HD3.out
                  have v4 := HD4.out
                  have v5 := HFZ.out
                  refine held_one (i := 14) (by kernel_rfl) rfl rfl (fun K hK => ?_)
                  go_simp
                  have eg : ∀ q, q ≠ b → ((wd.setCell ⟨b, n * 2, none⟩ (.string R)).setCell ⟨b, n * 2 + 1, none⟩ (.int .i64 (R.size : Nat))).heap[q]? = wd.heap[q]? := fun q hq => (Below.heap_setCell (wd.setCell ⟨b, n * 2, none⟩ (.string R)) ⟨b, n * 2 + 1, none⟩ _ q hq).trans (Below.heap_setCell wd ⟨b, n * 2, none⟩ _ q hq)
                  have HS7 : ((wd.setCell ⟨b, n * 2, none⟩ (.string R)).setCell ⟨b, n * 2 + 1, none⟩ (.int .i64 (R.size : Nat))).cell? ⟨g, 1, none⟩ = some (.slice (some ⟨b, 0, none⟩) nf cf) ∧ ((wd.setCell ⟨b, n * 2, none⟩ (.string R)).setCell ⟨b, n * 2 + 1, none⟩ (.int .i64 (R.size : Nat))).cell? ⟨bl, off + j * 2 + 1, none⟩ = some (.int .i64 (n : Nat)) := ⟨(World.cell?_of_block (w := wd) (w' := (wd.setCell ⟨b, n * 2, none⟩ (.string R)).setCell ⟨b, n * 2 + 1, none⟩ (.int .i64 (R.size : Nat))) (a := ⟨g, 1, none⟩) (eg g hgb)).trans hHeld.1, (World.cell?_of_block (w := wd) (w' := (wd.setCell ⟨b, n * 2, none⟩ (.string R)).setCell ⟨b, n * 2 + 1, none⟩ (.int .i64 (R.size : Nat))) (a := ⟨bl, off + j * 2 + 1, none⟩) (eg bl HNB.out)).trans hHeld.2⟩
                  refine hK.out _ _ HS7 ?_
                  have HRF : Hid (CabRaw ((wd.setCell ⟨b, n * 2, none⟩ (.string R)).setCell ⟨b, n * 2 + 1, none⟩ (.int .i64 (R.size : Nat))) g O (midC c L keep t (j + 1)) (.slice (some ⟨b, 0, none⟩) nf cf) (.slice an nn cn) (.slice az ns cs) (.slice aw nw cw)) := by
                    have hq := HRX.out.refile2 b n HVF.out HNM.out (R, R.size)
                    have e : midC c L keep t (j + 1) = ({ midC c L keep t j with files := (midC c L keep t j).files.set n (R, R.size) } : CabM) := by
                      show ({ c with files := crashF (L.take (j + 1)) keep t c.files } : CabM) = _
                      rw [HE.out]
                      unfold cutF
                      rw [HR.out]
                      rfl
                    unfold Hid
                    rw [e]
                    exact hq
                  have HOF : Hid (OwnE ((wd.setCell ⟨b, n * 2, none⟩ (.string R)).setCell ⟨b, n * 2 + 1, none⟩ (.int .i64 (R.size : Nat))) (.slice (some ⟨bl, off, none⟩) nl kl) L) := owns_keep HOX.out (fun q hq => eg q (fun e => HNB.out (by cases hq; exact e)))
                  have HAF0 : Apart O wd ((wd.setCell ⟨b, n * 2, none⟩ (.string R)).setCell ⟨b, n * 2 + 1, none⟩ (.int .i64 (R.size : Nat))) := ((Apart.refl O wd).set hOb _ _).set hOb _ _
                  have HKF : Hid (RowZ ((wd.setCell ⟨b, n * 2, none⟩ (.string R)).setCell ⟨b, n * 2 + 1, none⟩ (.int .i64 (R.size : Nat))) ak nk keep) := HKX.out.apart HAF0 HD.out
                  have HAF : Hid (Apart O w ((wd.setCell ⟨b, n * 2, none⟩ (.string R)).setCell ⟨b, n * 2 + 1, none⟩ (.int .i64 (R.size : Nat)))) := HAX.out.same HAF0
                  clear hK K HS7 hHeld v3 v4 v5 HD3 HD4 HFZ eg HAF0 HRX HOX HKX HAX
                  try simp only [Act.put, List.setIfInBounds_toArray, List.set_cons_zero, List.set_cons_succ]
                  refine wpAnyH_done (by kernel_rfl) ?_ _
                  generalize (wd.setCell ⟨b, n * 2, none⟩ (.string R)).setCell ⟨b, n * 2 + 1, none⟩ (.int .i64 (R.size : Nat)) = wS at *
                  go_wp2_with fail
                  go_roundw
                  case rel => exact ⟨_, j + 1, rfl, by go_num, by omega, HRF.out, HOF.out, HKF.out, HAF.out⟩
                  case measure => simp [intOf]; omega
        · have hji : ¬ (j : Int) < (nl : Int) := by omega
          have hjn : L.take j = L := List.take_of_length_le (by rw [← HNL.out]; omega)
          have hmid : midC c L keep t j = ({ c with files := crashF L keep t c.files } : CabM) := by unfold midC; rw [hjn]
          rw [hmid] at HRW
          obtain ⟨⟨O3, hr3, hO3⟩, ha3⟩ := HRW.out.named HOW.out w.heap.size HVB.out
          have f2 := HRW.out.frozen 2
          have k2 := HRW.out.cells.2.2.1
          obtain ⟨q1, q2, q3, q4, q5, q6, q7, q8, q9, q10⟩ := hr3.parts
          have f3 := hr3.frozen 3
          have k3 := hr3.cells.2.2.2.1
          have hr4 := hr3.field (c' := { c with files := crashF L keep t c.files, now := L, sure := L }) 3 (.slice al nl kl) rfl O3 (fun _ h => h) q10 q1 q2 q2 q4 q6 q7 q7 q9
          obtain ⟨p1, p2, p3, p4, p5, p6, p7, p8, p9, p10⟩ := hr4.parts
          have f4 := hr4.frozen 4
          have k4 := hr4.cells.2.2.2.2.1
          have hr5 := hr4.field (c' := { c with files := crashF L keep t c.files, now := L, sure := L, wait := [] }) 4 (.slice none 0 0) rfl O3 (fun _ h => h) p10 p1 p2 p3 ⟨rfl, .inl ⟨rfl, rfl⟩⟩ p6 p7 p8 (fun b hb => by cases hb)
          have f6 := hr5.frozen 6
          have k6 := hr5.cells.2.2.2.2.2.2.1
          have hr6 := hr5.plain (c' := { c with files := crashF L keep t c.files, now := L, sure := L, wait := [], timed := false }) 6 (.bool false) rfl rfl rfl rfl rfl
          have f7 := hr6.frozen 7
          have k7 := hr6.cells.2.2.2.2.2.2.2
          have hr7 := hr6.plain (c' := { c with files := crashF L keep t c.files, now := L, sure := L, wait := [], timed := false, off := false }) 7 (.bool false) rfl rfl rfl rfl rfl
          have hOg := HRW.out.parts.2.2.2.2.1
          have HPF : Hid (CabPost w g O { c with files := crashF L keep t c.files, now := L, sure := L, wait := [], timed := false, off := false } (((((wy.setCell ⟨g, 2, none⟩ (.slice al nl kl)).setCell ⟨g, 3, none⟩ (.slice al nl kl)).setCell ⟨g, 4, none⟩ (.slice none 0 0)).setCell ⟨g, 6, none⟩ (.bool false)).setCell ⟨g, 7, none⟩ (.bool false))) :=
            ⟨⟨O3, ⟨_, _, _, _, hr7⟩, hO3⟩, ((((HAP.out.set hOg _ _).set hOg _ _).set hOg _ _).set hOg _ _).set hOg _ _⟩
          clear hr3 hr4 hr5 hr6 hr7 hO3 ha3 q1 q2 q3 q4 q5 q6 q7 q8 q9 q10 p1 p2 p3 p4 p5 p6 p7 p8 p9 p10 HRW HOW HKZ HAP hmid hjn hOg
          go_wp2_with fail
          go_end0
          exact ⟨rfl, by rw [HCC.out]; exact HPF.out⟩
end Go.Proofs.Ytlhmeebbdjiokaa
