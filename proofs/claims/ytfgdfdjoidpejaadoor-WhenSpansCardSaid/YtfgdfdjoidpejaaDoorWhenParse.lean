/-
  The document's Parse of any text.
-/
import Derived.Test.YtfgdfdjoidpejaaDoorWhenSecBad
import Derived.Test.YtfgdfdjoidpejaaDoorWhenForm
import Derived.Test.YtfgdfdjoidpejaaDoorWhenText
namespace Go.Proofs.YtfgdfdjoidpejaaDoor
open Go.ChangeShapes Go.WideShapes Go.ChangeAt Go.RowKit
set_option linter.unusedVariables false
set_option linter.unusedSimpArgs false
/-- What Parse answers. -/
def ParseR (l : List Nat) (v : Value) : Prop :=
  (¬ PForm l ∧ v = .tuple #[.int .i64 0, .int .i64 5]) ∨
  (PForm l ∧ ∃ y mo d h mi s : Nat, arrAt l 20 = [y, mo, d, h, mi, s] ∧ ((OkD y mo d h mi s ∧ v = .tuple #[.int .i64 ((secN y mo d h mi s : Int) - 62135596800), .int .i64 0]) ∨ (¬ OkD y mo d h mi s ∧ v = .tuple #[.int .i64 0, .int .i64 4])))
theorem six_list (l : List Nat) : ∃ y mo d h mi s : Nat, arrAt l 20 = [y, mo, d, h, mi, s] := ⟨_, _, _, _, _, _, rfl⟩
theorem okI_nat {y mo d h mi s : Nat} (hn : ¬ OkD y mo d h mi s) : ¬ OkI y mo d h mi s := by
  rintro ⟨Y, MO, D, H, MI, S, e1, e2, e3, e4, e5, e6, hk⟩
  have := Int.ofNat_inj.1 e1
  have := Int.ofNat_inj.1 e2
  have := Int.ofNat_inj.1 e3
  have := Int.ofNat_inj.1 e4
  have := Int.ofNat_inj.1 e5
  have := Int.ofNat_inj.1 e6
  subst_vars
  exact hn hk
set_option maxRecDepth 100000 in
set_option maxHeartbeats 16000000 in
theorem rparse_any (S : ByteArray) (w : World) (hs : S.size ≤ 9223372036854775807) :
    Calls Tryd.prog 19 #[.string S] w fun e w' => (∃ v, e = .returned v ∧ ParseR (txt S) v) ∧ Below w.heap.size w w' := by
  by_cases hl : S.size = 20
  · have HTL : Hid ((txt S).length = 20) := by unfold Hid; rw [txt_length, hl]
    have ht : ((S.size : Int) != 20) = false := by rw [hl]; rfl
    have HSZ : Hid (S.size = 20) := hl
    clear hl
    go_enter Tryd.func19, Tryd.ntmps19
    go_wp2
    have HB0 : Hid (Blk (w.alloc (.cells #[.int .i64 0, .int .i64 0, .int .i64 0, .int .i64 0, .int .i64 0, .int .i64 0] 60)) w.heap.size 60 .i64 (arrAt (txt S) 0)) := Blk.new w _ .i64 [0, 0, 0, 0, 0, 0]
    have HE0 : Hid _ := below_new w (.cells #[.int .i64 0, .int .i64 0, .int .i64 0, .int .i64 0, .int .i64 0, .int .i64 0] 60)
    generalize w.alloc (.cells #[.int .i64 0, .int .i64 0, .int .i64 0, .int .i64 0, .int .i64 0, .int .i64 0] 60) = w1 at *
    go_loopw [5, 6] (fun kv ix wr => ∃ (wz : World) (i : Nat), wz = wr ∧ i ≤ 20 ∧ ix = .int .i64 i ∧ kv = .int .i64 (kAt i : Nat) ∧ (∀ j, j < i → letOk j ((txt S).getD j 0)) ∧ Blk wz w.heap.size 60 .i64 (arrAt (txt S) i) ∧ Below w.heap.size w wz) (fun _ ix _ => 20 - (intOf ix).toNat)
    case atStart => exact ⟨_, 0, rfl, by omega, rfl, rfl, (fun j hj => by omega), HB0.out, HE0.out⟩
    case round =>
      clear HB0 HE0
      obtain ⟨wr, i, hwr, hi, rfl, rfl, hok, hblk, hbe⟩ := hrel
      subst hwr
      have HOK : Hid (∀ j, j < i → letOk j ((txt S).getD j 0)) := hok
      have HBL : Hid (Blk wr w.heap.size 60 .i64 (arrAt (txt S) i)) := hblk
      have HBE : Hid (Below w.heap.size w wr) := hbe
      clear hok hblk hbe
      by_cases hlt : i < 20
      · have hii : (i : Int) < 20 := by omega
        have hls : i < S.size := by rw [HSZ.out]; exact hlt
        have hls' : (i : Int) < (S.size : Int) := by omega
        have HG : Hid ((S[i]'hls).toNat = (txt S).getD i 0) := get_txt S i hls
        have HOK2 : Hid (letOk i ((txt S).getD i 0) → ∀ j, j < i + 1 → letOk j ((txt S).getD j 0)) := fun h j hj => by
          by_cases e : j = i
          · rw [e]; exact h
          · exact HOK.out j (by omega)
        have HBAD : Hid (¬ letOk i ((txt S).getD i 0) → ParseR (txt S) (.tuple #[.int .i64 0, .int .i64 5])) := fun h => .inl ⟨form_bad i hlt h, rfl⟩
        obtain ⟨x, hx⟩ : ∃ x, x = (txt S).getD i 0 := ⟨_, rfl⟩
        rw [← hx] at HG HOK2 HBAD
        have hxb : x < 256 := by rw [← HG.out]; exact (S[i]'hls).toNat_lt
        have hxs : ((S[i]'hls).toNat : Int) = (x : Int) := by rw [HG.out]
        rcases sign_cases i hlt with hsg | hsg | hsg | hsg | hsg | hsg | hsg
        · obtain ⟨n4, n7, n10, n13, n16, n19⟩ := sign_no hsg
          have e4 : ((i : Int) == 4) = false := by rw [beq_eq_false_iff_ne]; omega
          have e7 : ((i : Int) == 7) = false := by rw [beq_eq_false_iff_ne]; omega
          have e10 : ((i : Int) == 10) = false := by rw [beq_eq_false_iff_ne]; omega
          have e13 : ((i : Int) == 13) = false := by rw [beq_eq_false_iff_ne]; omega
          have e16 : ((i : Int) == 16) = false := by rw [beq_eq_false_iff_ne]; omega
          have e19 : ((i : Int) == 19) = false := by rw [beq_eq_false_iff_ne]; omega
          obtain ⟨hk6, hkn, harr⟩ := arr_digit (txt S) i hlt hsg
          have hsm := arr_small (txt S) i hlt hsg HOK.out
          rw [← hx] at harr
          have HKN : Hid (kAt (i + 1) = kAt i) := hkn
          obtain ⟨K, hK⟩ : ∃ K, K = kAt i := ⟨_, rfl⟩
          have HK : Hid (kAt i = K) := hK.symm
          obtain ⟨V, hV⟩ : ∃ V, V = (arrAt (txt S) i).getD K 0 := ⟨_, rfl⟩
          rw [← hK] at hk6 harr hsm ⊢
          rw [← hV] at harr hsm
          have HARR : Hid (arrAt (txt S) (i + 1) = (arrAt (txt S) i).set K (V * 10 + (x - 48))) := harr
          have hcl : wr.cell? ⟨w.heap.size, K, none⟩ = some (.int .i64 (V : Nat)) := by rw [hV]; exact HBL.out.cell K (by rw [arr_len]; exact hk6)
          have hfr := HBL.out.frozen K
          have HLO : Hid (letOk i x ↔ 48 ≤ x ∧ x ≤ 57) := by unfold Hid letOk; rw [if_pos hsg]
          clear hkn hK hV harr n4 n7 n10 n13 n16 n19 hsg hx
          have hki : (K : Int) < 6 := by omega
          by_cases hlo : x < 48
          · have hloi : (x : Int) < 48 := by omega
            have HR : Hid (ParseR (txt S) (.tuple #[.int .i64 0, .int .i64 5])) := HBAD.out (fun h => by have := HLO.out.1 h; omega)
            clear HBAD HLO
            go_wp2
            go_ret2
            exact ⟨⟨_, rfl, HR.out⟩, HBE.out⟩
          · have hloi : ¬ (x : Int) < 48 := by omega
            by_cases hhi : 57 < x
            · have hhii : (57 : Int) < (x : Int) := by omega
              have HR : Hid (ParseR (txt S) (.tuple #[.int .i64 0, .int .i64 5])) := HBAD.out (fun h => by have := HLO.out.1 h; omega)
              clear HBAD HLO
              go_wp2
              go_ret2
              exact ⟨⟨_, rfl, HR.out⟩, HBE.out⟩
            · have hhii : ¬ (57 : Int) < (x : Int) := by omega
              have HO2 : Hid (∀ j, j < i + 1 → letOk j ((txt S).getD j 0)) := HOK2.out (HLO.out.2 (by omega))
              obtain ⟨z, hz⟩ : ∃ z, z = x - 48 := ⟨_, rfl⟩
              have hzi : (x : Int) - 48 = (z : Int) := by omega
              have hzb : z ≤ 9 := by omega
              rw [← hz] at HARR
              clear HBAD HLO HOK2 hz HOK
              go_wp2
              go_region
              go_wp2
              go_roundw
              case rel =>
                refine ⟨_, i + 1, rfl, by omega, by go_num, by rw [HKN.out, HK.out], HO2.out, ?_, Below.drew (Below.setCell HBE.out (Nat.le_refl _) _)⟩
                rw [HARR.out]
                exact (HBL.out.set K (V * 10 + z)).drewN 1
              case measure => simp [intOf]; omega
        · have hs0 : ¬ signAt i = 0 := by rw [hsg]; decide
          have e4 : ((i : Int) == 4) = true := by rw [hsg]; rfl
          obtain ⟨hkn, harr⟩ := arr_sign (txt S) i hlt hs0
          have HLO : Hid (letOk i x ↔ x = 45) := by unfold Hid letOk; rw [if_neg hs0, show signAt i = 45 by rw [hsg]; rfl]
          have HARR : Hid (arrAt (txt S) (i + 1) = arrAt (txt S) i) := harr
          obtain ⟨K, hK⟩ : ∃ K, K = kAt i := ⟨_, rfl⟩
          have hk6 : K < 100 := by rw [hK, hsg]; decide
          rw [← hK] at hkn ⊢
          have HKN : Hid (kAt (i + 1) = K + 1) := hkn
          clear hkn hK harr hsg hs0 hx
          by_cases hc : x = 45
          · have hcb : ((x : Int) != 45) = false := by rw [hc]; rfl
            have HO2 : Hid (∀ j, j < i + 1 → letOk j ((txt S).getD j 0)) := HOK2.out (HLO.out.2 hc)
            clear HBAD HLO HOK2 HOK hc
            go_wp2
            go_roundw
            case rel => exact ⟨wr, i + 1, rfl, by omega, by go_num, by rw [HKN.out]; go_num, HO2.out, by rw [HARR.out]; exact HBL.out, HBE.out⟩
            case measure => simp [intOf]; omega
          · have hcb : ((x : Int) != 45) = true := by rw [bne_iff_ne]; omega
            have HR : Hid (ParseR (txt S) (.tuple #[.int .i64 0, .int .i64 5])) := HBAD.out (fun h => hc (HLO.out.1 h))
            clear HBAD HLO HOK2 HOK hc
            go_wp2
            go_ret2
            exact ⟨⟨_, rfl, HR.out⟩, HBE.out⟩
        · have hs0 : ¬ signAt i = 0 := by rw [hsg]; decide
          have e4 : ((i : Int) == 4) = false := by rw [beq_eq_false_iff_ne]; omega
          have e7 : ((i : Int) == 7) = true := by rw [hsg]; rfl
          obtain ⟨hkn, harr⟩ := arr_sign (txt S) i hlt hs0
          have HLO : Hid (letOk i x ↔ x = 45) := by unfold Hid letOk; rw [if_neg hs0, show signAt i = 45 by rw [hsg]; rfl]
          have HARR : Hid (arrAt (txt S) (i + 1) = arrAt (txt S) i) := harr
          obtain ⟨K, hK⟩ : ∃ K, K = kAt i := ⟨_, rfl⟩
          have hk6 : K < 100 := by rw [hK, hsg]; decide
          rw [← hK] at hkn ⊢
          have HKN : Hid (kAt (i + 1) = K + 1) := hkn
          clear hkn hK harr hsg hs0 hx
          by_cases hc : x = 45
          · have hcb : ((x : Int) != 45) = false := by rw [hc]; rfl
            have HO2 : Hid (∀ j, j < i + 1 → letOk j ((txt S).getD j 0)) := HOK2.out (HLO.out.2 hc)
            clear HBAD HLO HOK2 HOK hc
            go_wp2
            go_roundw
            case rel => exact ⟨wr, i + 1, rfl, by omega, by go_num, by rw [HKN.out]; go_num, HO2.out, by rw [HARR.out]; exact HBL.out, HBE.out⟩
            case measure => simp [intOf]; omega
          · have hcb : ((x : Int) != 45) = true := by rw [bne_iff_ne]; omega
            have HR : Hid (ParseR (txt S) (.tuple #[.int .i64 0, .int .i64 5])) := HBAD.out (fun h => hc (HLO.out.1 h))
            clear HBAD HLO HOK2 HOK hc
            go_wp2
            go_ret2
            exact ⟨⟨_, rfl, HR.out⟩, HBE.out⟩
        · have hs0 : ¬ signAt i = 0 := by rw [hsg]; decide
          have e4 : ((i : Int) == 4) = false := by rw [beq_eq_false_iff_ne]; omega
          have e7 : ((i : Int) == 7) = false := by rw [beq_eq_false_iff_ne]; omega
          have e10 : ((i : Int) == 10) = true := by rw [hsg]; rfl
          obtain ⟨hkn, harr⟩ := arr_sign (txt S) i hlt hs0
          have HLO : Hid (letOk i x ↔ x = 84) := by unfold Hid letOk; rw [if_neg hs0, show signAt i = 84 by rw [hsg]; rfl]
          have HARR : Hid (arrAt (txt S) (i + 1) = arrAt (txt S) i) := harr
          obtain ⟨K, hK⟩ : ∃ K, K = kAt i := ⟨_, rfl⟩
          have hk6 : K < 100 := by rw [hK, hsg]; decide
          rw [← hK] at hkn ⊢
          have HKN : Hid (kAt (i + 1) = K + 1) := hkn
          clear hkn hK harr hsg hs0 hx
          by_cases hc : x = 84
          · have hcb : ((x : Int) != 84) = false := by rw [hc]; rfl
            have HO2 : Hid (∀ j, j < i + 1 → letOk j ((txt S).getD j 0)) := HOK2.out (HLO.out.2 hc)
            clear HBAD HLO HOK2 HOK hc
            go_wp2
            go_roundw
            case rel => exact ⟨wr, i + 1, rfl, by omega, by go_num, by rw [HKN.out]; go_num, HO2.out, by rw [HARR.out]; exact HBL.out, HBE.out⟩
            case measure => simp [intOf]; omega
          · have hcb : ((x : Int) != 84) = true := by rw [bne_iff_ne]; omega
            have HR : Hid (ParseR (txt S) (.tuple #[.int .i64 0, .int .i64 5])) := HBAD.out (fun h => hc (HLO.out.1 h))
            clear HBAD HLO HOK2 HOK hc
            go_wp2
            go_ret2
            exact ⟨⟨_, rfl, HR.out⟩, HBE.out⟩
        · have hs0 : ¬ signAt i = 0 := by rw [hsg]; decide
          have e4 : ((i : Int) == 4) = false := by rw [beq_eq_false_iff_ne]; omega
          have e7 : ((i : Int) == 7) = false := by rw [beq_eq_false_iff_ne]; omega
          have e10 : ((i : Int) == 10) = false := by rw [beq_eq_false_iff_ne]; omega
          have e13 : ((i : Int) == 13) = true := by rw [hsg]; rfl
          obtain ⟨hkn, harr⟩ := arr_sign (txt S) i hlt hs0
          have HLO : Hid (letOk i x ↔ x = 58) := by unfold Hid letOk; rw [if_neg hs0, show signAt i = 58 by rw [hsg]; rfl]
          have HARR : Hid (arrAt (txt S) (i + 1) = arrAt (txt S) i) := harr
          obtain ⟨K, hK⟩ : ∃ K, K = kAt i := ⟨_, rfl⟩
          have hk6 : K < 100 := by rw [hK, hsg]; decide
          rw [← hK] at hkn ⊢
          have HKN : Hid (kAt (i + 1) = K + 1) := hkn
          clear hkn hK harr hsg hs0 hx
          by_cases hc : x = 58
          · have hcb : ((x : Int) != 58) = false := by rw [hc]; rfl
            have HO2 : Hid (∀ j, j < i + 1 → letOk j ((txt S).getD j 0)) := HOK2.out (HLO.out.2 hc)
            clear HBAD HLO HOK2 HOK hc
            go_wp2
            go_roundw
            case rel => exact ⟨wr, i + 1, rfl, by omega, by go_num, by rw [HKN.out]; go_num, HO2.out, by rw [HARR.out]; exact HBL.out, HBE.out⟩
            case measure => simp [intOf]; omega
          · have hcb : ((x : Int) != 58) = true := by rw [bne_iff_ne]; omega
            have HR : Hid (ParseR (txt S) (.tuple #[.int .i64 0, .int .i64 5])) := HBAD.out (fun h => hc (HLO.out.1 h))
            clear HBAD HLO HOK2 HOK hc
            go_wp2
            go_ret2
            exact ⟨⟨_, rfl, HR.out⟩, HBE.out⟩
        · have hs0 : ¬ signAt i = 0 := by rw [hsg]; decide
          have e4 : ((i : Int) == 4) = false := by rw [beq_eq_false_iff_ne]; omega
          have e7 : ((i : Int) == 7) = false := by rw [beq_eq_false_iff_ne]; omega
          have e10 : ((i : Int) == 10) = false := by rw [beq_eq_false_iff_ne]; omega
          have e13 : ((i : Int) == 13) = false := by rw [beq_eq_false_iff_ne]; omega
          have e16 : ((i : Int) == 16) = true := by rw [hsg]; rfl
          obtain ⟨hkn, harr⟩ := arr_sign (txt S) i hlt hs0
          have HLO : Hid (letOk i x ↔ x = 58) := by unfold Hid letOk; rw [if_neg hs0, show signAt i = 58 by rw [hsg]; rfl]
          have HARR : Hid (arrAt (txt S) (i + 1) = arrAt (txt S) i) := harr
          obtain ⟨K, hK⟩ : ∃ K, K = kAt i := ⟨_, rfl⟩
          have hk6 : K < 100 := by rw [hK, hsg]; decide
          rw [← hK] at hkn ⊢
          have HKN : Hid (kAt (i + 1) = K + 1) := hkn
          clear hkn hK harr hsg hs0 hx
          by_cases hc : x = 58
          · have hcb : ((x : Int) != 58) = false := by rw [hc]; rfl
            have HO2 : Hid (∀ j, j < i + 1 → letOk j ((txt S).getD j 0)) := HOK2.out (HLO.out.2 hc)
            clear HBAD HLO HOK2 HOK hc
            go_wp2
            go_roundw
            case rel => exact ⟨wr, i + 1, rfl, by omega, by go_num, by rw [HKN.out]; go_num, HO2.out, by rw [HARR.out]; exact HBL.out, HBE.out⟩
            case measure => simp [intOf]; omega
          · have hcb : ((x : Int) != 58) = true := by rw [bne_iff_ne]; omega
            have HR : Hid (ParseR (txt S) (.tuple #[.int .i64 0, .int .i64 5])) := HBAD.out (fun h => hc (HLO.out.1 h))
            clear HBAD HLO HOK2 HOK hc
            go_wp2
            go_ret2
            exact ⟨⟨_, rfl, HR.out⟩, HBE.out⟩
        · have hs0 : ¬ signAt i = 0 := by rw [hsg]; decide
          have e4 : ((i : Int) == 4) = false := by rw [beq_eq_false_iff_ne]; omega
          have e7 : ((i : Int) == 7) = false := by rw [beq_eq_false_iff_ne]; omega
          have e10 : ((i : Int) == 10) = false := by rw [beq_eq_false_iff_ne]; omega
          have e13 : ((i : Int) == 13) = false := by rw [beq_eq_false_iff_ne]; omega
          have e16 : ((i : Int) == 16) = false := by rw [beq_eq_false_iff_ne]; omega
          have e19 : ((i : Int) == 19) = true := by rw [hsg]; rfl
          obtain ⟨hkn, harr⟩ := arr_sign (txt S) i hlt hs0
          have HLO : Hid (letOk i x ↔ x = 90) := by unfold Hid letOk; rw [if_neg hs0, show signAt i = 90 by rw [hsg]; rfl]
          have HARR : Hid (arrAt (txt S) (i + 1) = arrAt (txt S) i) := harr
          obtain ⟨K, hK⟩ : ∃ K, K = kAt i := ⟨_, rfl⟩
          have hk6 : K < 100 := by rw [hK, hsg]; decide
          rw [← hK] at hkn ⊢
          have HKN : Hid (kAt (i + 1) = K + 1) := hkn
          clear hkn hK harr hsg hs0 hx
          by_cases hc : x = 90
          · have hcb : ((x : Int) != 90) = false := by rw [hc]; rfl
            have HO2 : Hid (∀ j, j < i + 1 → letOk j ((txt S).getD j 0)) := HOK2.out (HLO.out.2 hc)
            clear HBAD HLO HOK2 HOK hc
            go_wp2
            go_roundw
            case rel => exact ⟨wr, i + 1, rfl, by omega, by go_num, by rw [HKN.out]; go_num, HO2.out, by rw [HARR.out]; exact HBL.out, HBE.out⟩
            case measure => simp [intOf]; omega
          · have hcb : ((x : Int) != 90) = true := by rw [bne_iff_ne]; omega
            have HR : Hid (ParseR (txt S) (.tuple #[.int .i64 0, .int .i64 5])) := HBAD.out (fun h => hc (HLO.out.1 h))
            clear HBAD HLO HOK2 HOK hc
            go_wp2
            go_ret2
            exact ⟨⟨_, rfl, HR.out⟩, HBE.out⟩
      · have hii : ¬ (i : Int) < 20 := by omega
        have e20 : i = 20 := by omega
        have hfm : PForm (txt S) := ⟨HTL.out, fun j hj => HOK.out j (by omega)⟩
        obtain ⟨y, mo, d, h, mi, s, hsix⟩ := six_list (txt S)
        have hbl := HBL.out
        rw [e20, hsix] at hbl
        have c0 : wr.cell? ⟨w.heap.size, 0, none⟩ = some (.int .i64 (y : Nat)) := hbl.cell 0 (by simp)
        have c1 : wr.cell? ⟨w.heap.size, 1, none⟩ = some (.int .i64 (mo : Nat)) := hbl.cell 1 (by simp)
        have c2 : wr.cell? ⟨w.heap.size, 2, none⟩ = some (.int .i64 (d : Nat)) := hbl.cell 2 (by simp)
        have c3 : wr.cell? ⟨w.heap.size, 3, none⟩ = some (.int .i64 (h : Nat)) := hbl.cell 3 (by simp)
        have c4 : wr.cell? ⟨w.heap.size, 4, none⟩ = some (.int .i64 (mi : Nat)) := hbl.cell 4 (by simp)
        have c5 : wr.cell? ⟨w.heap.size, 5, none⟩ = some (.int .i64 (s : Nat)) := hbl.cell 5 (by simp)
        by_cases hk : OkD y mo d h mi s
        · have HS : Hid _ := rsec_good y mo d h mi s wr hk
          have HR : Hid (ParseR (txt S) (.tuple #[.int .i64 ((secN y mo d h mi s : Int) - 62135596800), .int .i64 0])) := .inr ⟨hfm, y, mo, d, h, mi, s, hsix, .inl ⟨hk, rfl⟩⟩
          clear hbl hfm hsix hk e20 HOK HBL
          generalize (secN y mo d h mi s : Int) - 62135596800 = z at *
          go_wp2_with fail
          refine Calls.mono HS.out ?_
          rintro _ w2 ⟨rfl, hb2⟩
          have HB2 : Hid (Below w.heap.size w w2) := HBE.out.trans (hb2.mono HBE.out.size)
          clear hb2 HS HBE
          go_wp2_with fail
          go_ret2
          exact ⟨⟨_, rfl, HR.out⟩, HB2.out⟩
        · have HS : Hid _ := rsec_bad y mo d h mi s wr (okI_nat hk)
          have HR : Hid (ParseR (txt S) (.tuple #[.int .i64 0, .int .i64 4])) := .inr ⟨hfm, y, mo, d, h, mi, s, hsix, .inr ⟨hk, rfl⟩⟩
          clear hbl hfm hsix hk e20 HOK HBL
          go_wp2_with fail
          refine Calls.mono HS.out ?_
          rintro _ w2 ⟨rfl, hb2⟩
          have HB2 : Hid (Below w.heap.size w w2) := HBE.out.trans (hb2.mono HBE.out.size)
          clear hb2 HS HBE
          go_wp2_with fail
          go_ret2
          exact ⟨⟨_, rfl, HR.out⟩, HB2.out⟩
  · have ht : ((S.size : Int) != 20) = true := by simp; omega
    have HU : Hid (ParseR (txt S) (.tuple #[.int .i64 0, .int .i64 5])) := .inl ⟨fun h => hl (by rw [← txt_length]; exact h.1), rfl⟩
    clear hl
    go_enter Tryd.func19, Tryd.ntmps19
    go_wp2_with fail
    go_ret2
    exact ⟨⟨_, rfl, HU.out⟩, Below.refl _ _⟩
end Go.Proofs.YtfgdfdjoidpejaaDoor
