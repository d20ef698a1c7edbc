/-
  The document's Base, as a plain function of lists.
-/
import Derived.Test.YtgeoijbjndjpoaaAlphaBits
namespace Go.Proofs.Ytgeoijbjndjpoaa
open Go.ChangeShapes Go.WideShapes Go.ChangeAt Go.RowKit
set_option linter.unusedVariables false
set_option linter.unusedSimpArgs false
def vlen : Value → Nat | .slice _ n _ => n | _ => 0
theorem grp5_snoc : ∀ (k : Nat) (l : List Nat) (a b c d e : Nat), l.length = 5 * k → grp5 (l ++ [a, b, c, d, e]) = grp5 l ++ [16 * a + 8 * b + 4 * c + 2 * d + e]
  | 0, l, a, b, c, d, e, h => by
    have : l = [] := List.eq_nil_of_length_eq_zero (by omega)
    subst this
    rfl
  | k + 1, l, a, b, c, d, e, h => by
    match l, h with
    | p :: q :: r :: s :: t :: l, h =>
      simp only [List.cons_append, grp5]
      rw [grp5_snoc k l a b c d e (by simp at h; omega)]
theorem take_five (t : List Nat) (i : Nat) (h : i + 4 < t.length) : t.take (i + 5) = t.take i ++ [t.getD i 0, t.getD (i + 1) 0, t.getD (i + 2) 0, t.getD (i + 3) 0, t.getD (i + 4) 0] := by
  rw [show i + 5 = i + 4 + 1 from rfl, take_snoc t (i + 4) h, show i + 4 = i + 2 + 2 from rfl, take_two t (i + 2) (by omega), take_two t i (by omega), List.append_assoc, List.append_assoc]
  rfl
def baseS : ByteArray := ⟨#[97, 98, 99, 100, 101, 102, 103, 104, 105, 106, 107, 108, 109, 110, 111, 112, 113, 114, 115, 116, 117, 118, 119, 120, 121, 122, 50, 51, 52, 53, 54, 55]⟩
theorem base_ext : ∀ k : Fin 32, (baseS.extract k.val (k.val + 1)).data.toList = (strN [baseD.getD k.val 0]).data.toList := by decide +kernel
theorem base_slice (k : Nat) (h : k < 32) (W : World) : (Instr.slice 9 (.string (ByteArray.mk #[97, 98, 99, 100, 101, 102, 103, 104, 105, 106, 107, 108, 109, 110, 111, 112, 113, 114, 115, 116, 117, 118, 119, 120, 121, 122, 50, 51, 52, 53, 54, 55])) (some (.int .i64 (k : Nat))) (some (.int .i64 ((k : Int) + 1))) none).run Try.prog W = .ok (.string (strN [baseD.getD k 0])) W := by
  refine (str_one _ k .i64 ?_ W).trans ?_
  · show k + 1 ≤ 32
    omega
  · have e : (ByteArray.mk #[97, 98, 99, 100, 101, 102, 103, 104, 105, 106, 107, 108, 109, 110, 111, 112, 113, 114, 115, 116, 117, 118, 119, 120, 121, 122, 50, 51, 52, 53, 54, 55]).extract k (k + 1) = strN [baseD.getD k 0] := by
      apply ByteArray.ext
      exact Array.toList_inj.1 (base_ext ⟨k, h⟩)
    rw [e]
set_option maxRecDepth 100000 in
set_option maxHeartbeats 8000000 in
theorem rbase_any (a : Option Addr) (len cap : Nat) (xs : List Nat) (w : World) (hr : RowL .u8 w a len xs) (hx : ∀ j, xs.getD j 0 < 256) (hl : len ≤ 2000000) :
    Calls Try.prog 17 #[.slice a len cap] w fun e w' => e = .returned (.string (strN (baseN xs))) ∧ Below w.heap.size w w' := by
  have HB : Hid _ := rbits_any a len cap xs w hr hx hl
  have HXL : Hid (xs.length = len) := hr.1
  have HSL : Hid ((spread8 xs).length = 8 * len) := by unfold Hid; rw [spread8_length, hr.1]
  have HSB : Hid (∀ b ∈ spread8 xs, b < 2) := spread_bits8 xs
  obtain ⟨P, hP⟩ : ∃ P, P = padB len := ⟨_, rfl⟩
  have HP : Hid (P = padB len ∧ P = (5 - 8 * len % 5) % 5) := ⟨hP, by rw [hP]; rfl⟩
  have HBN : Hid (baseN xs = (grp5 (spread8 xs ++ List.replicate P 0)).map fun n => baseD.getD n 0) := by unfold Hid baseN; rw [hP, hr.1]
  have hP5 : P < 5 := by have := HP.out.2; omega
  clear hr hx hP
  generalize spread8 xs = B8 at *
  generalize baseN xs = RES at *
  go_enter Try.func17, Try.ntmps17
  go_wp2_with fail
  refine Calls.mono HB.out ?_
  rintro e w1 ⟨v1, rfl, hown1, hb1⟩
  have HO1 : Hid (OwnL 3 .i64 w1 w.heap.size v1 B8) := hown1
  have HB1 : Hid (Below w.heap.size w w1) := hb1
  clear hown1 hb1 HB
  go_wp2_with fail
  go_loopw [3] (fun v wq => ∃ (wz : World) (k : Nat), wz = wq ∧ k ≤ P ∧ OwnL 3 .i64 wz w.heap.size v (B8 ++ List.replicate k 0) ∧ Below w.heap.size w wz) (fun v _ => P - (vlen v - 8 * len))
  case atStart => exact ⟨w1, 0, rfl, Nat.zero_le _, by rw [List.replicate_zero, List.append_nil]; exact HO1.out, HB1.out⟩
  case round =>
    clear HO1 HB1
    obtain ⟨wr, k, hwr, hk, hown, hbe⟩ := hrel
    subst hwr
    have HBE : Hid (Below w.heap.size w wr) := hbe
    obtain ⟨av, cv, hv, hrow, -⟩ := own_form hown
    have hL : (B8 ++ List.replicate k 0).length = 8 * len + k := by rw [List.length_append, HSL.out, List.length_replicate]
    rw [hL] at hv hrow
    subst hv
    have HOWN : Hid (OwnL 3 .i64 wr w.heap.size (.slice av (8 * len + k) cv) (B8 ++ List.replicate k 0)) := hown
    have HROW : Hid (RowL .i64 wr av (8 * len + k) (B8 ++ List.replicate k 0)) := hrow
    have HL : Hid ((B8 ++ List.replicate k 0).length = 8 * len + k) := hL
    clear hown hbe hL hrow
    obtain ⟨L, hLL⟩ : ∃ L, L = 8 * len + k := ⟨_, rfl⟩
    rw [← hLL] at HOWN HL HROW ⊢
    have HLL : Hid (L = 8 * len + k) := hLL
    have hLb : L ≤ 17000000 := by omega
    by_cases hlt : k < P
    · have ht : ((L : Int) % 5 != 0) = true := by
        have : L % 5 ≠ 0 := by have := HP.out.2; omega
        simp
        omega
      have hsz := HBE.out.size
      clear hLL HROW
      go_wp2_with (at_builtin; (refine append_num numI wr rfl (.tmp 13) (.tmp 14) rfl w.heap.size (.slice av L cv) (B8 ++ List.replicate k 0) rfl HOWN.out 0 (.int .i64 0) rfl wr.heap.size rfl rfl (by rw [HL.out]; omega) (by rw [HL.out]; unfold maxLen; omega) hsz ?_; intro v5 w5 hown5 hb5))
      obtain ⟨a5, c5, hv5, -, -⟩ := own_form hown5
      rw [List.length_append, HL.out] at hv5
      subst hv5
      go_roundw
      case rel =>
        refine ⟨w5, k + 1, rfl, by omega, ?_, HBE.out.trans hb5⟩
        rw [List.replicate_succ', ← List.append_assoc]
        exact hown5
      case measure =>
        have := HLL.out
        simp [vlen]
        omega
    · have hkP : k = P := by omega
      have ht : ((L : Int) % 5 != 0) = false := by
        have : L % 5 = 0 := by have := HP.out.2; omega
        simp
        omega
      obtain ⟨K, hK⟩ : ∃ K, L = 5 * K := ⟨L / 5, by have := HP.out.2; omega⟩
      have HK : Hid (L = 5 * K) := hK
      obtain ⟨G, hG⟩ : ∃ G, G = B8 ++ List.replicate k 0 := ⟨_, rfl⟩
      rw [← hG] at HROW HL
      have HGB : Hid (∀ b ∈ G, b < 2) := fun b hb => by
        rw [hG] at hb
        rcases List.mem_append.1 hb with hb | hb
        · exact HSB.out b hb
        · rw [List.eq_of_mem_replicate hb]; decide
      have HRS : Hid (RES = (grp5 G).map fun n => baseD.getD n 0) := by unfold Hid; rw [HBN.out, hG, hkP]
      clear hLL hkP hK hG HOWN HLL HBN HSB HSL hlt hk
      go_wp2_with fail
      go_loopw [4, 5] (fun out ix wq => ∃ (wz : World) (j m : Nat), wz = wq ∧ j ≤ K ∧ ix = .int .i64 ((5 * j : Nat) : Nat) ∧ out = .string (strN ((grp5 (G.take (5 * j))).map fun n => baseD.getD n 0)) ∧ wz = wr.drewN m) (fun _ ix _ => L - (intOf ix).toNat)
      case atStart => exact ⟨wr, 0, 0, rfl, Nat.zero_le _, rfl, rfl, rfl⟩
      case round =>
        obtain ⟨wq, j, m, hwq, hj, rfl, rfl, hwm⟩ := hrel
        subst hwq
        have HWM : Hid (wq = wr.drewN m) := hwm
        obtain ⟨I, hI⟩ : ∃ I, I = 5 * j := ⟨_, rfl⟩
        rw [← hI]
        have HI : Hid (I = 5 * j) := hI
        clear hwm hI
        by_cases hlt : j < K
        · have hIL : I + 4 < L := by have := HI.out; have := HK.out; omega
          obtain ⟨b, off, rfl, hbl, hcs⟩ := RowL.at HROW.out 0 (by omega)
          have hcell : ∀ t, t < L → wq.cell? ⟨b, off + t, none⟩ = some (.int .i64 (G.getD t 0 : Nat)) := fun t ht => by rw [HWM.out]; exact hcs t ht
          have c0 := hcell I (by omega)
          have c1 := hcell (I + 1) (by omega)
          have c2 := hcell (I + 2) (by omega)
          have c3 := hcell (I + 3) (by omega)
          have c4 := hcell (I + 4) (by omega)
          have hgb : ∀ t, t < L → G.getD t 0 < 2 := fun t ht => HGB.out _ (by
            have : t < G.length := by rw [HL.out]; exact ht
            rw [List.getD_eq_getElem?_getD, List.getElem?_eq_getElem this]
            exact List.getElem_mem _)
          have b0 := hgb I (by omega)
          have b1 := hgb (I + 1) (by omega)
          have b2 := hgb (I + 2) (by omega)
          have b3 := hgb (I + 3) (by omega)
          have b4 := hgb (I + 4) (by omega)
          have HT5 : Hid (G.take (I + 5) = G.take I ++ [G.getD I 0, G.getD (I + 1) 0, G.getD (I + 2) 0, G.getD (I + 3) 0, G.getD (I + 4) 0]) := take_five G I (by rw [HL.out]; exact hIL)
          have HTI : Hid ((G.take I).length = 5 * j) := by unfold Hid; rw [List.length_take, HL.out]; have := HI.out; omega
          clear hcs hbl hcell hgb
          generalize G.getD I 0 = d0 at *
          generalize G.getD (I + 1) 0 = d1 at *
          generalize G.getD (I + 2) 0 = d2 at *
          generalize G.getD (I + 3) 0 = d3 at *
          generalize G.getD (I + 4) 0 = d4 at *
          have wp : ∀ z : Int, 0 ≤ z → z < 9223372036854775808 → IntKind.i64.wrap z = z := fun z h1 h2 => by rw [IntKind.wrap_i64]; omega
          have hb64 : (I : Int) < 17000000 := by omega
          have w1 := wp ((I : Int) + 1) (by omega) (by omega)
          have w2 := wp ((I : Int) + 2) (by omega) (by omega)
          have w3 := wp ((I : Int) + 3) (by omega) (by omega)
          have w4 := wp ((I : Int) + 4) (by omega) (by omega)
          have x0 := wp (16 * (d0 : Int)) (by omega) (by omega)
          have x1 := wp (8 * (d1 : Int)) (by omega) (by omega)
          have x2 := wp (4 * (d2 : Int)) (by omega) (by omega)
          have x3 := wp (2 * (d3 : Int)) (by omega) (by omega)
          have y1 := wp (16 * (d0 : Int) + 8 * (d1 : Int)) (by omega) (by omega)
          have y2 := wp (16 * (d0 : Int) + 8 * (d1 : Int) + 4 * (d2 : Int)) (by omega) (by omega)
          have y3 := wp (16 * (d0 : Int) + 8 * (d1 : Int) + 4 * (d2 : Int) + 2 * (d3 : Int)) (by omega) (by omega)
          have y4 := wp (16 * (d0 : Int) + 8 * (d1 : Int) + 4 * (d2 : Int) + 2 * (d3 : Int) + (d4 : Int)) (by omega) (by omega)
          have i0 : (I : Int) < (L : Int) := by omega
          have i1 : (I : Int) + 1 < (L : Int) := by omega
          have i2 : (I : Int) + 2 < (L : Int) := by omega
          have i3 : (I : Int) + 3 < (L : Int) := by omega
          have i4 : (I : Int) + 4 < (L : Int) := by omega
          have z1 : (0 : Int) ≤ (I : Int) + 1 := by omega
          have z2 : (0 : Int) ≤ (I : Int) + 2 := by omega
          have z3 : (0 : Int) ≤ (I : Int) + 3 := by omega
          have z4 : (0 : Int) ≤ (I : Int) + 4 := by omega
          have t1 : ((I : Int) + 1).toNat = I + 1 := by omega
          have t2 : ((I : Int) + 2).toNat = I + 2 := by omega
          have t3 : ((I : Int) + 3).toNat = I + 3 := by omega
          have t4 : ((I : Int) + 4).toNat = I + 4 := by omega
          clear wp
          go_wp2_with fail
          go_quiet (fail)
          obtain ⟨n, hn⟩ : ∃ n, n = 16 * d0 + 8 * d1 + 4 * d2 + 2 * d3 + d4 := ⟨_, rfl⟩
          have hni : 16 * (d0 : Int) + 8 * (d1 : Int) + 4 * (d2 : Int) + 2 * (d3 : Int) + (d4 : Int) = (n : Int) := by omega
          have hnb : n < 32 := by omega
          have hS := base_slice n hnb
          have HNX : Hid (grp5 (G.take (5 * (j + 1))) = grp5 (G.take I) ++ [n]) := by
            unfold Hid
            rw [show 5 * (j + 1) = I + 5 by have := HI.out; omega, HT5.out, grp5_snoc j _ _ _ _ _ _ HTI.out, hn]
          have HGL : Hid ((grp5 (G.take I)).length ≤ 17000000) := by
            unfold Hid
            have := spread5_grp j (G.take I) HTI.out (fun b hb => HGB.out b (List.mem_of_mem_take hb))
            have h2 := spread5_length (grp5 (G.take I))
            rw [this.1, HTI.out] at h2
            have := HI.out
            omega
          obtain ⟨SA, hSA⟩ : ∃ A, A = strN [baseD.getD n 0] := ⟨_, rfl⟩
          obtain ⟨SO, hSO⟩ : ∃ A, A = strN ((grp5 (G.take I)).map fun n => baseD.getD n 0) := ⟨_, rfl⟩
          rw [← hSA] at hS
          rw [← hSO]
          have HAB : Hid (SO ++ SA = strN ((grp5 (G.take (5 * (j + 1)))).map fun n => baseD.getD n 0)) := by
            unfold Hid
            rw [HNX.out, List.map_append, strN_append, hSO, hSA]
            rfl
          have hsum : SO.size + SA.size ≤ 9223372036854775807 := by
            have := HGL.out
            rw [hSO, hSA, strN_size, strN_size, List.length_map]
            simp
            omega
          rw [hni]
          clear hSA hSO hn hni c0 c1 c2 c3 c4 w1 w2 w3 w4 x0 x1 x2 x3 y1 y2 y3 y4
          go_wp2_with fail
          refine ⟨⟨_, j + 1, m + nq, rfl, by omega, by have := HI.out; congr 1; omega, by rw [HAB.out], by rw [HWM.out, drewN_more]⟩, by simp [intOf]; omega⟩
        · have hjK : j = K := by omega
          have hIL : ¬ (I : Int) < (L : Int) := by have := HI.out; have := HK.out; omega
          have HF : Hid ((grp5 (G.take I)).map (fun n => baseD.getD n 0) = RES) := by
            unfold Hid
            rw [HRS.out, List.take_of_length_le (by rw [HL.out]; have := HI.out; have := HK.out; omega)]
          have HW2 : Hid (Below w.heap.size w wq) := by rw [HWM.out]; exact below_drew HBE.out m
          clear hjK
          rw [HF.out]
          go_wp2_with fail
          go_ret
          exact ⟨rfl, HW2.out⟩
end Go.Proofs.Ytgeoijbjndjpoaa
