/-
  The program's Sound, Least, Plain.
-/
import Derived.Test.YtehieeahiicnhaaGlobCut
namespace Go.Proofs.Ytehieeahiicnhaa
open Go.ChangeShapes Go.WideShapes Go.ChangeAt Go.RowKit
set_option linter.unusedVariables false
set_option linter.unusedSimpArgs false
theorem gsound_any (S : ByteArray) (w : World) (hs : S.size ≤ 9223372036854775806) :
    Calls Try.prog 11 #[.string S] w fun e w' => e = .returned (.bool (soundN (txt S))) ∧ Below w.heap.size w w' := by
  have HP : Hid _ := cut_any S w hs
  go_enter Try.func11, Try.ntmps11
  go_wp2_with fail
  refine Calls.mono HP.out ?_
  rintro _ w1 ⟨⟨h1, rfl⟩ | ⟨h1, g, n, cap, ps, rfl, h2, h3, h4, hc, h5, h6⟩, hb⟩
  · have HB : Hid (Below w.heap.size w w1) := hb
    have HOK : Hid (soundN (txt S) = false) := h1
    clear HP h1 hb
    go_wp2_with fail
    go_ret
    exact ⟨by rw [HOK.out]; rfl, HB.out⟩
  · have HB : Hid (Below w.heap.size w w1) := hb
    have HOK : Hid (soundN (txt S) = true) := h1
    clear HP h1 h2 h3 h4 h5 h6 hb hc
    go_wp2_with fail
    go_ret
    exact ⟨by rw [HOK.out]; rfl, HB.out⟩
set_option maxHeartbeats 4000000 in
theorem gleast_any (S : ByteArray) (w : World) (hs : S.size ≤ 9223372036854775806) :
    Calls Try.prog 13 #[.string S] w fun e w' => e = .returned (leastR (txt S)) ∧ Below w.heap.size w w' := by
  have HP : Hid _ := cut_any S w hs
  go_enter Try.func13, Try.ntmps13
  go_wp2_with fail
  refine Calls.mono HP.out ?_
  rintro _ w1 ⟨⟨h1, rfl⟩ | ⟨h1, g, n, cap, ps, rfl, h2, h3, h4, hcap, h5, h6⟩, hb⟩
  · have HB : Hid (Below w.heap.size w w1) := hb
    have HR : Hid (leastR (txt S) = .tuple #[.int .i64 0, .int .i64 2]) := by unfold Hid leastR; rw [h1]; rfl
    clear HP h1 hb
    go_wp2_with fail
    go_ret2
    exact ⟨by rw [HR.out]; rfl, HB.out⟩
  · have HB : Hid (Below w.heap.size w w1) := hb
    have HR : Hid (leastR (txt S) = .tuple #[.int .i64 (leastN ps : Nat), .int .i64 0]) := by unfold Hid leastR; rw [h1, h6]; rfl
    have HN : Hid (n = ps.length) := h2
    have HROW : Hid (RowG w1 (some ⟨g, 0, none⟩) ps) := h5
    clear HP h1 h2 h5 h6 hb
    go_wp2_with fail
    go_loopw [6, 18] (fun nv ix wr => ∃ (wz : World) (i m : Nat), wz = wr ∧ i ≤ n ∧ ix = .int .i64 i ∧ nv = .int .i64 m ∧ m = leastN (ps.take i) ∧ Below w1.heap.size w1 wz) (fun _ ix _ => n - (intOf ix).toNat)
    case atStart => exact ⟨_, 0, 0, rfl, Nat.zero_le _, rfl, rfl, rfl, Below.refl _ _⟩
    case round =>
      obtain ⟨wr, i, m, hwr, hi, rfl, rfl, hm, hbe⟩ := hrel
      subst hwr
      have HM : Hid (m = leastN (ps.take i)) := hm
      have HBE : Hid (Below w1.heap.size w1 wr) := hbe
      have hmb : m ≤ 200 := by
        have := least_le (ps.take i)
        rw [List.length_take] at this
        omega
      clear hm hbe
      by_cases hlt : i < n
      · have hii : (i : Int) < (n : Int) := by omega
        have hil : i < ps.length := by rw [← HN.out]; exact hlt
        have hrow := RowG.below HROW.out HBE.out
        rcases hrow with h0 | ⟨g', ha, hglt, hc⟩
        · omega
        · cases ha
          have hc0 := (hc i hil).1
          have hc1 := (hc i hil).2
          have HSN : Hid (leastN (ps.take (i + 1)) = m + (if (ps.getD i (0, 0)).1 = 2 then 0 else 1)) := by unfold Hid; rw [takeP_snoc ps i hil, least_snoc, HM.out]
          generalize (ps.getD i (0, 0)).1 = k at *
          generalize (ps.getD i (0, 0)).2 = c at *
          have hoff : (0 + i * 2 : Nat) = 2 * i := by omega
          have hoff2 : (i * 2 : Nat) = 2 * i := by omega
          have hsz := HBE.out.size
          have HB2 : Hid (∀ o, Below w1.heap.size w1 (wr.alloc o)) := fun o => HBE.out.alloc HBE.out.size o
          clear hc HM
          by_cases hk : k = 2
          · have hkl : ((k : Int) != 2) = false := by rw [hk]; rfl
            have HS2 : Hid (leastN (ps.take (i + 1)) = m) := by unfold Hid; rw [HSN.out, if_pos hk]; rfl
            clear hk HSN
            go_wp2_with fail
            go_roundw
            case rel => exact ⟨_, i + 1, m, rfl, by omega, by go_num, rfl, HS2.out.symm, HB2.out _⟩
            case measure => simp [intOf]; omega
          · have hkl : ((k : Int) != 2) = true := by rw [bne_iff_ne]; omega
            have HS2 : Hid (leastN (ps.take (i + 1)) = m + 1) := by unfold Hid; rw [HSN.out, if_neg hk]
            clear hk HSN
            go_wp2_with fail
            go_roundw
            case rel => exact ⟨_, i + 1, m + 1, rfl, by omega, by go_num, by go_num, HS2.out.symm, HB2.out _⟩
            case measure => simp [intOf]; omega
      · have hii : ¬ (i : Int) < (n : Int) := by omega
        have HM2 : Hid (leastN ps = m) := by unfold Hid; rw [HM.out, show i = ps.length by rw [← HN.out]; omega, List.take_length]
        go_wp2_with fail
        go_ret2
        exact ⟨by rw [HR.out, HM2.out]; rfl, HB.out.trans (HBE.out.mono HB.out.size)⟩
theorem numB8 : NumT 46 5 .u8 1 := ⟨by kernel_rfl, Try.underlying46⟩
set_option maxHeartbeats 4000000 in
theorem gplain_any (S : ByteArray) (w : World) (hs : S.size ≤ 9223372036854775806) :
    Calls Try.prog 15 #[.string S] w fun e w' => e = .returned (optR (plainO (txt S))) ∧ Below w.heap.size w w' := by
  have HP : Hid _ := cut_any S w hs
  go_enter Try.func15, Try.ntmps15
  go_wp2_with fail
  refine Calls.mono HP.out ?_
  rintro _ w1 ⟨⟨h1, rfl⟩ | ⟨h1, g, n, cap, ps, rfl, h2, h3, h4, hcap, h5, h6⟩, hb⟩
  · have HB : Hid (Below w.heap.size w w1) := hb
    have HR : Hid (plainO (txt S) = none) := by unfold Hid plainO; rw [h1]; rfl
    clear HP h1 hb
    go_wp2_with fail
    go_ret2
    exact ⟨by rw [HR.out]; rfl, HB.out⟩
  · have HB : Hid (Below w.heap.size w w1) := hb
    have HR : Hid (plainO (txt S) = plainP ps) := by unfold Hid plainO; rw [h1, h6]; rfl
    have HN : Hid (n = ps.length) := h2
    have HROW : Hid (RowG w1 (some ⟨g, 0, none⟩) ps) := h5
    clear HP h1 h2 h5 h6 hb
    go_wp2_with (refine make_num numB8 w1 rfl _ _ rfl .i64 .i64 (n : Int) n rfl rfl rfl (by omega) (by unfold maxLen; omega) ?_; intro w0 hown0 hb0)
    have HO0 : Hid (OwnL 5 .u8 w0 w1.heap.size (.slice (some ⟨w1.heap.size, 0, none⟩) 0 n) []) := hown0
    have HB0 : Hid (Below w1.heap.size w1 w0) := hb0
    clear hown0 hb0
    go_loopw [6, 21] (fun ov ix wr => ∃ (wz : World) (i : Nat) (acc : List Nat), wz = wr ∧ i ≤ n ∧ ix = .int .i64 i ∧ ov = .slice (some ⟨w1.heap.size, 0, none⟩) i n ∧ acc.length = i ∧ plainP (ps.take i) = some acc ∧ OwnL 5 .u8 wz w1.heap.size (.slice (some ⟨w1.heap.size, 0, none⟩) i n) acc ∧ Below w1.heap.size w1 wz) (fun _ ix _ => n - (intOf ix).toNat)
    case atStart => exact ⟨_, 0, [], rfl, Nat.zero_le _, rfl, rfl, rfl, rfl, HO0.out, HB0.out⟩
    case round =>
      clear HO0 HB0
      obtain ⟨wr, i, acc, hwr, hi, rfl, rfl, hal, hacc, hown, hbe⟩ := hrel
      subst hwr
      have HAC : Hid (plainP (ps.take i) = some acc) := hacc
      have HAL : Hid (acc.length = i) := hal
      have HBE : Hid (Below w1.heap.size w1 wr) := hbe
      have HOWN : Hid (OwnL 5 .u8 wr w1.heap.size (.slice (some ⟨w1.heap.size, 0, none⟩) i n) acc) := hown
      have hsz := hbe.size
      clear hacc hal hown hbe
      by_cases hlt : i < n
      · have hii : (i : Int) < (n : Int) := by omega
        have hil : i < ps.length := by rw [← HN.out]; exact hlt
        have hroom : i + 1 ≤ n := by omega
        have hrow := RowG.below HROW.out HBE.out
        rcases hrow with h0 | ⟨g', ha, hglt, hc⟩
        · omega
        · cases ha
          have hc0 := (hc i hil).1
          have hc1 := (hc i hil).2
          have HSN : Hid (plainP (ps.take (i + 1)) = if (ps.getD i (0, 0)).1 = 0 then some (acc ++ [(ps.getD i (0, 0)).2]) else none) := by
            unfold Hid
            rw [takeP_snoc ps i hil, plain_snoc, HAC.out]
            rfl
          generalize (ps.getD i (0, 0)).1 = k at *
          generalize (ps.getD i (0, 0)).2 = c at *
          have hoff : (0 + i * 2 : Nat) = 2 * i := by omega
          have hoff2 : (i * 2 : Nat) = 2 * i := by omega
          clear hc HAC
          by_cases hk : k = 0
          · have hkl : ((k : Int) != 0) = false := by rw [hk]; rfl
            have HS2 : Hid (plainP (ps.take (i + 1)) = some (acc ++ [c])) := by unfold Hid; rw [HSN.out, if_pos hk]
            clear hk HSN
            go_wp2_with (at_builtin; (refine fit_num numB8 (wr.alloc (.cells #[.int .i64 (k : Nat), .int .u8 (c : Nat)] 45)) rfl _ _ rfl w1.heap.size w1.heap.size i n acc rfl HAL.out (HOWN.out.alloc _) c (.int .u8 (c : Nat)) rfl (wr.heap.size + 1) rfl (by simp) hroom (by simp; omega) ?_; intro w5 hown5 hb5))
            go_roundw
            case rel => exact ⟨w5, i + 1, acc ++ [c], rfl, by omega, by go_num, rfl, by rw [List.length_append, HAL.out]; rfl, HS2.out, hown5, (HBE.out.alloc HBE.out.size _).trans hb5⟩
            case measure => simp [intOf]; omega
          · have hkl : ((k : Int) != 0) = true := by rw [bne_iff_ne]; omega
            have HS2 : Hid (plainO (txt S) = none) := by
              unfold Hid
              have : plainP ps = none := by
                have := plain_none_app (ps.take (i + 1)) (ps.drop (i + 1)) (by rw [HSN.out, if_neg hk])
                rwa [List.take_append_drop] at this
              rw [HR.out, this]
            clear hk HSN HR
            go_wp2_with fail
            go_ret2
            exact ⟨by rw [HS2.out]; rfl, HB.out.trans ((HBE.out.alloc HBE.out.size _).mono HB.out.size)⟩
      · have hii : ¬ (i : Int) < (n : Int) := by omega
        have HAC2 : Hid (plainO (txt S) = some acc) := by unfold Hid; rw [HR.out, ← HAC.out, show i = ps.length by rw [← HN.out]; omega, List.take_length]
        obtain ⟨a', c', hv, hrow, -, -⟩ := HOWN.out.row
        have hcv : Sem.run Try.prog (convert 46 9 (Value.slice (some ⟨w1.heap.size, 0, none⟩) i n)) wr = .ok (.string (strN acc)) wr := by
          cases hv
          have := conv_row (b := w1.heap.size) (off := 0) (len := acc.length) (xs := acc) hrow n
          rw [HAL.out] at this
          exact this
        clear hv hrow
        obtain ⟨X, hX⟩ : ∃ X, X = strN acc := ⟨_, rfl⟩
        rw [← hX] at hcv
        have HX : Hid (X = strN acc) := hX
        clear hX HAC
        go_wp2_with fail
        go_ret2
        exact ⟨by rw [HAC2.out, HX.out]; rfl, HB.out.trans (HBE.out.mono HB.out.size)⟩
end Go.Proofs.Ytehieeahiicnhaa
