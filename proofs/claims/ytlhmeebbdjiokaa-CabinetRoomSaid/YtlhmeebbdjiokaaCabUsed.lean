/-
  The document's cabinet: how many bytes are taken.
-/
import Derived.Test.YtlhmeebbdjiokaaCabCreate
import Derived.Test.YtlhmeebbdjiokaaBools
namespace Go.Proofs.Ytlhmeebbdjiokaa
open Go.ChangeShapes Go.WideShapes Go.ChangeAt Go.RowKit
set_option linter.unusedVariables false
set_option linter.unusedSimpArgs false
def markL : List Nat → List Bool → List Bool
  | [], l => l
  | n :: ns, l => markL ns (l.set n true)
theorem mark_length : ∀ (ns : List Nat) (l : List Bool), (markL ns l).length = l.length
  | [], _ => rfl
  | n :: ns, l => by rw [markL, mark_length ns, List.length_set]
theorem mark_snoc : ∀ (ns : List Nat) (n : Nat) (l : List Bool), markL (ns ++ [n]) l = (markL ns l).set n true
  | [], _, _ => rfl
  | m :: ns, n, l => by rw [List.cons_append, markL, mark_snoc ns, markL]
theorem mark_get : ∀ (ns : List Nat) (l : List Bool) (i : Nat), i < l.length → (markL ns l).getD i false = (l.getD i false || ns.any (· == i))
  | [], l, i, _ => by simp [markL]
  | n :: ns, l, i, h => by
    rw [markL, mark_get ns _ i (by rw [List.length_set]; exact h), List.any_cons, List.getD_eq_getElem?_getD, List.getElem?_set, List.getD_eq_getElem?_getD]
    by_cases hn : n = i
    · subst hn
      rw [if_pos rfl, if_pos h]
      simp
    · rw [if_neg hn, show (n == i) = false by simpa using hn, Bool.false_or]
def takenL (c : CabM) : List Bool := markL (c.wait.map (·.2.2)) (markL (c.sure.map (·.2)) (List.replicate c.files.length false))
theorem takenL_length (c : CabM) : (takenL c).length = c.files.length := by unfold takenL; rw [mark_length, mark_length, List.length_replicate]
theorem takenL_get (c : CabM) (i : Nat) (h : i < c.files.length) : (takenL c).getD i false = takenC c i := by
  unfold takenL takenC
  rw [mark_get _ _ i (by rw [mark_length, List.length_replicate]; exact h), mark_get _ _ i (by rw [List.length_replicate]; exact h), List.any_map, List.any_map]
  have : (List.replicate c.files.length false).getD i false = false := by rw [List.getD_eq_getElem?_getD, List.getElem?_replicate, if_pos h]; rfl
  rw [this, Bool.false_or]
  rfl
theorem sum_le : ∀ (fs : List (ByteArray × Nat)) (T : Nat → Bool), (∀ i, (fs.getD i (ByteArray.empty, 0)).1.size ≤ 1048576) → sumC fs T ≤ fs.length * 1048576
  | [], _, _ => by simp [sumC]
  | f :: fs, T, h => by
    have h0 : f.1.size ≤ 1048576 := h 0
    have ih := sum_le fs (fun i => T (i + 1)) (fun i => h (i + 1))
    show (if T 0 = true then f.1.size else 0) + sumC fs _ ≤ (fs.length + 1) * 1048576
    split <;> omega
theorem sum_take (c : CabM) (i : Nat) (h : i < c.files.length) : sumC (c.files.take (i + 1)) (takenC c) = sumC (c.files.take i) (takenC c) + (if takenC c i then (fileC c i).1.size else 0) := by
  rw [show c.files.take (i + 1) = c.files.take i ++ [fileC c i] from takeN_snoc c.files i h, sum_more, List.length_take, Nat.min_eq_left (Nat.le_of_lt h)]
theorem sum_take_le (c : CabM) (hi : InvC c) (i : Nat) (h : i ≤ c.files.length) : sumC (c.files.take i) (takenC c) ≤ c.files.length * 1048576 := by
  have h1 := sum_le (c.files.take i) (takenC c) (fun k => by
    have h2 := (hi.2.2.1 k).2
    rw [List.getD_eq_getElem?_getD, List.getElem?_take]
    split
    · rw [← List.getD_eq_getElem?_getD]; exact h2
    · exact Nat.zero_le _)
  rw [List.length_take, Nat.min_eq_left h] at h1
  exact Nat.le_trans h1 (Nat.mul_le_mul_right 1048576 h)
theorem map_take_snoc {α : Type} (l : List α) (f : α → Nat) (d : α) (i : Nat) (h : i < l.length) : (l.map f).take (i + 1) = (l.map f).take i ++ [f (l.getD i d)] := by
  rw [List.take_succ_eq_append_getElem (by rw [List.length_map]; exact h), List.getElem_map, List.getD_eq_getElem?_getD, List.getElem?_eq_getElem h]
  rfl
set_option maxRecDepth 100000 in
set_option maxHeartbeats 8000000 in
theorem rused_any (w : World) (g : Nat) (O : Nat → Prop) (c : CabM) (h : CabAt w g O c) (hinv : InvC c) (hb1 : c.files.length ≤ 1099511627776) (hb2 : c.sure.length ≤ 1099511627776) (hb3 : c.wait.length ≤ 1099511627776) :
    Calls Try.prog 23 #[.pointer (some ⟨g, 0, none⟩)] w fun e w' => e = .returned (.int .i64 (usedC c : Nat)) ∧ Below w.heap.size w w' := by
  obtain ⟨af, nf, cf, an, nn, cn, az, ns, cs, aw, nw, cw, hraw, hnf, hnn, hns, hnw, -, -, -, -⟩ := h.open
  have HRAW : Hid (CabRaw w g O c (.slice af nf cf) (.slice an nn cn) (.slice az ns cs) (.slice aw nw cw)) := hraw
  have HI : Hid (InvC c) := hinv
  have HNF : Hid (nf = c.files.length) := hnf
  have HNS : Hid (ns = c.sure.length) := hns
  have HNW : Hid (nw = c.wait.length) := hnw
  have hnfb : nf ≤ 1099511627776 := by omega
  have hnsb : ns ≤ 1099511627776 := by omega
  have hnwb : nw ≤ 1099511627776 := by omega
  have c1 := hraw.cells.2.1
  clear hraw hnf hns hnw hnn hinv h
  go_enter Try.func23, Try.ntmps23
  go_wp2_with (refine make_tab w rfl _ _ rfl nf rfl rfl (by omega) ?_; intro w2 hB2 hb2 _; have HBB2 : Hid (BlkB w2 w.heap.size (List.replicate nf false)) := hB2; have HBW2 : Hid (Below w.heap.size w w2) := hb2; clear hB2 hb2 c1)
  go_loopw [4] (fun ix wr => ∃ (wz : World) (i : Nat), wz = wr ∧ ix = .int .i64 (i : Nat) ∧ i ≤ ns ∧ BlkB wz w.heap.size (markL ((c.sure.map (·.2)).take i) (List.replicate nf false)) ∧ Below w.heap.size w wz) (fun ix _ => ns - (intOf ix).toNat)
  case atStart => exact ⟨_, 0, rfl, rfl, Nat.zero_le _, HBB2.out, HBW2.out⟩
  case round =>
    clear HBB2 HBW2
    obtain ⟨wz, i, hwz, rfl, hi, hblk, hbe⟩ := hrel
    subst hwz
    have HBK : Hid (BlkB wz w.heap.size (markL ((c.sure.map (·.2)).take i) (List.replicate nf false))) := hblk
    have HBE : Hid (Below w.heap.size w wz) := hbe
    have hraw := HRAW.out.below hbe
    have c3 := hraw.cells.2.2.2.1
    clear hblk hbe
    by_cases hlt : i < ns
    · have hii : (i : Int) < (ns : Int) := by omega
      have hil : i < c.sure.length := by rw [← HNS.out]; exact hlt
      have hrow := hraw.parts.2.2.1
      obtain ⟨a', cap', hv, -, -, hr⟩ := hrow.at
      cases hv
      rcases hr with h0 | ⟨b, off, ha, hblt, hc⟩
      · omega
      · subst ha
        have hcell := (hc i hil).2
        have hlt2 : (entAt c.sure i).2 < nf := by
          rw [HNF.out]
          refine HI.out.2.1 _ ((taken_iff _ _).2 (.inl ⟨entAt c.sure i, ?_, rfl⟩))
          unfold entAt
          rw [List.getD_eq_getElem?_getD, List.getElem?_eq_getElem hil]
          exact List.getElem_mem hil
        have HSN : Hid (markL ((c.sure.map (·.2)).take (i + 1)) (List.replicate nf false) = (markL ((c.sure.map (·.2)).take i) (List.replicate nf false)).set (entAt c.sure i).2 true) := by
          unfold Hid
          rw [map_take_snoc c.sure (·.2) (ByteArray.empty, 0) i hil, mark_snoc]
          rfl
        generalize (entAt c.sure i).2 = n at *
        have hn2 : (n : Int) < (nf : Int) := by omega
        have hcl := HBK.out.cell n (by rw [mark_length, List.length_replicate]; exact hlt2)
        have hfz := HBK.out.frozen n
        generalize (markL ((c.sure.map (·.2)).take i) (List.replicate nf false)).getD n false = x0 at hcl
        have HB3 : Hid (BlkB (wz.setCell ⟨w.heap.size, n, none⟩ (.bool true)) w.heap.size (markL ((c.sure.map (·.2)).take (i + 1)) (List.replicate nf false))) := by unfold Hid; rw [HSN.out]; exact HBK.out.set n true
        have HW3 : Hid (Below w.heap.size w (wz.setCell ⟨w.heap.size, n, none⟩ (.bool true))) := Below.setCell HBE.out (Nat.le_refl _) _
        clear hraw hrow hc HSN HBK HBE hil
        go_wp2_with fail
        go_roundw
        case rel => exact ⟨_, i + 1, rfl, by go_num, by omega, HB3.out, HW3.out⟩
        case measure => simp [intOf]; omega
    · have hii : ¬ (i : Int) < (ns : Int) := by omega
      have hin : i = ns := by omega
      have HB3 : Hid (BlkB wz w.heap.size (markL (c.sure.map (·.2)) (List.replicate nf false))) := by
        have := HBK.out
        rw [List.take_of_length_le (by rw [List.length_map, hin, HNS.out]; exact Nat.le_refl _)] at this
        exact this
      have HW3 : Hid (Below w.heap.size w wz) := HBE.out
      clear HBK HBE hraw hin hlt hi
      go_wp2_with fail
      go_loopw [5] (fun ix wr => ∃ (wz : World) (i : Nat), wz = wr ∧ ix = .int .i64 (i : Nat) ∧ i ≤ nw ∧ BlkB wz w.heap.size (markL ((c.wait.map (·.2.2)).take i) (markL (c.sure.map (·.2)) (List.replicate nf false))) ∧ Below w.heap.size w wz) (fun ix _ => nw - (intOf ix).toNat)
      case atStart => exact ⟨_, 0, rfl, rfl, Nat.zero_le _, HB3.out, HW3.out⟩
      case round =>
        clear HB3 HW3 c3
        obtain ⟨wy, k, hwz, rfl, hk, hblk, hbe⟩ := hrel
        subst hwz
        have HBK : Hid (BlkB wy w.heap.size (markL ((c.wait.map (·.2.2)).take k) (markL (c.sure.map (·.2)) (List.replicate nf false)))) := hblk
        have HBE : Hid (Below w.heap.size w wy) := hbe
        have hraw := HRAW.out.below hbe
        have c4 := hraw.cells.2.2.2.2.1
        clear hblk hbe
        by_cases hlt : k < nw
        · have hii : (k : Int) < (nw : Int) := by omega
          have hil : k < c.wait.length := by rw [← HNW.out]; exact hlt
          have hrow := hraw.parts.2.2.2.1
          obtain ⟨a', cap', hv, -, -, hr⟩ := hrow.at
          cases hv
          obtain ⟨b, ha, -, hblt, -, -, hcell⟩ := hr k hil
          subst ha
          have hlt2 : (chgAt c.wait k).2.2 < nf := by
            rw [HNF.out]
            refine HI.out.2.1 _ ((taken_iff _ _).2 (.inr ⟨chgAt c.wait k, ?_, rfl⟩))
            unfold chgAt
            rw [List.getD_eq_getElem?_getD, List.getElem?_eq_getElem hil]
            exact List.getElem_mem hil
          have HSN : Hid (markL ((c.wait.map (·.2.2)).take (k + 1)) (markL (c.sure.map (·.2)) (List.replicate nf false)) = (markL ((c.wait.map (·.2.2)).take k) (markL (c.sure.map (·.2)) (List.replicate nf false))).set (chgAt c.wait k).2.2 true) := by
            unfold Hid
            rw [map_take_snoc c.wait (·.2.2) (ByteArray.empty, ByteArray.empty, 0) k hil, mark_snoc]
            rfl
          generalize (chgAt c.wait k).2.2 = n at *
          have hn2 : (n : Int) < (nf : Int) := by omega
          have hcl := HBK.out.cell n (by rw [mark_length, mark_length, List.length_replicate]; exact hlt2)
          have hfz := HBK.out.frozen n
          generalize (markL ((c.wait.map (·.2.2)).take k) (markL (c.sure.map (·.2)) (List.replicate nf false))).getD n false = x0 at hcl
          have HB4 : Hid (BlkB (wy.setCell ⟨w.heap.size, n, none⟩ (.bool true)) w.heap.size (markL ((c.wait.map (·.2.2)).take (k + 1)) (markL (c.sure.map (·.2)) (List.replicate nf false)))) := by unfold Hid; rw [HSN.out]; exact HBK.out.set n true
          have HW4 : Hid (Below w.heap.size w (wy.setCell ⟨w.heap.size, n, none⟩ (.bool true))) := Below.setCell HBE.out (Nat.le_refl _) _
          clear hraw hrow hr HSN HBK HBE hil
          go_wp2_with fail
          go_roundw
          case rel => exact ⟨_, k + 1, rfl, by go_num, by omega, HB4.out, HW4.out⟩
          case measure => simp [intOf]; omega
        · have hii : ¬ (k : Int) < (nw : Int) := by omega
          have hin : k = nw := by omega
          have HB4 : Hid (BlkB wy w.heap.size (takenL c)) := by
            have := HBK.out
            rw [List.take_of_length_le (by rw [List.length_map, hin, HNW.out]; exact Nat.le_refl _), HNF.out] at this
            exact this
          have HW4 : Hid (Below w.heap.size w wy) := HBE.out
          have c1 := hraw.cells.2.1
          have hrow := hraw.parts.1
          clear HBK HBE hin hlt hk
          go_wp2_with fail
          go_loop [6, 7] (fun sx ix => ∃ (i : Nat), sx = .int .i64 (sumC (c.files.take i) (takenC c) : Nat) ∧ ix = .int .i64 (i : Nat) ∧ i ≤ nf) (fun _ ix => nf - (intOf ix).toNat)
          case atStart => exact ⟨0, by rw [List.take_zero]; rfl, rfl, Nat.zero_le _⟩
          case round =>
            obtain ⟨j, rfl, rfl, hj⟩ := hrel
            by_cases hlt : j < nf
            · have hii : (j : Int) < (nf : Int) := by omega
              have hil : j < c.files.length := by rw [← HNF.out]; exact hlt
              obtain ⟨b, ha, -, hblt, hcell, -, -⟩ := hrow.at1 j hil
              subst ha
              have hcl := HB4.out.cell j (by rw [takenL_length]; exact hil)
              rw [takenL_get c j hil] at hcl
              have hcell' : wy.cell? ⟨b, j * 2, none⟩ = some (.string (fileC c j).1) := hcell
              have HST : Hid _ := sum_take c j hil
              have hs0 := sum_take_le c HI.out j (Nat.le_of_lt hil)
              have hs1 := sum_take_le c HI.out (j + 1) hil
              rw [← HNF.out] at hs0 hs1
              have hsz := (HI.out.2.2.1 j).2
              have hm : nf * 1048576 ≤ 1152921504606846976 := Nat.mul_le_mul_right 1048576 hnfb
              clear hcell
              cases ht : takenC c j with
              | true =>
                rw [ht] at hcl
                have HS2 : Hid (sumC (c.files.take (j + 1)) (takenC c) = sumC (c.files.take j) (takenC c) + (fileC c j).1.size) := by unfold Hid; rw [HST.out, ht]; rfl
                have hs3 : sumC (c.files.take j) (takenC c) ≤ 1152921504606846976 := Nat.le_trans hs0 hm
                clear hs0 hs1 hm HST ht
                generalize (fileC c j).1 = T at *
                generalize sumC (c.files.take j) (takenC c) = S at *
                go_wp2_with fail
                go_round
                case rel => exact ⟨j + 1, by rw [HS2.out]; go_num, by go_num, by omega⟩
                case measure => simp [intOf]; omega
              | false =>
                rw [ht] at hcl
                have HS2 : Hid (sumC (c.files.take (j + 1)) (takenC c) = sumC (c.files.take j) (takenC c)) := by unfold Hid; rw [HST.out, ht]; rfl
                clear hs0 hs1 hm HST ht
                generalize sumC (c.files.take j) (takenC c) = S at *
                go_wp2_with fail
                go_round
                case rel => exact ⟨j + 1, by rw [HS2.out], by go_num, by omega⟩
                case measure => simp [intOf]; omega
            · have hii : ¬ (j : Int) < (nf : Int) := by omega
              have HS2 : Hid (sumC (c.files.take j) (takenC c) = usedC c) := by
                unfold Hid usedC
                rw [List.take_of_length_le (by rw [← HNF.out]; omega)]
              go_wp2_with fail
              go_ret
              exact ⟨by rw [HS2.out]; rfl, HW4.out⟩
end Go.Proofs.Ytlhmeebbdjiokaa
