/-
  For any parts of 1048576 bytes together at most, what is written piece by piece into a Hash (of the first twelve parts) has the document's digest of the whole, and its length, at each moment, where the table of factors is as its text lays it; the input reads as it did.
-/
import Derived.Test.YtmaaakcfbekboaaDoorCards
import Derived.Test.YtmaaakcfbekboaaDoorTie
import Derived.Test.YtmaaakcfbekboaaDoorArgs
import Derived.Test.YtmaaakcfbekboaaDoorShaLaid
import Derived.Test.YtmaaakcfbekboaaDoorShaFlat
namespace Go.Proofs.YtmaaakcfbekboaaDoor.shaWritesUpto
open Go.ChangeShapes Go.WideShapes Go.ChangeAt Go.RowKit
set_option linter.unusedVariables false
set_option linter.unusedSimpArgs false
theorem parts_take {w : World} {a : Option Addr} {len : Nat} {ps : List (List Nat)} (h : PartsL w a len ps) (i : Nat) (hi : i ≤ len) : PartsL w a i (ps.take i) := by
  refine ⟨by rw [List.length_take, h.1]; omega, ?_⟩
  by_cases h0 : i = 0
  · exact .inl h0
  · rcases h.2 with h1 | ⟨b, off, ha, hlt, hc⟩
    · omega
    · refine .inr ⟨b, off, ha, hlt, fun j hj => ?_⟩
      obtain ⟨ai, li, ci, q1, q2, q3⟩ := hc j (by omega)
      refine ⟨ai, li, ci, q1, ?_, q3⟩
      have : (ps.take i).getD j [] = ps.getD j [] := by simp [List.getD, hj]
      rw [this]
      exact q2
set_option maxRecDepth 100000 in
set_option maxHeartbeats 8000000 in
theorem walk (w : World) (hT : Tab w) (a : Option Addr) (len cap : Nat) (ps : List (List Nat)) (hp : PArgL w a len cap ps) (hr : cap * 24 ≤ 140737488351232) (hbu : ps.flatten.length ≤ 1048576) :
    Calls Tryd.prog 4 #[.slice a len cap] w fun e w' => e = .returned (.bool true) ∧ Below w.heap.size w w' := by
  obtain ⟨hP, hB, hN, hl, hm⟩ := hp
  have HT : Hid (Tab w) := hT
  have HP : Hid (PartsL w a len ps) := hP
  have HB : Hid (∀ xs ∈ ps, ∀ j, xs.getD j 0 < 256) := hB
  have HPL : Hid (ps.length = len) := hP.1
  have HFL : Hid (ps.flatten.length ≤ 1048576) := hbu
  have hlc : (len : Int) ≤ (cap : Int) := by omega
  unfold maxLen at hm
  clear hT hP hB hN hbu
  go_enter Tryd.func4, Tryd.ntmps4
  go_wp2_with fail
  refine (new_any w).mono ?_
  rintro e w0 ⟨rfl, hw0⟩
  have HH0 : Hid (Hash w0 w.heap.size w.heap.size []) := by rw [hw0]; exact hash_new w _
  have HE0 : Hid (Below w.heap.size w w0) := by rw [hw0]; exact below_new w _
  clear hw0
  go_wp2_with fail
  go_loopw [4, 5] (fun nx ix wr => ∃ (wz : World) (i n : Nat), wz = wr ∧ i ≤ len ∧ i ≤ 12 ∧ ix = .int .i64 i ∧ nx = .int .i64 n ∧ n = (ps.take i).flatten.length ∧ Hash wz w.heap.size w.heap.size (ps.take i).flatten ∧ Below w.heap.size w wz) (fun _ ix _ => len - (intOf ix).toNat)
  case atStart => exact ⟨w0, 0, 0, rfl, Nat.zero_le _, Nat.zero_le _, rfl, rfl, rfl, HH0.out, HE0.out⟩
  case round =>
    clear HH0 HE0
    obtain ⟨wr, i, n, hwr, hi, hi12, rfl, rfl, hn, hH, hE⟩ := hrel
    subst hwr
    have HNN : Hid (n = (ps.take i).flatten.length) := hn
    have HH : Hid (Hash wr w.heap.size w.heap.size (ps.take i).flatten) := hH
    have HE : Hid (Below w.heap.size w wr) := hE
    have hnb : n ≤ 1048576 := by have := flat_le ps i; have := HFL.out; omega
    clear hn hH hE
    by_cases hlt : i < len ∧ i < 12
    · obtain ⟨hlt, hlt12⟩ := hlt
      have hii : (i : Int) < (len : Int) := by omega
      have hi2 : (i : Int) < 12 := by omega
      have hic : (i : Int) ≤ (cap : Int) := by omega
      obtain ⟨-, h0 | ⟨b, off, hae, hbl, hcs⟩⟩ := HP.out
      · omega
      subst hae
      obtain ⟨ai, li, ci, hc, hrow, hnil⟩ := hcs i hlt
      have HROW : Hid (RowL .u8 w ai li (ps.getD i []) ∧ (ai = none → li = 0 ∧ ci = 0)) := ⟨hrow, hnil⟩
      have HCL : Hid (b < w.heap.size ∧ w.cell? ⟨b, off + i, none⟩ = some (.slice ai li ci)) := ⟨hbl, hc⟩
      have hmem : ps.getD i [] ∈ ps := by
        have hil : i < ps.length := by rw [HPL.out]; exact hlt
        rw [List.getD_eq_getElem?_getD, List.getElem?_eq_getElem hil]
        exact List.getElem_mem _
      have HBY : Hid (∀ j, (ps.getD i []).getD j 0 < 256) := HB.out _ hmem
      have HNX : Hid ((ps.take (i + 1)).flatten = (ps.take i).flatten ++ ps.getD i []) := flat_take ps i (by rw [HPL.out]; exact hlt)
      have hfl := flat_le ps (i + 1)
      rw [HNX.out, List.length_append, hrow.1, ← HNN.out] at hfl
      have hfl2 : n + li ≤ 1048576 := by have := HFL.out; omega
      have HPT : Hid (PartsL w (some ⟨b, off, none⟩) i (ps.take i)) := parts_take HP.out i hi
      have HFB : Hid (∀ j, (ps.take i).flatten.getD j 0 < 256) := flat_bytes _ (fun xs hx => HB.out xs (List.mem_of_mem_take hx))
      clear hcs hrow hnil hc hbl hmem hfl
      obtain ⟨F, hF⟩ : ∃ F, F = (ps.take i).flatten := ⟨_, rfl⟩
      have HALL : Hid (∀ w2, Below w.heap.size w w2 → Calls Tryd.prog 10 #[.slice (some ⟨b, off, none⟩) i cap] w2 fun e w' => ∃ a' c, e = .returned (.slice a' n c) ∧ RowL .u8 w' a' n F ∧ (a' = none → n = 0 ∧ c = 0) ∧ Below w2.heap.size w2 w') := fun w2 h2 => by
        have := all_any (some ⟨b, off, none⟩) i cap (ps.take i) w2 (HPT.out.below h2) (by unfold maxLen; omega) (by have := HNN.out; omega)
        rw [← HNN.out, ← hF] at this
        exact this
      rw [← hF] at HH HFB HNX HNN
      obtain ⟨D, hD⟩ : ∃ D, D = shaN F := ⟨_, rfl⟩
      have HD : Hid (D = shaN F) := hD
      have HEQ : Hid _ := same_digest D (by rw [hD]; exact shaN_length _)
      clear hF hD
      obtain ⟨E, hEE⟩ : ∃ E, E = ps.getD i [] := ⟨_, rfl⟩
      rw [← hEE] at HNX HBY HROW
      clear hEE
      go_wp2_with fail
      refine wp_region_held_drew (S := fun w' => Hash w' w.heap.size w.heap.size F ∧ Below w.heap.size w w') (by kernel_rfl) ⟨HH.out.below ((Below.refl _ wr).drew), HE.out.drew⟩ (fun hHeld => ?_)
      clear HH HE
      refine held_take 0 (some 17) (.pointer (some ⟨w.heap.size, 0, none⟩)) rfl rfl (by kernel_rfl) (by kernel_rfl) (by kernel_rfl) (fun _ _ _ h => h) rfl (fun w' hS => ?_) hHeld ?_
      · clear hS; go_simp
      try simp only [Act.put, List.setIfInBounds_toArray, List.set_cons_zero, List.set_cons_succ]
      refine held_take 2 (some 19) (.slice (some ⟨b, off, none⟩) len cap) rfl rfl (by kernel_rfl) (by kernel_rfl) (by kernel_rfl) (fun _ _ _ h => h) rfl (fun w' hS => ?_) hHeld ?_
      · clear hS; go_simp
      try simp only [Act.put, List.setIfInBounds_toArray, List.set_cons_zero, List.set_cons_succ]
      refine held_take 3 (some 20) (.int .i64 i) rfl rfl (by kernel_rfl) (by kernel_rfl) (by kernel_rfl) (fun _ _ _ h => h) rfl (fun w' hS => ?_) hHeld ?_
      · clear hS; go_simp
      try simp only [Act.put, List.setIfInBounds_toArray, List.set_cons_zero, List.set_cons_succ]
      refine held_take 4 (some 21) (.slice (some ⟨b, off, none⟩) i cap) rfl rfl (by kernel_rfl) (by kernel_rfl) (by kernel_rfl) (fun _ _ _ h => h) rfl (fun w' hS => ?_) hHeld ?_
      · clear hS; go_simp
      try simp only [Act.put, List.setIfInBounds_toArray, List.set_cons_zero, List.set_cons_succ]
      refine held_one (i := 1) (by kernel_rfl) rfl rfl (fun K hK => ?_)
      go_simp
      refine (hsum_any _ w.heap.size w.heap.size F hHeld.1 (HT.out.below hHeld.2 HT.out.1) (by have := HNN.out; omega)).mono ?_
      rintro e w2 ⟨rfl, hb2⟩
      rw [← HD.out]
      dsimp only
      have hHeld2 : Hash w2 w.heap.size w.heap.size F ∧ Below w.heap.size w w2 := ⟨hHeld.1.below hb2, hHeld.2.trans (hb2.mono hHeld.2.size)⟩
      refine hK.out _ _ hHeld2 ?_
      clear hK K hb2 hHeld
      try simp only [Act.put, List.setIfInBounds_toArray, List.set_cons_zero, List.set_cons_succ]
      refine held_one (i := 5) (by kernel_rfl) rfl rfl (fun K hK => ?_)
      go_simp
      refine Calls.mono (HALL.out w2 hHeld2.2) ?_
      rintro e w3 ⟨a3, c3, rfl, hr3, hn3, hb3⟩
      dsimp only
      have hHeld3 : Hash w3 w.heap.size w.heap.size F ∧ Below w.heap.size w w3 := ⟨hHeld2.1.below hb3, hHeld2.2.trans (hb3.mono hHeld2.2.size)⟩
      refine hK.out _ _ hHeld3 ?_
      clear hK K hb3 hHeld2
      try simp only [Act.put, List.setIfInBounds_toArray, List.set_cons_zero, List.set_cons_succ]
      refine held_one (i := 6) (by kernel_rfl) rfl rfl (fun K hK => ?_)
      go_simp
      refine (rsum_any a3 n c3 F w3 hr3 HFB.out hn3 (by omega)).mono ?_
      rintro e w4 ⟨rfl, hb4⟩
      rw [← HD.out]
      dsimp only
      have hHeld4 : Hash w4 w.heap.size w.heap.size F ∧ Below w.heap.size w w4 := ⟨hHeld3.1.below hb4, hHeld3.2.trans (hb4.mono hHeld3.2.size)⟩
      refine hK.out _ _ hHeld4 ?_
      clear hK K hb4 hHeld3 hr3 hn3
      try simp only [Act.put, List.setIfInBounds_toArray, List.set_cons_zero, List.set_cons_succ]
      refine held_take 7 (some 24) (.bool false) rfl rfl (by kernel_rfl) (by kernel_rfl) (by kernel_rfl) (fun _ _ _ h => h) rfl (fun w' hS => ?_) hHeld4 ?_
      · clear hS; have heq := HEQ.out; go_simp
      try simp only [Act.put, List.setIfInBounds_toArray, List.set_cons_zero, List.set_cons_succ]
      refine held_take 8 (some 25) (.bool false) rfl rfl (by kernel_rfl) (by kernel_rfl) (by kernel_rfl) (fun _ _ _ h => h) rfl (fun w' hS => ?_) hHeld4 ?_
      · clear hS; go_simp
      try simp only [Act.put, List.setIfInBounds_toArray, List.set_cons_zero, List.set_cons_succ]
      refine held_take 9 (some 26) (.pointer (some ⟨w.heap.size, 0, none⟩)) rfl rfl (by kernel_rfl) (by kernel_rfl) (by kernel_rfl) (fun _ _ _ h => h) rfl (fun w' hS => ?_) hHeld4 ?_
      · clear hS; go_simp
      try simp only [Act.put, List.setIfInBounds_toArray, List.set_cons_zero, List.set_cons_succ]
      refine held_take 11 (some 28) (.int .i64 n) rfl rfl (by kernel_rfl) (by kernel_rfl) (by kernel_rfl) (fun _ _ _ h => h) rfl (fun w' hS => ?_) hHeld4 ?_
      · clear hS; go_simp
      try simp only [Act.put, List.setIfInBounds_toArray, List.set_cons_zero, List.set_cons_succ]
      refine held_one (i := 10) (by kernel_rfl) rfl rfl (fun K hK => ?_)
      go_simp
      refine (len_any _ w.heap.size w.heap.size F hHeld4.1).mono ?_
      rintro e w5 ⟨rfl, rfl⟩
      rw [← HNN.out]
      dsimp only
      refine hK.out _ _ hHeld4 ?_
      clear hK K
      try simp only [Act.put, List.setIfInBounds_toArray, List.set_cons_zero, List.set_cons_succ]
      refine held_take 12 (some 29) (.bool false) rfl rfl (by kernel_rfl) (by kernel_rfl) (by kernel_rfl) (fun _ _ _ h => h) rfl (fun w' hS => ?_) hHeld4 ?_
      · clear hS; go_simp
      try simp only [Act.put, List.setIfInBounds_toArray, List.set_cons_zero, List.set_cons_succ]
      refine held_take 13 (some 30) (.bool false) rfl rfl (by kernel_rfl) (by kernel_rfl) (by kernel_rfl) (fun _ _ _ h => h) rfl (fun w' hS => ?_) hHeld4 ?_
      · clear hS; go_simp
      try simp only [Act.put, List.setIfInBounds_toArray, List.set_cons_zero, List.set_cons_succ]
      refine wpAnyH_done (by kernel_rfl) ?_ _
      have HH4 : Hid (Hash w5 w.heap.size w.heap.size F) := hHeld4.1
      have HE4 : Hid (Below w.heap.size w w5) := hHeld4.2
      clear hHeld4 HALL
      have hcr : (w5.alloc (.cells #[] 5)).cell? ⟨b, off + i, none⟩ = some (.slice ai li ci) := ((Below.alloc HE4.out HE4.out.size _).cell (p := ⟨b, off + i, none⟩) HCL.out.1).trans HCL.out.2
      have HO : Hid (OwnL 5 .u8 (w5.alloc (.cells #[] 5)) w5.heap.size (.slice (some ⟨w5.heap.size, 0, none⟩) 0 0) []) := OwnL.empty _ _ w5 _ (Nat.le_refl _)
      have HR2 : Hid (RowL .u8 (w5.alloc (.cells #[] 5)) ai li E) := HROW.out.1.below (Below.alloc HE4.out HE4.out.size _)
      have hsza : w5.heap.size ≤ (w5.alloc (.cells #[] 5)).heap.size := by simp
      go_wp2_with (first
        | (at_builtin; (refine append_nums numT8 _ rfl (.tmp 32) (.tmp 36) rfl w5.heap.size (.slice (some ⟨w5.heap.size, 0, none⟩) 0 0) [] E rfl HO.out ai li ci rfl HR2.out HROW.out.2 (by simp; omega) (by simp; unfold maxLen; omega) hsza ?_; intro v6 w6 hown6 hb6)))
      rw [List.nil_append] at hown6
      obtain ⟨a6, c6, hv6, hr6, hn6, -, -, -⟩ := hown6.form2
      have hEl : E.length = li := HROW.out.1.1
      rw [hEl] at hv6 hr6 hn6
      subst hv6
      have hb56 : Below w5.heap.size w5 w6 := (below_new w5 _).trans hb6
      have HE6 : Hid (Below w.heap.size w w6) := HE4.out.trans (hb56.mono HE4.out.size)
      have HW : Hid _ := write_any w6 w.heap.size w.heap.size F (HH4.out.below hb56) (HT.out.below HE6.out HT.out.1) HT.out.1 HE6.out.size a6 li c6 E hr6 HBY.out hn6 (by omega) (by have := HNN.out; omega)
      rw [← HNX.out] at HW
      clear hown6 hr6 hn6 hb6 hb56 HO HR2 hsza hcr HH4 HE4
      go_wp2_with fail
      refine Calls.mono HW.out ?_
      rintro e w7 ⟨rfl, hH7, hA7⟩
      have HH7 : Hid (Hash w7 w.heap.size w.heap.size (ps.take (i + 1)).flatten) := hH7
      have HE7 : Hid (Below w.heap.size w w7) := HE6.out.trans (hA7.below (Nat.le_refl _) HE6.out.size)
      have hcr : w7.cell? ⟨b, off + i, none⟩ = some (.slice ai li ci) := (HE7.out.cell (p := ⟨b, off + i, none⟩) HCL.out.1).trans HCL.out.2
      have HN7 : Hid (n + li = (ps.take (i + 1)).flatten.length) := by unfold Hid; rw [HNX.out, List.length_append, hEl, ← HNN.out]
      clear hH7 hA7 HW HE6
      go_wp2_with fail
      go_roundw
      case rel => exact ⟨w7, i + 1, n + li, rfl, by omega, by omega, by go_num, by go_num, HN7.out, HH7.out, HE7.out⟩
      case measure => simp [intOf]; omega
    · have HT2 : Hid (Tab wr) := HT.out.below HE.out HT.out.1
      by_cases hil : i < len
      · have hii : (i : Int) < (len : Int) := by omega
        have hi2 : ¬ (i : Int) < 12 := by omega
        go_wp2_with fail
        refine (awake_true wr HT2.out).mono ?_
        rintro e w1 ⟨rfl, hb1⟩
        have HH1 : Hid (Hash w1 w.heap.size w.heap.size (ps.take i).flatten) := HH.out.below hb1
        have HE1 : Hid (Below w.heap.size w w1) := HE.out.trans (hb1.mono HE.out.size)
        clear hb1
        go_wp2_with fail
        refine (len_any _ w.heap.size w.heap.size (ps.take i).flatten HH1.out).mono ?_
        rintro e w2 ⟨rfl, rfl⟩
        rw [← HNN.out]
        go_wp2_with fail
        go_ret
        exact ⟨rfl, HE1.out⟩
      · have hii : ¬ (i : Int) < (len : Int) := by omega
        go_wp2_with fail
        refine (awake_true wr HT2.out).mono ?_
        rintro e w1 ⟨rfl, hb1⟩
        have HH1 : Hid (Hash w1 w.heap.size w.heap.size (ps.take i).flatten) := HH.out.below hb1
        have HE1 : Hid (Below w.heap.size w w1) := HE.out.trans (hb1.mono HE.out.size)
        clear hb1
        go_wp2_with fail
        refine (len_any _ w.heap.size w.heap.size (ps.take i).flatten HH1.out).mono ?_
        rintro e w2 ⟨rfl, rfl⟩
        rw [← HNN.out]
        go_wp2_with fail
        go_ret
        exact ⟨rfl, HE1.out⟩
theorem contract (H : Type) (enc : TypeId × Value → H) (W : World) (base : Nat) (args : Array Value) (ds gs : List (DataW H)) (before : List MemPlace)
    (hval : ∀ (j : Nat) t v, Tryd.f4.params[j]? = some t → args[j]? = some v → Value.okWide Tryd.prog W .any base t v)
    (hW : DataW.Whole enc Tryd.prog Tryd.f4.params.toList Rows.shaWritesSpec.vars false W args.toList ds gs before)
    (hk : Rows.uptoSmall H (ds ++ gs) = true)
    (hsz : (DataW.weightsEach Tryd.prog (Tryd.f4.params.toList ++ (Rows.OpenSpec.upto Rows.shaWritesSpec).bare.plain.varTypes Tryd.prog) (ds ++ gs)).all (· ≤ reachBytes) = true) (hL : laidMetH Tryd.prog Rows.shaWritesUptoRow.laid W) :
    Calls Tryd.prog 4 args W fun e W' => ∃ v, e = .returned v ∧ Rows.shaWritesSpec.post enc Tryd.prog Tryd.f4 false true false false W args v W' := by
  have hW' := hW
  obtain ⟨p, q, hA0, hV, rfl, hfz, hnd⟩ := hW
  have hA : DataW.TrodAll enc Tryd.prog W 0 (fun _ => true) true Tryd.f4.params.toList args.toList ds p := hA0
  rw [Tryd.params4] at hA hval hsz
  obtain ⟨v0, vs0, d0, ds0, p0, q0, hargs, rfl, rfl, h0, r0⟩ := trodAll_cons hA
  obtain ⟨rfl, rfl, rfl⟩ := trodAll_nil r0
  obtain rfl : args = #[v0] := by cases args; simp_all
  obtain ⟨rfl, rfl⟩ := trodVars_none hV
  have hbulk := of_decide_eq_true hk
  simp only [List.append_nil, Rows.uptoBulkAll] at hbulk
  obtain ⟨a0, len0, cap0, rfl⟩ := okWide_slice Tryd.underlying22 (hval 0 22 v0 rfl rfl)
  have k0 := h0
  have lt0 : ∀ x ∈ p0, x.block < W.heap.size := by obtain ⟨m, hm⟩ := k0; exact DataW.trod_lt m _ _ _ hm
  obtain ⟨ps0, w0, re0, bu0⟩ : ∃ ps, PArgL W a0 len0 cap0 ps ∧ cap0 * 24 ≤ 140737488351232 ∧ ps.flatten.length ≤ 1048576 := by
    obtain ⟨fuel, hf⟩ := h0
    rcases Deep.open_int_rows Tryd.underlying22 Tryd.underlying28 Tryd.underlying5 (by kernel_rfl) (by kernel_rfl) hf with ⟨hcs, _⟩ | ⟨x, l, c, A, L, C, Z, hcs, _, hl, hm, hx, hall⟩
    · simp [Value.cells] at hcs
      obtain ⟨rfl, rfl, rfl⟩ := hcs
      exact ⟨[], parg_nil W, by omega, by simp⟩
    · simp [Value.cells] at hcs
      obtain ⟨rfl, rfl, rfl⟩ := hcs
      have hd := congrArg Prod.fst hx
      simp only [] at hd
      have hb := sized_slice hsz (j := 0) (t := 22) (e := 28) rfl (by rw [hd]; rfl) Tryd.underlying22
      have hby : Tryd.prog.bytesOf 28 = 24 := by kernel_rfl
      rw [hby] at hb
      simp only [List.length_map, List.length_range, reachBytes] at hb
      have hbr := bulk_rows (fun r => Deep.intRow .u8 (A r) (L r) (Z r) (H := H)) (fun r => toN (Z r) (L r)) len0 (fun r hr => bulk_row .u8 (A r) (L r) (Z r) (fun h => .inr (List.eq_nil_of_length_eq_zero (by obtain ⟨-, -, -, q4, -, q6, -⟩ := hall r (by omega); rw [q4, q6 h]))))
      exact ⟨_, parg_at hl hm hall, by omega, by rw [hd, Rows.uptoBulk] at hbulk; omega⟩
  clear hA0 hsz hbulk
  refine (walk W (table hL) a0 len0 cap0 ps0 w0 re0 bu0).mono fun e W' ⟨he, bel⟩ => ?_
  subst he
  exact ⟨_, rfl, _, _, _, [], _, [], hW', trodAll_mk1 (shut_bool Tryd.underlying4 _), (trodAll_cons_mk (Below.trod laidOut (by kernel_rfl) (of_decide_eq_true (by kernel_rfl)) k0 bel lt0) trodAll_mk0), rfl, bel.frame _, fun h => by cases h⟩
set_option maxRecDepth 100000 in
theorem lifted (os : Os) (started : os.Started) (H : Type) (enc : TypeId × Value → H) (I : Stop.Interp) :
    ReturnsInHanded {} Tryd.checked os 4 .any ((Rows.OpenSpec.upto Rows.shaWritesSpec).preRow enc Tryd.prog Tryd.f4 Rows.shaWritesUptoRow.domain false Rows.shaWritesUptoRow.laid) (((Rows.OpenSpec.upto Rows.shaWritesSpec).at I).post enc Tryd.prog Tryd.f4 false true false false) := by
  refine returnsInHanded_of_row (C := Tryd.checked) (s := (Rows.OpenSpec.upto Rows.shaWritesSpec)) own started (by kernel_rfl) Tryd.func4
    (witness_row_at (enc := enc) (C := Tryd.checked) false { World.holding Tryd.prog os ⟨#[], #[], []⟩ with heap := (World.holding Tryd.prog os ⟨#[], #[], []⟩).heap.modify 0 fun
        | .cells _ t frozen => .cells #[.int .u32 1116352408, .int .u32 1899447441, .int .u32 3049323471, .int .u32 3921009573, .int .u32 961987163, .int .u32 1508970993, .int .u32 2453635748, .int .u32 2870763221, .int .u32 3624381080, .int .u32 310598401, .int .u32 607225278, .int .u32 1426881987, .int .u32 1925078388, .int .u32 2162078206, .int .u32 2614888103, .int .u32 3248222580, .int .u32 3835390401, .int .u32 4022224774, .int .u32 264347078, .int .u32 604807628, .int .u32 770255983, .int .u32 1249150122, .int .u32 1555081692, .int .u32 1996064986, .int .u32 2554220882, .int .u32 2821834349, .int .u32 2952996808, .int .u32 3210313671, .int .u32 3336571891, .int .u32 3584528711, .int .u32 113926993, .int .u32 338241895, .int .u32 666307205, .int .u32 773529912, .int .u32 1294757372, .int .u32 1396182291, .int .u32 1695183700, .int .u32 1986661051, .int .u32 2177026350, .int .u32 2456956037, .int .u32 2730485921, .int .u32 2820302411, .int .u32 3259730800, .int .u32 3345764771, .int .u32 3516065817, .int .u32 3600352804, .int .u32 4094571909, .int .u32 275423344, .int .u32 430227734, .int .u32 506948616, .int .u32 659060556, .int .u32 883997877, .int .u32 958139571, .int .u32 1322822218, .int .u32 1537002063, .int .u32 1747873779, .int .u32 1955562222, .int .u32 2024104815, .int .u32 2227730452, .int .u32 2361852424, .int .u32 2428436474, .int .u32 2756734187, .int .u32 3204031479, .int .u32 3329325298] t frozen
        | o => o } #[.slice none 0 0] rfl (by kernel_rfl) (by kernel_rfl) (by kernel_rfl)
      (OpenSpec.preRow_of_cond 8 (x := ([.nil], [], [])) (by kernel_rfl) (by kernel_rfl) (fun k hk => by cases hk; kernel_rfl) (by kernel_rfl) (laidMet_of_run' 8 (by kernel_rfl) (by kernel_rfl)))) ?_
  intro W base args ds gs before hval hW _ hcond hsz hL _ _
  exact contract H enc W base args ds gs before hval hW (hcond _ rfl) hsz hL
theorem said : Rows.ShaWritesUptoSaid :=
  OpenClaim.holds_of_cond 4 Tryd.f4 rfl rfl rfl rfl rfl rfl rfl ⟨rfl, rfl, rfl, rfl, rfl⟩ rfl rfl rfl rfl rfl (by kernel_rfl) Tryd.func4 (by kernel_rfl)
    (of_decide_eq_true (by kernel_rfl)) (by unfold Func.isWrapper; first | (rw [if_pos (by decide +kernel)]; kernel_rfl) | (rw [if_neg (by decide +kernel)]; exact ⟨rfl, rfl⟩))
    (fun os started H enc _ I => by rw [OpenClaim.pre_eq_preRow]; exact lifted os started H enc I)
theorem plain (f : FuncId) (fn : Func) (hf : Tryd.pinned.checked.prog.funcNamed Rows.shaWritesUptoRow.func = some f) (hfn : Tryd.pinned.checked.prog.funcs[f]? = some fn) :
    false = Tryd.pinned.checked.prog.looks [] ∧ ∀ (j : Nat) t, fn.params[j]? = some t → Tryd.pinned.checked.prog.wantsStandIn t = false := by
  obtain rfl : f = 4 := Option.some.inj ((show Tryd.prog.funcNamed Rows.shaWritesUptoRow.func = some 4 by kernel_rfl).symm.trans hf) |>.symm
  obtain rfl : fn = Tryd.f4 := (Option.some.inj (Tryd.func4.symm.trans hfn)).symm
  refine ⟨by kernel_rfl, fun j t ht => ?_⟩
  rw [Tryd.params4] at ht
  have hm := Array.mem_of_getElem? ht
  simp only [List.mem_toArray, List.mem_cons, List.not_mem_nil, or_false] at hm
  subst hm
  · exact (show Tryd.prog.wantsStandIn 22 = false by kernel_rfl)
theorem card : Rows.ShaWritesUptoCardSaid :=
  Claim7.holds_tied_plain_at .later [] _ _ _ _ said (fun _ h => by cases h) (by kernel_rfl) (fun _ h => by cases h) shaWritesUpto_row_tie rfl ⟨rfl, rfl⟩ (by kernel_rfl) rfl plain (by kernel_rfl)
#print axioms card
end Go.Proofs.YtmaaakcfbekboaaDoor.shaWritesUpto
