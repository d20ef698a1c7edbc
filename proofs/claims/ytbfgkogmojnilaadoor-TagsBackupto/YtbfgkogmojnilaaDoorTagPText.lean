/-
  The program's Text, as the document's answer.
-/
import Derived.Test.YtbfgkogmojnilaaDoorTagPSound
import Derived.Test.YtbfgkogmojnilaaDoorTagLaws
import Derived.Test.YtbfgkogmojnilaaDoorLabelPEsc
import Derived.Lib.Join
import Derived.Laws.MakeOwn
import Derived.Laws.CopyOwn
namespace Go.Proofs.YtbfgkogmojnilaaDoor
open Go.ChangeShapes Go.WideShapes Go.ChangeAt Go.RowKit
set_option linter.unusedVariables false
set_option linter.unusedSimpArgs false
def pairS (t : ByteArray × ByteArray) : ByteArray := strN (pairT t)
theorem strT : (Tryd.prog.info? 9).map (fun i => (i.zero, i.size, i.bytes)) = some (some (.string ByteArray.empty), 1, 16) := by kernel_rfl
theorem make_strs (w : World) {ops : Array Oper} {rest : List Oper} {o : Oper} {a : Act} {Q : Exit → Act → World → Prop} (hg : o.guard = none) (l c : Operand) (hop : o.op = Op.makeSlice 44 l c) (n : Nat) (hl : a.eval l = .int .i64 (n : Int)) (hc : a.eval c = .int .i64 (n : Int)) (hn : n ≤ 8)
    (hK : ∀ cur : Array Value, cur.size = n → wpList Tryd.prog ops Q rest (a.put o.dst (.slice (some ⟨w.heap.size, 0, none⟩) n n)) (w.alloc (.cells cur 9))) :
    wpList Tryd.prog ops Q (o :: rest) a w := by
  obtain ⟨i, hi, hzz⟩ := Option.map_eq_some_iff.1 strT
  simp only [Prod.mk.injEq] at hzz
  obtain ⟨hz, hs, hb⟩ := hzz
  refine wpList_plain hg fun K hK' => ?_
  have hrun := run_make (P := Tryd.prog) w 44 9 i _ Tryd.underlying44 hi hz .i64 .i64 n n (by omega) (Int.le_refl _) (by rw [hb]; omega) (by omega)
  unfold Oper.wp
  simp only [execOp, hop, hl, hc, hrun, Sem.run_bind, Result.andThen_ok, Int.toNat_natCast]
  refine hK' _ _ (hK _ ?_)
  rw [size_madeCells, hs, Nat.mul_one]
theorem join_lib : ∀ ts : List (ByteArray × ByteArray), Lib.join (ts.map fun t => (pairS t).data.toList) [38] = (joinT ts).map UInt8.ofNat
  | [] => rfl
  | [t] => by rw [joinT]; simp [Lib.join, List.intercalate, pairS, strN]
  | t :: u :: ts => by
    have ih := join_lib (u :: ts)
    have e : ∀ (x y : List UInt8) (r : List (List UInt8)), Lib.join (x :: y :: r) [38] = x ++ [38] ++ Lib.join (y :: r) [38] := by
      intro x y r
      rw [Lib.join_cons, Lib.join_cons]
      unfold Lib.joinTail
      simp
    show Lib.join ((pairS t).data.toList :: (pairS u).data.toList :: List.map (fun t => (pairS t).data.toList) ts) [38] = _
    rw [e, show (pairS u).data.toList :: List.map (fun t => (pairS t).data.toList) ts = List.map (fun t => (pairS t).data.toList) (u :: ts) from rfl, ih, joinT, List.map_append, List.map_append]
    simp [pairS, strN]
/-- The texts of the first ones lie in a row. -/
def DoneAt (w : World) (g n i : Nat) (ts : List (ByteArray × ByteArray)) : Prop := ∃ cur : Array Value, w.heap[g]? = some (.cells cur 9 (0, 0)) ∧ cur.size = n ∧ ∀ j, j < i → cur[j]? = some (.string (pairS (tagAt ts j)))
theorem DoneAt.below {w w' : World} {g n i : Nat} {ts : List (ByteArray × ByteArray)} (h : DoneAt w g n i ts) (hb : Below w.heap.size w w') : DoneAt w' g n i ts := by
  obtain ⟨cur, h1, h2, h3⟩ := h
  exact ⟨cur, (hb.block g (Array.getElem?_eq_some_iff.1 h1).1).trans h1, h2, h3⟩
theorem DoneAt.lt {w : World} {g n i : Nat} {ts : List (ByteArray × ByteArray)} (h : DoneAt w g n i ts) : g < w.heap.size := by
  obtain ⟨cur, h1, h2, h3⟩ := h
  exact (Array.getElem?_eq_some_iff.1 h1).1
theorem DoneAt.set {w : World} {g n i : Nat} {ts : List (ByteArray × ByteArray)} (h : DoneAt w g n i ts) (hi : i < n) : (w.cell? ⟨g, i, none⟩).isSome = true ∧ w.frozen? ⟨g, i, none⟩ = false ∧ DoneAt (w.setCell ⟨g, i, none⟩ (.string (pairS (tagAt ts i)))) g n (i + 1) ts := by
  obtain ⟨cur, h1, h2, h3⟩ := h
  refine ⟨by simp [World.cell?, h1, h2, hi], by simp [World.frozen?, h1], cur.setIfInBounds i (.string (pairS (tagAt ts i))), ?_, by rw [Array.size_setIfInBounds, h2], fun j hj => ?_⟩
  · rw [setCell_eq_setRow w g i cur 9 (0, 0) _ h1]
    exact setRow_heap w g cur _ 9 (0, 0) h1
  · rw [Array.getElem?_setIfInBounds]
    by_cases e : i = j
    · subst e
      rw [if_pos rfl, if_pos (by omega)]
    · rw [if_neg e]
      exact h3 j (by omega)
theorem below_set {B g i : Nat} {w w' : World} {v : Value} (h : Below B w w') (hg : B ≤ g) : Below B w (w'.setCell ⟨g, i, none⟩ v) := by
  refine h.trans ⟨rfl, rfl, rfl, by simp [World.setCell], fun k hk => ?_⟩
  have : g ≠ k := by omega
  simp [World.setCell, Array.getElem?_modify, this]
set_option maxRecDepth 100000 in
set_option maxHeartbeats 8000000 in
theorem ttext_any (a : Option Addr) (len cap : Nat) (ts : List (ByteArray × ByteArray)) (w : World) (hT : Tab6 w) (ht : RowT w a ts) (hl : ts.length = len) (hlb : len ≤ 9223372036854775806) :
    Calls Tryd.prog 13 #[.slice a len cap] w fun e w' => e = .returned (textR ts) ∧ Below w.heap.size w w' := by
  have HSO : Hid _ := tsound_any a len cap ts w hT ht hl hlb
  have HR : Hid (RowT w a ts) := ht
  have HL : Hid (ts.length = len) := hl
  clear ht hl hT
  cases hs : soundB ts with
  | false =>
    have HS2 : Hid (textR ts = .tuple #[.string (ByteArray.mk #[]), .int .i64 2]) := by unfold Hid textR; rw [hs]; rfl
    rw [hs] at HSO
    clear hs
    go_enter Tryd.func13, Tryd.ntmps13
    go_wp2_with fail
    refine Calls.mono HSO.out ?_
    rintro _ w1 ⟨rfl, hw⟩
    have HB1 : Hid (Below w.heap.size w w1) := hw
    clear hw HSO
    go_wp2_with fail
    go_ret2
    exact ⟨by rw [HS2.out]; rfl, HB1.out⟩
  | true =>
    have HS2 : Hid (textR ts = .tuple #[.string (strN (joinT ts)), .int .i64 0]) := by unfold Hid textR; rw [hs]; rfl
    obtain ⟨h8, hok⟩ := sound_parts hs
    have HOK : Hid (∀ i, i < ts.length → tagOK (tagAt ts i) = true) := hok
    have hlen8 : len ≤ 8 := by have := HL.out; omega
    rw [hs] at HSO
    clear hs h8 hok
    go_enter Tryd.func13, Tryd.ntmps13
    go_wp2_with fail
    refine Calls.mono HSO.out ?_
    rintro _ w1 ⟨rfl, hw⟩
    have HB1 : Hid (Below w.heap.size w w1) := hw
    have hsz1 := hw.size
    clear hw HSO
    go_wp2_with (refine make_strs w1 rfl _ _ rfl len rfl rfl hlen8 ?_; intro cur hcur)
    have HD0 : Hid (DoneAt (w1.alloc (.cells cur 9)) w1.heap.size len 0 ts) := ⟨cur, heap_alloc_last w1 _, hcur, fun j hj => absurd hj (Nat.not_lt_zero _)⟩
    have HB2 : Hid (Below w.heap.size w (w1.alloc (.cells cur 9))) := HB1.out.trans ((below_new w1 _).mono hsz1)
    generalize w1.alloc (.cells cur 9) = w2 at *
    have HGG : Hid (w.heap.size ≤ w1.heap.size) := hsz1
    generalize hgg : w1.heap.size = g at *
    clear hgg hcur cur HB1 w1
    go_wp2_with fail
    go_loopw [15] (fun ix wr => ∃ (wz : World) (i : Nat), wz = wr ∧ i ≤ len ∧ ix = .int .i64 i ∧ DoneAt wz g len i ts ∧ Below w.heap.size w wz) (fun ix _ => len - (intOf ix).toNat)
    case atStart => exact ⟨_, 0, rfl, Nat.zero_le _, rfl, HD0.out, HB2.out⟩
    case round =>
      clear HD0 HB2
      obtain ⟨wr, i, hwr, hi, rfl, hd, hbw⟩ := hrel
      subst hwr
      have HD : Hid (DoneAt wr g len i ts) := hd
      have HBW : Hid (Below w.heap.size w wr) := hbw
      have HR2 := HR.out.below hbw
      have hgw := hd.lt
      clear hd hbw
      by_cases hlt : i < len
      · have hii : (i : Int) < (len : Int) := by omega
        have hil : i < ts.length := by rw [HL.out]; exact hlt
        obtain ⟨z0, z1, z2⟩ := ok_sizes (HOK.out i hil)
        rcases HR2 with h0 | ⟨b, off, ha, hblt, hc⟩
        · omega
        · subst ha
          obtain ⟨c0, c1⟩ := hc i hil
          have HPS : Hid (pairS (tagAt ts i) = escS (tagAt ts i).1 ++ ByteArray.mk #[61] ++ escS (tagAt ts i).2) := by
            unfold Hid pairS pairT
            rw [strN_append, strN_append]
            rfl
          obtain ⟨TT, hTT⟩ : ∃ TT, TT = tagAt ts i := ⟨_, rfl⟩
          have HTT : Hid (TT = tagAt ts i) := hTT
          rw [← hTT] at c0 c1 z0 z1 z2 HPS
          clear hTT
          obtain ⟨n1, n2⟩ := TT
          simp only [] at c0 c1 z0 z1 z2 HPS
          have e1l := esc_len (txt n1)
          have e2l := esc_len (txt n2)
          rw [txt_length] at e1l e2l
          have hE1s : (escS n1).size ≤ 192 := by unfold escS; rw [strN_size]; omega
          have hE2s : (escS n2).size ≤ 192 := by unfold escS; rw [strN_size]; omega
          have HQ : Hid (∀ (n : ByteArray) (W : World), n.size ≤ 64 → Calls Tryd.prog 26 #[.string n] W fun e w' => e = .returned (.string (escS n)) ∧ Below W.heap.size W w') := fun n W hn => esc_any n W (by omega)
          have h61 : (ByteArray.mk #[61]).size = 1 := rfl
          obtain ⟨P1, hP1⟩ : ∃ P, escS n1 ++ ByteArray.mk #[61] = P := ⟨_, rfl⟩
          have hP1s : P1.size ≤ 193 := by rw [← hP1, ByteArray.size_append, h61]; omega
          obtain ⟨P2, hP2⟩ : ∃ P, P1 ++ escS n2 = P := ⟨_, rfl⟩
          have a1 := add_run (A := escS n1) (B := ByteArray.mk #[61]) (C := P1) (by rw [h61]; omega) hP1
          have a2 := add_run (A := P1) (B := escS n2) (C := P2) (by omega) hP2
          have HPT : Hid (pairS (n1, n2) = P2) := by unfold Hid; rw [HPS.out, hP1, hP2]
          have hbn := below_new wr (.cells #[.string n1, .string n2] 40)
          have q0 : (wr.alloc (.cells #[.string n1, .string n2] 40)).cell? ⟨wr.heap.size, 0, none⟩ = some (.string n1) := by rw [cell_of_row _ wr.heap.size _ _ _ _ (heap_alloc_last wr _)]; rfl
          have q1 : (wr.alloc (.cells #[.string n1, .string n2] 40)).cell? ⟨wr.heap.size, 1, none⟩ = some (.string n2) := by rw [cell_of_row _ wr.heap.size _ _ _ _ (heap_alloc_last wr _)]; rfl
          have q2 : wr.heap.size < (wr.alloc (.cells #[.string n1, .string n2] 40)).heap.size := by simp
          have HD2 : Hid (DoneAt (wr.alloc (.cells #[.string n1, .string n2] 40)) g len i ts) := HD.out.below hbn
          have HBW2 : Hid (Below w.heap.size w (wr.alloc (.cells #[.string n1, .string n2] 40))) := HBW.out.trans (hbn.mono HBW.out.size)
          clear hc hP1 hP2 h61 e1l e2l HPS hbn HD
          go_wp2_with fail
          generalize wr.alloc (.cells #[.string n1, .string n2] 40) = w0 at *
          obtain ⟨B, hB⟩ : ∃ B, B = wr.heap.size := ⟨_, rfl⟩
          rw [← hB] at q0 q1 q2 hgw ⊢
          clear hB
          refine wp_region_held_drew (S := fun w' => w'.cell? ⟨B, 0, none⟩ = some (.string n1) ∧ w'.cell? ⟨B, 1, none⟩ = some (.string n2)) (by kernel_rfl) (⟨q0, q1⟩) (fun hHeld => ?_)
          refine held_take 0 (some 20) (.slice (some ⟨g, 0, none⟩) len len) rfl rfl (by kernel_rfl) (by kernel_rfl) (by kernel_rfl) (fun _ _ _ h => h) rfl (fun w' hS => ?_) hHeld ?_
          · clear hS; go_simp
          try simp only [Act.put, List.setIfInBounds_toArray, List.set_cons_zero, List.set_cons_succ]
          refine held_take 1 (some 21) (.int .i64 (i : Nat)) rfl rfl (by kernel_rfl) (by kernel_rfl) (by kernel_rfl) (fun _ _ _ h => h) rfl (fun w' hS => ?_) hHeld ?_
          · clear hS; go_simp
          try simp only [Act.put, List.setIfInBounds_toArray, List.set_cons_zero, List.set_cons_succ]
          refine held_take 2 (some 22) (.pointer (some ⟨B, 0, none⟩)) rfl rfl (by kernel_rfl) (by kernel_rfl) (by kernel_rfl) (fun _ _ _ h => h) rfl (fun w' hS => ?_) hHeld ?_
          · clear hS; go_simp
          try simp only [Act.put, List.setIfInBounds_toArray, List.set_cons_zero, List.set_cons_succ]
          refine held_take 3 (some 23) (.string n1) rfl rfl (by kernel_rfl) (by kernel_rfl) (by kernel_rfl) (fun _ _ _ h => h) rfl (fun w' hS => ?_) hHeld ?_
          · have hc := hS.1; clear hS; go_simp
          try simp only [Act.put, List.setIfInBounds_toArray, List.set_cons_zero, List.set_cons_succ]
          refine held_take 6 (some 26) (.pointer (some ⟨B, 1, none⟩)) rfl rfl (by kernel_rfl) (by kernel_rfl) (by kernel_rfl) (fun _ _ _ h => h) rfl (fun w' hS => ?_) hHeld ?_
          · clear hS; go_simp
          try simp only [Act.put, List.setIfInBounds_toArray, List.set_cons_zero, List.set_cons_succ]
          refine held_take 7 (some 27) (.string n2) rfl rfl (by kernel_rfl) (by kernel_rfl) (by kernel_rfl) (fun _ _ _ h => h) rfl (fun w' hS => ?_) hHeld ?_
          · have hc := hS.2; clear hS; go_simp
          try simp only [Act.put, List.setIfInBounds_toArray, List.set_cons_zero, List.set_cons_succ]
          refine held_one (i := 4) (by kernel_rfl) rfl rfl (fun K hK => ?_)
          go_simp
          refine Calls.mono (HQ.out n1 _ (by omega)) ?_
          rintro _ v1 ⟨rfl, hb1⟩
          dsimp only
          have hH1 : v1.cell? ⟨B, 0, none⟩ = some (.string n1) ∧ v1.cell? ⟨B, 1, none⟩ = some (.string n2) := ⟨(hb1.cell (p := ⟨B, 0, none⟩) q2).trans q0, (hb1.cell (p := ⟨B, 1, none⟩) q2).trans q1⟩
          have hbd : Below w0.heap.size w0 v1 := ((Below.refl w0.heap.size w0).drew).trans hb1
          have HD3 : Hid (DoneAt v1 g len i ts) := HD2.out.below hbd
          have HB3 : Hid (Below w.heap.size w v1) := HBW2.out.trans (hbd.mono HBW2.out.size)
          have hq3 : B < v1.heap.size := Nat.lt_of_lt_of_le q2 hb1.size
          refine hK.out _ _ hH1 ?_
          clear hK K hb1 hbd
          try simp only [Act.put, List.setIfInBounds_toArray, List.set_cons_zero, List.set_cons_succ]
          refine held_take 5 (some 25) (.string P1) rfl rfl (by kernel_rfl) (by kernel_rfl) (by kernel_rfl) (fun _ _ _ h => h) rfl (fun w' hS => ?_) hH1 ?_
          · clear hS; go_simp
          try simp only [Act.put, List.setIfInBounds_toArray, List.set_cons_zero, List.set_cons_succ]
          refine held_one (i := 8) (by kernel_rfl) rfl rfl (fun K hK => ?_)
          go_simp
          refine Calls.mono (HQ.out n2 _ (by omega)) ?_
          rintro _ v2 ⟨rfl, hb2⟩
          dsimp only
          have hH2 : v2.cell? ⟨B, 0, none⟩ = some (.string n1) ∧ v2.cell? ⟨B, 1, none⟩ = some (.string n2) := ⟨(hb2.cell (p := ⟨B, 0, none⟩) hq3).trans hH1.1, (hb2.cell (p := ⟨B, 1, none⟩) hq3).trans hH1.2⟩
          have HD4 : Hid (DoneAt v2 g len i ts) := HD3.out.below hb2
          have HB4 : Hid (Below w.heap.size w v2) := HB3.out.trans (hb2.mono HB3.out.size)
          refine hK.out _ _ hH2 ?_
          clear hK K hb2
          try simp only [Act.put, List.setIfInBounds_toArray, List.set_cons_zero, List.set_cons_succ]
          refine held_take 9 (some 29) (.string P2) rfl rfl (by kernel_rfl) (by kernel_rfl) (by kernel_rfl) (fun _ _ _ h => h) rfl (fun w' hS => ?_) hH2 ?_
          · clear hS; go_simp
          try simp only [Act.put, List.setIfInBounds_toArray, List.set_cons_zero, List.set_cons_succ]
          refine held_take 10 (some 30) (.pointer (some ⟨g, i, none⟩)) rfl rfl (by kernel_rfl) (by kernel_rfl) (by kernel_rfl) (fun _ _ _ h => h) rfl (fun w' hS => ?_) hH2 ?_
          · clear hS; go_simp
          try simp only [Act.put, List.setIfInBounds_toArray, List.set_cons_zero, List.set_cons_succ]
          obtain ⟨s1, s2, s3⟩ := HD4.out.set hlt
          rw [← HTT.out, HPT.out] at s3
          have HD5 : Hid (DoneAt (v2.setCell ⟨g, i, none⟩ (.string P2)) g len (i + 1) ts) := s3
          have HB5 : Hid (Below w.heap.size w (v2.setCell ⟨g, i, none⟩ (.string P2))) := below_set HB4.out HGG.out
          have hH3 : (v2.setCell ⟨g, i, none⟩ (.string P2)).cell? ⟨B, 0, none⟩ = some (.string n1) ∧ (v2.setCell ⟨g, i, none⟩ (.string P2)).cell? ⟨B, 1, none⟩ = some (.string n2) := by
            constructor
            · rw [World.cell?_setCell_other _ _ _ _ (by simp <;> omega)]; exact hH2.1
            · rw [World.cell?_setCell_other _ _ _ _ (by simp <;> omega)]; exact hH2.2
          refine held_one (i := 11) (by kernel_rfl) rfl rfl (fun K hK => ?_)
          clear s3
          obtain ⟨s0, s1⟩ := Option.isSome_iff_exists.1 s1
          go_simp
          refine hK.out _ _ hH3 ?_
          clear hK K hHeld
          refine wpAnyH_done (by kernel_rfl) ?_ _
          go_simp
          generalize v2.setCell ⟨g, i, none⟩ (.string P2) = v3 at *
          go_wp2_with fail
          go_roundw
          case rel => exact ⟨_, i + 1, rfl, by omega, by go_num, HD5.out, HB5.out⟩
          case measure => simp [intOf]; omega
      · have hii : ¬ (i : Int) < (len : Int) := by omega
        have hi2 : i = len := by omega
        obtain ⟨cur, d1, d2, d3⟩ := HD.out
        have HJ : Hid (Calls Tryd.prog 27 #[.slice (some ⟨g, 0, none⟩) len len, .string (ByteArray.mk #[38])] wr fun e w' => e = .returned (.string (strN (joinT ts))) ∧ Below wr.heap.size wr w') := by
          have hjl := join_len ts HOK.out ts.length (Nat.le_refl _)
          rw [List.take_length] at hjl
          by_cases h0 : len = 0
          · have hnil := List.eq_nil_of_length_eq_zero (HL.out.trans h0)
            subst h0
            refine (Tryd.strings_Join_none (some ⟨g, 0, none⟩) 0 (ByteArray.mk #[38]) wr).mono fun e w' ⟨h1, h2⟩ => ⟨?_, by rw [h2]; exact Below.refl _ _⟩
            rw [h1, hnil]
            rfl
          · have hml : (ts.map pairS).length = len := by rw [List.length_map]; exact HL.out
            have hjl2 := join_lib ts
            have hmm : (ts.map pairS).map (·.data.toList) = ts.map fun t => (pairS t).data.toList := by rw [List.map_map]; rfl
            have := Tryd.strings_Join g 0 len (ts.map pairS) (ByteArray.mk #[38]) wr (fun j x hx => by
              rw [List.getElem?_map] at hx
              obtain ⟨t, ht, rfl⟩ := Option.map_eq_some_iff.1 hx
              have hj : j < ts.length := (List.getElem?_eq_some_iff.1 ht).1
              have e : tagAt ts j = t := by unfold tagAt; rw [List.getD_eq_getElem?_getD, ht]; rfl
              rw [cell_of_row wr g _ _ _ _ d1, Nat.zero_add, d3 j (by have := HL.out; omega), e]) hgw (by rw [hml]; omega) (by rw [hml]; exact Nat.le_refl _) (by
                rw [hmm]
                show (Lib.join _ [38]).length ≤ _
                rw [hjl2, List.length_map]
                have := HL.out
                omega)
            rw [hml, hmm, show (ByteArray.mk #[38]).data.toList = [38] from rfl, hjl2] at this
            exact this
        clear hi2 d1 d2 d3 HD
        go_wp2_with fail
        refine Calls.mono HJ.out ?_
        rintro _ w3 ⟨rfl, hb⟩
        have HB3 : Hid (Below w.heap.size w w3) := HBW.out.trans (hb.mono HBW.out.size)
        clear hb HJ
        go_wp2_with fail
        go_ret2
        exact ⟨by rw [HS2.out]; rfl, HB3.out⟩
end Go.Proofs.YtbfgkogmojnilaaDoor
