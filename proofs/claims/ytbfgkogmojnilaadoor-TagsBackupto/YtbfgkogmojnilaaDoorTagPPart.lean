/-
  The program's parsePart, as the document's answer.
-/
import Derived.Test.YtbfgkogmojnilaaDoorTagSplit
import Derived.Test.YtbfgkogmojnilaaDoorTagPSound
import Derived.Test.YtbfgkogmojnilaaDoorLabelUn
import Derived.Test.YtbfgkogmojnilaaDoorStructs
namespace Go.Proofs.YtbfgkogmojnilaaDoor
open Go.ChangeShapes Go.WideShapes Go.ChangeAt Go.RowKit
set_option linter.unusedVariables false
set_option linter.unusedSimpArgs false
/-- What strings.Split tells of a text, at a sign of one byte. -/
theorem split_any (S Q : ByteArray) (q : UInt8) (hq : Q.data.toList = [q]) (w : World) (hT : Tab6 w) (hs : S.size ≤ 1073741824) :
    ∃ (ps : List ByteArray) (n : Nat), ps.length = n ∧ ps.map txt = cutN q.toNat (txt S) [] ∧ 1 ≤ n ∧ n ≤ S.size + 1 ∧ (∀ p ∈ ps, p.size ≤ S.size) ∧
    Calls Tryd.prog 29 #[.string S, .string Q] w fun e w' => e = .returned (.slice (some ⟨w.heap.size, 0, none⟩) n n) ∧ Below w.heap.size w w' ∧ w.heap.size < w'.heap.size ∧ ∀ i x, ps[i]? = some x → w'.cell? ⟨w.heap.size, i, none⟩ = some (.string x) := by
  obtain ⟨m, hm⟩ := hT.2
  have hqs : Q.size = 1 := by
    have h1 : Q.size = Q.data.toList.length := by simp
    rw [h1, hq]
    rfl
  have hlen := Lib.splitB_all Q (by omega) 0 _ S rfl
  have hcl : Lib.countB S Q ≤ S.size := Lib.countB_le _ (by omega) S.size S (Nat.le_refl _)
  have hcut := split_cut Q S q hq
  have hsm : ∀ (k : Nat) (T : ByteArray), T.size ≤ S.size → ∀ t ∈ Lib.splitB Q 0 k T, t.size ≤ S.size := by
    intro k
    induction k with
    | zero => intro T hT t ht; rw [Lib.splitB, List.mem_singleton] at ht; rw [ht]; exact hT
    | succ k ih =>
      intro T hT t ht
      rw [Lib.splitB] at ht
      split at ht
      · rw [List.mem_singleton] at ht; rw [ht]; exact hT
      · rcases List.mem_cons.1 ht with rfl | ht
        · rw [ByteArray.size_extract]; omega
        · exact ih _ (by rw [ByteArray.size_extract]; omega) t ht
  have H := Tryd.strings_Split S Q m w (by omega) hm (by omega)
  refine ⟨_, _, hlen, hcut, by omega, by omega, hsm _ S (Nat.le_refl _), H.mono fun e w' ⟨h1, h2⟩ => ⟨h1, ?_, ?_, ?_⟩⟩
  · rw [h2]; exact below_new w _
  · rw [h2]; simp
  · intro i x hi
    rw [h2, cell_of_row _ w.heap.size i _ _ _ (heap_alloc_last w _)]
    simp [hi]
/-- What parsePart answers. -/
def partV (o : Option (ByteArray × ByteArray)) : Value := match o with
  | some t => .tuple #[.agg #[.string t.1, .string t.2], .int .i64 0]
  | none => .tuple #[.agg #[.string (ByteArray.mk #[]), .string (ByteArray.mk #[])], .int .i64 5]
theorem tag_load {w : World} {g : Nat} {x y : ByteArray} (h : w.heap[g]? = some (.cells #[.string x, .string y] 40 (0, 0))) : (loadVar 40 ⟨g, 0, none⟩).run Tryd.prog w = .ok (.agg #[.string x, .string y]) w :=
  run_loadVar_row w g 40 40 _ (0, 0) _ h Tryd.underlying40 rfl (by kernel_rfl)
theorem tag_store {w : World} {g : Nat} {x y u v : ByteArray} (h : w.heap[g]? = some (.cells #[.string x, .string y] 40 (0, 0))) : (storeVar 40 ⟨g, 0, none⟩ (.agg #[.string u, .string v])).run Tryd.prog w = .ok () (w.setRow g #[.string u, .string v]) :=
  run_storeVar_row w g 40 40 _ _ h (by kernel_rfl) rfl (Array.all_eq_true_iff_forall_mem.2 (fun z hz => by simp at hz; rcases hz with rfl | rfl <;> rfl))
/-- The result's own block, and what is told of it at the end. -/
theorem part_end {w w' : World} {R : Nat} {x y u v : ByteArray} (hB : Below R w w') (hr : w'.heap[R]? = some (.cells #[.string x, .string y] 40 (0, 0))) :
    (storeVar 40 ⟨R, 0, none⟩ (.agg #[.string u, .string v])).run Tryd.prog w' = .ok () (w'.setRow R #[.string u, .string v]) ∧ Below R w (w'.setRow R #[.string u, .string v]) ∧ (loadVar 40 ⟨R, 0, none⟩).run Tryd.prog (w'.setRow R #[.string u, .string v]) = .ok (.agg #[.string u, .string v]) (w'.setRow R #[.string u, .string v]) :=
  ⟨tag_store hr, below_row hB (Nat.le_refl _) _, tag_load (setRow_heap w' R _ _ 40 (0, 0) hr)⟩
set_option maxRecDepth 100000 in
set_option maxHeartbeats 4000000 in
theorem part_any (S : ByteArray) (w : World) (hT : Tab6 w) (hs : S.size ≤ 1073741824) :
    Calls Tryd.prog 30 #[.string S] w fun e w' => e = .returned (partV (pairO (txt S))) ∧ Below w.heap.size w w' := by
  have hbn := below_new w (.cells #[.string (ByteArray.mk #[]), .string (ByteArray.mk #[])] 40)
  have hb0 : (w.alloc (.cells #[.string (ByteArray.mk #[]), .string (ByteArray.mk #[])] 40)).heap[w.heap.size]? = some (.cells #[.string (ByteArray.mk #[]), .string (ByteArray.mk #[])] 40 (0, 0)) := heap_alloc_last w _
  obtain ⟨ps, n, k0, k1, k2, k3, k4, HSP⟩ := split_any S (ByteArray.mk #[61]) 61 rfl _ (hT.below hbn) hs
  have HSPH : Hid _ := HSP
  have HT0 : Hid (Tab6 (w.alloc (.cells #[.string (ByteArray.mk #[]), .string (ByteArray.mk #[])] 40))) := hT.below hbn
  have HB0 : Hid (Below w.heap.size w (w.alloc (.cells #[.string (ByteArray.mk #[]), .string (ByteArray.mk #[])] 40))) := hbn
  have HK1 : Hid (ps.map txt = cutN 61 (txt S) []) := k1
  have HK4 : Hid (∀ p ∈ ps, p.size ≤ S.size) := k4
  have HN : Hid (ps.length = n) := k0
  have HZ : Hid (w.heap.size < (w.alloc (.cells #[.string (ByteArray.mk #[]), .string (ByteArray.mk #[])] 40)).heap.size) := by unfold Hid; simp
  have HR0 : Hid _ := hb0
  clear hbn HSP k0 k1 k4 hT hb0
  go_enter Tryd.func30, Tryd.ntmps30
  go_wp2_with fail
  generalize w.alloc (.cells #[.string (ByteArray.mk #[]), .string (ByteArray.mk #[])] 40) = w0 at *
  obtain ⟨R, hR⟩ : ∃ R, R = w.heap.size := ⟨_, rfl⟩
  have HRR : Hid (R = w.heap.size) := hR
  rw [← hR] at HB0 HZ HR0 ⊢
  clear hR
  refine Calls.mono HSPH.out ?_
  rintro _ w1 ⟨rfl, hb, hlt, hc⟩
  have HB1 : Hid (Below R w w1) := HB0.out.trans (hb.mono (Nat.le_of_lt HZ.out))
  have HR1 : Hid (w1.heap[R]? = some (.cells #[.string (ByteArray.mk #[]), .string (ByteArray.mk #[])] 40 (0, 0))) := (hb.block R HZ.out).trans HR0.out
  have HC1 : Hid (∀ i x, ps[i]? = some x → w1.cell? ⟨w0.heap.size, i, none⟩ = some (.string x)) := hc
  have HLT : Hid (w0.heap.size < w1.heap.size) := hlt
  have HZ1 : Hid (R < w1.heap.size) := Nat.lt_trans HZ.out hlt
  clear hb hlt hc HSPH HR0 HB0 HZ HT0
  by_cases h2 : n = 2
  · subst h2
    match ps, HN.out with
    | [p1, p2], _ =>
    have HP2 : Hid _ := pair_two HK1.out.symm
    have hp1 : p1.size ≤ S.size := HK4.out p1 (by simp)
    have hp2 : p2.size ≤ S.size := HK4.out p2 (by simp)
    have c1 := HC1.out 0 p1 rfl
    have HC2 : Hid _ := HC1.out 1 p2 rfl
    have HU1 : Hid _ := unesc_any p1 w1 (by omega)
    have HU2 : Hid (∀ W, Calls Tryd.prog 44 #[.string p2] W fun e w' => e = .returned (unsR (unescN (txt p2))) ∧ Below W.heap.size W w') := fun W => unesc_any p2 W (by omega)
    clear HC1 HK1 HK4 HN k2 k3
    cases hu1 : unescN (txt p1) with
    | none =>
      have HPN : Hid (pairO (txt S) = none) := by unfold Hid; rw [HP2.out, hu1]
      rw [hu1, show unsR none = .tuple #[.string (ByteArray.mk #[]), .int .i64 5] from rfl] at HU1
      clear hu1 HP2 HU2
      go_wp2_with fail
      refine Calls.mono HU1.out ?_
      rintro _ w2 ⟨rfl, hb⟩
      have HB2 : Hid (Below R w w2) := HB1.out.trans (hb.mono (Nat.le_of_lt HZ1.out))
      have HR2 : Hid (w2.heap[R]? = some (.cells #[.string (ByteArray.mk #[]), .string (ByteArray.mk #[])] 40 (0, 0))) := (hb.block R HZ1.out).trans HR1.out
      have HE : Hid _ := part_end (u := ByteArray.mk #[]) (v := ByteArray.mk #[]) HB2.out HR2.out
      clear hb HU1 HB1 HR1
      go_wp2_with (refine store_op rfl 40 _ _ rfl ⟨R, 0, none⟩ rfl _ rfl HE.out.1 ?_)
      refine bodyPost_ret (v := .tuple #[.agg #[.string (ByteArray.mk #[]), .string (ByteArray.mk #[])], .int .i64 5]) ?_ rfl ⟨by rw [HPN.out]; rfl, by rw [← HRR.out]; exact HE.out.2.1⟩
      refine (results_ct (fn := Tryd.f30) rfl _ _ _ R ?_ _ HE.out.2.2).trans ?_ <;> rfl
    | some l1 =>
      rw [hu1, show unsR (some l1) = .tuple #[.string (strN l1), .int .i64 0] from rfl] at HU1
      go_wp2_with fail
      refine Calls.mono HU1.out ?_
      rintro _ w2 ⟨rfl, hb⟩
      have HB2 : Hid (Below R w w2) := HB1.out.trans (hb.mono (Nat.le_of_lt HZ1.out))
      have HR2 : Hid (w2.heap[R]? = some (.cells #[.string (ByteArray.mk #[]), .string (ByteArray.mk #[])] 40 (0, 0))) := (hb.block R HZ1.out).trans HR1.out
      have c2 := (hb.cell (p := ⟨w0.heap.size, 1, none⟩) HLT.out).trans HC2.out
      have HZ2 : Hid (R < w2.heap.size) := Nat.lt_of_lt_of_le HZ1.out hb.size
      have HU3 : Hid _ := HU2.out w2
      clear hb HU1 HB1 HR1 HU2
      cases hu2 : unescN (txt p2) with
      | none =>
        have HPN : Hid (pairO (txt S) = none) := by unfold Hid; rw [HP2.out, hu1, hu2]
        rw [hu2, show unsR none = .tuple #[.string (ByteArray.mk #[]), .int .i64 5] from rfl] at HU3
        clear hu1 hu2 HP2
        go_wp2_with fail
        refine Calls.mono HU3.out ?_
        rintro _ w3 ⟨rfl, hb⟩
        have HB3 : Hid (Below R w w3) := HB2.out.trans (hb.mono (Nat.le_of_lt HZ2.out))
        have HR3 : Hid (w3.heap[R]? = some (.cells #[.string (ByteArray.mk #[]), .string (ByteArray.mk #[])] 40 (0, 0))) := (hb.block R HZ2.out).trans HR2.out
        have HE : Hid _ := part_end (u := ByteArray.mk #[]) (v := ByteArray.mk #[]) HB3.out HR3.out
        clear hb HU3 HB2 HR2
        go_wp2_with (refine store_op rfl 40 _ _ rfl ⟨R, 0, none⟩ rfl _ rfl HE.out.1 ?_)
        refine bodyPost_ret (v := .tuple #[.agg #[.string (ByteArray.mk #[]), .string (ByteArray.mk #[])], .int .i64 5]) ?_ rfl ⟨by rw [HPN.out]; rfl, by rw [← HRR.out]; exact HE.out.2.1⟩
        refine (results_ct (fn := Tryd.f30) rfl _ _ _ R ?_ _ HE.out.2.2).trans ?_ <;> rfl
      | some l2 =>
        have HPS : Hid (pairO (txt S) = some (strN l1, strN l2)) := by unfold Hid; rw [HP2.out, hu1, hu2]
        rw [hu2, show unsR (some l2) = .tuple #[.string (strN l2), .int .i64 0] from rfl] at HU3
        clear hu1 hu2 HP2
        go_wp2_with fail
        refine Calls.mono HU3.out ?_
        rintro _ w3 ⟨rfl, hb⟩
        have HB3 : Hid (Below R w w3) := HB2.out.trans (hb.mono (Nat.le_of_lt HZ2.out))
        have HR3 : Hid (w3.heap[R]? = some (.cells #[.string (ByteArray.mk #[]), .string (ByteArray.mk #[])] 40 (0, 0))) := (hb.block R HZ2.out).trans HR2.out
        have HE : Hid _ := part_end (u := strN l1) (v := strN l2) HB3.out HR3.out
        clear hb HU3 HB2 HR2
        go_wp2_with (refine store_op rfl 40 _ _ rfl ⟨R, 0, none⟩ rfl _ rfl HE.out.1 ?_)
        refine bodyPost_ret (v := .tuple #[.agg #[.string (strN l1), .string (strN l2)], .int .i64 0]) ?_ rfl ⟨by rw [HPS.out]; rfl, by rw [← HRR.out]; exact HE.out.2.1⟩
        refine (results_ct (fn := Tryd.f30) rfl _ _ _ R ?_ _ HE.out.2.2).trans ?_ <;> rfl
  · have hn2 : ((n : Int) != 2) = true := by rw [bne_iff_ne]; omega
    have HPN : Hid (pairO (txt S) = none) := pair_other (by rw [← HK1.out, List.length_map, HN.out]; exact h2)
    have HE : Hid _ := part_end (u := ByteArray.mk #[]) (v := ByteArray.mk #[]) HB1.out HR1.out
    clear h2 HB1 HR1 HC1
    go_wp2_with (refine store_op rfl 40 _ _ rfl ⟨R, 0, none⟩ rfl _ rfl HE.out.1 ?_)
    refine bodyPost_ret (v := .tuple #[.agg #[.string (ByteArray.mk #[]), .string (ByteArray.mk #[])], .int .i64 5]) ?_ rfl ⟨by rw [HPN.out]; rfl, by rw [← HRR.out]; exact HE.out.2.1⟩
    refine (results_ct (fn := Tryd.f30) rfl _ _ _ R ?_ _ HE.out.2.2).trans ?_ <;> rfl
end Go.Proofs.YtbfgkogmojnilaaDoor
