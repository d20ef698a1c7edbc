/-
  'step' of package sha: one round of the digest.
-/
import Derived.Test.YtmaaakcfbekboaaDoorShaBits
import Derived.Test.YtmaaakcfbekboaaDoorByVal
namespace Go.Proofs.YtmaaakcfbekboaaDoor
open Go.ChangeShapes Go.WideShapes Go.ChangeAt Go.RowKit
set_option linter.unusedVariables false
set_option linter.unusedSimpArgs false
theorem wnot (a : Nat) (ha : a < 4294967296) : bits .xor .u32 4294967295 (a : Int) = ((4294967295 ^^^ a : Nat) : Int) := wxor 4294967295 a (by decide) ha
theorem words8 {v : List Nat} (h : v.length = 8) : ∃ d0 d1 d2 d3 d4 d5 d6 d7, v = [d0, d1, d2, d3, d4, d5, d6, d7] := by
  match v, h with
  | [d0, d1, d2, d3, d4, d5, d6, d7], _ => exact ⟨d0, d1, d2, d3, d4, d5, d6, d7, rfl⟩
/-- One round with a word in which the factor is already. -/
theorem rnd_sum (v : List Nat) (k w : Nat) : rnd v k w = rnd v 0 ((w + k) % 4294967296) := by
  have e : one1 v k w = one1 v 0 ((w + k) % 4294967296) := by unfold one1; omega
  unfold rnd
  rw [e]
theorem wordsT : ArrT 48 8 := ⟨by kernel_rfl, 42, Tryd.underlying48⟩
set_option maxRecDepth 100000 in
set_option maxHeartbeats 4000000 in
theorem step_any (v : List Nat) (x : Nat) (w : World) (hv : v.length = 8) (hb : ∀ j, v.getD j 0 < 4294967296) (hx : x < 4294967296) :
    Calls Tryd.prog 28 #[.agg (encL .u32 v), .int .u32 x] w fun e w' => e = .returned (.agg (encL .u32 (rnd v 0 x))) ∧ Below w.heap.size w w' := by
  obtain ⟨d0, d1, d2, d3, d4, d5, d6, d7, rfl⟩ := words8 hv
  have b0 : d0 < 4294967296 := hb 0
  have b1 : d1 < 4294967296 := hb 1
  have b2 : d2 < 4294967296 := hb 2
  have b3 : d3 < 4294967296 := hb 3
  have b4 : d4 < 4294967296 := hb 4
  have b5 : d5 < 4294967296 := hb 5
  have b6 : d6 < 4294967296 := hb 6
  have b7 : d7 < 4294967296 := hb 7
  clear hv hb
  have HRN : Hid (rnd [d0, d1, d2, d3, d4, d5, d6, d7] 0 x = [(one1 [d0, d1, d2, d3, d4, d5, d6, d7] 0 x + two1 [d0, d1, d2, d3, d4, d5, d6, d7]) % 4294967296, d0, d1, d2, (d3 + one1 [d0, d1, d2, d3, d4, d5, d6, d7] 0 x) % 4294967296, d4, d5, d6]) := rfl
  have h1 : one1 [d0, d1, d2, d3, d4, d5, d6, d7] 0 x = (d7 + e1N d4 + chN d4 d5 d6 + 0 + x) % 4294967296 := rfl
  have h2 : two1 [d0, d1, d2, d3, d4, d5, d6, d7] = (e0N d0 + majN d0 d1 d2) % 4294967296 := rfl
  rw [h1, h2] at HRN
  clear h1 h2
  generalize rnd [d0, d1, d2, d3, d4, d5, d6, d7] 0 x = RES at *
  have e1 := wxor (trn d4 6) (trn d4 11) (trn_lt _ _ b4) (trn_lt _ _ b4)
  have e2 : bits .xor .u32 ((trn d4 6 ^^^ trn d4 11 : Nat) : Int) ((trn d4 25 : Nat) : Int) = ((e1N d4 : Nat) : Int) := wxor _ _ (xor_lt (trn_lt _ _ b4) (trn_lt _ _ b4)) (trn_lt _ _ b4)
  have f1 := wxor (trn d0 2) (trn d0 13) (trn_lt _ _ b0) (trn_lt _ _ b0)
  have f2 : bits .xor .u32 ((trn d0 2 ^^^ trn d0 13 : Nat) : Int) ((trn d0 22 : Nat) : Int) = ((e0N d0 : Nat) : Int) := wxor _ _ (xor_lt (trn_lt _ _ b0) (trn_lt _ _ b0)) (trn_lt _ _ b0)
  have g1 := wand d4 d5 b4 b5
  have g2 : bits .xor .u32 IntKind.u32.max (d4 : Int) = ((4294967295 ^^^ d4 : Nat) : Int) := wxor 4294967295 d4 (by decide) b4
  have g3 := wand (4294967295 ^^^ d4) d6 (xor_lt (by decide) b4) b6
  have g4 : bits .xor .u32 ((d4 &&& d5 : Nat) : Int) (((4294967295 ^^^ d4) &&& d6 : Nat) : Int) = ((chN d4 d5 d6 : Nat) : Int) := wxor _ _ (and_lt b4) (and_lt (xor_lt (by decide) b4))
  have m1 := wand d0 d1 b0 b1
  have m2 := wand d0 d2 b0 b2
  have m3 := wand d1 d2 b1 b2
  have m4 := wxor (d0 &&& d1) (d0 &&& d2) (and_lt b0) (and_lt b0)
  have m5 : bits .xor .u32 ((((d0 &&& d1) ^^^ (d0 &&& d2)) : Nat) : Int) ((d1 &&& d2 : Nat) : Int) = ((majN d0 d1 d2 : Nat) : Int) := wxor _ _ (xor_lt (and_lt b0) (and_lt b0)) (and_lt b1)
  have l1 := e1N_lt d4 b4
  have l2 := e0N_lt d0 b0
  have l3 := chN_lt d4 d5 d6 b4
  have l4 := majN_lt d0 d1 d2 b0 b1
  generalize e1N d4 = E1 at *
  generalize e0N d0 = E0 at *
  generalize chN d4 d5 d6 = C1 at *
  generalize majN d0 d1 d2 = J1 at *
  have hsg : IntKind.u32.signed = false := rfl
  simp only [encL, List.map]
  go_enter Tryd.func28, Tryd.ntmps28
  go_wp2
  go_quiet (fail)
  have hA : ∀ (o : Obj), (w.alloc o).heap.size = w.heap.size + 1 := fun o => by simp
  have B0 : Blk (((w.alloc (.cells #[.int .u32 d0, .int .u32 d1, .int .u32 d2, .int .u32 d3, .int .u32 d4, .int .u32 d5, .int .u32 d6, .int .u32 d7] 48)).alloc (.cells #[.int .u32 0, .int .u32 0, .int .u32 0, .int .u32 0, .int .u32 0, .int .u32 0, .int .u32 0, .int .u32 0] 48)).drewN nq) (w.heap.size + 1) 48 .u32 [0, 0, 0, 0, 0, 0, 0, 0] := by
    rw [← hA (.cells #[.int .u32 d0, .int .u32 d1, .int .u32 d2, .int .u32 d3, .int .u32 d4, .int .u32 d5, .int .u32 d6, .int .u32 d7] 48)]
    exact (Blk.new _ 48 .u32 [0, 0, 0, 0, 0, 0, 0, 0]).drewN nq
  have BV : Blk (((w.alloc (.cells #[.int .u32 d0, .int .u32 d1, .int .u32 d2, .int .u32 d3, .int .u32 d4, .int .u32 d5, .int .u32 d6, .int .u32 d7] 48)).alloc (.cells #[.int .u32 0, .int .u32 0, .int .u32 0, .int .u32 0, .int .u32 0, .int .u32 0, .int .u32 0, .int .u32 0] 48)).drewN nq) w.heap.size 48 .u32 [d0, d1, d2, d3, d4, d5, d6, d7] :=
    (Blk.new w 48 .u32 [d0, d1, d2, d3, d4, d5, d6, d7]).alloc _
  have BB : Below w.heap.size w (((w.alloc (.cells #[.int .u32 d0, .int .u32 d1, .int .u32 d2, .int .u32 d3, .int .u32 d4, .int .u32 d5, .int .u32 d6, .int .u32 d7] 48)).alloc (.cells #[.int .u32 0, .int .u32 0, .int .u32 0, .int .u32 0, .int .u32 0, .int .u32 0, .int .u32 0, .int .u32 0] 48)).drewN nq) :=
    below_drew (Below.alloc (below_new w _) (by simp) _) nq
  generalize ((w.alloc (.cells #[.int .u32 d0, .int .u32 d1, .int .u32 d2, .int .u32 d3, .int .u32 d4, .int .u32 d5, .int .u32 d6, .int .u32 d7] 48)).alloc (.cells #[.int .u32 0, .int .u32 0, .int .u32 0, .int .u32 0, .int .u32 0, .int .u32 0, .int .u32 0, .int .u32 0] 48)).drewN nq = wd at *
  have c0 := BV.cell 0 (by simp)
  have c1 := BV.cell 1 (by simp)
  have c2 := BV.cell 2 (by simp)
  have c3 := BV.cell 3 (by simp)
  have c4 := BV.cell 4 (by simp)
  have c5 := BV.cell 5 (by simp)
  have c6 := BV.cell 6 (by simp)
  have c7 := BV.cell 7 (by simp)
  simp only [List.getD_cons_zero, List.getD_cons_succ] at c0 c1 c2 c3 c4 c5 c6 c7
  have HB0 : Hid (Blk wd (w.heap.size + 1) 48 .u32 [0, 0, 0, 0, 0, 0, 0, 0]) := B0
  have HBB : Hid (Below w.heap.size w wd) := BB
  clear B0 BV BB hA
  obtain ⟨P1, hP1⟩ : ∃ P1 : Nat, P1 = (E1 + (d7 + C1 + x) + (E0 + J1)) % 4294967296 := ⟨_, rfl⟩
  obtain ⟨P2, hP2⟩ : ∃ P2 : Nat, P2 = (d3 + (E1 + (d7 + C1 + x))) % 4294967296 := ⟨_, rfl⟩
  have i1 : ((E1 : Int) + ((d7 : Int) + (C1 : Int) + (x : Int)) + ((E0 : Int) + (J1 : Int))) % 4294967296 = (P1 : Int) := by rw [hP1]; simp
  have i2 : ((d3 : Int) + ((E1 : Int) + ((d7 : Int) + (C1 : Int) + (x : Int)))) % 4294967296 = (P2 : Int) := by rw [hP2]; simp
  have HR : Hid (RES = [P1, d0, d1, d2, P2, d4, d5, d6]) := by
    have q1 : (((d7 + E1 + C1 + 0 + x) % 4294967296 + (E0 + J1) % 4294967296) % 4294967296) = P1 := by rw [hP1]; omega
    have q2 : (d3 + (d7 + E1 + C1 + 0 + x) % 4294967296) % 4294967296 = P2 := by rw [hP2]; omega
    unfold Hid
    rw [HRN.out, q1, q2]
  clear hP1 hP2 HRN
  have HST : Hid ((storeVar 48 ⟨w.heap.size + 1, 0, none⟩ (.agg (encL .u32 [P1, d0, d1, d2, P2, d4, d5, d6]))).run Tryd.prog wd = .ok () (wd.setRow (w.heap.size + 1) (encL .u32 [P1, d0, d1, d2, P2, d4, d5, d6]))) := HB0.out.store wordsT rfl rfl
  go_wp2_with (first
    | (go_at_call 29; refine (bturn_any _ _ _ (by omega) (by decide) (by decide) _ rfl).mono ?_; rintro e w' ⟨rfl, rfl⟩)
    | (refine store_op rfl 48 (.tmp 4) (.tmp 80) rfl ⟨w.heap.size + 1, 0, none⟩ rfl (.agg (encL .u32 [P1, d0, d1, d2, P2, d4, d5, d6])) (by simp only [go_sem, Act.eval, i1, i2]; rfl) HST.out ?_))
  refine bodyPost_ret (v := .agg (encL .u32 [P1, d0, d1, d2, P2, d4, d5, d6])) ?_ rfl ⟨by rw [HR.out]; rfl, below_setRow HBB.out (by omega) _⟩
  rw [results_cell rfl]
  exact (HB0.out.setRow [P1, d0, d1, d2, P2, d4, d5, d6]).load wordsT rfl
end Go.Proofs.YtmaaakcfbekboaaDoor
