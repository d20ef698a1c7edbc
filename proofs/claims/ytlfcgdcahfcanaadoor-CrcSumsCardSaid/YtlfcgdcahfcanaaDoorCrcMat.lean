/-
  Package crc's matrices: what apply and twice make of 32 words.
-/
import Derived.Test.YtlfcgdcahfcanaaDoorCrcRef
import Derived.Deep.WholeRow
import Derived.Deep.QuietTactic
import Derived.BigQuiet
import Derived.Laws.CopyOwn
namespace Go.Proofs.YtlfcgdcahfcanaaDoor
open Go.ChangeShapes Go.WideShapes Go.ChangeAt Go.RowKit
set_option linter.unusedVariables false
set_option linter.unusedSimpArgs false
theorem load_mat {P : Program} {ops : Array Oper} {rest : List Oper} {o : Oper} {a : Act} {Q : Exit → Act → World → Prop} {w : World} (hg : o.guard = none) (t : TypeId) (x : Operand) (ho : o.op = .load t x)
    (p : Addr) (hx : a.eval x = .pointer (some p)) (c : Array Value) (hr : (loadVar t p).run P w = .ok (.agg c) w) (h : wpList P ops Q rest (a.put o.dst (.agg c)) w) : wpList P ops Q (o :: rest) a w :=
  wpList_plain hg fun _ hK => by
    unfold Oper.wp execOp
    simp only [ho, hx, Instr.loadAt, Instr.sureAddr, Sem.run_bind, Sem.run_pure, Result.andThen_ok, hr]
    exact hK _ _ h
theorem store_mat {P : Program} {ops : Array Oper} {rest : List Oper} {o : Oper} {a : Act} {Q : Exit → Act → World → Prop} {w w' : World} (hg : o.guard = none) (t : TypeId) (x y : Operand) (ho : o.op = .store t x y)
    (p : Addr) (hx : a.eval x = .pointer (some p)) (v : Value) (hy : a.eval y = v) (hr : (storeVar t p v).run P w = .ok () w') (h : wpList P ops Q rest (a.put o.dst undef) w') : wpList P ops Q (o :: rest) a w :=
  wpList_plain hg fun _ hK => by
    unfold Oper.wp execOp
    simp only [ho, hx, hy, Instr.storeAt, Instr.sureAddr, Sem.run_bind, Sem.run_pure, Result.andThen_ok, hr]
    exact hK _ _ h
theorem matSize : (Tryd.prog.info? 42).map (·.size) = some 32 := by kernel_rfl
theorem matLoad (w : World) (g : Nat) (c : Array Value) (hc : c.size = 32) (fr : Nat × Nat) (hg : w.heap[g]? = some (.cells c 42 fr)) :
    (loadVar 42 ⟨g, 0, none⟩).run Tryd.prog w = .ok (.agg c) w :=
  run_loadVar_row w g 42 42 c fr _ hg Tryd.underlying42 rfl (by rw [hc]; exact matSize)
/-- The cells of a matrix. -/
def Mat (c : Array Value) (m : Nat → Nat) : Prop := c.size = 32 ∧ (∀ i, m i < 4294967296) ∧ ∀ i, i < 32 → c[i]? = some (.int .u32 (m i : Nat))
theorem matIndex (w : World) (c : Array Value) (m : Nat → Nat) (h : Mat c m) (i : Nat) (hi : i < 32) :
    Sem.run Tryd.prog (Instr.index 42 (.agg c) (.int .i64 i)) w = .ok (.int .u32 (m i : Nat)) w := by
  have hr := Tryd.underlying42
  have hc := h.2.2 i hi
  have h1 : (0 : Int) ≤ (i : Int) ∧ (i : Int) < 32 := by omega
  simp [Instr.index, asIntOf, run_underlying hr, hi, part, hc, go_sem]
theorem bit_word (R j : Nat) (hR : R < 4294967296) : bits .and .u32 ((R : Int) / 2 ^ j) 1 = ((R / 2 ^ j % 2 : Nat) : Int) := by
  have e : (R : Int) / 2 ^ j = ((R / 2 ^ j : Nat) : Int) := by simp
  have := u32_and_nat (R / 2 ^ j) 1 (Nat.lt_of_le_of_lt (Nat.div_le_self _ _) hR) (by decide)
  rw [Nat.and_one_is_mod] at this
  rw [e]
  exact this
theorem app_lt (m : Nat → Nat) (r : Nat) (h : ∀ i, m i < 4294967296) : ∀ k, app m r k < 4294967296
  | 0 => by show 0 < 4294967296; decide
  | k + 1 => by
    rw [app]
    refine Nat.xor_lt_two_pow (n := 32) (app_lt m r h k) ?_
    split
    · exact h k
    · decide
theorem apply_any (c : Array Value) (m : Nat → Nat) (R : Nat) (w : World) (hm : Mat c m) (hR : R < 4294967296) :
    Calls Tryd.prog 20 #[.agg c, .int .u32 R] w fun e w' => e = .returned (.int .u32 (app m R 32 : Nat)) ∧ w' = w.alloc (.cells c 42) := by
  have HM : Hid (Mat c m) := hm
  have HL : Hid ((loadVar 42 ⟨w.heap.size, 0, none⟩).run Tryd.prog (w.alloc (.cells c 42)) = .ok (.agg c) (w.alloc (.cells c 42))) :=
    matLoad _ _ c hm.1 (0, 0) (heap_alloc_last w _)
  have HB : Hid (∀ k, app m R k < 4294967296) := app_lt m R hm.2.1
  have HMB : Hid (∀ i, m i < 4294967296) := hm.2.1
  clear hm
  go_enter Tryd.func20, Tryd.ntmps20
  go_wp2_with (refine load_mat rfl 42 (.tmp 2) rfl ⟨w.heap.size, 0, none⟩ rfl c HL.out ?_)
  go_loop [5, 9] (fun n i => ∃ k : Nat, k ≤ 32 ∧ i = .int .i64 k ∧ n = .int .u32 (app m R k : Nat)) (fun _ i => 32 - (intOf i).toNat)
  case atStart => exact ⟨0, Nat.zero_le _, rfl, rfl⟩
  case round =>
    obtain ⟨k, hk, rfl, rfl⟩ := hrel
    have hr := HB.out k
    by_cases hlt : k < 32
    · have hix := matIndex (w.alloc (.cells c 42)) c m HM.out k hlt
      have hmb := HMB.out k
      have HS : Hid (app m R (k + 1) = app m R k ^^^ (if R / 2 ^ k % 2 = 1 then m k else 0)) := rfl
      generalize app m R k = Y at *
      have hbw := bit_word R k hR
      have hb2 : R / 2 ^ k % 2 < 2 := Nat.mod_lt _ (by decide)
      have hx := u32_xor_nat Y (m k) hr hmb
      generalize R / 2 ^ k % 2 = b at *
      obtain rfl | rfl : b = 0 ∨ b = 1 := by omega
      · go_wp2
        go_round
        case rel => exact ⟨k + 1, by omega, by go_num, by rw [HS.out, if_neg (by decide), Nat.xor_zero]⟩
        case measure => simp [intOf]; omega
      · go_wp2
        go_round
        case rel => exact ⟨k + 1, by omega, by go_num, by rw [HS.out, if_pos rfl]⟩
        case measure => simp [intOf]; omega
    · obtain rfl : k = 32 := by omega
      go_wp2
      go_ret
      exact ⟨rfl, rfl⟩
def zeroMat : Array Value := Array.replicate 32 (.int .u32 0)
theorem matAlloc (w : World) : (Instr.alloc 42 true (.tuple #[])).run Tryd.prog w = .ok (.pointer (some ⟨w.heap.size, 0, none⟩)) (w.alloc (.cells zeroMat 42)) := by kernel_rfl
theorem alloc_mat {P : Program} {ops : Array Oper} {rest : List Oper} {o : Oper} {a : Act} {Q : Exit → Act → World → Prop} {w w' : World} (hg : o.guard = none) (t : TypeId) (ho : o.op = .alloc t)
    (v : Value) (hr : (Instr.alloc t true (.tuple #[])).run P w = .ok v w') (h : wpList P ops Q rest (a.put o.dst v) w') : wpList P ops Q (o :: rest) a w :=
  wpList_plain hg fun _ hK => by
    unfold Oper.wp execOp
    simp only [ho, Sem.run_bind, Sem.run_pure, Result.andThen_ok, hr]
    exact hK _ _ h
/-- A matrix's cells lie in a block of their own. -/
def Blk (w : World) (g : Nat) (c : Array Value) : Prop := w.heap[g]? = some (.cells c 42 (0, 0))
theorem Blk.lt {w : World} {g : Nat} {c : Array Value} (h : Blk w g c) : g < w.heap.size := (Array.getElem?_eq_some_iff.1 h).1
theorem Blk.alloc {w : World} {g : Nat} {c : Array Value} (h : Blk w g c) (o : Obj) : Blk (w.alloc o) g c := (Below.heap_alloc w o g h.lt).trans h
theorem Blk.new (w : World) (c : Array Value) : Blk (w.alloc (.cells c 42)) w.heap.size c := heap_alloc_last w _
theorem Blk.set {w : World} {g : Nat} {c : Array Value} (h : Blk w g c) (i : Nat) (v : Value) : Blk (w.setCell ⟨g, i, none⟩ v) g (c.setIfInBounds i v) := by
  unfold Blk at *
  simp [World.setCell, Array.getElem?_modify, h]
theorem Blk.other {w : World} {g b : Nat} {c : Array Value} (h : Blk w g c) (hne : g ≠ b) (i : Nat) (v : Value) : Blk (w.setCell ⟨b, i, none⟩ v) g c :=
  (Below.heap_setCell w ⟨b, i, none⟩ v g hne).trans h
theorem Blk.row {w : World} {g : Nat} {c : Array Value} (h : Blk w g c) (d : Array Value) : Blk (w.setRow g d) g d := setRow_heap w g c d _ _ h
theorem Blk.below {w w' : World} {g : Nat} {c : Array Value} (h : Blk w g c) (hb : Below w.heap.size w w') : Blk w' g c := (hb.block g h.lt).trans h
theorem Blk.cell {w : World} {g : Nat} {c : Array Value} (h : Blk w g c) (i : Nat) : w.cell? ⟨g, i, none⟩ = c[i]? := cell_of_row w g i c _ _ h
theorem Blk.frozen {w : World} {g : Nat} {c : Array Value} (h : Blk w g c) (i : Nat) : w.frozen? ⟨g, i, none⟩ = false := frozen_of_row w g i c _ h
theorem Blk.load {w : World} {g : Nat} {c : Array Value} (h : Blk w g c) (hc : c.size = 32) : (loadVar 42 ⟨g, 0, none⟩).run Tryd.prog w = .ok (.agg c) w := matLoad w g c hc (0, 0) h
theorem Blk.store {w : World} {g : Nat} {c d : Array Value} (h : Blk w g c) (hc : c.size = 32) (hd : d.size = 32) (h1 : d.all (·.oneCell') = true) :
    (storeVar 42 ⟨g, 0, none⟩ (.agg d)).run Tryd.prog w = .ok () (w.setRow g d) :=
  run_storeVar_row w g 42 42 c d h (by rw [hd]; exact matSize) (by omega) h1
theorem Mat.one {d : Array Value} {m : Nat → Nat} (h : Mat d m) : d.all (·.oneCell') = true := by
  rw [Array.all_eq_true]
  intro i hi
  have hs := h.1
  have := h.2.2 i (by omega)
  rw [Array.getElem?_eq_getElem hi] at this
  rw [Option.some.inj this]
  rfl
/-- What is done when it is done two times. -/
def sqN (m : Nat → Nat) (i : Nat) : Nat := app m (m i) 32
theorem sqN_lt (m : Nat → Nat) (h : ∀ i, m i < 4294967296) (i : Nat) : sqN m i < 4294967296 := app_lt m _ h 32
theorem zeroMat_size : zeroMat.size = 32 := rfl
theorem results_cell_one {fn : Func} {p : Tmp} {ty : TypeId} (h : fn.results = #[.cell p ty]) (tmps : Array Value) (P : Program) (w : World) :
    (results fn tmps).run P w = ((asAddr (tmps.getD p undef)).run P w).andThen fun a w₁ => (loadVar ty a).run P w₁ := by
  simp only [results, h]
  simp [Sem.run_bind, Result.andThen]
theorem twice_any (c : Array Value) (m : Nat → Nat) (w : World) (hm : Mat c m) :
    Calls Tryd.prog 19 #[.agg c] w fun e w' => ∃ d, e = .returned (.agg d) ∧ Mat d (sqN m) ∧ Below w.heap.size w w' := by
  have HM : Hid (Mat c m) := hm
  have HB : Hid (∀ i, m i < 4294967296) := hm.2.1
  have HL : Hid ((loadVar 42 ⟨w.heap.size, 0, none⟩).run Tryd.prog (((w.alloc (.cells c 42)).alloc (.cells zeroMat 42)).alloc (.cells zeroMat 42)) = .ok (.agg c) (((w.alloc (.cells c 42)).alloc (.cells zeroMat 42)).alloc (.cells zeroMat 42))) :=
    (((Blk.new w c).alloc _).alloc _).load hm.1
  clear hm
  go_enter Tryd.func19, Tryd.ntmps19
  go_wp2_with (first
    | (refine alloc_mat rfl 42 rfl _ (matAlloc _) ?_)
    | (refine load_mat rfl 42 (.tmp 1) rfl ⟨w.heap.size, 0, none⟩ rfl c HL.out ?_))
  go_loopw [7] (fun i wr => ∃ (k : Nat) (d : Array Value), k ≤ 32 ∧ i = .int .i64 k ∧ d.size = 32 ∧ (∀ j, j < k → d[j]? = some (.int .u32 (sqN m j : Nat))) ∧ Blk wr w.heap.size c ∧ Blk wr (w.heap.size + 1) zeroMat ∧ Blk wr (w.heap.size + 1 + 1) d ∧ Below w.heap.size w wr) (fun i _ => 32 - (intOf i).toNat)
  case atStart =>
    refine ⟨0, zeroMat, Nat.zero_le _, rfl, rfl, fun j hj => absurd hj (Nat.not_lt_zero j), ((Blk.new w c).alloc _).alloc _, ?_, ?_, ?_⟩
    · have := (Blk.new (w.alloc (.cells c 42)) zeroMat).alloc (.cells zeroMat 42)
      simpa using this
    · have := Blk.new ((w.alloc (.cells c 42)).alloc (.cells zeroMat 42)) zeroMat
      simpa using this
    · exact Below.alloc (Below.alloc (Below.alloc (Below.refl _ _) (Nat.le_refl _) _) (by simp) _) (by simp; omega) _
  case round =>
    obtain ⟨k, d, hk, rfl, hds, hdj, hb0, hb1, hb2, hbe⟩ := hrel
    rename_i wr _
    have HD : Hid (d.size = 32 ∧ ∀ j, j < k → d[j]? = some (.int .u32 (sqN m j : Nat))) := ⟨hds, hdj⟩
    have HB0 : Hid (Blk wr w.heap.size c) := hb0
    have HB1 : Hid (Blk wr (w.heap.size + 1) zeroMat) := hb1
    have HB2 : Hid (Blk wr (w.heap.size + 1 + 1) d) := hb2
    have HBE : Hid (Below w.heap.size w wr) := hbe
    clear hds hdj hb0 hb1 hb2 hbe
    by_cases hlt : k < 32
    · have hix := matIndex wr c m HM.out k hlt
      have HLD := HB0.out.load HM.out.1
      have HLD2 : Hid ((loadVar 42 ⟨w.heap.size, 0, none⟩).run Tryd.prog wr = .ok (.agg c) wr) := HLD
      clear HLD
      have hmk := HB.out k
      go_wp2_with (refine load_mat rfl 42 (.tmp 1) rfl ⟨w.heap.size, 0, none⟩ rfl c HLD2.out ?_)
      refine (apply_any c m (m k) _ HM.out hmk).mono ?_
      rintro e w' ⟨rfl, rfl⟩
      have hq : Hid (sqN m k = app m (m k) 32) := rfl
      rw [← hq.out]
      have hcell : (wr.alloc (.cells c 42)).cell? ⟨w.heap.size + 1 + 1, k, none⟩ = some (d.getD k undef) := by
        rw [(HB2.out.alloc _).cell k]
        have := HD.out.1
        simp [show k < d.size by omega]
      have hfr := (HB2.out.alloc (.cells c 42)).frozen k
      go_wp2_with fail
      go_roundw
      case rel =>
        refine ⟨k + 1, d.setIfInBounds k (.int .u32 (sqN m k : Nat)), by omega, by go_num, by simp [HD.out.1], fun j hj => ?_, (HB0.out.alloc _).other (by omega) _ _, (HB1.out.alloc _).other (by omega) _ _, (HB2.out.alloc _).set _ _, ?_⟩
        · rw [Array.getElem?_setIfInBounds]
          have h1 := HD.out.1
          by_cases hjk : k = j
          · subst hjk; simp [show k < d.size by omega]
          · rw [if_neg hjk]; exact HD.out.2 j (by omega)
        · exact Below.setCell (Below.alloc HBE.out HBE.out.size _) (by show w.heap.size ≤ w.heap.size + 1 + 1; omega) _
      case measure => simp [intOf]; omega
    · obtain rfl : k = 32 := by omega
      have hmd : Mat d (sqN m) := ⟨HD.out.1, sqN_lt m HB.out, HD.out.2⟩
      have HMD : Hid (Mat d (sqN m)) := hmd
      have HLD : Hid ((loadVar 42 ⟨w.heap.size + 1 + 1, 0, none⟩).run Tryd.prog wr = .ok (.agg d) wr) := HB2.out.load HD.out.1
      have HST : Hid ((storeVar 42 ⟨w.heap.size + 1, 0, none⟩ (.agg d)).run Tryd.prog wr = .ok () (wr.setRow (w.heap.size + 1) d)) := HB1.out.store zeroMat_size HD.out.1 hmd.one
      clear hmd
      go_wp2_with (first
        | (refine load_mat rfl 42 (.tmp 3) rfl ⟨w.heap.size + 1 + 1, 0, none⟩ rfl d HLD.out ?_)
        | (refine store_mat rfl 42 (.tmp 2) (.tmp 17) rfl ⟨w.heap.size + 1, 0, none⟩ rfl _ rfl HST.out ?_))
      refine bodyPost_ret (v := .agg d) ?_ rfl ⟨d, rfl, HMD.out, below_setRow HBE.out (by omega) d⟩
      rw [results_cell_one rfl]
      exact (HB1.out.row d).load HD.out.1
end Go.Proofs.YtlfcgdcahfcanaaDoor
