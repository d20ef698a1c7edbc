/-
  The program's Same and Within, over slices.Equal and slices.Contains at tags.
-/
import Derived.Test.YtbfgkogmojnilaaDoorTagPGet
import Derived.Test.YtbfgkogmojnilaaDoorTab
import Derived.Shelf.SlicesQ.Contains
import Derived.Shelf.SlicesQ.Equal
import Derived.Laws.StructEq
namespace Go.Proofs.YtbfgkogmojnilaaDoor
open Go.ChangeShapes Go.WideShapes Go.ChangeAt Go.RowKit
set_option linter.unusedVariables false
set_option linter.unusedSimpArgs false
def eqT (x y : ByteArray × ByteArray) : Bool := eqB x.1 y.1 && eqB x.2 y.2
theorem eqT_iff (x y : ByteArray × ByteArray) : eqT x y = true ↔ x = y := by
  unfold eqT
  rw [Bool.and_eq_true, eqB_iff, eqB_iff]
  exact ⟨fun h => Prod.ext h.1 h.2, fun h => by rw [h]; exact ⟨rfl, rfl⟩⟩
theorem tag_struct : Tryd.prog.underlying 40 = some (.struct (Tryd.prog.fieldsOf 40)) := by kernel_rfl
theorem tag_held : Tryd.prog.stoodInHeld 40 = false := by kernel_rfl
theorem tag_in (x y : ByteArray × ByteArray) (w : World) : (Op.equalIn 10000 40 (.agg (encT x).toArray) (.agg (encT y).toArray)).run Tryd.prog w = .ok (eqT x y) w := by
  have u9 := Tryd.underlying9
  have h1 := str_same x.1 y.1
  have h2 := str_same x.2 y.2
  unfold eqT
  simp only [encT]
  rw [show (10000 : Nat) = 9999 + 1 from rfl, run_equalIn_agg w 9999 40 _ _ tag_struct tag_held]
  simp only [Program.fieldsOf, Tryd.underlying40]
  generalize eqB x.1 y.1 = p at *
  generalize eqB x.2 y.2 = q at *
  go_simp
  cases p <;> cases q <;> simp_all
theorem tag_eql : EqlAt Tryd.prog 40 (fun x => .agg (encT x).toArray) eqT :=
  ⟨fun x y w => by rw [run_eql_struct, tag_in]; rfl, GuardAt.agg _ (by kernel_rfl)⟩
theorem tag_neq : NeqAt Tryd.prog 40 (fun x => .agg (encT x).toArray) eqT :=
  ⟨fun x y w => by rw [run_neq_struct, tag_in]; rfl, GuardAt.agg _ (by kernel_rfl)⟩
theorem tag_bang (ts : List (ByteArray × ByteArray)) (j : Nat) (h : j < ts.length) : ts[j]! = tagAt ts j := by
  unfold tagAt
  rw [getElem!_pos ts j h, List.getD_eq_getElem?_getD, List.getElem?_eq_getElem h]
  rfl
theorem row_enc {w : World} {b off : Nat} {ts : List (ByteArray × ByteArray)} (hc : ∀ i, i < ts.length → w.cell? ⟨b, off + i * 2, none⟩ = some (.string (tagAt ts i).1) ∧ w.cell? ⟨b, off + i * 2 + 1, none⟩ = some (.string (tagAt ts i).2)) :
    ∀ j, j < ts.length → ∀ i v, (encT ts[j]!)[i]? = some v → w.cell? ⟨b, off + j * 2 + i, none⟩ = some v := by
  intro j hj i v hv
  rw [tag_bang ts j hj] at hv
  unfold encT at hv
  match i, hv with
  | 0, hv => simp at hv; rw [← hv]; exact (hc j hj).1
  | 1, hv => simp at hv; rw [← hv]; exact (hc j hj).2
  | i + 2, hv => simp at hv
theorem all_same : ∀ ts us : List (ByteArray × ByteArray), Lib.allEq eqT ts us = sameB ts us
  | [], [] => rfl
  | [], _ :: _ => rfl
  | _ :: _, [] => rfl
  | t :: ts, u :: us => by
    rw [sameB, ← all_same ts us]
    rfl
set_option maxHeartbeats 1000000 in
theorem equal_any (a : Option Addr) (len cap : Nat) (ts : List (ByteArray × ByteArray)) (b : Option Addr) (lenb capb : Nat) (us : List (ByteArray × ByteArray)) (w : World) (ht : RowT w a ts) (hl : ts.length = len) (hlb : len ≤ 9223372036854775806) (hu : RowT w b us) (hlu : us.length = lenb) (hlub : lenb ≤ 9223372036854775806) :
    Calls Tryd.prog 33 #[.slice a len cap, .slice b lenb capb] w fun e w' => e = .returned (.bool (sameB ts us)) ∧ ∃ n, w' = w.drewN n := by
  by_cases hne : len = lenb
  · subst hne
    by_cases h0 : len = 0
    · have HS : Hid (sameB ts us = true) := by
        have e1 := List.eq_nil_of_length_eq_zero (hl.trans h0)
        have e2 := List.eq_nil_of_length_eq_zero (hlu.trans h0)
        unfold Hid
        rw [e1, e2]
        rfl
      subst h0
      clear ht hu hl hlu
      go_enter Tryd.func33, Tryd.ntmps33
      go_wp2
      go_rounds 1
      go_ret
      exact ⟨by rw [HS.out]; rfl, 0, rfl⟩
    · rcases ht with h | ⟨g1, o1, rfl, hg1, hc1⟩
      · omega
      · rcases hu with h | ⟨g2, o2, rfl, hg2, hc2⟩
        · omega
        · have h := AnyQ.slices_Equal Tryd.equalT 2 Tryd.isAgg40 Tryd.sizeOf40 encT (fun _ => rfl) eqT tag_neq g1 o1 len cap g2 o2 len capb ts us w (by omega) (by omega) (by omega) (by omega) (row_enc hc1) (row_enc hc2)
          have e1 : ts.take len = ts := List.take_of_length_le (by omega)
          have e2 : us.take len = us := List.take_of_length_le (by omega)
          rw [e1, e2, all_same] at h
          exact h
  · have hnn : ((len : Int) != (lenb : Int)) = true := by rw [bne_iff_ne]; omega
    have HS : Hid (sameB ts us = false) := same_len (by rw [hl, hlu]; exact hne)
    clear ht hu hl hlu hne
    go_enter Tryd.func33, Tryd.ntmps33
    go_wp2_with fail
    go_ret
    exact ⟨by rw [HS.out]; rfl, 0, rfl⟩
theorem tsame_any (a : Option Addr) (len cap : Nat) (ts : List (ByteArray × ByteArray)) (b : Option Addr) (lenb capb : Nat) (us : List (ByteArray × ByteArray)) (w : World) (ht : RowT w a ts) (hl : ts.length = len) (hlb : len ≤ 9223372036854775806) (hu : RowT w b us) (hlu : us.length = lenb) (hlub : lenb ≤ 9223372036854775806) :
    Calls Tryd.prog 20 #[.slice a len cap, .slice b lenb capb] w fun e w' => e = .returned (.bool (sameB ts us)) ∧ Below w.heap.size w w' := by
  have H : Hid _ := equal_any a len cap ts b lenb capb us w ht hl hlb hu hlu hlub
  go_enter Tryd.func20, Tryd.ntmps20
  go_wp2_with fail
  refine Calls.mono H.out ?_
  rintro _ w1 ⟨rfl, hw⟩
  have HB : Hid (Below w.heap.size w w1) := below_some hw
  clear hw H
  go_wp2_with fail
  go_ret
  exact ⟨rfl, HB.out⟩
def hasB (ts : List (ByteArray × ByteArray)) (u : ByteArray × ByteArray) : Bool := ts.any fun y => eqT u y
theorem hasB_iff (ts : List (ByteArray × ByteArray)) (u : ByteArray × ByteArray) : hasB ts u = true ↔ u ∈ ts := by
  unfold hasB
  rw [List.any_eq_true]
  constructor
  · rintro ⟨x, hx, h⟩
    rw [(eqT_iff u x).1 h]
    exact hx
  · intro h
    exact ⟨u, h, (eqT_iff u u).2 rfl⟩
set_option maxHeartbeats 1000000 in
theorem index_none (a : Option Addr) (cap : Nat) (u : ByteArray × ByteArray) (w : World) :
    Calls Tryd.prog 46 #[.slice a 0 cap, .agg #[.string u.1, .string u.2]] w fun e w' => e = .returned (.int .i64 (-1)) ∧ Below w.heap.size w w' := by
  have HB : Hid (Below w.heap.size w (w.alloc (.cells #[.string u.1, .string u.2] 40))) := below_new w _
  go_enter Tryd.func46, Tryd.ntmps46
  go_wp2
  go_rounds 1
  go_ret
  exact ⟨rfl, HB.out⟩
set_option maxHeartbeats 1000000 in
theorem contains_any (a : Option Addr) (len cap : Nat) (ts : List (ByteArray × ByteArray)) (u : ByteArray × ByteArray) (w : World) (ht : RowT w a ts) (hl : ts.length = len) (hlb : len ≤ 9223372036854775806) :
    Calls Tryd.prog 32 #[.slice a len cap, .agg #[.string u.1, .string u.2]] w fun e w' => e = .returned (.bool (hasB ts u)) ∧ Below w.heap.size w w' := by
  by_cases h0 : len = 0
  · have HS : Hid (hasB ts u = false) := by
      have e1 := List.eq_nil_of_length_eq_zero (hl.trans h0)
      unfold Hid
      rw [e1]
      rfl
    subst h0
    have HB : Hid (Below w.heap.size w (w.alloc (.cells #[.string u.1, .string u.2] 40))) := below_new w _
    have HI : Hid (∀ W, Calls Tryd.prog 46 #[.slice a 0 cap, .agg #[.string u.1, .string u.2]] W fun e w' => e = .returned (.int .i64 (-1)) ∧ Below W.heap.size W w') := fun W => index_none a cap u W
    clear ht hl
    go_enter Tryd.func32, Tryd.ntmps32
    go_wp2_with fail
    refine Calls.mono (HI.out _) ?_
    rintro _ w1 ⟨rfl, hw⟩
    have HB1 : Hid (Below w.heap.size w w1) := HB.out.trans (hw.mono HB.out.size)
    clear hw HI HB
    go_wp2_with fail
    go_ret
    exact ⟨by rw [HS.out]; rfl, HB1.out⟩
  · rcases ht with h | ⟨g1, o1, rfl, hg1, hc1⟩
    · omega
    · have h := AnyQ.slices_Contains Tryd.containsT 2 Tryd.isAgg40 Tryd.sizeOf40 encT (fun _ => rfl) eqT tag_eql g1 o1 len cap ts u w (by omega) (by omega) (row_enc hc1)
      rw [show ts.take len = ts from List.take_of_length_le (by omega)] at h
      exact h
/-- Is each of some in a list? -/
def allB (us ts : List (ByteArray × ByteArray)) : Bool := match us with
  | [] => true
  | u :: us => hasB ts u && allB us ts
theorem allB_iff (us ts : List (ByteArray × ByteArray)) : allB us ts = true ↔ ∀ u ∈ us, u ∈ ts := by
  induction us with
  | nil => simp [allB]
  | cons u us ih => rw [allB, Bool.and_eq_true, hasB_iff, ih]; simp
set_option maxHeartbeats 1000000 in
theorem twithin_any (a : Option Addr) (len cap : Nat) (us : List (ByteArray × ByteArray)) (b : Option Addr) (lenb capb : Nat) (ts : List (ByteArray × ByteArray)) (w : World) (hu : RowT w a us) (hl : us.length = len) (hlb : len ≤ 9223372036854775806) (ht : RowT w b ts) (hlt : ts.length = lenb) (hltb : lenb ≤ 9223372036854775806) :
    Calls Tryd.prog 19 #[.slice a len cap, .slice b lenb capb] w fun e w' => e = .returned (.bool (allB us ts)) ∧ Below w.heap.size w w' := by
  have HR : Hid (RowT w a us) := hu
  have HL : Hid (us.length = len) := hl
  have HC : Hid (∀ W u, Below w.heap.size w W → Calls Tryd.prog 32 #[.slice b lenb capb, .agg #[.string u.1, .string u.2]] W fun e w' => e = .returned (.bool (hasB ts u)) ∧ Below W.heap.size W w') := fun W u hW => contains_any b lenb capb ts u W (ht.below hW) hlt hltb
  clear hu hl ht hlt
  go_enter Tryd.func19, Tryd.ntmps19
  go_wp2_with fail
  go_loopw [9] (fun ix wr => ∃ (wz : World) (i : Nat), wz = wr ∧ i ≤ len ∧ ix = .int .i64 i ∧ allB us ts = allB (us.drop i) ts ∧ Below w.heap.size w wz) (fun ix _ => len - (intOf ix).toNat)
  case atStart => exact ⟨_, 0, rfl, Nat.zero_le _, rfl, rfl, Below.refl _ _⟩
  case round =>
    obtain ⟨wr, i, hwr, hi, rfl, hg, hbw⟩ := hrel
    subst hwr
    have HG : Hid (allB us ts = allB (us.drop i) ts) := hg
    have HBW : Hid (Below w.heap.size w wr) := hbw
    have HR2 := HR.out.below hbw
    clear hg hbw
    by_cases hlt : i < len
    · have hii : (i : Int) < (len : Int) := by omega
      have hil : i < us.length := by rw [HL.out]; exact hlt
      rcases HR2 with h0 | ⟨b', off, ha, hblt, hc⟩
      · omega
      · subst ha
        obtain ⟨c0, c1⟩ := hc i hil
        have HST : Hid (allB us ts = (hasB ts (tagAt us i) && allB (us.drop (i + 1)) ts)) := by unfold Hid; rw [HG.out, dropT_cons us i hil, allB]
        generalize tagAt us i = t at *
        obtain ⟨t1, t2⟩ := t
        have HBN : Hid (Below w.heap.size w (wr.alloc (.cells #[.string t1, .string t2] 40))) := HBW.out.trans ((below_new wr _).mono HBW.out.size)
        have HCC : Hid _ := HC.out _ (t1, t2) HBN.out
        clear hc HG HR hblt
        cases he : hasB ts (t1, t2) with
        | true =>
          rw [he] at HCC
          have HS2 : Hid (allB us ts = allB (us.drop (i + 1)) ts) := by unfold Hid; rw [HST.out, he]; rfl
          clear HST he
          go_wp2_with fail
          refine Calls.mono HCC.out ?_
          rintro _ w1 ⟨rfl, hw⟩
          have HB1 : Hid (Below w.heap.size w w1) := HBN.out.trans (hw.mono HBN.out.size)
          clear hw HCC HBN
          go_wp2_with fail
          go_roundw
          case rel => exact ⟨_, i + 1, rfl, by omega, by go_num, HS2.out, HB1.out⟩
          case measure => simp [intOf]; omega
        | false =>
          rw [he] at HCC
          have HS2 : Hid (allB us ts = false) := by unfold Hid; rw [HST.out, he]; rfl
          clear HST he
          go_wp2_with fail
          refine Calls.mono HCC.out ?_
          rintro _ w1 ⟨rfl, hw⟩
          have HB1 : Hid (Below w.heap.size w w1) := HBN.out.trans (hw.mono HBN.out.size)
          clear hw HCC HBN
          go_wp2_with fail
          go_ret
          exact ⟨by rw [HS2.out]; rfl, HB1.out⟩
    · have hii : ¬ (i : Int) < (len : Int) := by omega
      have HS2 : Hid (allB us ts = true) := by unfold Hid; rw [HG.out, show i = us.length by rw [HL.out]; omega, List.drop_length, allB]
      go_wp2_with fail
      go_ret
      exact ⟨by rw [HS2.out]; rfl, HBW.out⟩
end Go.Proofs.YtbfgkogmojnilaaDoor
