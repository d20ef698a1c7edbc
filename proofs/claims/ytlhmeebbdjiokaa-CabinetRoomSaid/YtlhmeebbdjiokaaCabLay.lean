/-
  The document's with: a list of names behind a change.
-/
import Derived.Test.YtlhmeebbdjiokaaCabWith
import Derived.Deep.QuietTactic
import Derived.BigQuiet
namespace Go.Proofs.Ytlhmeebbdjiokaa
open Go.ChangeShapes Go.WideShapes Go.ChangeAt Go.RowKit
set_option linter.unusedVariables false
set_option linter.unusedSimpArgs false
theorem emptyC_txt (M : ByteArray) : M.toList.isEmpty = decide (M.size = 0) := by
  rw [← txt_length, ← toList_txt]
  cases M.toList <;> simp
theorem emptyC_iff (M : ByteArray) : M.toList = [] ↔ M.size = 0 := by
  rw [← txt_length, ← toList_txt]
  cases M.toList <;> simp
theorem gtrC (t : TypeId) (a b : ByteArray) : binOp .gtr t (.string a) (.string b) = pure (.bool !(Op.bytesLess a.toList b.toList || a.toList == b.toList)) := by
  simp [binOp, Op.stringOp]
theorem gtr_ltC (a b : ByteArray) : (!(Op.bytesLess a.toList b.toList || a.toList == b.toList)) = ltC b a := by
  rw [str_less, str_eq]
  unfold ltC
  by_cases h : txt b < txt a
  · rw [decide_eq_true h, decide_eq_false (fun e => List.lt_irrefl _ (List.lt_trans h e)), decide_eq_false (fun e => by rw [e] at h; exact List.lt_irrefl _ h)]
    rfl
  · rw [decide_eq_false h]
    by_cases h2 : txt a < txt b
    · rw [decide_eq_true h2]; rfl
    · have e : txt a = txt b := List.le_antisymm (List.not_lt.1 h) (List.not_lt.1 h2)
      rw [decide_eq_true e, Bool.or_true]; rfl
theorem lay_len (l : List (ByteArray × Nat)) (nm : ByteArray) (f : Nat) : (layC l nm f).length = l.length + 1 := by
  induction l with
  | nil => rfl
  | cons e l ih =>
    unfold layC
    split
    · simp
    · rw [List.length_cons, ih, List.length_cons]
theorem with_len (l : List (ByteArray × Nat)) (x : ByteArray × ByteArray × Nat) : (withC l x).length ≤ l.length + 1 := by
  have h1 : (if x.1.size = 0 then l else lessC l x.1).length ≤ l.length := by
    split
    · exact Nat.le_refl _
    · exact less_len _ _
  unfold withC
  split
  · omega
  · rw [lay_len]
    have := less_len (if x.1.size = 0 then l else lessC l x.1) x.2.1
    omega
set_option maxRecDepth 100000 in
set_option maxHeartbeats 8000000 in
theorem rwith_any (a : Option Addr) (len cap : Nat) (ts : List (ByteArray × Nat)) (old nm : ByteArray) (f : Nat) (w : World) (hr : RowN w a ts) (hl : ts.length = len) (hlb : len ≤ 1099511627776) (hcap : len ≤ cap) (hown : OwnN w 0 (.slice a len cap) ts) :
    Calls Try.prog 46 #[.slice a len cap, .agg #[.string old, .string nm, .int .i64 (f : Nat)]] w fun e w' => NamesR (withC ts (old, nm, f)) (fun b => w.heap.size ≤ b ∨ (Value.slice a len cap).ownBlock = some b) e w' ∧ Below w.heap.size w w' := by
  have HR : Hid (RowN w a ts) := hr
  have HL : Hid (ts.length = len) := hl
  have HOW : Hid (OwnN w 0 (.slice a len cap) ts) := hown
  clear hr hl hown
  have hemO := emptyC_txt old
  have hemN := emptyC_txt nm
  by_cases ho : old.size = 0
  ·
    rw [decide_eq_true ho] at hemO
    have hemO2 := (emptyC_iff old).2 ho
    have HWC : Hid (withC ts (old, nm, f) = if nm.size = 0 then ts else layC (lessC ts nm) nm f) := by unfold Hid withC; simp only [if_pos ho]
    clear ho
    by_cases hn : nm.size = 0
    · rw [decide_eq_true hn] at hemN
      have hemN2 := (emptyC_iff nm).2 hn
      rw [if_pos hn] at HWC
      clear hn
      have HBX : Hid (Below w.heap.size w (w.alloc (.cells #[.string old, .string nm, .int .i64 (f : Nat)] 87))) := (Below.refl _ _).alloc (Nat.le_refl _) _
      have HX1 : Hid ((w.alloc (.cells #[.string old, .string nm, .int .i64 (f : Nat)] 87)).cell? ⟨w.heap.size, 1, none⟩ = some (.string nm)) := by unfold Hid; rw [cell_of_row _ w.heap.size _ _ _ _ (heap_alloc_last w _)]; rfl
      have HX2 : Hid ((w.alloc (.cells #[.string old, .string nm, .int .i64 (f : Nat)] 87)).cell? ⟨w.heap.size, 2, none⟩ = some (.int .i64 (f : Nat))) := by unfold Hid; rw [cell_of_row _ w.heap.size _ _ _ _ (heap_alloc_last w _)]; rfl
      have HXS : Hid (w.heap.size < (w.alloc (.cells #[.string old, .string nm, .int .i64 (f : Nat)] 87)).heap.size) := by unfold Hid; simp
      go_enter Try.func46, Try.ntmps46
      go_wp2_with fail
      go_ret
      exact ⟨⟨a, cap, by rw [HWC.out, HL.out]; rfl, by rw [HWC.out]; exact HR.out.below HBX.out, by rw [HWC.out, HL.out]; exact hcap, by rw [HWC.out, HL.out]; exact HOW.out.below HBX.out, by rw [HWC.out, HL.out]; exact fun b hb => .inr hb⟩, HBX.out⟩
    · rw [decide_eq_false hn] at hemN
      have hemN2 : ¬ nm.toList = [] := fun e => hn ((emptyC_iff nm).1 e)
      rw [if_neg hn] at HWC
      clear hn
      have HBX : Hid (Below w.heap.size w (w.alloc (.cells #[.string old, .string nm, .int .i64 (f : Nat)] 87))) := (Below.refl _ _).alloc (Nat.le_refl _) _
      have HX1 : Hid ((w.alloc (.cells #[.string old, .string nm, .int .i64 (f : Nat)] 87)).cell? ⟨w.heap.size, 1, none⟩ = some (.string nm)) := by unfold Hid; rw [cell_of_row _ w.heap.size _ _ _ _ (heap_alloc_last w _)]; rfl
      have HX2 : Hid ((w.alloc (.cells #[.string old, .string nm, .int .i64 (f : Nat)] 87)).cell? ⟨w.heap.size, 2, none⟩ = some (.int .i64 (f : Nat))) := by unfold Hid; rw [cell_of_row _ w.heap.size _ _ _ _ (heap_alloc_last w _)]; rfl
      have HXS : Hid (w.heap.size < (w.alloc (.cells #[.string old, .string nm, .int .i64 (f : Nat)] 87)).heap.size) := by unfold Hid; simp
      go_enter Try.func46, Try.ntmps46
      go_wp2_with fail
      have x1 := HX1.out
      have x2 := HX2.out
      have hx := HXS.out
      clear HX1 HX2 HXS
      generalize w.alloc (.cells #[.string old, .string nm, .int .i64 (f : Nat)] 87) = wx at *
      have HR1 : Hid (RowN wx a ts) := HR.out.below HBX.out
      have HL1 : Hid (ts.length = len) := HL.out
      clear HR HL
      refine Calls.mono (rwithout_any a len cap ts nm wx HR1.out HL1.out (by omega)) ?_
      rintro _ w3 ⟨⟨a3, c3, rfl, hr3, hc3, -, -⟩, hb3⟩
      have HB3 : Hid (Below w.heap.size w w3) := HBX.out.trans (hb3.mono (Nat.le_of_lt hx))
      have hx3 : w.heap.size < w3.heap.size := Nat.lt_of_lt_of_le hx hb3.size
      have d1 : w3.cell? ⟨w.heap.size, 1, none⟩ = some (.string nm) := (hb3.cell (p := ⟨w.heap.size, 1, none⟩) hx).trans x1
      have d2 : w3.cell? ⟨w.heap.size, 2, none⟩ = some (.int .i64 (f : Nat)) := (hb3.cell (p := ⟨w.heap.size, 2, none⟩) hx).trans x2
      have hlu : (lessC ts nm).length ≤ 1099511627776 := by
        have := less_len ts nm
        have := HL1.out
        omega
      generalize lessC ts nm = us at *
      obtain ⟨n3, hn3⟩ : ∃ n3, us.length = n3 := ⟨_, rfl⟩
      rw [hn3] at hc3 hlu ⊢
      have HR3 : Hid (RowN w3 a3 us) := hr3
      have HL3 : Hid (us.length = n3) := hn3
      have D1 : Hid (w3.cell? ⟨w.heap.size, 1, none⟩ = some (.string nm)) := d1
      have D2 : Hid (w3.cell? ⟨w.heap.size, 2, none⟩ = some (.int .i64 (f : Nat))) := d2
      clear hb3 hr3 hn3 HR1 HL1 HBX x1 x2 d1 d2 hx
      have HE : Hid (OwnN (w3.alloc (.cells #[] 91)) w3.heap.size (.slice (some ⟨w3.heap.size, 0, none⟩) 0 0) []) := OwnN.empty w3 w3.heap.size (Nat.le_refl _)
      have HBE0 : Hid (Below w3.heap.size w3 (w3.alloc (.cells #[] 91))) := (Below.refl _ _).alloc (Nat.le_refl _) _
      go_wp2_with fail
      go_loopw [5, 6, 7] (fun ov lv ix wr => ∃ (wz : World) (i : Nat) (v0 : Value) (b : Bool) (o : List (ByteArray × Nat)), wz = wr ∧ ov = v0 ∧ lv = .bool b ∧ ix = .int .i64 i ∧ i ≤ n3 ∧ o.length + cond b 0 1 ≤ i + 1 ∧ OwnN wz w3.heap.size v0 o ∧ layC us nm f = o ++ (if b then us.drop i else layC (us.drop i) nm f) ∧ Below w3.heap.size w3 wz) (fun _ _ ix _ => n3 - (intOf ix).toNat)
      case atStart => exact ⟨_, 0, _, false, [], rfl, rfl, rfl, rfl, Nat.zero_le _, by simp, HE.out, rfl, HBE0.out⟩
      case round =>
        clear HE HBE0
        obtain ⟨wr, i, ov, b, o, hwr, hov, rfl, rfl, hi, hol, hown, hlay, hbl⟩ := hrel
        subst hwr
        replace hov := hov.symm
        subst hov
        have HO : Hid (OwnN wr w3.heap.size ov o) := hown
        have HBL : Hid (Below w3.heap.size w3 wr) := hbl
        have HLY : Hid (layC us nm f = o ++ (if b then us.drop i else layC (us.drop i) nm f)) := hlay
        have hsz := hbl.size
        have y1 : wr.cell? ⟨w.heap.size, 1, none⟩ = some (.string nm) := (hbl.cell (p := ⟨w.heap.size, 1, none⟩) hx3).trans D1.out
        have y2 : wr.cell? ⟨w.heap.size, 2, none⟩ = some (.int .i64 (f : Nat)) := (hbl.cell (p := ⟨w.heap.size, 2, none⟩) hx3).trans D2.out
        have hwx : w.heap.size < wr.heap.size := Nat.lt_of_lt_of_le hx3 hsz
        clear hown hbl hlay
        by_cases hlt : i < n3
        · have hii : (i : Int) < (n3 : Int) := by omega
          have hil : i < us.length := by rw [HL3.out]; exact hlt
          rcases HR3.out with h0 | ⟨ga, oa, haa, hga3, hca⟩
          · omega
          · subst haa
            have c0 := (HBL.out.cell (p := ⟨ga, oa + i * 2, none⟩) hga3).trans (hca i hil).1
            have c1 := (HBL.out.cell (p := ⟨ga, oa + i * 2 + 1, none⟩) hga3).trans (hca i hil).2
            have hga : ga < wr.heap.size := Nat.lt_of_lt_of_le hga3 hsz
            have HD : Hid (us.drop i = entAt us i :: us.drop (i + 1)) := dropN_cons us i hil
            generalize entAt us i = t at *
            obtain ⟨n1, n2⟩ := t
            simp only [] at c0 c1
            clear hca
            cases b with
            | true =>
              replace hol : o.length ≤ i + 1 := hol
              have HL4 : Hid (layC us nm f = (o ++ [(n1, n2)]) ++ us.drop (i + 1)) := by unfold Hid; rw [HLY.out, if_pos rfl, HD.out, List.append_assoc]; rfl
              clear HLY HD
              go_wp2_with fail
              go_quiet (fail)
              have HB6 : Hid (Below w3.heap.size w3 (wr.drewN nq)) := below_drew HBL.out nq
              have HO6 : Hid (OwnN (wr.drewN nq) w3.heap.size ov o) := HO.out
              replace c0 : (wr.drewN nq).cell? ⟨ga, oa + i * 2, none⟩ = some (.string n1) := c0
              replace c1 : (wr.drewN nq).cell? ⟨ga, oa + i * 2 + 1, none⟩ = some (.int .i64 (n2 : Nat)) := c1
              replace y1 : (wr.drewN nq).cell? ⟨w.heap.size, 1, none⟩ = some (.string nm) := y1
              replace y2 : (wr.drewN nq).cell? ⟨w.heap.size, 2, none⟩ = some (.int .i64 (f : Nat)) := y2
              clear HBL HO
              replace hsz := HB6.out.size
              replace hga : ga < (wr.drewN nq).heap.size := hga
              replace hwx : w.heap.size < (wr.drewN nq).heap.size := hwx
              generalize wr.drewN nq = wq at *
              have HT : Hid (RowN (wq.alloc (.cells #[.string n1, .int .i64 (n2 : Nat)] 91)) (some ⟨wq.heap.size, 0, none⟩) [(n1, n2)]) := rowN_new wq (n1, n2)
              have HO2 : Hid (OwnN (wq.alloc (.cells #[.string n1, .int .i64 (n2 : Nat)] 91)) w3.heap.size ov o) := HO6.out.alloc _
              have HB5 : Hid (Below w3.heap.size w3 (wq.alloc (.cells #[.string n1, .int .i64 (n2 : Nat)] 91))) := HB6.out.alloc hsz _
              go_wp2_with (at_builtin; (refine appendN (wq.alloc (.cells #[.string n1, .int .i64 (n2 : Nat)] 91)) rfl _ _ rfl w3.heap.size ov o [(n1, n2)] rfl HO2.out ⟨wq.heap.size, 0, none⟩ 1 1 rfl HT.out rfl (by omega) (by simp; omega) ?_; intro v5 w5 hown5 hb5))
              go_roundw
              case rel => exact ⟨w5, i + 1, v5, true, _, rfl, rfl, rfl, by go_num, by omega, by simp; omega, hown5, by rw [HL4.out]; rfl, HB5.out.trans hb5⟩
              case measure => simp [intOf]; omega
            | false =>
              replace hol : o.length + 1 ≤ i + 1 := hol
              have HG : Hid (∀ V, (binOp .gtr 9 (.string n1) (.string nm)).run Try.prog V = .ok (.bool (ltC nm n1)) V) := fun V => by
                rw [gtrC, gtr_ltC]; rfl
              have HL4 : Hid (layC us nm f = if ltC nm n1 then ((o ++ [(nm, f)]) ++ [(n1, n2)]) ++ us.drop (i + 1) else (o ++ [(n1, n2)]) ++ layC (us.drop (i + 1)) nm f) := by
                unfold Hid
                rw [HLY.out, if_neg (by decide), HD.out, layC]
                split <;> simp
              clear HLY HD
              cases hg : ltC nm n1 with
              | true =>
                rw [hg] at HG HL4
                rw [if_pos rfl] at HL4
                go_wp2_with fail
                refine wp_region_quiet_lit (by kernel_rfl) (by kernel_rfl) ?_
                repeat (go_big_quiet_step (fail))
                refine wpQuiet_step (fun K hK => ?_)
                go_simp
                refine ⟨_, fun V => by rw [HG.out]; exact ⟨rfl, rfl⟩, hK _ ?_⟩
                clear hK K
                repeat (go_big_quiet_step (fail))
                refine wpQuiet_nil ?_
                intro _ hw'
                obtain ⟨nq, hw''⟩ := hw'
                subst hw''
                have HB6 : Hid (Below w3.heap.size w3 (wr.drewN nq)) := below_drew HBL.out nq
                have HO6 : Hid (OwnN (wr.drewN nq) w3.heap.size ov o) := HO.out
                replace c0 : (wr.drewN nq).cell? ⟨ga, oa + i * 2, none⟩ = some (.string n1) := c0
                replace c1 : (wr.drewN nq).cell? ⟨ga, oa + i * 2 + 1, none⟩ = some (.int .i64 (n2 : Nat)) := c1
                replace y1 : (wr.drewN nq).cell? ⟨w.heap.size, 1, none⟩ = some (.string nm) := y1
                replace y2 : (wr.drewN nq).cell? ⟨w.heap.size, 2, none⟩ = some (.int .i64 (f : Nat)) := y2
                clear HBL HO
                replace hsz := HB6.out.size
                replace hga : ga < (wr.drewN nq).heap.size := hga
                replace hwx : w.heap.size < (wr.drewN nq).heap.size := hwx
                generalize wr.drewN nq = wq at *
                clear HG hg
                have HT : Hid (RowN (wq.alloc (.cells #[.string nm, .int .i64 (f : Nat)] 91)) (some ⟨wq.heap.size, 0, none⟩) [(nm, f)]) := rowN_new wq (nm, f)
                have HO2 : Hid (OwnN (wq.alloc (.cells #[.string nm, .int .i64 (f : Nat)] 91)) w3.heap.size ov o) := HO6.out.alloc _
                have HB5 : Hid (Below w3.heap.size w3 (wq.alloc (.cells #[.string nm, .int .i64 (f : Nat)] 91))) := HB6.out.alloc hsz _
                have e0 : (wq.alloc (.cells #[.string nm, .int .i64 (f : Nat)] 91)).cell? ⟨ga, oa + i * 2, none⟩ = some (.string n1) := (Below.cell (((Below.refl wq.heap.size wq)).alloc (Nat.le_refl _) _) (p := ⟨ga, oa + i * 2, none⟩) hga).trans c0
                have e1 : (wq.alloc (.cells #[.string nm, .int .i64 (f : Nat)] 91)).cell? ⟨ga, oa + i * 2 + 1, none⟩ = some (.int .i64 (n2 : Nat)) := (Below.cell (((Below.refl wq.heap.size wq)).alloc (Nat.le_refl _) _) (p := ⟨ga, oa + i * 2 + 1, none⟩) hga).trans c1
                have E0 : Hid _ := e0
                have E1 : Hid _ := e1
                clear e0 e1
                go_wp2_with (at_builtin; first
                  | (refine appendN (wq.alloc (.cells #[.string nm, .int .i64 (f : Nat)] 91)) rfl _ _ rfl w3.heap.size ov o [(nm, f)] rfl HO2.out ⟨wq.heap.size, 0, none⟩ 1 1 rfl HT.out rfl (by omega) (by simp; omega) ?_; intro v5 w5 hown5 hb5; have g0 := (hb5.cell (p := ⟨ga, oa + i * 2, none⟩) hga3).trans E0.out; have g1 := (hb5.cell (p := ⟨ga, oa + i * 2 + 1, none⟩) hga3).trans E1.out; have HB6' : Hid (Below w3.heap.size w3 w5) := HB5.out.trans hb5; have hsz5 := HB6'.out.size; have hga5 : ga < w5.heap.size := Nat.lt_of_lt_of_le hga3 hsz5; have HT7 : Hid (RowN (w5.alloc (.cells #[.string n1, .int .i64 (n2 : Nat)] 91)) (some ⟨w5.heap.size, 0, none⟩) [(n1, n2)]) := rowN_new w5 (n1, n2); have HO8 : Hid (OwnN (w5.alloc (.cells #[.string n1, .int .i64 (n2 : Nat)] 91)) w3.heap.size v5 (o ++ [(nm, f)])) := hown5.alloc _; have HB7 : Hid (Below w3.heap.size w3 (w5.alloc (.cells #[.string n1, .int .i64 (n2 : Nat)] 91))) := HB6'.out.alloc hsz5 _; clear hown5 hb5 E0 E1 HT HO2 HB5 HB6 HO6 c0 c1 y1 y2)
                  | (refine appendN (w5.alloc (.cells #[.string n1, .int .i64 (n2 : Nat)] 91)) rfl _ _ rfl w3.heap.size v5 (o ++ [(nm, f)]) [(n1, n2)] rfl HO8.out ⟨w5.heap.size, 0, none⟩ 1 1 rfl HT7.out rfl (by simp; omega) (by simp; omega) ?_; intro v7 w7 hown7 hb7))
                go_roundw
                case rel => exact ⟨w7, i + 1, v7, true, _, rfl, rfl, rfl, by go_num, by omega, by simp; omega, hown7, by rw [HL4.out]; rfl, HB7.out.trans hb7⟩
                case measure => simp [intOf]; omega
              | false =>
                rw [hg] at HG HL4
                rw [if_neg (by decide)] at HL4
                go_wp2_with fail
                refine wp_region_quiet_lit (by kernel_rfl) (by kernel_rfl) ?_
                repeat (go_big_quiet_step (fail))
                refine wpQuiet_step (fun K hK => ?_)
                go_simp
                refine ⟨_, fun V => by rw [HG.out]; exact ⟨rfl, rfl⟩, hK _ ?_⟩
                clear hK K
                repeat (go_big_quiet_step (fail))
                refine wpQuiet_nil ?_
                intro _ hw'
                obtain ⟨nq, hw''⟩ := hw'
                subst hw''
                have HB6 : Hid (Below w3.heap.size w3 (wr.drewN nq)) := below_drew HBL.out nq
                have HO6 : Hid (OwnN (wr.drewN nq) w3.heap.size ov o) := HO.out
                replace c0 : (wr.drewN nq).cell? ⟨ga, oa + i * 2, none⟩ = some (.string n1) := c0
                replace c1 : (wr.drewN nq).cell? ⟨ga, oa + i * 2 + 1, none⟩ = some (.int .i64 (n2 : Nat)) := c1
                replace y1 : (wr.drewN nq).cell? ⟨w.heap.size, 1, none⟩ = some (.string nm) := y1
                replace y2 : (wr.drewN nq).cell? ⟨w.heap.size, 2, none⟩ = some (.int .i64 (f : Nat)) := y2
                clear HBL HO
                replace hsz := HB6.out.size
                replace hga : ga < (wr.drewN nq).heap.size := hga
                replace hwx : w.heap.size < (wr.drewN nq).heap.size := hwx
                generalize wr.drewN nq = wq at *
                clear HG hg
                have HT : Hid (RowN (wq.alloc (.cells #[.string n1, .int .i64 (n2 : Nat)] 91)) (some ⟨wq.heap.size, 0, none⟩) [(n1, n2)]) := rowN_new wq (n1, n2)
                have HO2 : Hid (OwnN (wq.alloc (.cells #[.string n1, .int .i64 (n2 : Nat)] 91)) w3.heap.size ov o) := HO6.out.alloc _
                have HB5 : Hid (Below w3.heap.size w3 (wq.alloc (.cells #[.string n1, .int .i64 (n2 : Nat)] 91))) := HB6.out.alloc hsz _
                go_wp2_with (at_builtin; (refine appendN (wq.alloc (.cells #[.string n1, .int .i64 (n2 : Nat)] 91)) rfl _ _ rfl w3.heap.size ov o [(n1, n2)] rfl HO2.out ⟨wq.heap.size, 0, none⟩ 1 1 rfl HT.out rfl (by omega) (by simp; omega) ?_; intro v5 w5 hown5 hb5))
                go_roundw
                case rel => exact ⟨w5, i + 1, v5, false, _, rfl, rfl, rfl, by go_num, by omega, by simp; omega, hown5, by rw [HL4.out]; rfl, HB5.out.trans hb5⟩
                case measure => simp [intOf]; omega
        · have hii : ¬ (i : Int) < (n3 : Int) := by omega
          have HDI : Hid (us.drop i = []) := by unfold Hid; rw [List.drop_eq_nil_iff, HL3.out]; omega
          cases b with
          | true =>
            replace hol : o.length ≤ i + 1 := hol
            have HL4 : Hid (withC ts (old, nm, f) = o) := by unfold Hid; rw [HWC.out, HLY.out, if_pos rfl, HDI.out, List.append_nil]
            obtain ⟨ao, co, hvo, hro, hlo, -, -⟩ := HO.out.row
            subst hvo
            have HRO : Hid (RowN wr ao o) := hro
            have HOL : Hid (OwnN wr 0 (.slice ao o.length co) o) := HO.out.low
            have HBK : Hid (∀ b, (Value.slice ao o.length co).ownBlock = some b → w3.heap.size ≤ b) := fun b hb => (World.ownsRow.lt HO.out b hb).1
            clear hro HO HLY HWC
            go_wp2_with fail
            go_ret
            exact ⟨⟨ao, co, by rw [HL4.out]; rfl, by rw [HL4.out]; exact HRO.out, by rw [HL4.out]; exact hlo, by rw [HL4.out]; exact HOL.out, by rw [HL4.out]; exact fun b hb => .inl (Nat.le_trans HB3.out.size (HBK.out b hb))⟩, HB3.out.trans (HBL.out.mono (Nat.le_trans HB3.out.size (Nat.le_refl _)))⟩
          | false =>
            replace hol : o.length + 1 ≤ i + 1 := hol
            have HL4 : Hid (withC ts (old, nm, f) = o ++ [(nm, f)]) := by unfold Hid; rw [HWC.out, HLY.out, if_neg (by decide), HDI.out]; rfl
            clear HLY HWC
            have HT : Hid (RowN (wr.alloc (.cells #[.string nm, .int .i64 (f : Nat)] 91)) (some ⟨wr.heap.size, 0, none⟩) [(nm, f)]) := rowN_new wr (nm, f)
            have HO2 : Hid (OwnN (wr.alloc (.cells #[.string nm, .int .i64 (f : Nat)] 91)) w3.heap.size ov o) := HO.out.alloc _
            have HB5 : Hid (Below w3.heap.size w3 (wr.alloc (.cells #[.string nm, .int .i64 (f : Nat)] 91))) := HBL.out.alloc hsz _
            go_wp2_with (at_builtin; (refine appendN (wr.alloc (.cells #[.string nm, .int .i64 (f : Nat)] 91)) rfl _ _ rfl w3.heap.size ov o [(nm, f)] rfl HO2.out ⟨wr.heap.size, 0, none⟩ 1 1 rfl HT.out rfl (by omega) (by simp; omega) ?_; intro v5 w5 hown5 hb5; obtain ⟨ao, co, hvo, hro, hlo, -, -⟩ := hown5.row; have hol5 := hown5.low; have hbk5 : ∀ b, v5.ownBlock = some b → w3.heap.size ≤ b := fun b hb => (World.ownsRow.lt hown5 b hb).1; subst hvo))
            go_ret
            exact ⟨⟨ao, co, by rw [HL4.out, List.length_append]; rfl, by rw [HL4.out]; exact hro, by rw [HL4.out]; exact hlo, by rw [HL4.out]; exact hol5, by rw [HL4.out]; exact fun b hb => .inl (Nat.le_trans HB3.out.size (hbk5 b hb))⟩, HB3.out.trans ((HB5.out.trans hb5).mono HB3.out.size)⟩
  ·
    rw [decide_eq_false ho] at hemO
    have hemO2 : ¬ old.toList = [] := fun e => ho ((emptyC_iff old).1 e)
    have HWC : Hid (withC ts (old, nm, f) = if nm.size = 0 then lessC ts old else layC (lessC (lessC ts old) nm) nm f) := by unfold Hid withC; simp only [if_neg ho]
    clear ho
    have HBX : Hid (Below w.heap.size w (w.alloc (.cells #[.string old, .string nm, .int .i64 (f : Nat)] 87))) := (Below.refl _ _).alloc (Nat.le_refl _) _
    have HX1 : Hid ((w.alloc (.cells #[.string old, .string nm, .int .i64 (f : Nat)] 87)).cell? ⟨w.heap.size, 1, none⟩ = some (.string nm)) := by unfold Hid; rw [cell_of_row _ w.heap.size _ _ _ _ (heap_alloc_last w _)]; rfl
    have HX2 : Hid ((w.alloc (.cells #[.string old, .string nm, .int .i64 (f : Nat)] 87)).cell? ⟨w.heap.size, 2, none⟩ = some (.int .i64 (f : Nat))) := by unfold Hid; rw [cell_of_row _ w.heap.size _ _ _ _ (heap_alloc_last w _)]; rfl
    have HXS : Hid (w.heap.size < (w.alloc (.cells #[.string old, .string nm, .int .i64 (f : Nat)] 87)).heap.size) := by unfold Hid; simp
    go_enter Try.func46, Try.ntmps46
    go_wp2_with fail
    have x1 := HX1.out
    have x2 := HX2.out
    have hx := HXS.out
    clear HX1 HX2 HXS
    generalize w.alloc (.cells #[.string old, .string nm, .int .i64 (f : Nat)] 87) = wx at *
    refine Calls.mono (rwithout_any a len cap ts old wx (HR.out.below HBX.out) HL.out (by omega)) ?_
    rintro _ w2 ⟨⟨a2, c2, rfl, hr2, hc2, ho2, hk2⟩, hb2⟩
    have HWS : Hid (w.heap.size ≤ wx.heap.size) := HBX.out.size
    have HB2 : Hid (Below w.heap.size w w2) := HBX.out.trans (hb2.mono (Nat.le_of_lt hx))
    replace x1 : w2.cell? ⟨w.heap.size, 1, none⟩ = some (.string nm) := (hb2.cell (p := ⟨w.heap.size, 1, none⟩) hx).trans x1
    replace x2 : w2.cell? ⟨w.heap.size, 2, none⟩ = some (.int .i64 (f : Nat)) := (hb2.cell (p := ⟨w.heap.size, 2, none⟩) hx).trans x2
    replace hx : w.heap.size < w2.heap.size := Nat.lt_of_lt_of_le hx hb2.size
    clear HBX
    have HBX : Hid (Below w.heap.size w w2) := HB2.out
    have hl2 : (lessC ts old).length ≤ 1099511627776 := by
      have := less_len ts old
      have := HL.out
      omega
    generalize lessC ts old = vs at *
    obtain ⟨n2, hn2⟩ : ∃ n2, vs.length = n2 := ⟨_, rfl⟩
    rw [hn2] at hc2 hl2 ho2 hk2 ⊢
    have HR1 : Hid (RowN w2 a2 vs) := hr2
    have HL1 : Hid (vs.length = n2) := hn2
    have HO2' : Hid (OwnN w2 0 (.slice a2 n2 c2) vs) := ho2
    have HK2' : Hid (∀ b, (Value.slice a2 n2 c2).ownBlock = some b → w.heap.size ≤ b) := fun b hb => Nat.le_trans HWS.out (hk2 b hb)
    clear hb2 hr2 hn2 HR HL HB2 ho2 hk2
    by_cases hn : nm.size = 0
    · rw [decide_eq_true hn] at hemN
      have hemN2 := (emptyC_iff nm).2 hn
      rw [if_pos hn] at HWC
      clear hn
      go_wp2_with fail
      go_ret
      exact ⟨⟨a2, c2, by rw [HWC.out, HL1.out]; rfl, by rw [HWC.out]; exact HR1.out, by rw [HWC.out, HL1.out]; exact hc2, by rw [HWC.out, HL1.out]; exact HO2'.out, by rw [HWC.out, HL1.out]; exact fun b hb => .inl (HK2'.out b hb)⟩, HBX.out⟩
    · rw [decide_eq_false hn] at hemN
      have hemN2 : ¬ nm.toList = [] := fun e => hn ((emptyC_iff nm).1 e)
      rw [if_neg hn] at HWC
      clear hn
      go_wp2_with fail
      refine Calls.mono (rwithout_any a2 n2 c2 vs nm w2 HR1.out HL1.out (by omega)) ?_
      rintro _ w3 ⟨⟨a3, c3, rfl, hr3, hc3, -, -⟩, hb3⟩
      have HB3 : Hid (Below w.heap.size w w3) := HBX.out.trans (hb3.mono (Nat.le_of_lt hx))
      have hx3 : w.heap.size < w3.heap.size := Nat.lt_of_lt_of_le hx hb3.size
      have d1 : w3.cell? ⟨w.heap.size, 1, none⟩ = some (.string nm) := (hb3.cell (p := ⟨w.heap.size, 1, none⟩) hx).trans x1
      have d2 : w3.cell? ⟨w.heap.size, 2, none⟩ = some (.int .i64 (f : Nat)) := (hb3.cell (p := ⟨w.heap.size, 2, none⟩) hx).trans x2
      have hlu : (lessC vs nm).length ≤ 1099511627776 := by
        have := less_len vs nm
        have := HL1.out
        omega
      generalize lessC vs nm = us at *
      obtain ⟨n3, hn3⟩ : ∃ n3, us.length = n3 := ⟨_, rfl⟩
      rw [hn3] at hc3 hlu ⊢
      have HR3 : Hid (RowN w3 a3 us) := hr3
      have HL3 : Hid (us.length = n3) := hn3
      have D1 : Hid (w3.cell? ⟨w.heap.size, 1, none⟩ = some (.string nm)) := d1
      have D2 : Hid (w3.cell? ⟨w.heap.size, 2, none⟩ = some (.int .i64 (f : Nat))) := d2
      clear hb3 hr3 hn3 HR1 HL1 HBX x1 x2 d1 d2 hx
      have HE : Hid (OwnN (w3.alloc (.cells #[] 91)) w3.heap.size (.slice (some ⟨w3.heap.size, 0, none⟩) 0 0) []) := OwnN.empty w3 w3.heap.size (Nat.le_refl _)
      have HBE0 : Hid (Below w3.heap.size w3 (w3.alloc (.cells #[] 91))) := (Below.refl _ _).alloc (Nat.le_refl _) _
      go_wp2_with fail
      go_loopw [5, 6, 7] (fun ov lv ix wr => ∃ (wz : World) (i : Nat) (v0 : Value) (b : Bool) (o : List (ByteArray × Nat)), wz = wr ∧ ov = v0 ∧ lv = .bool b ∧ ix = .int .i64 i ∧ i ≤ n3 ∧ o.length + cond b 0 1 ≤ i + 1 ∧ OwnN wz w3.heap.size v0 o ∧ layC us nm f = o ++ (if b then us.drop i else layC (us.drop i) nm f) ∧ Below w3.heap.size w3 wz) (fun _ _ ix _ => n3 - (intOf ix).toNat)
      case atStart => exact ⟨_, 0, _, false, [], rfl, rfl, rfl, rfl, Nat.zero_le _, by simp, HE.out, rfl, HBE0.out⟩
      case round =>
        clear HE HBE0
        obtain ⟨wr, i, ov, b, o, hwr, hov, rfl, rfl, hi, hol, hown, hlay, hbl⟩ := hrel
        subst hwr
        replace hov := hov.symm
        subst hov
        have HO : Hid (OwnN wr w3.heap.size ov o) := hown
        have HBL : Hid (Below w3.heap.size w3 wr) := hbl
        have HLY : Hid (layC us nm f = o ++ (if b then us.drop i else layC (us.drop i) nm f)) := hlay
        have hsz := hbl.size
        have y1 : wr.cell? ⟨w.heap.size, 1, none⟩ = some (.string nm) := (hbl.cell (p := ⟨w.heap.size, 1, none⟩) hx3).trans D1.out
        have y2 : wr.cell? ⟨w.heap.size, 2, none⟩ = some (.int .i64 (f : Nat)) := (hbl.cell (p := ⟨w.heap.size, 2, none⟩) hx3).trans D2.out
        have hwx : w.heap.size < wr.heap.size := Nat.lt_of_lt_of_le hx3 hsz
        clear hown hbl hlay
        by_cases hlt : i < n3
        · have hii : (i : Int) < (n3 : Int) := by omega
          have hil : i < us.length := by rw [HL3.out]; exact hlt
          rcases HR3.out with h0 | ⟨ga, oa, haa, hga3, hca⟩
          · omega
          · subst haa
            have c0 := (HBL.out.cell (p := ⟨ga, oa + i * 2, none⟩) hga3).trans (hca i hil).1
            have c1 := (HBL.out.cell (p := ⟨ga, oa + i * 2 + 1, none⟩) hga3).trans (hca i hil).2
            have hga : ga < wr.heap.size := Nat.lt_of_lt_of_le hga3 hsz
            have HD : Hid (us.drop i = entAt us i :: us.drop (i + 1)) := dropN_cons us i hil
            generalize entAt us i = t at *
            obtain ⟨n1, n2⟩ := t
            simp only [] at c0 c1
            clear hca
            cases b with
            | true =>
              replace hol : o.length ≤ i + 1 := hol
              have HL4 : Hid (layC us nm f = (o ++ [(n1, n2)]) ++ us.drop (i + 1)) := by unfold Hid; rw [HLY.out, if_pos rfl, HD.out, List.append_assoc]; rfl
              clear HLY HD
              go_wp2_with fail
              go_quiet (fail)
              have HB6 : Hid (Below w3.heap.size w3 (wr.drewN nq)) := below_drew HBL.out nq
              have HO6 : Hid (OwnN (wr.drewN nq) w3.heap.size ov o) := HO.out
              replace c0 : (wr.drewN nq).cell? ⟨ga, oa + i * 2, none⟩ = some (.string n1) := c0
              replace c1 : (wr.drewN nq).cell? ⟨ga, oa + i * 2 + 1, none⟩ = some (.int .i64 (n2 : Nat)) := c1
              replace y1 : (wr.drewN nq).cell? ⟨w.heap.size, 1, none⟩ = some (.string nm) := y1
              replace y2 : (wr.drewN nq).cell? ⟨w.heap.size, 2, none⟩ = some (.int .i64 (f : Nat)) := y2
              clear HBL HO
              replace hsz := HB6.out.size
              replace hga : ga < (wr.drewN nq).heap.size := hga
              replace hwx : w.heap.size < (wr.drewN nq).heap.size := hwx
              generalize wr.drewN nq = wq at *
              have HT : Hid (RowN (wq.alloc (.cells #[.string n1, .int .i64 (n2 : Nat)] 91)) (some ⟨wq.heap.size, 0, none⟩) [(n1, n2)]) := rowN_new wq (n1, n2)
              have HO2 : Hid (OwnN (wq.alloc (.cells #[.string n1, .int .i64 (n2 : Nat)] 91)) w3.heap.size ov o) := HO6.out.alloc _
              have HB5 : Hid (Below w3.heap.size w3 (wq.alloc (.cells #[.string n1, .int .i64 (n2 : Nat)] 91))) := HB6.out.alloc hsz _
              go_wp2_with (at_builtin; (refine appendN (wq.alloc (.cells #[.string n1, .int .i64 (n2 : Nat)] 91)) rfl _ _ rfl w3.heap.size ov o [(n1, n2)] rfl HO2.out ⟨wq.heap.size, 0, none⟩ 1 1 rfl HT.out rfl (by omega) (by simp; omega) ?_; intro v5 w5 hown5 hb5))
              go_roundw
              case rel => exact ⟨w5, i + 1, v5, true, _, rfl, rfl, rfl, by go_num, by omega, by simp; omega, hown5, by rw [HL4.out]; rfl, HB5.out.trans hb5⟩
              case measure => simp [intOf]; omega
            | false =>
              replace hol : o.length + 1 ≤ i + 1 := hol
              have HG : Hid (∀ V, (binOp .gtr 9 (.string n1) (.string nm)).run Try.prog V = .ok (.bool (ltC nm n1)) V) := fun V => by
                rw [gtrC, gtr_ltC]; rfl
              have HL4 : Hid (layC us nm f = if ltC nm n1 then ((o ++ [(nm, f)]) ++ [(n1, n2)]) ++ us.drop (i + 1) else (o ++ [(n1, n2)]) ++ layC (us.drop (i + 1)) nm f) := by
                unfold Hid
                rw [HLY.out, if_neg (by decide), HD.out, layC]
                split <;> simp
              clear HLY HD
              cases hg : ltC nm n1 with
              | true =>
                rw [hg] at HG HL4
                rw [if_pos rfl] at HL4
                go_wp2_with fail
                refine wp_region_quiet_lit (by kernel_rfl) (by kernel_rfl) ?_
                repeat (go_big_quiet_step (fail))
                refine wpQuiet_step (fun K hK => ?_)
                go_simp
                refine ⟨_, fun V => by rw [HG.out]; exact ⟨rfl, rfl⟩, hK _ ?_⟩
                clear hK K
                repeat (go_big_quiet_step (fail))
                refine wpQuiet_nil ?_
                intro _ hw'
                obtain ⟨nq, hw''⟩ := hw'
                subst hw''
                have HB6 : Hid (Below w3.heap.size w3 (wr.drewN nq)) := below_drew HBL.out nq
                have HO6 : Hid (OwnN (wr.drewN nq) w3.heap.size ov o) := HO.out
                replace c0 : (wr.drewN nq).cell? ⟨ga, oa + i * 2, none⟩ = some (.string n1) := c0
                replace c1 : (wr.drewN nq).cell? ⟨ga, oa + i * 2 + 1, none⟩ = some (.int .i64 (n2 : Nat)) := c1
                replace y1 : (wr.drewN nq).cell? ⟨w.heap.size, 1, none⟩ = some (.string nm) := y1
                replace y2 : (wr.drewN nq).cell? ⟨w.heap.size, 2, none⟩ = some (.int .i64 (f : Nat)) := y2
                clear HBL HO
                replace hsz := HB6.out.size
                replace hga : ga < (wr.drewN nq).heap.size := hga
                replace hwx : w.heap.size < (wr.drewN nq).heap.size := hwx
                generalize wr.drewN nq = wq at *
                clear HG hg
                have HT : Hid (RowN (wq.alloc (.cells #[.string nm, .int .i64 (f : Nat)] 91)) (some ⟨wq.heap.size, 0, none⟩) [(nm, f)]) := rowN_new wq (nm, f)
                have HO2 : Hid (OwnN (wq.alloc (.cells #[.string nm, .int .i64 (f : Nat)] 91)) w3.heap.size ov o) := HO6.out.alloc _
                have HB5 : Hid (Below w3.heap.size w3 (wq.alloc (.cells #[.string nm, .int .i64 (f : Nat)] 91))) := HB6.out.alloc hsz _
                have e0 : (wq.alloc (.cells #[.string nm, .int .i64 (f : Nat)] 91)).cell? ⟨ga, oa + i * 2, none⟩ = some (.string n1) := (Below.cell (((Below.refl wq.heap.size wq)).alloc (Nat.le_refl _) _) (p := ⟨ga, oa + i * 2, none⟩) hga).trans c0
                have e1 : (wq.alloc (.cells #[.string nm, .int .i64 (f : Nat)] 91)).cell? ⟨ga, oa + i * 2 + 1, none⟩ = some (.int .i64 (n2 : Nat)) := (Below.cell (((Below.refl wq.heap.size wq)).alloc (Nat.le_refl _) _) (p := ⟨ga, oa + i * 2 + 1, none⟩) hga).trans c1
                have E0 : Hid _ := e0
                have E1 : Hid _ := e1
                clear e0 e1
                go_wp2_with (at_builtin; first
                  | (refine appendN (wq.alloc (.cells #[.string nm, .int .i64 (f : Nat)] 91)) rfl _ _ rfl w3.heap.size ov o [(nm, f)] rfl HO2.out ⟨wq.heap.size, 0, none⟩ 1 1 rfl HT.out rfl (by omega) (by simp; omega) ?_; intro v5 w5 hown5 hb5; have g0 := (hb5.cell (p := ⟨ga, oa + i * 2, none⟩) hga3).trans E0.out; have g1 := (hb5.cell (p := ⟨ga, oa + i * 2 + 1, none⟩) hga3).trans E1.out; have HB6' : Hid (Below w3.heap.size w3 w5) := HB5.out.trans hb5; have hsz5 := HB6'.out.size; have hga5 : ga < w5.heap.size := Nat.lt_of_lt_of_le hga3 hsz5; have HT7 : Hid (RowN (w5.alloc (.cells #[.string n1, .int .i64 (n2 : Nat)] 91)) (some ⟨w5.heap.size, 0, none⟩) [(n1, n2)]) := rowN_new w5 (n1, n2); have HO8 : Hid (OwnN (w5.alloc (.cells #[.string n1, .int .i64 (n2 : Nat)] 91)) w3.heap.size v5 (o ++ [(nm, f)])) := hown5.alloc _; have HB7 : Hid (Below w3.heap.size w3 (w5.alloc (.cells #[.string n1, .int .i64 (n2 : Nat)] 91))) := HB6'.out.alloc hsz5 _; clear hown5 hb5 E0 E1 HT HO2 HB5 HB6 HO6 c0 c1 y1 y2)
                  | (refine appendN (w5.alloc (.cells #[.string n1, .int .i64 (n2 : Nat)] 91)) rfl _ _ rfl w3.heap.size v5 (o ++ [(nm, f)]) [(n1, n2)] rfl HO8.out ⟨w5.heap.size, 0, none⟩ 1 1 rfl HT7.out rfl (by simp; omega) (by simp; omega) ?_; intro v7 w7 hown7 hb7))
                go_roundw
                case rel => exact ⟨w7, i + 1, v7, true, _, rfl, rfl, rfl, by go_num, by omega, by simp; omega, hown7, by rw [HL4.out]; rfl, HB7.out.trans hb7⟩
                case measure => simp [intOf]; omega
              | false =>
                rw [hg] at HG HL4
                rw [if_neg (by decide)] at HL4
                go_wp2_with fail
                refine wp_region_quiet_lit (by kernel_rfl) (by kernel_rfl) ?_
                repeat (go_big_quiet_step (fail))
                refine wpQuiet_step (fun K hK => ?_)
                go_simp
                refine ⟨_, fun V => by rw [HG.out]; exact ⟨rfl, rfl⟩, hK _ ?_⟩
                clear hK K
                repeat (go_big_quiet_step (fail))
                refine wpQuiet_nil ?_
                intro _ hw'
                obtain ⟨nq, hw''⟩ := hw'
                subst hw''
                have HB6 : Hid (Below w3.heap.size w3 (wr.drewN nq)) := below_drew HBL.out nq
                have HO6 : Hid (OwnN (wr.drewN nq) w3.heap.size ov o) := HO.out
                replace c0 : (wr.drewN nq).cell? ⟨ga, oa + i * 2, none⟩ = some (.string n1) := c0
                replace c1 : (wr.drewN nq).cell? ⟨ga, oa + i * 2 + 1, none⟩ = some (.int .i64 (n2 : Nat)) := c1
                replace y1 : (wr.drewN nq).cell? ⟨w.heap.size, 1, none⟩ = some (.string nm) := y1
                replace y2 : (wr.drewN nq).cell? ⟨w.heap.size, 2, none⟩ = some (.int .i64 (f : Nat)) := y2
                clear HBL HO
                replace hsz := HB6.out.size
                replace hga : ga < (wr.drewN nq).heap.size := hga
                replace hwx : w.heap.size < (wr.drewN nq).heap.size := hwx
                generalize wr.drewN nq = wq at *
                clear HG hg
                have HT : Hid (RowN (wq.alloc (.cells #[.string n1, .int .i64 (n2 : Nat)] 91)) (some ⟨wq.heap.size, 0, none⟩) [(n1, n2)]) := rowN_new wq (n1, n2)
                have HO2 : Hid (OwnN (wq.alloc (.cells #[.string n1, .int .i64 (n2 : Nat)] 91)) w3.heap.size ov o) := HO6.out.alloc _
                have HB5 : Hid (Below w3.heap.size w3 (wq.alloc (.cells #[.string n1, .int .i64 (n2 : Nat)] 91))) := HB6.out.alloc hsz _
                go_wp2_with (at_builtin; (refine appendN (wq.alloc (.cells #[.string n1, .int .i64 (n2 : Nat)] 91)) rfl _ _ rfl w3.heap.size ov o [(n1, n2)] rfl HO2.out ⟨wq.heap.size, 0, none⟩ 1 1 rfl HT.out rfl (by omega) (by simp; omega) ?_; intro v5 w5 hown5 hb5))
                go_roundw
                case rel => exact ⟨w5, i + 1, v5, false, _, rfl, rfl, rfl, by go_num, by omega, by simp; omega, hown5, by rw [HL4.out]; rfl, HB5.out.trans hb5⟩
                case measure => simp [intOf]; omega
        · have hii : ¬ (i : Int) < (n3 : Int) := by omega
          have HDI : Hid (us.drop i = []) := by unfold Hid; rw [List.drop_eq_nil_iff, HL3.out]; omega
          cases b with
          | true =>
            replace hol : o.length ≤ i + 1 := hol
            have HL4 : Hid (withC ts (old, nm, f) = o) := by unfold Hid; rw [HWC.out, HLY.out, if_pos rfl, HDI.out, List.append_nil]
            obtain ⟨ao, co, hvo, hro, hlo, -, -⟩ := HO.out.row
            subst hvo
            have HRO : Hid (RowN wr ao o) := hro
            have HOL : Hid (OwnN wr 0 (.slice ao o.length co) o) := HO.out.low
            have HBK : Hid (∀ b, (Value.slice ao o.length co).ownBlock = some b → w3.heap.size ≤ b) := fun b hb => (World.ownsRow.lt HO.out b hb).1
            clear hro HO HLY HWC
            go_wp2_with fail
            go_ret
            exact ⟨⟨ao, co, by rw [HL4.out]; rfl, by rw [HL4.out]; exact HRO.out, by rw [HL4.out]; exact hlo, by rw [HL4.out]; exact HOL.out, by rw [HL4.out]; exact fun b hb => .inl (Nat.le_trans HB3.out.size (HBK.out b hb))⟩, HB3.out.trans (HBL.out.mono (Nat.le_trans HB3.out.size (Nat.le_refl _)))⟩
          | false =>
            replace hol : o.length + 1 ≤ i + 1 := hol
            have HL4 : Hid (withC ts (old, nm, f) = o ++ [(nm, f)]) := by unfold Hid; rw [HWC.out, HLY.out, if_neg (by decide), HDI.out]; rfl
            clear HLY HWC
            have HT : Hid (RowN (wr.alloc (.cells #[.string nm, .int .i64 (f : Nat)] 91)) (some ⟨wr.heap.size, 0, none⟩) [(nm, f)]) := rowN_new wr (nm, f)
            have HO2 : Hid (OwnN (wr.alloc (.cells #[.string nm, .int .i64 (f : Nat)] 91)) w3.heap.size ov o) := HO.out.alloc _
            have HB5 : Hid (Below w3.heap.size w3 (wr.alloc (.cells #[.string nm, .int .i64 (f : Nat)] 91))) := HBL.out.alloc hsz _
            go_wp2_with (at_builtin; (refine appendN (wr.alloc (.cells #[.string nm, .int .i64 (f : Nat)] 91)) rfl _ _ rfl w3.heap.size ov o [(nm, f)] rfl HO2.out ⟨wr.heap.size, 0, none⟩ 1 1 rfl HT.out rfl (by omega) (by simp; omega) ?_; intro v5 w5 hown5 hb5; obtain ⟨ao, co, hvo, hro, hlo, -, -⟩ := hown5.row; have hol5 := hown5.low; have hbk5 : ∀ b, v5.ownBlock = some b → w3.heap.size ≤ b := fun b hb => (World.ownsRow.lt hown5 b hb).1; subst hvo))
            go_ret
            exact ⟨⟨ao, co, by rw [HL4.out, List.length_append]; rfl, by rw [HL4.out]; exact hro, by rw [HL4.out]; exact hlo, by rw [HL4.out]; exact hol5, by rw [HL4.out]; exact fun b hb => .inl (Nat.le_trans HB3.out.size (hbk5 b hb))⟩, HB3.out.trans ((HB5.out.trans hb5).mono HB3.out.size)⟩
end Go.Proofs.Ytlhmeebbdjiokaa
