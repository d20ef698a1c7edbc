/-
  The document's without.
-/
import Derived.Test.YtlhmeebbdjiokaaCabMem
namespace Go.Proofs.Ytlhmeebbdjiokaa
open Go.ChangeShapes Go.WideShapes Go.ChangeAt Go.RowKit
set_option linter.unusedVariables false
set_option linter.unusedSimpArgs false
theorem less_snoc (l : List (ByteArray × Nat)) (t : ByteArray × Nat) (nm : ByteArray) : lessC (l ++ [t]) nm = lessC l nm ++ (if eqC t.1 nm then [] else [t]) := by
  unfold lessC
  rw [List.filter_append]
  congr 1
  cases h : eqC t.1 nm <;> simp [h]
theorem less_len (l : List (ByteArray × Nat)) (nm : ByteArray) : (lessC l nm).length ≤ l.length := List.length_filter_le ..
/-- An answer that is a slice of names. -/
def NamesR (ts : List (ByteArray × Nat)) (B : Nat → Prop) (e : Ending) (w : World) : Prop := ∃ a cap, e = .returned (.slice a ts.length cap) ∧ RowN w a ts ∧ ts.length ≤ cap ∧ OwnN w 0 (.slice a ts.length cap) ts ∧ ∀ b, (Value.slice a ts.length cap).ownBlock = some b → B b
set_option maxRecDepth 100000 in
set_option maxHeartbeats 4000000 in
theorem rwithout_any (a : Option Addr) (len cap : Nat) (ts : List (ByteArray × Nat)) (nm : ByteArray) (w : World) (hr : RowN w a ts) (hl : ts.length = len) (hlb : len ≤ 2199023255552) :
    Calls Try.prog 56 #[.slice a len cap, .string nm] w fun e w' => NamesR (lessC ts nm) (fun b => w.heap.size ≤ b) e w' ∧ Below w.heap.size w w' := by
  have HR : Hid (RowN w a ts) := hr
  have HL : Hid (ts.length = len) := hl
  clear hr hl
  have HE : Hid (OwnN (w.alloc (.cells #[] 91)) w.heap.size (.slice (some ⟨w.heap.size, 0, none⟩) 0 0) []) := OwnN.empty w w.heap.size (Nat.le_refl _)
  have HBE0 : Hid (Below w.heap.size w (w.alloc (.cells #[] 91))) := (Below.refl _ _).alloc (Nat.le_refl _) _
  go_enter Try.func56, Try.ntmps56
  go_wp2_with fail
  go_loopw [5, 6] (fun ov ix wr => ∃ (wz : World) (i : Nat) (v0 : Value), wz = wr ∧ ov = v0 ∧ ix = .int .i64 i ∧ i ≤ len ∧ OwnN wz w.heap.size v0 (lessC (ts.take i) nm) ∧ Below w.heap.size w wz) (fun _ ix _ => len - (intOf ix).toNat)
  case atStart => exact ⟨_, 0, _, rfl, rfl, rfl, Nat.zero_le _, by rw [List.take_zero]; exact HE.out, HBE0.out⟩
  case round =>
    clear HE HBE0
    obtain ⟨wr, i, ov, hwr, hov, rfl, hi, hown, hbe⟩ := hrel
    subst hwr
    replace hov := hov.symm
    subst hov
    have HO : Hid (OwnN wr w.heap.size ov (lessC (ts.take i) nm)) := hown
    have HBE : Hid (Below w.heap.size w wr) := hbe
    have hsz := hbe.size
    have HRL : Hid ((lessC (ts.take i) nm).length ≤ 2199023255552) := by
      unfold Hid
      have := less_len (ts.take i) nm
      rw [List.length_take] at this
      omega
    clear hown hbe
    by_cases hlt : i < len
    · have hii : (i : Int) < (len : Int) := by omega
      have hil : i < ts.length := by rw [HL.out]; exact hlt
      rcases HR.out.below HBE.out with h0 | ⟨ga, oa, haa, hga, hca⟩
      · omega
      · subst haa
        obtain ⟨c0, c1⟩ := hca i hil
        have HSN : Hid (lessC (ts.take (i + 1)) nm = lessC (ts.take i) nm ++ (if eqC (entAt ts i).1 nm then [] else [entAt ts i])) := by unfold Hid; rw [takeN_snoc ts i hil, less_snoc]
        generalize entAt ts i = t at *
        obtain ⟨n1, n2⟩ := t
        simp only [] at c0 c1 HSN
        have heq := str_sameC n1 nm
        clear hca
        cases hg : eqC n1 nm with
        | false =>
          rw [hg] at heq
          have HS3 : Hid (lessC (ts.take (i + 1)) nm = lessC (ts.take i) nm ++ [(n1, n2)]) := by unfold Hid; rw [HSN.out, hg]; rfl
          clear HSN hg
          have HT : Hid (RowN (wr.alloc (.cells #[.string n1, .int .i64 (n2 : Nat)] 91)) (some ⟨wr.heap.size, 0, none⟩) [(n1, n2)]) := rowN_new wr (n1, n2)
          have HO2 : Hid (OwnN (wr.alloc (.cells #[.string n1, .int .i64 (n2 : Nat)] 91)) w.heap.size ov (lessC (ts.take i) nm)) := HO.out.alloc _
          have HB2' : Hid (Below w.heap.size w (wr.alloc (.cells #[.string n1, .int .i64 (n2 : Nat)] 91))) := HBE.out.alloc hsz _
          go_wp2_with (at_builtin; (refine appendN (wr.alloc (.cells #[.string n1, .int .i64 (n2 : Nat)] 91)) rfl _ _ rfl w.heap.size ov (lessC (ts.take i) nm) [(n1, n2)] rfl HO2.out ⟨wr.heap.size, 0, none⟩ 1 1 rfl HT.out rfl (by have := HRL.out; omega) (by simp; omega) ?_; intro v5 w5 hown5 hb5))
          go_roundw
          case rel => exact ⟨w5, i + 1, v5, rfl, rfl, by go_num, by omega, by rw [HS3.out]; exact hown5, HB2'.out.trans hb5⟩
          case measure => simp [intOf]; omega
        | true =>
          rw [hg] at heq
          have HS3 : Hid (lessC (ts.take (i + 1)) nm = lessC (ts.take i) nm) := by unfold Hid; rw [HSN.out, hg, if_pos rfl, List.append_nil]
          clear HSN hg
          go_wp2_with fail
          go_roundw
          case rel => exact ⟨wr, i + 1, ov, rfl, rfl, by go_num, by omega, by rw [HS3.out]; exact HO.out, HBE.out⟩
          case measure => simp [intOf]; omega
    · have hii : ¬ (i : Int) < (len : Int) := by omega
      have HTA : Hid (ts.take i = ts) := by unfold Hid; rw [show i = ts.length by rw [HL.out]; omega, List.take_length]
      rw [HTA.out] at HO HRL
      obtain ⟨ao, co, hvo, hro, hlo, -, -⟩ := HO.out.row
      subst hvo
      have HRO : Hid (RowN wr ao (lessC ts nm)) := hro
      have HOL : Hid (OwnN wr 0 (.slice ao (lessC ts nm).length co) (lessC ts nm)) := HO.out.low
      have HBL : Hid (∀ b, (Value.slice ao (lessC ts nm).length co).ownBlock = some b → w.heap.size ≤ b) := fun b hb => (World.ownsRow.lt HO.out b hb).1
      clear hro HO
      go_wp2_with fail
      go_ret
      exact ⟨⟨ao, co, rfl, HRO.out, hlo, HOL.out, HBL.out⟩, HBE.out⟩
end Go.Proofs.Ytlhmeebbdjiokaa
