/-
  The document's names in memory: slices of structs of a text and a number; find, good, without.
-/
import Derived.Test.YtlhmeebbdjiokaaCabMath
import Derived.Test.YtlhmeebbdjiokaaHeld
import Derived.Laws.AppendOwn
import Derived.Laws.AppendOwnNone
namespace Go.Proofs.Ytlhmeebbdjiokaa
open Go.ChangeShapes Go.WideShapes Go.ChangeAt Go.RowKit
set_option linter.unusedVariables false
set_option linter.unusedSimpArgs false
def entAt (ts : List (ByteArray × Nat)) (i : Nat) : ByteArray × Nat := ts.getD i (ByteArray.empty, 0)
def encN (t : ByteArray × Nat) : List Value := [.string t.1, .int .i64 (t.2 : Nat)]
def encNs (ts : List (ByteArray × Nat)) : List Value := ts.flatMap encN
theorem encNs_length (ts : List (ByteArray × Nat)) : (encNs ts).length = ts.length * 2 := by
  unfold encNs
  induction ts with
  | nil => rfl
  | cons p ts ih => rw [List.flatMap_cons, List.length_append, ih, List.length_cons]; show 2 + _ = _; omega
theorem encNs_app (ts us : List (ByteArray × Nat)) : encNs (ts ++ us) = encNs ts ++ encNs us := by unfold encNs; rw [List.flatMap_append]
theorem encNs_at : ∀ (ts : List (ByteArray × Nat)) (i : Nat), i < ts.length → (encNs ts)[i * 2]? = some (.string (entAt ts i).1) ∧ (encNs ts)[i * 2 + 1]? = some (.int .i64 ((entAt ts i).2 : Nat))
  | [], i, h => by simp at h
  | p :: ts, 0, _ => ⟨rfl, rfl⟩
  | p :: ts, i + 1, h => by
    have ih := encNs_at ts i (by simpa using h)
    have e : encNs (p :: ts) = .string p.1 :: .int .i64 (p.2 : Nat) :: encNs ts := rfl
    rw [e, show (i + 1) * 2 = i * 2 + 1 + 1 by omega, List.getElem?_cons_succ, List.getElem?_cons_succ, List.getElem?_cons_succ, List.getElem?_cons_succ]
    exact ih
/-- Names (or files: a text and a number each) in memory, at an address where there are any. -/
def RowN (w : World) (a : Option Addr) (ts : List (ByteArray × Nat)) : Prop :=
  ts.length = 0 ∨ ∃ b off, a = some ⟨b, off, none⟩ ∧ b < w.heap.size ∧ ∀ i, i < ts.length → w.cell? ⟨b, off + i * 2, none⟩ = some (.string (entAt ts i).1) ∧ w.cell? ⟨b, off + i * 2 + 1, none⟩ = some (.int .i64 ((entAt ts i).2 : Nat))
theorem RowN.below {w w' : World} {a : Option Addr} {ts : List (ByteArray × Nat)} (h : RowN w a ts) (hb : Below w.heap.size w w') : RowN w' a ts := by
  rcases h with h | ⟨b, off, ha, hlt, hc⟩
  · exact .inl h
  · exact .inr ⟨b, off, ha, Nat.lt_of_lt_of_le hlt hb.size, fun i hi => ⟨(hb.cell (p := ⟨b, off + i * 2, none⟩) hlt).trans (hc i hi).1, (hb.cell (p := ⟨b, off + i * 2 + 1, none⟩) hlt).trans (hc i hi).2⟩⟩
theorem str_sameC (s t : ByteArray) : (s.toList == t.toList) = eqC s t := str_eq s t
theorem dropN_cons (ts : List (ByteArray × Nat)) (i : Nat) (h : i < ts.length) : ts.drop i = entAt ts i :: ts.drop (i + 1) := by
  unfold entAt
  rw [List.drop_eq_getElem_cons h, List.getD_eq_getElem?_getD, List.getElem?_eq_getElem h]
  rfl
theorem takeN_snoc (ts : List (ByteArray × Nat)) (i : Nat) (h : i < ts.length) : ts.take (i + 1) = ts.take i ++ [entAt ts i] := by
  unfold entAt
  rw [List.take_succ_eq_append_getElem h, List.getD_eq_getElem?_getD, List.getElem?_eq_getElem h, Option.getD_some]
def findI (l : List (ByteArray × Nat)) (nm : ByteArray) : Int := match findC l nm with | some n => (n : Nat) | none => -1
set_option maxHeartbeats 1000000 in
theorem rfind_any (a : Option Addr) (len cap : Nat) (ts : List (ByteArray × Nat)) (nm : ByteArray) (w : World) (hr : RowN w a ts) (hl : ts.length = len) (hlb : len ≤ 9223372036854775806) :
    Calls Try.prog 47 #[.slice a len cap, .string nm] w fun e w' => e = .returned (.int .i64 (findI ts nm)) ∧ w' = w := by
  have HR : Hid (RowN w a ts) := hr
  have HL : Hid (ts.length = len) := hl
  clear hr hl
  go_enter Try.func47, Try.ntmps47
  go_wp2_with fail
  go_loop [5] (fun ix => ∃ i : Nat, i ≤ len ∧ ix = .int .i64 i ∧ findC ts nm = findC (ts.drop i) nm) (fun ix => len - (intOf ix).toNat)
  case atStart => exact ⟨0, Nat.zero_le _, rfl, rfl⟩
  case round =>
    obtain ⟨i, hi, rfl, hg⟩ := hrel
    have HG : Hid (findC ts nm = findC (ts.drop i) nm) := hg
    clear hg
    by_cases hlt : i < len
    · have hii : (i : Int) < (len : Int) := by omega
      have hil : i < ts.length := by rw [HL.out]; exact hlt
      rcases HR.out with h0 | ⟨b, off, ha, hblt, hc⟩
      · omega
      · subst ha
        obtain ⟨c0, c1⟩ := hc i hil
        have HST : Hid (findC ts nm = if eqC (entAt ts i).1 nm then some (entAt ts i).2 else findC (ts.drop (i + 1)) nm) := by unfold Hid; rw [HG.out, dropN_cons ts i hil, findC]
        generalize entAt ts i = t at *
        have heq := str_sameC t.1 nm
        clear hc HG
        cases he : eqC t.1 nm with
        | true =>
          rw [he] at heq
          have HS2 : Hid (findI ts nm = (t.2 : Nat)) := by unfold Hid findI; rw [HST.out, he]; rfl
          clear HST he
          go_wp2_with fail
          go_ret
          exact ⟨by rw [HS2.out]; rfl, rfl⟩
        | false =>
          rw [he] at heq
          have HS2 : Hid (findC ts nm = findC (ts.drop (i + 1)) nm) := by unfold Hid; rw [HST.out, he]; rfl
          clear HST he
          go_wp2_with fail
          go_round
          case rel => exact ⟨i + 1, by omega, by go_num, HS2.out⟩
          case measure => simp [intOf]; omega
    · have hii : ¬ (i : Int) < (len : Int) := by omega
      have HS2 : Hid (findI ts nm = -1) := by unfold Hid findI; rw [HG.out, show i = ts.length by rw [HL.out]; omega, List.drop_length, findC]
      go_wp2_with fail
      go_ret
      exact ⟨by rw [HS2.out]; rfl, rfl⟩
/-! Names that the call makes by appending. -/
theorem entT : (Try.prog.info? 91).map (fun i => (i.zero, i.size, i.bytes)) = some (some (.agg #[.string ByteArray.empty, .int .i64 0]), 2, 24) := by kernel_rfl
def OwnN (w : World) (base : Nat) (v : Value) (ts : List (ByteArray × Nat)) : Prop := w.ownsRow base 91 2 v ts.length (encNs ts)
theorem OwnN.empty (w : World) (base : Nat) (hb : base ≤ w.heap.size) : OwnN (w.alloc (.cells #[] 91)) base (.slice (some ⟨w.heap.size, 0, none⟩) 0 0) [] :=
  World.ownsRow_lit w #[] 0 hb (by decide) rfl
theorem OwnN.alloc {w : World} {base : Nat} {v : Value} {ts : List (ByteArray × Nat)} (h : OwnN w base v ts) (o : Obj) : OwnN (w.alloc o) base v ts := World.ownsRow.alloc h o
theorem OwnN.low {w : World} {base : Nat} {v : Value} {ts : List (ByteArray × Nat)} (h : OwnN w base v ts) : OwnN w 0 v ts := by
  obtain ⟨h1, h2 | ⟨g, cap, cur, hv, hg, hr⟩⟩ := h
  · exact ⟨h1, .inl h2⟩
  · exact ⟨h1, .inr ⟨g, cap, cur, hv, Nat.zero_le _, hr⟩⟩
theorem OwnN.below {w w' : World} {base : Nat} {v : Value} {ts : List (ByteArray × Nat)} (h : OwnN w base v ts) (hb : Below w.heap.size w w') : OwnN w' base v ts := by
  have hl := fun g => World.ownsRow.lt h g
  obtain ⟨h1, h2 | ⟨g, cap, cur, hv, hg, hbk, hr⟩⟩ := h
  · exact ⟨h1, .inl h2⟩
  · exact ⟨h1, .inr ⟨g, cap, cur, hv, hg, (hb.block g (hl g (by rw [hv]; rfl)).2).trans hbk, hr⟩⟩
theorem OwnN.row {w : World} {base : Nat} {v : Value} {ts : List (ByteArray × Nat)} (h : OwnN w base v ts) : ∃ a cap, v = .slice a ts.length cap ∧ RowN w a ts ∧ ts.length ≤ cap ∧ cap ≤ maxLen ∧ (ts ≠ [] → ∃ g, a = some ⟨g, 0, none⟩ ∧ base ≤ g ∧ g < w.heap.size) := by
  have h0 := h
  obtain ⟨h1, ⟨rfl, h2⟩ | ⟨g, cap, cur, rfl, hg, hbk, hn, hmm, hs, ht⟩⟩ := h
  · exact ⟨none, 0, by rw [h2], .inl h2, by omega, Nat.zero_le _, fun h => absurd (List.eq_nil_of_length_eq_zero h2) h⟩
  · refine ⟨some ⟨g, 0, none⟩, cap, rfl, .inr ⟨g, 0, rfl, (h0.lt g rfl).2, fun i hi => ?_⟩, hn, hmm, fun _ => ⟨g, rfl, hg, (h0.lt g rfl).2⟩⟩
    obtain ⟨e1, e2⟩ := encNs_at ts i hi
    have hl := encNs_length ts
    have c1 := World.ownsRow.cellAt h0 (i * 2) (by omega)
    have c2 := World.ownsRow.cellAt h0 (i * 2 + 1) (by omega)
    rw [Nat.zero_add]
    exact ⟨c1.trans e1, c2.trans e2⟩
theorem rowN_cells {w : World} {ad : Addr} {us : List (ByteArray × Nat)} (h : RowN w (some ad) us) : ∀ j u, (encNs us)[j]? = some u → w.cell? (ad.add j) = some u := by
  intro j u hj
  have hj' : j < (encNs us).length := (List.getElem?_eq_some_iff.1 hj).1
  rw [encNs_length] at hj'
  rcases h with h0 | ⟨b, off, ha, -, hc⟩
  · omega
  · cases ha
    have hp : (⟨b, off, none⟩ : Addr).add j = ⟨b, off + j, none⟩ := by unfold Addr.add; split <;> simp_all
    rw [hp]
    obtain ⟨i, hi⟩ : ∃ i, j = i * 2 ∨ j = i * 2 + 1 := ⟨j / 2, by omega⟩
    rcases hi with rfl | rfl
    · rw [(hc i (by omega)).1, ← hj, (encNs_at us i (by omega)).1]
    · rw [show off + (i * 2 + 1) = off + i * 2 + 1 by omega, (hc i (by omega)).2, ← hj, (encNs_at us i (by omega)).2]
theorem encNs_one (us : List (ByteArray × Nat)) : ∀ u ∈ encNs us, u.oneCell' = true := by
  intro u hu
  obtain ⟨t, _, ht⟩ := List.mem_flatMap.1 hu
  simp [encN] at ht
  rcases ht with rfl | rfl <;> rfl
theorem appendN {ops : Array Oper} {rest : List Oper} (w : World) {o : Oper} {a : Act} {Q : Exit → Act → World → Prop} (hgd : o.guard = none) (sl x : Operand)
    (ho : o.op = .call { callee := .builtin .append, args := #[sl, x], argTypes := #[49, 49] })
    (base : Nat) (v : Value) (ts us : List (ByteArray × Nat)) (hs : a.eval sl = v) (hown : OwnN w base v ts) (ad : Addr) (m c : Nat) (hx : a.eval x = .slice (some ad) m c) (hrow : RowN w (some ad) us) (hm : us.length = m)
    (hl : ts.length + m ≤ 4398046511104) (hb : base ≤ w.heap.size)
    (h : ∀ v' w', OwnN w' base v' (ts ++ us) → Below base w w' → wpList Try.prog ops Q rest (a.put o.dst v') w') : wpList Try.prog ops Q (o :: rest) a w := by
  subst hm
  obtain ⟨i0, hi, hz0, hz1, hz2⟩ := info_parts entT
  refine wpList_plain hgd fun K hK => wp_append_own w sl x 49 ho base 91 i0 (.agg #[.string ByteArray.empty, .int .i64 0]) 2 24 Try.underlying49 hi hz0 hz1 hz2 rfl (by decide) v ts.length (encNs ts) hs hown ad us.length c (encNs us) hx (encNs_length us) (rowN_cells hrow) (encNs_one us) (by unfold maxLen; omega) (by omega) (by omega) ?_
  intro v' w' h1 h2 _
  refine hK _ _ (h v' w' ?_ (Below.grown (Below.refl _ _) h2 hb (fun j hj => (hown.lt j hj).1)))
  unfold OwnN
  rw [List.length_append, encNs_app]
  exact h1
theorem rowN_new (w : World) (t : ByteArray × Nat) : RowN (w.alloc (.cells #[.string t.1, .int .i64 (t.2 : Nat)] 91)) (some ⟨w.heap.size, 0, none⟩) [t] := by
  refine .inr ⟨w.heap.size, 0, rfl, by simp, fun i hi => ?_⟩
  have h0 : i = 0 := by simpa using hi
  subst h0
  constructor
  · rw [cell_of_row _ w.heap.size _ _ _ _ (heap_alloc_last w _)]; rfl
  · rw [cell_of_row _ w.heap.size _ _ _ _ (heap_alloc_last w _)]; rfl
end Go.Proofs.Ytlhmeebbdjiokaa
