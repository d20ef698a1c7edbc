/-
  The program's size: how many bytes the files of a map have, in whatever order they come.
-/
import Derived.Test.YtlhmeebbdjiokaaCabPMem
namespace Go.Proofs.Ytlhmeebbdjiokaa
open Go.ChangeShapes Go.WideShapes Go.ChangeAt Go.RowKit Go.Maps Go.MapKept Go.ChangeMaps
set_option linter.unusedVariables false
set_option linter.unusedSimpArgs false
def mkP : Option Nat → Value
  | none => .pointer none
  | some b => .pointer (some ⟨b, 0, none⟩)
theorem inv_key {key : Value} {kl : Lit} (h : keyOf Try.prog 9 key = some kl) : ∃ x : ByteArray, key = .string x := by
  obtain ⟨x, hx, -⟩ := Maps.keyOf_str Try.underlying9 h
  exact ⟨_, hx⟩
theorem inv_ptr {v : Value} {y : DataW Unit × List MemPlace} (h : ptrR v = some y) : ∃ c, v = mkP c := by
  unfold ptrR at h
  split at h
  · exact ⟨none, rfl⟩
  · rename_i b
    exact ⟨some b, rfl⟩
  · cases h
theorem next_file {l : List (ByteArray × Nat)} {fa : Nat → Nat} {x : ByteArray} {c : Option Nat} {kl : Lit} {y : DataW Unit × List MemPlace} (hk : keyOf Try.prog 9 (.string x) = some kl) (hy : ptrR (mkP c) = some y) (hat : ∀ zd, (datM l fa).atKey kl zd = y.1) :
    kl = keyL x ∧ ∃ n, findC l x = some n ∧ c = some (fa n) := by
  obtain ⟨x', hx, rfl, hm⟩ := Maps.keyOf_str Try.underlying9 hk
  have hx' : x.data.toList = x' := by
    have := congrArg (fun v => match v with | Value.string s => s.data.toList | _ => []) hx
    simpa [encStr] using this
  have hkl : (Lit.string x') = keyL x := by rw [← hx']; rfl
  rw [hkl] at hat
  refine ⟨hkl, ?_⟩
  cases hf : findC l x with
  | none =>
    have e1 := hat .nil
    have e2 := hat (.lit (.bool true))
    rw [dat_find, hf] at e1 e2
    rw [← e1] at e2
    cases e2
  | some n =>
    have e1 := hat .nil
    rw [dat_find, hf] at e1
    dsimp only at e1
    refine ⟨n, rfl, ?_⟩
    obtain ⟨y1, y2⟩ := y
    dsimp only at e1
    subst e1
    have := ptr_lit hy
    cases c with
    | none => cases this
    | some b =>
      simp only [mkP] at this
      simp only [Value.pointer.injEq, Option.some.injEq, Addr.mk.injEq] at this
      rw [this.1]
/-- What is still to come. -/
def restC (fs : List (ByteArray × Nat)) (l : List (ByteArray × Nat)) (left : Lit → Bool) : Nat := sizesC fs (l.filter fun e => left (keyL e.1))
theorem rest_start (fs : List (ByteArray × Nat)) (l : List (ByteArray × Nat)) (fa : Nat → Nat) : restC fs l (Maps.has (datM l fa)) = sizesC fs l := by
  unfold restC
  rw [List.filter_eq_self.2]
  intro e he
  show (l.map fun e => (keyL e.1, (.lit (.int .i64 ((fa e.2 : Nat) : Int)) : DataW Unit))).any (fun p => p.1.sameKey (keyL e.1)) = true
  rw [List.any_eq_true]
  exact ⟨_, List.mem_map_of_mem he, by dsimp only; rw [key_same]; exact eqC_self _⟩
theorem rest_end (fs : List (ByteArray × Nat)) (l : List (ByteArray × Nat)) (left : Lit → Bool) (h : ∀ kl, left kl = false) : restC fs l left = 0 := by
  unfold restC
  rw [List.filter_eq_nil_iff.2 (fun e _ => by rw [h]; exact Bool.false_ne_true)]
  rfl
theorem rest_step (fs : List (ByteArray × Nat)) : ∀ (l : List (ByteArray × Nat)) (left : Lit → Bool) (x : ByteArray) (n : Nat), SortC l → findC l x = some n → left (keyL x) = true →
    restC fs l left = (fs.getD n (ByteArray.empty, 0)).1.size + restC fs l (fun z => left z && !z.sameKey (keyL x))
  | [], _, _, _, _, h, _ => by cases h
  | e :: l, left, x, n, hs, hf, hl => by
    obtain ⟨h1, h2⟩ := List.pairwise_cons.1 hs
    unfold findC at hf
    split at hf
    · rename_i he
      cases hf
      have hex := (eqC_iff _ _).1 he
      have eA : ((e :: l).filter fun e => left (keyL e.1)) = e :: l.filter fun e => left (keyL e.1) := List.filter_cons_of_pos (by rw [hex]; exact hl)
      have eB : ((e :: l).filter fun e => left (keyL e.1) && !(keyL e.1).sameKey (keyL x)) = l.filter fun e => left (keyL e.1) && !(keyL e.1).sameKey (keyL x) := List.filter_cons_of_neg (by rw [key_same, he]; simp)
      have e2 : (l.filter fun e => left (keyL e.1) && !(keyL e.1).sameKey (keyL x)) = l.filter fun e => left (keyL e.1) := by
        apply List.filter_congr
        intro y hy
        have hne : y.1 ≠ x := by
          intro k
          have := h1 y hy
          rw [hex, k] at this
          exact List.lt_irrefl _ this
        rw [key_same, eqC_ne hne, Bool.not_false, Bool.and_true]
      show sizesC fs ((e :: l).filter fun e => left (keyL e.1)) = _ + sizesC fs ((e :: l).filter fun e => left (keyL e.1) && !(keyL e.1).sameKey (keyL x))
      rw [eA, eB, e2]
      show (_ :: _).sum = _
      rw [List.sum_cons]
      rfl
    · rename_i he
      have hne : eqC e.1 x = false := by
        cases hb : eqC e.1 x with
        | false => rfl
        | true => exact absurd hb he
      have ih := rest_step fs l left x n h2 hf hl
      show sizesC fs ((e :: l).filter fun e => left (keyL e.1)) = _ + sizesC fs ((e :: l).filter fun e => left (keyL e.1) && !(keyL e.1).sameKey (keyL x))
      replace ih : sizesC fs (l.filter fun e => left (keyL e.1)) = (fs.getD n (ByteArray.empty, 0)).1.size + sizesC fs (l.filter fun e => left (keyL e.1) && !(keyL e.1).sameKey (keyL x)) := ih
      cases hc : left (keyL e.1) with
      | false =>
        rw [List.filter_cons_of_neg (by rw [hc]; simp), List.filter_cons_of_neg (by rw [hc]; simp)]
        exact ih
      | true =>
        rw [List.filter_cons_of_pos (by rw [hc]), List.filter_cons_of_pos (by rw [hc, key_same, hne]; rfl)]
        show (_ :: List.map _ _).sum = _ + (_ :: List.map _ _).sum
        rw [List.sum_cons, List.sum_cons]
        unfold sizesC at ih
        rw [ih]
        omega
theorem FileAt.len {w : World} {b : Nat} {v : Value} {f : ByteArray × Nat} (h : FileAt w b v f) : ∃ a cap, v = .slice a f.1.size cap ∧ w.cell? ⟨b, 0, none⟩ = some (.slice a f.1.size cap) ∧ w.cell? ⟨b, 1, none⟩ = some (.int .i64 (f.2 : Nat)) ∧ (∀ i, w.frozen? ⟨b, i, none⟩ = false) ∧ RowL .u8 w a f.1.size (txt f.1) ∧ f.1.size ≤ cap ∧ (a = none → f.1.size = 0) ∧ b < w.heap.size := by
  obtain ⟨h1, h2⟩ := h
  obtain ⟨a, cap, hv, hr, hc, -⟩ := h2.row
  rw [txt_length] at hv hr hc
  subst hv
  have e := fun i => cell_of_row w b i _ _ _ h1
  refine ⟨a, cap, rfl, e 0, e 1, fun i => frozen_of_row w b i _ _ h1, hr, hc, fun ha => ?_, (Array.getElem?_eq_some_iff.1 h1).1⟩
  rcases hr.2 with h0 | ⟨b', off, ha', -⟩
  · exact h0
  · rw [ha] at ha'; cases ha'
set_option maxRecDepth 100000 in
set_option maxHeartbeats 4000000 in
theorem psize_some (w : World) (b : Nat) (l : List (ByteArray × Nat)) (fa : Nat → Nat) (fs : List (ByteArray × Nat)) (hown : w.ownsMap Try.prog 9 ptrR b l.length (datM l fa)) (hs : SortC l)
    (hfile : ∀ x n, findC l x = some n → ∃ a cap, w.cell? ⟨fa n, 0, none⟩ = some (.slice a (fs.getD n (ByteArray.empty, 0)).1.size cap) ∧ fa n < w.heap.size) (hb : sizesC fs l ≤ 4611686018427387904) :
    Calls Try.prog 30 #[.map (some b)] w fun e w' => e = .returned (.int .i64 (sizesC fs l : Nat)) ∧ Below w.heap.size w w' := by
  have HF : Hid _ := hfile
  have HS : Hid (SortC l) := hs
  clear hfile hs
  go_enter Try.func30, Try.ntmps30
  go_wp2_with (at_range; (refine wpList_range_own _ rfl _ 44 rfl 9 70 strK folderU _ b _ _ rfl hown ?_; intro w0 hrg0 hg0 hs0))
  go_frame
  go_loopw [3, 5] (fun sv _ wr => ∃ (left : Lit → Bool) (cnt S : Nat), sv = .int .i64 (S : Nat) ∧ wr.ranges Try.prog 9 ptrR b w.heap.size l.length (datM l fa) left cnt ∧ S + restC fs l left = sizesC fs l ∧ Below w.heap.size w wr) (fun _ _ wr => wr.rangeLeft b w.heap.size)
  case atStart => exact ⟨_, _, 0, rfl, hrg0, by rw [rest_start, Nat.zero_add], ⟨hg0.os, hg0.tape, hg0.output, hg0.size, fun k hk => hg0.block k hk (by simp)⟩⟩
  case round =>
    obtain ⟨left, cnt, S, rfl, hrg, hsum, hbl⟩ := hrel
    have HSUM : Hid (S + restC fs l left = sizesC fs l) := hsum
    have HBL : Hid (Below w.heap.size w wr) := hbl
    clear hsum hbl
    go_wp2_with (at_next; (refine wpList_next_ranges _ rfl _ rfl 9 strK ptrR Value.string mkP (fun _ _ h => inv_key h) (fun _ _ h => inv_ptr h) b w.heap.size l.length _ _ _ rfl hrg ?_ ?_))
    · intro _ hl0
      have HE : Hid (S = sizesC fs l) := by
        have := HSUM.out
        rw [rest_end fs l left hl0] at this
        exact this
      go_wp2
      go_ret
      exact ⟨by rw [← HE.out]; rfl, HBL.out⟩
    · intro x c kl y1 y2 w1 cnt1 hk hlk hy hat hrg1 hlt hg1 hs1 hen
      obtain ⟨rfl, n, hfn, rfl⟩ := next_file hk hy hat
      obtain ⟨a, cap, hc0, hcl⟩ := HF.out x n hfn
      have hst := rest_step fs l left x n HS.out hfn hlk
      have HB1 : Hid (Below w.heap.size w w1) := HBL.out.trans ⟨hg1.os, hg1.tape, hg1.output, by rw [hs1]; exact Nat.le_refl _, fun k hk' => hg1.block k (Nat.lt_of_lt_of_le hk' HBL.out.size) (by simp; omega)⟩
      have d0 : w1.cell? ⟨fa n, 0, none⟩ = some (.slice a (fs.getD n (ByteArray.empty, 0)).1.size cap) := (HB1.out.cell (p := ⟨fa n, 0, none⟩) hcl).trans hc0
      have HN : Hid ((S + (fs.getD n (ByteArray.empty, 0)).1.size) + restC fs l (fun z => left z && !z.sameKey (keyL x)) = sizesC fs l) := by
        have := HSUM.out
        unfold Hid
        omega
      have hle : S + (fs.getD n (ByteArray.empty, 0)).1.size ≤ 4611686018427387904 := by have := HN.out; omega
      generalize (fs.getD n (ByteArray.empty, 0)).1.size = z at *
      simp only [mkP] at hen
      have HLT : Hid (w1.rangeLeft b w.heap.size < wr.rangeLeft b w.heap.size) := by unfold Hid; rw [hrg1.left_eq, hrg.left_eq]; exact hlt
      have HRG : Hid (w1.ranges Try.prog 9 ptrR b w.heap.size l.length (datM l fa) (fun z => left z && !z.sameKey (keyL x)) cnt1) := hrg1
      clear HSUM HBL hrg hrg1 hst hc0 hy hat hk hfn hlk hlt hg1 hs1
      simp only [mkP]
      go_wp2_with fail
      go_roundw
      case rel => exact ⟨_, cnt1, S + z, by go_num, HRG.out, HN.out, HB1.out⟩
      case measure => exact HLT.out
set_option maxHeartbeats 1000000 in
theorem psize_nil (w : World) :
    Calls Try.prog 30 #[.map none] w fun e w' => e = .returned (.int .i64 0) ∧ Below w.heap.size w w' := by
  have hrg := run_range_nilMap (P := Try.prog) w 44 9 70 folderU
  have hnx : ∀ ty, (Instr.next (.pointer (some ⟨w.heap.size, 0, none⟩)) false ty).run Try.prog (w.alloc (.mapIter none 0 #[] 0)) = _ := fun ty => run_next_nilMap w ty 0 0 #[]
  go_enter Try.func30, Try.ntmps30
  go_wp2
  refine wp_loop_rounds 1 ?_
  rw [rounds_succ]
  go_wp2
  go_ret
  exact ⟨rfl, (Below.refl _ w).alloc (Nat.le_refl _) _⟩
theorem psize_any (w : World) (m : Option Nat) (l : List (ByteArray × Nat)) (fa : Nat → Nat) (fs : List (ByteArray × Nat)) (h : MapF w m l fa) (hs : SortC l)
    (hfile : ∀ x n, findC l x = some n → ∃ a cap, w.cell? ⟨fa n, 0, none⟩ = some (.slice a (fs.getD n (ByteArray.empty, 0)).1.size cap) ∧ fa n < w.heap.size) (hb : sizesC fs l ≤ 4611686018427387904) :
    Calls Try.prog 30 #[.map m] w fun e w' => e = .returned (.int .i64 (sizesC fs l : Nat)) ∧ Below w.heap.size w w' := by
  rcases h with ⟨rfl, rfl⟩ | ⟨b, rfl, ho⟩
  · exact psize_nil w
  · exact psize_some w b l fa fs ho hs hfile hb
end Go.Proofs.Ytlhmeebbdjiokaa
