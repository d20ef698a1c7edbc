/-
  The document's Crash, plain: how the list that lasts grows, how the files are cut one by one; numbers with signs in memory.
-/
import Derived.Test.YtlhmeebbdjiokaaCabList
namespace Go.Proofs.Ytlhmeebbdjiokaa
open Go.ChangeShapes Go.WideShapes Go.ChangeAt Go.RowKit
set_option linter.unusedVariables false
set_option linter.unusedSimpArgs false
/-- Numbers with signs in memory. -/
def RowZ (w : World) (a : Option Addr) (len : Nat) (zs : List Int) : Prop :=
  zs.length = len ∧ (len = 0 ∨ ∃ b off, a = some ⟨b, off, none⟩ ∧ b < w.heap.size ∧ ∀ i, i < len → w.cell? ⟨b, off + i, none⟩ = some (.int .i64 (zs.getD i 0)))
theorem RowZ.apart {O : Nat → Prop} {w w' : World} {a : Option Addr} {len : Nat} {zs : List Int} (h : RowZ w a len zs) (hp : Apart O w w') (hd : 0 < len → ∀ ad, a = some ad → ¬ O ad.block) : RowZ w' a len zs := by
  obtain ⟨h1, h4⟩ := h
  refine ⟨h1, ?_⟩
  rcases h4 with h4 | ⟨b, off, ha, hlt, hc⟩
  · exact .inl h4
  · exact .inr ⟨b, off, ha, Nat.lt_of_lt_of_le hlt hp.size, fun i hi => (World.cell?_of_block (w := w) (w' := w') (a := ⟨b, off + i, none⟩) (hp.block b hlt (hd (by omega) _ ha))).trans (hc i hi)⟩
theorem RowZ.below {w w' : World} {a : Option Addr} {len : Nat} {zs : List Int} (h : RowZ w a len zs) (hb : Below w.heap.size w w') : RowZ w' a len zs :=
  h.apart (apart_of hb (fun _ => False)) (fun _ _ _ h => h)
def lastN (c : CabM) (i : Nat) : List (ByteArray × Nat) := (c.wait.take i).foldl withC c.sure
theorem last_step (c : CabM) (i : Nat) (h : i < c.wait.length) : lastN c (i + 1) = withC (lastN c i) (chgAt c.wait i) := by
  unfold lastN chgAt
  rw [List.take_succ_eq_append_getElem h, List.foldl_append, List.getD_eq_getElem?_getD, List.getElem?_eq_getElem h]
  rfl
theorem last_len (c : CabM) : ∀ i, i ≤ c.wait.length → (lastN c i).length ≤ c.sure.length + i
  | 0, _ => Nat.le_refl _
  | i + 1, h => by
    have ih := last_len c i (by omega)
    rw [last_step c i (by omega)]
    have := with_len (lastN c i) (chgAt c.wait i)
    omega
/-- One file of a crash. -/
def cutF (f : ByteArray × Nat) (keep : List Int) (t : UInt8) : ByteArray × Nat := (cutC f keep t, (cutC f keep t).size)
theorem crashF_snoc : ∀ (l : List (ByteArray × Nat)) (e : ByteArray × Nat) (keep : List Int) (t : UInt8) (fs : List (ByteArray × Nat)), crashF (l ++ [e]) keep t fs = (crashF l keep t fs).set e.2 (cutF ((crashF l keep t fs).getD e.2 (ByteArray.empty, 0)) (keep.drop l.length) t)
  | [], e, keep, t, fs => rfl
  | x :: l, e, keep, t, fs => by
    rw [List.cons_append, crashF, crashF_snoc l e keep.tail t, crashF, List.length_cons, ← List.drop_one, List.drop_drop, Nat.add_comm 1]
theorem crash_step (L : List (ByteArray × Nat)) (i : Nat) (h : i < L.length) (keep : List Int) (t : UInt8) (fs : List (ByteArray × Nat)) :
    crashF (L.take (i + 1)) keep t fs = (crashF (L.take i) keep t fs).set (entAt L i).2 (cutF ((crashF (L.take i) keep t fs).getD (entAt L i).2 (ByteArray.empty, 0)) (keep.drop i) t) := by
  rw [takeN_snoc L i h, crashF_snoc, List.length_take, Nat.min_eq_left (Nat.le_of_lt h)]
theorem keep_at (keep : List Int) (i m : Nat) (h : i < keep.length) : keepC (keep.drop i) m = partC (keep.getD i 0) m := by
  rw [List.drop_eq_getElem_cons h, List.getD_eq_getElem?_getD, List.getElem?_eq_getElem h]
  rfl
theorem keep_none (keep : List Int) (i m : Nat) (h : ¬ i < keep.length) : keepC (keep.drop i) m = 0 := by
  rw [List.drop_of_length_le (by omega)]
  rfl
/-- The files of a crash that is under way: as many, none longer, all sound. -/
theorem crash_mid (c : CabM) (hi : InvC c) (L : List (ByteArray × Nat)) (hL : ∀ e ∈ L, e.2 < c.files.length) (i : Nat) (keep : List Int) (t : UInt8) :
    (crashF (L.take i) keep t c.files).length = c.files.length ∧ ∀ k, ((crashF (L.take i) keep t c.files).getD k (ByteArray.empty, 0)).2 ≤ ((crashF (L.take i) keep t c.files).getD k (ByteArray.empty, 0)).1.size ∧ ((crashF (L.take i) keep t c.files).getD k (ByteArray.empty, 0)).1.size ≤ 1048576 := by
  obtain ⟨h1, h2⟩ := crash_files (L.take i) keep t c.files (fun e he => hL e (List.mem_of_mem_take he)) (fun k => (hi.2.2.1 k).1)
  exact ⟨h1, fun k => ⟨(h2 k).2, Nat.le_trans (h2 k).1 (hi.2.2.1 k).2⟩⟩
theorem last_files (c : CabM) (hi : InvC c) (i : Nat) : ∀ e ∈ lastN c i, e.2 < c.files.length := fun e he => by
  refine hi.2.1 _ ?_
  rcases folded_mem _ _ e he with he | ⟨x, hx, hn⟩
  · exact (taken_iff _ _).2 (.inl ⟨e, he, rfl⟩)
  · exact (taken_iff _ _).2 (.inr ⟨x, List.mem_of_mem_take hx, hn⟩)
theorem CabRaw.refileR {w : World} {g : Nat} {O : Nat → Prop} {c : CabM} {vf vn vs vw : Value} (h : CabRaw w g O c vf vn vs vw) (b n : Nat) (hvb : vf.ownBlock = some b) (hn : n < c.files.length) (k : Nat) (hk : k < 2) (v : Value) (f' : ByteArray × Nat)
    (hf : ((encN (fileC c n)).set k v) = encN f') : CabRaw (w.setCell ⟨b, n * 2 + k, none⟩ v) g O { c with files := c.files.set n f' } vf vn vs vw := by
  obtain ⟨h2, h3, h4, h5, h6, h7, h8, h9, h10, h11⟩ := h.parts
  have hne : ∀ {base size n' xs e v0}, w.ownsRow base e size v0 n' xs → e ≠ 89 → ∀ b', v0.ownBlock = some b' → (w.setCell ⟨b, n * 2 + k, none⟩ v).heap[b']? = w.heap[b']? := by
    intro base size n' xs e v0 ho he b' hb'
    refine Below.heap_setCell w ⟨b, n * 2 + k, none⟩ v b' (fun hbg => ?_)
    have hbg' : b' = b := hbg
    subst hbg'
    exact owns_ne ho h2 he hb' hvb
  refine ⟨?_, ?_, owns_keep h3 (hne h3 (by decide)), owns_keep h4 (hne h4 (by decide)), owns_keep h5 (hne h5 (by decide)), h6, h7, h8, h9, h10, fun b' hb' => by simp [World.setCell]; exact h11 b' hb'⟩
  · rw [Below.heap_setCell w ⟨b, n * 2 + k, none⟩ v g (fun e => by have e' : g = b := e; subst e'; exact block_of_struct h.1 h2 (by decide) hvb)]
    exact h.1
  · obtain ⟨hl, ⟨rfl, h0⟩ | ⟨q, cap, cur, rfl, hg0, hbk, hnc, hcm, hcs, htk⟩⟩ := h2
    · omega
    · cases hvb
      refine ⟨by rw [encNs_length], .inr ⟨q, cap, _, ?_, Nat.zero_le _, heap_set w q (n * 2 + k) v _ _ hbk, ?_, hcm, ?_, ?_⟩⟩
      · show _ = Value.slice _ (c.files.set n f').length cap
        rw [List.length_set]
      · show (c.files.set n f').length ≤ cap
        rw [List.length_set]; exact hnc
      · rw [Array.size_setIfInBounds]; exact hcs
      · show _ = encNs (c.files.set n f')
        rw [Array.toList_setIfInBounds, List.length_set, List.take_set, htk]
        exact encNs_set c.files n k v f' hn hk hf
/-- One file is another one, both its cells. -/
theorem CabRaw.refile2 {w : World} {g : Nat} {O : Nat → Prop} {c : CabM} {vf vn vs vw : Value} (h : CabRaw w g O c vf vn vs vw) (b n : Nat) (hvb : vf.ownBlock = some b) (hn : n < c.files.length) (f' : ByteArray × Nat) :
    CabRaw ((w.setCell ⟨b, n * 2, none⟩ (.string f'.1)).setCell ⟨b, n * 2 + 1, none⟩ (.int .i64 (f'.2 : Nat))) g O { c with files := c.files.set n f' } vf vn vs vw := by
  have h1 := h.refileR b n hvb hn 0 (by decide) (.string f'.1) (f'.1, (fileC c n).2) rfl
  have hf1 : fileC { c with files := c.files.set n (f'.1, (fileC c n).2) } n = (f'.1, (fileC c n).2) := by
    unfold fileC
    rw [file_set _ _ _ _ hn, if_pos rfl]
  have h2 := h1.refileR b n hvb (by rw [List.length_set]; exact hn) 1 (by decide) (.int .i64 (f'.2 : Nat)) f' (by rw [hf1]; rfl)
  have e : ({ ({ c with files := c.files.set n (f'.1, (fileC c n).2) } : CabM) with files := (c.files.set n (f'.1, (fileC c n).2)).set n f' } : CabM) = { c with files := c.files.set n f' } := by rw [List.set_set]
  rw [← e]
  exact h2
end Go.Proofs.Ytlhmeebbdjiokaa
