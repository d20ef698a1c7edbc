/-
  The document's cabinet: one of its rows is another one.
-/
import Derived.Test.YtlhmeebbdjiokaaAppendWhere
import Derived.Test.YtlhmeebbdjiokaaCabPower
import Derived.Test.YtlhmeebbdjiokaaCabGood
namespace Go.Proofs.Ytlhmeebbdjiokaa
open Go.ChangeShapes Go.WideShapes Go.ChangeAt Go.RowKit
set_option linter.unusedVariables false
set_option linter.unusedSimpArgs false
theorem raw_field {w : World} {g : Nat} {cs : Array Value} (hg : w.heap[g]? = some (.cells cs 52 (0, 0))) {O' : Nat → Prop} {c' : CabM} {vf' vn' vs' vw' : Value} (i : Nat) (v : Value)
    (hset : cs.setIfInBounds i v = cabCells c' vf' vn' vs' vw') (hO : O' g) (hO' : ∀ b, O' b → b < w.heap.size)
    (h2 : OwnF w vf' c'.files) (h3 : OwnE w vn' c'.now) (h4 : OwnE w vs' c'.sure) (h5 : OwnX w vw' c'.wait) (i1 : inB O' vf') (i2 : inB O' vn') (i3 : inB O' vs') (i4 : inB O' vw') : CabRaw (w.setCell ⟨g, i, none⟩ v) g O' c' vf' vn' vs' vw' := by
  have hne : ∀ {base size n xs e v0}, w.ownsRow base e size v0 n xs → e ≠ 52 → ∀ b, v0.ownBlock = some b → (w.setCell ⟨g, i, none⟩ v).heap[b]? = w.heap[b]? := by
    intro base size n xs e v0 ho he b hb
    refine Below.heap_setCell w ⟨g, i, none⟩ v b (fun hbg => ?_)
    obtain ⟨cur, hcur⟩ := owns_type ho hb
    rw [show b = g from hbg, hg] at hcur
    cases hcur
    exact he rfl
  refine ⟨by rw [heap_set w g i v _ _ hg, hset], owns_keep h2 (hne h2 (by decide)), owns_keep h3 (hne h3 (by decide)), owns_keep h4 (hne h4 (by decide)), owns_keep h5 (hne h5 (by decide)), hO, i1, i2, i3, i4, fun b hb => ?_⟩
  simp [World.setCell]
  exact hO' b hb
theorem grown_keep {w w' : World} {row : Option Nat} (hg : w.grownBy w' row) {base : Nat} {e : TypeId} {size : Nat} {v : Value} {n : Nat} {xs : List Value} (h : w.ownsRow base e size v n xs) (hne : ∀ b, v.ownBlock = some b → row ≠ some b) : w'.ownsRow base e size v n xs :=
  owns_keep h (fun b hb => hg.block b (World.ownsRow.lt h b hb).2 (fun e => hne b hb e.symm))
theorem block_of_struct {w : World} {g : Nat} {cs : Array Value} {t : TypeId} (hg : w.heap[g]? = some (.cells cs t (0, 0))) {base : Nat} {e : TypeId} {size : Nat} {v : Value} {n : Nat} {xs : List Value} (h : w.ownsRow base e size v n xs) (hne : e ≠ t) : v.ownBlock ≠ some g := by
  intro hb
  obtain ⟨cur, hcur⟩ := owns_type h hb
  rw [hg] at hcur
  cases hcur
  exact hne rfl
/-- A change more waits. -/
theorem CabRaw.waits {w w' : World} {g : Nat} {O : Nat → Prop} {c : CabM} {vf vn vs vw v' : Value} {x : ByteArray × ByteArray × Nat} (h : CabRaw w g O c vf vn vs vw) (hg : w.grownBy w' vw.ownBlock) (ho : OwnX w' v' (c.wait ++ [x])) (hb : ∀ b, v'.ownBlock = some b → vw.ownBlock = some b ∨ w.heap.size ≤ b) :
    (CabPost w g O { c with wait := c.wait ++ [x] } (w'.setCell ⟨g, 4, none⟩ v')) ∧ w'.cell? ⟨g, 4, none⟩ = some vw ∧ w'.frozen? ⟨g, 4, none⟩ = false := by
  obtain ⟨h2, h3, h4, h5, h6, h7, h8, h9, h10, h11⟩ := h.parts
  have hgg : w'.heap[g]? = some (.cells (cabCells c vf vn vs vw) 52 (0, 0)) := (hg.block g h.lt (fun e => block_of_struct h.1 h5 (by decide) e.symm)).trans h.1
  refine ⟨⟨⟨fun b => O b ∨ v'.ownBlock = some b, ⟨vf, vn, vs, v', ?_⟩, ?_⟩, ?_⟩, ?_, ?_⟩
  · refine raw_field hgg (c' := { c with wait := c.wait ++ [x] }) 4 v' rfl (.inl h6) ?_ (grown_keep hg h2 fun b e => owns_ne h2 h5 (by decide) e) (grown_keep hg h3 fun b e => owns_ne h3 h5 (by decide) e) (grown_keep hg h4 fun b e => owns_ne h4 h5 (by decide) e) ho (fun b e => .inl (h7 b e)) (fun b e => .inl (h8 b e)) (fun b e => .inl (h9 b e)) (fun b e => .inr e)
    rintro b (e | e)
    · exact Nat.lt_of_lt_of_le (h11 b e) hg.size
    · exact (World.ownsRow.lt ho b e).2
  · rintro b (e | e)
    · exact .inl e
    · rcases hb b e with e | e
      · exact .inl (h10 b e)
      · exact .inr e
  · exact ((Apart.refl O w).grown hg (fun k e => h10 k e)).set h6 _ _
  · exact cell_of_row w' g 4 _ _ _ hgg
  · exact frozen_of_row w' g 4 _ _ hgg
/-- A file more. -/
theorem CabRaw.filed {w w' : World} {g : Nat} {O : Nat → Prop} {c : CabM} {vf vn vs vw v' : Value} {x : ByteArray × Nat} (h : CabRaw w g O c vf vn vs vw) (hg : w.grownBy w' vf.ownBlock) (ho : OwnF w' v' (c.files ++ [x])) (hb : ∀ b, v'.ownBlock = some b → vf.ownBlock = some b ∨ w.heap.size ≤ b) :
    (CabPost w g O { c with files := c.files ++ [x] } (w'.setCell ⟨g, 1, none⟩ v')) ∧ w'.cell? ⟨g, 1, none⟩ = some vf ∧ w'.frozen? ⟨g, 1, none⟩ = false := by
  obtain ⟨h2, h3, h4, h5, h6, h7, h8, h9, h10, h11⟩ := h.parts
  have hgg : w'.heap[g]? = some (.cells (cabCells c vf vn vs vw) 52 (0, 0)) := (hg.block g h.lt (fun e => block_of_struct h.1 h2 (by decide) e.symm)).trans h.1
  refine ⟨⟨⟨fun b => O b ∨ v'.ownBlock = some b, ⟨v', vn, vs, vw, ?_⟩, ?_⟩, ?_⟩, ?_, ?_⟩
  · refine raw_field hgg (c' := { c with files := c.files ++ [x] }) 1 v' rfl (.inl h6) ?_ ho (grown_keep hg h3 fun b e => owns_ne h3 h2 (by decide) e) (grown_keep hg h4 fun b e => owns_ne h4 h2 (by decide) e) (grown_keep hg h5 fun b e => owns_ne h5 h2 (by decide) e) (fun b e => .inr e) (fun b e => .inl (h8 b e)) (fun b e => .inl (h9 b e)) (fun b e => .inl (h10 b e))
    rintro b (e | e)
    · exact Nat.lt_of_lt_of_le (h11 b e) hg.size
    · exact (World.ownsRow.lt ho b e).2
  · rintro b (e | e)
    · exact .inl e
    · rcases hb b e with e | e
      · exact .inl (h7 b e)
      · exact .inr e
  · exact ((Apart.refl O w).grown hg (fun k e => h7 k e)).set h6 _ _
  · exact cell_of_row w' g 1 _ _ _ hgg
  · exact frozen_of_row w' g 1 _ _ hgg
/-- Other names. -/
theorem CabRaw.named {w : World} {g : Nat} {O : Nat → Prop} {c : CabM} {vf vn vs vw v' : Value} {ts : List (ByteArray × Nat)} (h : CabRaw w g O c vf vn vs vw) (ho : OwnE w v' ts) (B : Nat) (hb : ∀ b, v'.ownBlock = some b → O b ∨ B ≤ b) :
    (∃ O', CabRaw (w.setCell ⟨g, 2, none⟩ v') g O' { c with now := ts } vf v' vs vw ∧ ∀ b, O' b → O b ∨ B ≤ b) ∧ Apart O w (w.setCell ⟨g, 2, none⟩ v') := by
  obtain ⟨h2, h3, h4, h5, h6, h7, h8, h9, h10, h11⟩ := h.parts
  refine ⟨⟨fun b => O b ∨ v'.ownBlock = some b, ?_, ?_⟩, (Apart.refl O w).set h6 _ _⟩
  · refine raw_field h.1 (c' := { c with now := ts }) 2 v' rfl (.inl h6) ?_ h2 ho h4 h5 (fun b e => .inl (h7 b e)) (fun b e => .inr e) (fun b e => .inl (h9 b e)) (fun b e => .inl (h10 b e))
    rintro b (e | e)
    · exact h11 b e
    · exact (World.ownsRow.lt ho b e).2
  · rintro b (e | e)
    · exact .inl e
    · exact hb b e
theorem encNs_set : ∀ (ts : List (ByteArray × Nat)) (n k : Nat) (v : Value) (f' : ByteArray × Nat), n < ts.length → k < 2 → (encN (ts.getD n (ByteArray.empty, 0))).set k v = encN f' → (encNs ts).set (n * 2 + k) v = encNs (ts.set n f')
  | [], n, k, v, f', h, _, _ => by simp at h
  | t :: ts, 0, k, v, f', h, hk, hf => by
    have e : encNs (t :: ts) = encN t ++ encNs ts := rfl
    have e2 : encNs ((t :: ts).set 0 f') = encN f' ++ encNs ts := rfl
    rw [e, e2, ← hf, Nat.zero_mul, Nat.zero_add, List.set_append_left _ _ (by simpa [encN] using hk)]
    rfl
  | t :: ts, n + 1, k, v, f', h, hk, hf => by
    have e : encNs (t :: ts) = encN t ++ encNs ts := rfl
    have e2 : encNs ((t :: ts).set (n + 1) f') = encN t ++ encNs (ts.set n f') := rfl
    rw [e, e2, List.set_append_right _ _ (by simp [encN]; omega)]
    congr 1
    have := encNs_set ts n k v f' (by simpa using h) hk hf
    rw [← this]
    congr 1
    simp [encN]
    omega
/-- One file is another one (in its row). -/
theorem CabRaw.refile {w : World} {g : Nat} {O : Nat → Prop} {c : CabM} {vf vn vs vw : Value} (h : CabRaw w g O c vf vn vs vw) (b n : Nat) (hvb : vf.ownBlock = some b) (hn : n < c.files.length) (k : Nat) (hk : k < 2) (v : Value) (f' : ByteArray × Nat)
    (hf : ((encN (fileC c n)).set k v) = encN f') : CabPost w g O { c with files := c.files.set n f' } (w.setCell ⟨b, n * 2 + k, none⟩ v) := by
  obtain ⟨h2, h3, h4, h5, h6, h7, h8, h9, h10, h11⟩ := h.parts
  have hOb := h7 b hvb
  have ha := (Apart.refl O w).set hOb (n * 2 + k) v
  have hne : ∀ {base size n' xs e v0}, w.ownsRow base e size v0 n' xs → e ≠ 89 → ∀ b', v0.ownBlock = some b' → (w.setCell ⟨b, n * 2 + k, none⟩ v).heap[b']? = w.heap[b']? := by
    intro base size n' xs e v0 ho he b' hb'
    refine Below.heap_setCell w ⟨b, n * 2 + k, none⟩ v b' (fun hbg => ?_)
    have hbg' : b' = b := hbg
    subst hbg'
    exact owns_ne ho h2 he hb' hvb
  refine CabRaw.post (vf := vf) (vn := vn) (vs := vs) (vw := vw) ⟨?_, ?_, owns_keep h3 (hne h3 (by decide)), owns_keep h4 (hne h4 (by decide)), owns_keep h5 (hne h5 (by decide)), h6, h7, h8, h9, h10, fun b' hb' => by simp [World.setCell]; exact h11 b' hb'⟩ ha
  · rw [Below.heap_setCell w ⟨b, n * 2 + k, none⟩ v g (fun e => by have e' : g = b := e; subst e'; exact block_of_struct h.1 h2 (by decide) hvb)]
    exact h.1
  · obtain ⟨hl, ⟨rfl, h0⟩ | ⟨q, cap, cur, rfl, hg0, hbk, hnc, hcm, hcs, htk⟩⟩ := h2
    · omega
    · cases hvb
      refine ⟨by rw [encNs_length], .inr ⟨q, cap, _, ?_, Nat.zero_le _, heap_set w q (n * 2 + k) v _ _ hbk, ?_, hcm, ?_, ?_⟩⟩
      · show _ = Value.slice _ (c.files.set n f').length cap
        rw [List.length_set]
      · show (c.files.set n f').length ≤ cap
        rw [List.length_set]; exact hnc
      · rw [Array.size_setIfInBounds]; exact hcs
      · show _ = encNs (c.files.set n f')
        rw [Array.toList_setIfInBounds, List.length_set, List.take_set, htk]
        exact encNs_set c.files n k v f' hn hk hf
end Go.Proofs.Ytlhmeebbdjiokaa
