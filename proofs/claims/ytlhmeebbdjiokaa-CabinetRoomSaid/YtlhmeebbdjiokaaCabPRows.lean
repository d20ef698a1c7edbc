/-
  The program's cabinet with another map, or other changes, in its place.
-/
import Derived.Test.YtlhmeebbdjiokaaCabPWith
import Derived.Test.YtlhmeebbdjiokaaCabNames
namespace Go.Proofs.Ytlhmeebbdjiokaa
open Go.ChangeShapes Go.WideShapes Go.ChangeAt Go.RowKit Go.Maps Go.MapKept Go.ChangeMaps
set_option linter.unusedVariables false
set_option linter.unusedSimpArgs false
section
variable {w w2 : World} {g : Nat} {O : Nat → Prop} {c : CabM} {tk : Nat} {A : Nat → Prop} {fa : Nat → Nat} {dv : Nat → Value} {mn ml : Option Nat} {vs : Value}
theorem map_ne_row {m : Option Nat} {l : List (ByteArray × Nat)} {fa : Nat → Nat} (h : MapF w m l fa) {b : Nat} {cs : Array Value} {t : TypeId} (hb : w.heap[b]? = some (.cells cs t (0, 0))) : m ≠ some b := by
  intro e
  obtain ⟨es, clock, hk⟩ := h.block e
  rw [hb] at hk
  cases hk
theorem ProgRaw.sinceMap (h : ProgRaw w g O c tk A fa dv mn ml vs) {m : Option Nat} {l : List (ByteArray × Nat)} (hm : MapF w m l fa) : ∀ b, vs.ownBlock = some b → m ≠ some b := fun b hb => by
  obtain ⟨cur, hk⟩ := owns_type h.since hb
  exact map_ne_row hm hk
theorem ProgRaw.fileMap (h : ProgRaw w g O c tk A fa dv mn ml vs) {m : Option Nat} {l : List (ByteArray × Nat)} (hm : MapF w m l fa) : ∀ i, A i → m ≠ some (fa i) ∧ ∀ b, (dv i).ownBlock = some b → m ≠ some b := fun i hi => ⟨map_ne_row hm (h.file i hi).1, fun b hb => by
  obtain ⟨cur, hk⟩ := owns_type (h.file i hi).2 hb
  exact map_ne_row hm hk⟩
/-- What is told of the map of names while another one is being made out of it. -/
theorem ProgRaw.midNow (h : ProgRaw w g O c tk A fa dv mn ml vs) (ha : Apart (fun k => mn = some k) w w2) : (∀ i, w2.cell? ⟨g, i, none⟩ = w.cell? ⟨g, i, none⟩) ∧ (∀ i, w2.frozen? ⟨g, i, none⟩ = false) := by
  have hb : w2.heap[g]? = w.heap[g]? := ha.block g (h.lt g h.og) (fun e => h.notNow g e rfl)
  exact ⟨fun i => World.cell?_of_block (a := ⟨g, i, none⟩) hb, fun i => (World.frozen?_of_block (a := ⟨g, i, none⟩) hb).trans (h.frozen i)⟩
theorem ProgRaw.midLast (h : ProgRaw w g O c tk A fa dv mn ml vs) (ha : Apart (fun k => ml = some k) w w2) : (∀ i, w2.cell? ⟨g, i, none⟩ = w.cell? ⟨g, i, none⟩) ∧ (∀ i, w2.frozen? ⟨g, i, none⟩ = false) := by
  have hb : w2.heap[g]? = w.heap[g]? := ha.block g (h.lt g h.og) (fun e => h.notLast g e rfl)
  exact ⟨fun i => World.cell?_of_block (a := ⟨g, i, none⟩) hb, fun i => (World.frozen?_of_block (a := ⟨g, i, none⟩) hb).trans (h.frozen i)⟩
/-- The names now are those of another map. -/
theorem ProgRaw.named (h : ProgRaw w g O c tk A fa dv mn ml vs) {l : List (ByteArray × Nat)} {b : Nat} (ha : Apart (fun k => mn = some k) w w2) (hm : MapF w2 (some b) l fa) (hb : mn = some b ∨ (mn = none ∧ w.heap.size ≤ b)) :
    ProgRaw (w2.setCell ⟨g, 0, none⟩ (.map (some b))) g (fun k => O k ∨ k = b) { c with now := l } tk A fa dv (some b) ml vs ∧ Apart O w (w2.setCell ⟨g, 0, none⟩ (.map (some b))) := by
  have hbl := hm.lt b rfl
  have hgl := h.lt g h.og
  have hbg : b ≠ g := by
    rcases hb with e | ⟨_, e⟩
    · exact h.notNow b e
    · omega
  have hk : ∀ k, k < w.heap.size → mn ≠ some k → k ≠ g → (w2.setCell ⟨g, 0, none⟩ (.map (some b))).heap[k]? = w.heap[k]? := fun k k1 k2 k3 => (Below.heap_setCell w2 ⟨g, 0, none⟩ _ k k3).trans (ha.block k k1 k2)
  have hng : mn ≠ some g := fun e => h.notNow g e rfl
  have hsz : (w2.setCell ⟨g, 0, none⟩ (.map (some b))).heap.size = w2.heap.size := by simp [World.setCell]
  refine ⟨⟨?_, hm.keep (fun k e => Below.heap_setCell w2 ⟨g, 0, none⟩ _ k (by cases e; exact hbg)), h.mapLast.keep (fun k e => hk k (h.mapLast.lt k e) (fun e' => h.two k e' e) (h.notLast k e)), owns_keep h.since (fun k e => hk k (h.lt k (h.os k e)) (h.sinceMap h.mapNow k e) (h.notSince k e)), fun i hi => ?_, h.inj, h.injD, ?_, .inl h.og, fun k e => .inr (by cases e; rfl), fun k e => .inl (h.ol k e), fun k e => .inl (h.os k e), fun i hi => ⟨.inl (h.of i hi).1, fun k e => .inl ((h.of i hi).2 k e)⟩, ?_⟩, ?_⟩
  · have e0 : w2.heap[g]? = some (.cells (cabCellsP c tk mn ml vs) 47 (0, 0)) := (ha.block g hgl hng).trans h.cabBlock
    rw [heap_set w2 g 0 _ _ _ e0]
    rfl
  · have hf := h.fileMap h.mapNow i hi
    exact (h.file i hi).keep (hk _ (h.lt _ (h.of i hi).1) hf.1 (h.notFile i hi)) (fun k e => hk k (h.lt k ((h.of i hi).2 k e)) (hf.2 k e) (h.notData i hi k e))
  · intro k e e'
    cases e
    rcases hb with e2 | ⟨_, e2⟩
    · exact h.two b e2 e'
    · exact absurd (h.mapLast.lt b e') (by omega)
  · rintro k (e | e)
    · rw [hsz]; exact Nat.lt_of_lt_of_le (h.lt k e) ha.size
    · rw [hsz, e]; exact hbl
  · refine ⟨ha.1, ha.2.1, ha.2.2.1, by rw [hsz]; exact ha.size, fun k k1 k2 => hk k k1 (fun e => k2 (h.on k e)) (fun e => k2 (e ▸ h.og))⟩
/-- The names that last are those of another map. -/
theorem ProgRaw.lasted (h : ProgRaw w g O c tk A fa dv mn ml vs) {l : List (ByteArray × Nat)} {b : Nat} (ha : Apart (fun k => ml = some k) w w2) (hm : MapF w2 (some b) l fa) (hb : ml = some b ∨ (ml = none ∧ w.heap.size ≤ b)) :
    ProgRaw (w2.setCell ⟨g, 1, none⟩ (.map (some b))) g (fun k => O k ∨ k = b) { c with sure := l } tk A fa dv mn (some b) vs ∧ Apart O w (w2.setCell ⟨g, 1, none⟩ (.map (some b))) := by
  have hbl := hm.lt b rfl
  have hgl := h.lt g h.og
  have hbg : b ≠ g := by
    rcases hb with e | ⟨_, e⟩
    · exact h.notLast b e
    · omega
  have hk : ∀ k, k < w.heap.size → ml ≠ some k → k ≠ g → (w2.setCell ⟨g, 1, none⟩ (.map (some b))).heap[k]? = w.heap[k]? := fun k k1 k2 k3 => (Below.heap_setCell w2 ⟨g, 1, none⟩ _ k k3).trans (ha.block k k1 k2)
  have hng : ml ≠ some g := fun e => h.notLast g e rfl
  have hsz : (w2.setCell ⟨g, 1, none⟩ (.map (some b))).heap.size = w2.heap.size := by simp [World.setCell]
  refine ⟨⟨?_, h.mapNow.keep (fun k e => hk k (h.mapNow.lt k e) (fun e' => h.two k e e') (h.notNow k e)), hm.keep (fun k e => Below.heap_setCell w2 ⟨g, 1, none⟩ _ k (by cases e; exact hbg)), owns_keep h.since (fun k e => hk k (h.lt k (h.os k e)) (h.sinceMap h.mapLast k e) (h.notSince k e)), fun i hi => ?_, h.inj, h.injD, ?_, .inl h.og, fun k e => .inl (h.on k e), fun k e => .inr (by cases e; rfl), fun k e => .inl (h.os k e), fun i hi => ⟨.inl (h.of i hi).1, fun k e => .inl ((h.of i hi).2 k e)⟩, ?_⟩, ?_⟩
  · have e0 : w2.heap[g]? = some (.cells (cabCellsP c tk mn ml vs) 47 (0, 0)) := (ha.block g hgl hng).trans h.cabBlock
    rw [heap_set w2 g 1 _ _ _ e0]
    rfl
  · have hf := h.fileMap h.mapLast i hi
    exact (h.file i hi).keep (hk _ (h.lt _ (h.of i hi).1) hf.1 (h.notFile i hi)) (fun k e => hk k (h.lt k ((h.of i hi).2 k e)) (hf.2 k e) (h.notData i hi k e))
  · intro k e e'
    cases e'
    rcases hb with e2 | ⟨_, e2⟩
    · exact h.two b e e2
    · exact absurd (h.mapNow.lt b e) (by omega)
  · rintro k (e | e)
    · rw [hsz]; exact Nat.lt_of_lt_of_le (h.lt k e) ha.size
    · rw [hsz, e]; exact hbl
  · refine ⟨ha.1, ha.2.1, ha.2.2.1, by rw [hsz]; exact ha.size, fun k k1 k2 => hk k k1 (fun e => k2 (h.ol k e)) (fun e => k2 (e ▸ h.og))⟩
theorem grown_ne {w w' : World} {r : Option Nat} (h : w.grownBy w' r) {k : Nat} (hk : k < w.heap.size) (hn : r ≠ some k) : w'.heap[k]? = w.heap[k]? := h.block k hk (fun e => hn e.symm)
theorem ProgRaw.midSince (h : ProgRaw w g O c tk A fa dv mn ml vs) (hg : w.grownBy w2 vs.ownBlock) : (∀ i, w2.cell? ⟨g, i, none⟩ = w.cell? ⟨g, i, none⟩) ∧ (∀ i, w2.frozen? ⟨g, i, none⟩ = false) := by
  have hb : w2.heap[g]? = w.heap[g]? := grown_ne hg (h.lt g h.og) (fun e => h.notSince g e rfl)
  exact ⟨fun i => World.cell?_of_block (a := ⟨g, i, none⟩) hb, fun i => (World.frozen?_of_block (a := ⟨g, i, none⟩) hb).trans (h.frozen i)⟩
/-- The changes since are those of another row. -/
theorem ProgRaw.waits (h : ProgRaw w g O c tk A fa dv mn ml vs) {xs : List (ByteArray × ByteArray × Nat)} {v : Value} (hg : w.grownBy w2 vs.ownBlock) (ho : OwnG w2 v fa xs) (hb : ∀ b, v.ownBlock = some b → vs.ownBlock = some b ∨ w.heap.size ≤ b) :
    ProgRaw (w2.setCell ⟨g, 2, none⟩ v) g (fun k => O k ∨ v.ownBlock = some k) { c with wait := xs } tk A fa dv mn ml v ∧ Apart O w (w2.setCell ⟨g, 2, none⟩ v) := by
  have hgl := h.lt g h.og
  have hsz : (w2.setCell ⟨g, 2, none⟩ v).heap.size = w2.heap.size := by simp [World.setCell]
  have hk : ∀ k, k < w.heap.size → vs.ownBlock ≠ some k → k ≠ g → (w2.setCell ⟨g, 2, none⟩ v).heap[k]? = w.heap[k]? := fun k k1 k2 k3 => (Below.heap_setCell w2 ⟨g, 2, none⟩ _ k k3).trans (grown_ne hg k1 k2)
  have hng : vs.ownBlock ≠ some g := fun e => h.notSince g e rfl
  have hmap : ∀ {m : Option Nat} {l : List (ByteArray × Nat)}, MapF w m l fa → ∀ k, m = some k → vs.ownBlock ≠ some k := fun hm k e e' => h.sinceMap hm k e' e
  have hvg : ∀ k, v.ownBlock = some k → k ≠ g := fun k e => by
    rcases hb k e with e | e
    · exact h.notSince k e
    · omega
  have hsn : ∀ {k : Nat} {cs : Array Value} {t : TypeId}, w.heap[k]? = some (.cells cs t (0, 0)) → t ≠ 76 → vs.ownBlock ≠ some k := by
    intro k cs t hk ht e
    obtain ⟨cur, hc⟩ := owns_type h.since e
    rw [hk] at hc
    injection hc with hc
    injection hc with _ hc
    exact ht hc
  refine ⟨⟨?_, h.mapNow.keep (fun k e => hk k (h.mapNow.lt k e) (hmap h.mapNow k e) (h.notNow k e)), h.mapLast.keep (fun k e => hk k (h.mapLast.lt k e) (hmap h.mapLast k e) (h.notLast k e)), owns_keep ho (fun k e => Below.heap_setCell w2 ⟨g, 2, none⟩ _ k (hvg k e)), fun i hi => ?_, h.inj, h.injD, h.two, .inl h.og, fun k e => .inl (h.on k e), fun k e => .inl (h.ol k e), fun k e => .inr e, fun i hi => ⟨.inl (h.of i hi).1, fun k e => .inl ((h.of i hi).2 k e)⟩, ?_⟩, ?_⟩
  · have e0 : w2.heap[g]? = some (.cells (cabCellsP c tk mn ml vs) 47 (0, 0)) := (grown_ne hg hgl hng).trans h.cabBlock
    rw [heap_set w2 g 2 _ _ _ e0]
    rfl
  · refine (h.file i hi).keep (hk _ (h.lt _ (h.of i hi).1) (hsn (h.file i hi).1 (by decide)) (h.notFile i hi)) (fun k e => hk k (h.lt k ((h.of i hi).2 k e)) ?_ (h.notData i hi k e))
    obtain ⟨cur, hc⟩ := owns_type (h.file i hi).2 e
    exact hsn hc (by decide)
  · rintro k (e | e)
    · rw [hsz]; exact Nat.lt_of_lt_of_le (h.lt k e) hg.size
    · rw [hsz]; exact (World.ownsRow.lt ho k e).2
  · refine ⟨hg.os, hg.tape, hg.output, by rw [hsz]; exact hg.size, fun k k1 k2 => hk k k1 (fun e => k2 (h.os k e)) (fun e => k2 (e ▸ h.og))⟩
end
theorem chgG : (Try.prog.info? 76).map (fun i => (i.zero, i.size, i.bytes)) = some (some (.agg #[.int .i64 0, .string ByteArray.empty, .string ByteArray.empty, .pointer none]), 4, 48) := by kernel_rfl
/-- One change behind a row of changes, at one operation. -/
theorem appendG_at (w : World) {o : Oper} {a : Act} {K : Act → World → Prop} {Q : Exit → Act → World → Prop} (sl x : Operand)
    (ho : o.op = .call { callee := .builtin .append, args := #[sl, x], argTypes := #[45, 45] })
    (v : Value) (fa : Nat → Nat) (xs : List (ByteArray × ByteArray × Nat)) (hs : a.eval sl = v) (hown : OwnG w v fa xs) (q : Nat) (y : ByteArray × ByteArray × Nat) (kd : Nat) (old nm : ByteArray) (pp : Option Addr) (hy : encG fa y = [.int .i64 (kd : Nat), .string old, .string nm, .pointer pp]) (hx : a.eval x = .slice (some ⟨q, 0, none⟩) 1 1)
    (hq : w.heap[q]? = some (.cells #[.int .i64 (kd : Nat), .string old, .string nm, .pointer pp] 76 (0, 0))) (hl : xs.length ≤ 1099511627776) (d : Option Tmp) (hd : o.dst = d)
    (h : ∀ v' w', OwnG w' v' fa (xs ++ [y]) → w.grownBy w' v.ownBlock → (∀ b, v'.ownBlock = some b → v.ownBlock = some b ∨ w.heap.size ≤ b) → K (a.put d v') w') : Oper.wp Try.prog o a w K Q := by
  obtain ⟨i0, hi, hz0, hz1, hz2⟩ := info_parts chgG
  refine wp_append_where w sl x 45 ho 76 i0 (.agg #[.int .i64 0, .string ByteArray.empty, .string ByteArray.empty, .pointer none]) 4 48 Try.underlying45 hi hz0 hz1 hz2 rfl (by decide) v xs.length (encGs fa xs) hs hown ⟨q, 0, none⟩ 1 1 (encG fa y) hx (by rw [hy]; rfl) ?_ ?_ (by unfold maxLen; omega) (by omega) d hd ?_
  · intro j u hj
    have e := fun i => cell_of_row w q i _ _ _ hq
    rw [hy] at hj
    match j, hj with
    | 0, hj => simp at hj; subst hj; exact e 0
    | 1, hj => simp at hj; subst hj; exact e 1
    | 2, hj => simp at hj; subst hj; exact e 2
    | 3, hj => simp at hj; subst hj; exact e 3
    | j + 4, hj => simp at hj
  · intro u hu
    rw [hy] at hu
    simp at hu
    rcases hu with rfl | rfl | rfl | rfl <;> rfl
  · intro v' w' h1 h2 h3
    refine h v' w' ?_ h2 h3
    unfold OwnG
    rw [List.length_append, encGs_app]
    have e : encGs fa [y] = encG fa y := by unfold encGs; simp
    rw [e]
    exact h1
theorem OwnG.slice {w : World} {v : Value} {fa : Nat → Nat} {xs : List (ByteArray × ByteArray × Nat)} (h : OwnG w v fa xs) : ∃ a n k, v = .slice a n k := by
  obtain ⟨a, cap, hv, -⟩ := h.at
  exact ⟨a, _, cap, hv⟩
end Go.Proofs.Ytlhmeebbdjiokaa
