/-
  The program's cabinet in memory: one block of eight cells, two maps, the changes since in a row, each file a block with its bytes in a row of its own.
-/
import Derived.Test.YtlhmeebbdjiokaaCabPMap
import Derived.Test.YtlhmeebbdjiokaaCabPair
namespace Go.Proofs.Ytlhmeebbdjiokaa
open Go.ChangeShapes Go.WideShapes Go.ChangeAt Go.RowKit Go.Maps Go.MapKept Go.ChangeMaps
set_option linter.unusedVariables false
set_option linter.unusedSimpArgs false
def kindG (x : ByteArray × ByteArray × Nat) : Nat := if x.1.size = 0 then 0 else if x.2.1.size = 0 then 2 else 1
/-- A change as its four cells. -/
def encG (fa : Nat → Nat) (x : ByteArray × ByteArray × Nat) : List Value := [.int .i64 (kindG x : Nat), .string x.1, .string x.2.1, if kindG x = 2 then .pointer none else .pointer (some ⟨fa x.2.2, 0, none⟩)]
def encGs (fa : Nat → Nat) (xs : List (ByteArray × ByteArray × Nat)) : List Value := xs.flatMap (encG fa)
theorem encGs_length (fa : Nat → Nat) (xs : List (ByteArray × ByteArray × Nat)) : (encGs fa xs).length = xs.length * 4 := by
  unfold encGs
  induction xs with
  | nil => rfl
  | cons p ts ih => rw [List.flatMap_cons, List.length_append, ih, List.length_cons]; show 4 + _ = _; omega
theorem encGs_app (fa : Nat → Nat) (xs ys : List (ByteArray × ByteArray × Nat)) : encGs fa (xs ++ ys) = encGs fa xs ++ encGs fa ys := by unfold encGs; rw [List.flatMap_append]
theorem encGs_at (fa : Nat → Nat) : ∀ (xs : List (ByteArray × ByteArray × Nat)) (i : Nat), i < xs.length → ∀ j, j < 4 → (encGs fa xs)[i * 4 + j]? = (encG fa (chgAt xs i))[j]?
  | [], i, h, _, _ => by simp at h
  | p :: xs, 0, _, j, hj => by
    show (encG fa p ++ encGs fa xs)[0 * 4 + j]? = (encG fa p)[j]?
    rw [Nat.zero_mul, Nat.zero_add, List.getElem?_append_left (show j < (encG fa p).length from hj)]
  | p :: xs, i + 1, h, j, hj => by
    have ih := encGs_at fa xs i (by simpa using h) j hj
    show (encG fa p ++ encGs fa xs)[(i + 1) * 4 + j]? = (encG fa (chgAt xs i))[j]?
    rw [List.getElem?_append_right (show (encG fa p).length ≤ (i + 1) * 4 + j by show 4 ≤ _; omega), show (i + 1) * 4 + j - (encG fa p).length = i * 4 + j by show (i + 1) * 4 + j - 4 = _; omega]
    exact ih
theorem encGs_agree {fa fb : Nat → Nat} {xs : List (ByteArray × ByteArray × Nat)} (h : ∀ x ∈ xs, fa x.2.2 = fb x.2.2) : encGs fa xs = encGs fb xs := by
  unfold encGs
  induction xs with
  | nil => rfl
  | cons p ts ih =>
    rw [List.flatMap_cons, List.flatMap_cons, ih (fun x hx => h x (List.mem_cons_of_mem _ hx))]
    unfold encG
    rw [h p (List.mem_cons_self ..)]
def OwnG (w : World) (v : Value) (fa : Nat → Nat) (xs : List (ByteArray × ByteArray × Nat)) : Prop := w.ownsRow 0 76 4 v xs.length (encGs fa xs)
/-- A file: its block holds a slice of bytes of its own, and how many last. -/
def FileAt (w : World) (b : Nat) (v : Value) (f : ByteArray × Nat) : Prop := w.heap[b]? = some (.cells #[v, .int .i64 (f.2 : Nat)] 74 (0, 0)) ∧ OwnL 5 .u8 w 0 v (txt f.1)
def cabCellsP (c : CabM) (tk : Nat) (mn ml : Option Nat) (vs : Value) : Array Value := #[.map mn, .map ml, vs, .int .i64 (tk : Nat), .int .i64 (c.quota : Nat), .bool c.timed, .int .i64 c.after, .bool c.off]
/-- The program's cabinet at block g, with these parts; the files in A are there; all its blocks lie in O. -/
def ProgRaw (w : World) (g : Nat) (O : Nat → Prop) (c : CabM) (tk : Nat) (A : Nat → Prop) (fa : Nat → Nat) (dv : Nat → Value) (mn ml : Option Nat) (vs : Value) : Prop :=
  w.heap[g]? = some (.cells (cabCellsP c tk mn ml vs) 47 (0, 0)) ∧ MapF w mn c.now fa ∧ MapF w ml c.sure fa ∧ OwnG w vs fa c.wait ∧
  (∀ i, A i → FileAt w (fa i) (dv i) (fileC c i)) ∧ (∀ i j, A i → A j → fa i = fa j → i = j) ∧ (∀ i j b, A i → A j → (dv i).ownBlock = some b → (dv j).ownBlock = some b → i = j) ∧
  (∀ b, mn = some b → ml = some b → False) ∧ O g ∧ (∀ b, mn = some b → O b) ∧ (∀ b, ml = some b → O b) ∧ inB O vs ∧ (∀ i, A i → O (fa i) ∧ inB O (dv i)) ∧ ∀ b, O b → b < w.heap.size
def ProgAt (w : World) (g : Nat) (O : Nat → Prop) (c : CabM) : Prop := ∃ fa dv mn ml vs, ProgRaw w g O c (usedC c) (fun i => takenC c i = true) fa dv mn ml vs ∧ OrdC c
section
variable {w w' : World} {g : Nat} {O : Nat → Prop} {c : CabM} {tk : Nat} {A : Nat → Prop} {fa : Nat → Nat} {dv : Nat → Value} {mn ml : Option Nat} {vs : Value}
theorem ProgRaw.cabBlock (h : ProgRaw w g O c tk A fa dv mn ml vs) : w.heap[g]? = some (.cells (cabCellsP c tk mn ml vs) 47 (0, 0)) := h.1
theorem ProgRaw.mapNow (h : ProgRaw w g O c tk A fa dv mn ml vs) : MapF w mn c.now fa := h.2.1
theorem ProgRaw.mapLast (h : ProgRaw w g O c tk A fa dv mn ml vs) : MapF w ml c.sure fa := h.2.2.1
theorem ProgRaw.since (h : ProgRaw w g O c tk A fa dv mn ml vs) : OwnG w vs fa c.wait := h.2.2.2.1
theorem ProgRaw.file (h : ProgRaw w g O c tk A fa dv mn ml vs) : ∀ i, A i → FileAt w (fa i) (dv i) (fileC c i) := h.2.2.2.2.1
theorem ProgRaw.inj (h : ProgRaw w g O c tk A fa dv mn ml vs) : ∀ i j, A i → A j → fa i = fa j → i = j := h.2.2.2.2.2.1
theorem ProgRaw.injD (h : ProgRaw w g O c tk A fa dv mn ml vs) : ∀ i j b, A i → A j → (dv i).ownBlock = some b → (dv j).ownBlock = some b → i = j := h.2.2.2.2.2.2.1
theorem ProgRaw.two (h : ProgRaw w g O c tk A fa dv mn ml vs) : ∀ b, mn = some b → ml = some b → False := h.2.2.2.2.2.2.2.1
theorem ProgRaw.og (h : ProgRaw w g O c tk A fa dv mn ml vs) : O g := h.2.2.2.2.2.2.2.2.1
theorem ProgRaw.on (h : ProgRaw w g O c tk A fa dv mn ml vs) : ∀ b, mn = some b → O b := h.2.2.2.2.2.2.2.2.2.1
theorem ProgRaw.ol (h : ProgRaw w g O c tk A fa dv mn ml vs) : ∀ b, ml = some b → O b := h.2.2.2.2.2.2.2.2.2.2.1
theorem ProgRaw.os (h : ProgRaw w g O c tk A fa dv mn ml vs) : inB O vs := h.2.2.2.2.2.2.2.2.2.2.2.1
theorem ProgRaw.of (h : ProgRaw w g O c tk A fa dv mn ml vs) : ∀ i, A i → O (fa i) ∧ inB O (dv i) := h.2.2.2.2.2.2.2.2.2.2.2.2.1
theorem ProgRaw.lt (h : ProgRaw w g O c tk A fa dv mn ml vs) : ∀ b, O b → b < w.heap.size := h.2.2.2.2.2.2.2.2.2.2.2.2.2
theorem FileAt.keep {b : Nat} {v : Value} {f : ByteArray × Nat} (h : FileAt w b v f) (hb : w'.heap[b]? = w.heap[b]?) (hv : ∀ k, v.ownBlock = some k → w'.heap[k]? = w.heap[k]?) : FileAt w' b v f := ⟨hb.trans h.1, owns_keep h.2 hv⟩
/-- Whoever leaves its blocks alone leaves the cabinet as it is. -/
theorem ProgRaw.keep (h : ProgRaw w g O c tk A fa dv mn ml vs) {P : Nat → Prop} (hp : Apart P w w') (hd : ∀ b, O b → ¬ P b) : ProgRaw w' g O c tk A fa dv mn ml vs := by
  have hk : ∀ b, O b → w'.heap[b]? = w.heap[b]? := fun b hb => hp.block b (h.lt b hb) (hd b hb)
  refine ⟨(hk g h.og).trans h.cabBlock, h.mapNow.keep (fun b hb => hk b (h.on b hb)), h.mapLast.keep (fun b hb => hk b (h.ol b hb)), owns_keep h.since (fun b hb => hk b (h.os b hb)), fun i hi => (h.file i hi).keep (hk _ (h.of i hi).1) (fun k hk' => hk k ((h.of i hi).2 k hk')), h.inj, h.injD, h.two, h.og, h.on, h.ol, h.os, h.of, fun b hb => Nat.lt_of_lt_of_le (h.lt b hb) hp.size⟩
theorem ProgRaw.below (h : ProgRaw w g O c tk A fa dv mn ml vs) (hb : Below w.heap.size w w') : ProgRaw w' g O c tk A fa dv mn ml vs :=
  h.keep (apart_of hb (fun _ => False)) (fun _ _ h => h)
theorem ProgAt.keep {P : Nat → Prop} (h : ProgAt w g O c) (hp : Apart P w w') (hd : ∀ b, O b → ¬ P b) : ProgAt w' g O c := by
  obtain ⟨fa, dv, mn, ml, vs, h, ho⟩ := h
  exact ⟨fa, dv, mn, ml, vs, h.keep hp hd, ho⟩
theorem ProgAt.lt (h : ProgAt w g O c) : ∀ b, O b → b < w.heap.size := by
  obtain ⟨fa, dv, mn, ml, vs, h, ho⟩ := h
  exact h.lt
theorem ProgRaw.cells (h : ProgRaw w g O c tk A fa dv mn ml vs) :
    w.cell? ⟨g, 0, none⟩ = some (.map mn) ∧ w.cell? ⟨g, 1, none⟩ = some (.map ml) ∧ w.cell? ⟨g, 2, none⟩ = some vs ∧ w.cell? ⟨g, 3, none⟩ = some (.int .i64 (tk : Nat)) ∧ w.cell? ⟨g, 4, none⟩ = some (.int .i64 (c.quota : Nat)) ∧ w.cell? ⟨g, 5, none⟩ = some (.bool c.timed) ∧ w.cell? ⟨g, 6, none⟩ = some (.int .i64 c.after) ∧ w.cell? ⟨g, 7, none⟩ = some (.bool c.off) := by
  have e := fun i => cell_of_row w g i _ _ _ h.cabBlock
  exact ⟨e 0, e 1, e 2, e 3, e 4, e 5, e 6, e 7⟩
theorem ProgRaw.frozen (h : ProgRaw w g O c tk A fa dv mn ml vs) (i : Nat) : w.frozen? ⟨g, i, none⟩ = false := frozen_of_row w g i _ _ h.cabBlock
/-- The cabinet's own block is no other one of its blocks. -/
theorem ProgRaw.notNow (h : ProgRaw w g O c tk A fa dv mn ml vs) : ∀ b, mn = some b → b ≠ g := by
  intro b hb e
  obtain ⟨es, clock, hk⟩ := h.mapNow.block hb
  rw [e, h.cabBlock] at hk
  cases hk
theorem ProgRaw.notLast (h : ProgRaw w g O c tk A fa dv mn ml vs) : ∀ b, ml = some b → b ≠ g := by
  intro b hb e
  obtain ⟨es, clock, hk⟩ := h.mapLast.block hb
  rw [e, h.cabBlock] at hk
  cases hk
theorem ProgRaw.notSince (h : ProgRaw w g O c tk A fa dv mn ml vs) : ∀ b, vs.ownBlock = some b → b ≠ g := by
  intro b hb e
  obtain ⟨cur, hk⟩ := owns_type h.since hb
  rw [e, h.cabBlock] at hk
  cases hk
theorem ProgRaw.notFile (h : ProgRaw w g O c tk A fa dv mn ml vs) : ∀ i, A i → fa i ≠ g := by
  intro i hi e
  have hk := (h.file i hi).1
  rw [e, h.cabBlock] at hk
  injection hk with hk
  injection hk with _ hk
  exact absurd hk (by decide)
theorem ProgRaw.notData (h : ProgRaw w g O c tk A fa dv mn ml vs) : ∀ i, A i → ∀ b, (dv i).ownBlock = some b → b ≠ g := by
  intro i hi b hb e
  obtain ⟨cur, hk⟩ := owns_type (h.file i hi).2 hb
  rw [e, h.cabBlock] at hk
  cases hk
/-- One field of the cabinet's block written; what it then holds is told anew. -/
theorem ProgRaw.field (h : ProgRaw w g O c tk A fa dv mn ml vs) (i : Nat) (v : Value) {O' : Nat → Prop} {c' : CabM} {tk' : Nat} {mn' ml' : Option Nat} {vs' : Value}
    (hset : (cabCellsP c tk mn ml vs).setIfInBounds i v = cabCellsP c' tk' mn' ml' vs') (hO : ∀ b, O b → O' b) (hO' : ∀ b, O' b → b < w.heap.size)
    (h1 : MapF w mn' c'.now fa) (h2 : MapF w ml' c'.sure fa) (h3 : OwnG w vs' fa c'.wait) (hf : c'.files = c.files) (h4 : ∀ b, mn' = some b → ml' = some b → False) (i1 : ∀ b, mn' = some b → O' b) (i2 : ∀ b, ml' = some b → O' b) (i3 : inB O' vs') :
    ProgRaw (w.setCell ⟨g, i, none⟩ v) g O' c' tk' A fa dv mn' ml' vs' := by
  have hk : ∀ b, b ≠ g → (w.setCell ⟨g, i, none⟩ v).heap[b]? = w.heap[b]? := fun b hb => Below.heap_setCell w ⟨g, i, none⟩ v b hb
  have hm : ∀ {m : Option Nat} {l : List (ByteArray × Nat)}, MapF w m l fa → ∀ b, m = some b → b ≠ g := by
    intro m l hmf b hb e
    obtain ⟨es, clock, hk⟩ := hmf.block hb
    rw [e, h.cabBlock] at hk
    cases hk
  refine ⟨by rw [heap_set w g i v _ _ h.cabBlock, hset], h1.keep (fun b hb => hk b (hm h1 b hb)), h2.keep (fun b hb => hk b (hm h2 b hb)), owns_keep h3 (fun b hb => hk b (fun e => ?_)), fun j hj => ?_, h.inj, h.injD, h4, hO _ h.og, i1, i2, i3, fun j hj => ⟨hO _ (h.of j hj).1, fun b hb => hO _ ((h.of j hj).2 b hb)⟩, fun b hb => ?_⟩
  · obtain ⟨cur, hk⟩ := owns_type h3 hb
    rw [e, h.cabBlock] at hk
    cases hk
  · have := (h.file j hj).keep (w' := w.setCell ⟨g, i, none⟩ v) (hk _ (h.notFile j hj)) (fun k hk' => hk k (h.notData j hj k hk'))
    unfold fileC at this ⊢
    rw [hf]
    exact this
  · simp [World.setCell]
    exact hO' b hb
/-- .. a number or a truth. -/
theorem ProgRaw.plain (h : ProgRaw w g O c tk A fa dv mn ml vs) (i : Nat) (v : Value) {c' : CabM} {tk' : Nat} (hset : (cabCellsP c tk mn ml vs).setIfInBounds i v = cabCellsP c' tk' mn ml vs) (e1 : c'.files = c.files) (e2 : c'.now = c.now) (e3 : c'.sure = c.sure) (e4 : c'.wait = c.wait) :
    ProgRaw (w.setCell ⟨g, i, none⟩ v) g O c' tk' A fa dv mn ml vs :=
  h.field i v hset (fun _ h => h) h.lt (by rw [e2]; exact h.mapNow) (by rw [e3]; exact h.mapLast) (by rw [e4]; exact h.since) e1 h.two h.on h.ol h.os
theorem OwnG.at {v : Value} {fa : Nat → Nat} {xs : List (ByteArray × ByteArray × Nat)} (h : OwnG w v fa xs) : ∃ a cap, v = .slice a xs.length cap ∧ xs.length ≤ cap ∧ cap ≤ maxLen ∧ ∀ i, i < xs.length → ∃ b, a = some ⟨b, 0, none⟩ ∧ v.ownBlock = some b ∧ b < w.heap.size ∧ ∀ j, j < 4 → w.cell? ⟨b, i * 4 + j, none⟩ = (encG fa (chgAt xs i))[j]? := by
  have h0 := h
  obtain ⟨h1, ⟨rfl, h2⟩ | ⟨g, cap, cur, rfl, hg, hbk, hn, hmm, hs, ht⟩⟩ := h
  · exact ⟨none, 0, by rw [h2], by omega, Nat.zero_le _, fun i hi => by omega⟩
  · refine ⟨some ⟨g, 0, none⟩, cap, rfl, hn, hmm, fun i hi => ⟨g, rfl, rfl, (World.ownsRow.lt h0 g rfl).2, fun j hj => ?_⟩⟩
    have hl := encGs_length fa xs
    exact (World.ownsRow.cellAt h0 (i * 4 + j) (by omega)).trans (encGs_at fa xs i hi j hj)
end
end Go.Proofs.Ytlhmeebbdjiokaa
