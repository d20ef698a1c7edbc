/-
  The document's cabinet in memory: one block of eight cells, its files, names and changes in rows of their own; what a call leaves alone.
-/
import Derived.Test.YtlhmeebbdjiokaaCabLay
namespace Go.Proofs.Ytlhmeebbdjiokaa
open Go.ChangeShapes Go.WideShapes Go.ChangeAt Go.RowKit
set_option linter.unusedVariables false
set_option linter.unusedSimpArgs false
/-- But for a set of blocks (and new ones) the world is as it was. -/
def Apart (O : Nat → Prop) (w w' : World) : Prop :=
  (w'.os = w.os) ∧ (w'.tape = w.tape) ∧ (w'.output = w.output) ∧ (w.heap.size ≤ w'.heap.size) ∧ (∀ k, k < w.heap.size → ¬ O k → w'.heap[k]? = w.heap[k]?)
theorem Apart.size {O : Nat → Prop} {w w' : World} (h : Apart O w w') : w.heap.size ≤ w'.heap.size := h.2.2.2.1
theorem Apart.block {O : Nat → Prop} {w w' : World} (h : Apart O w w') : ∀ k, k < w.heap.size → ¬ O k → w'.heap[k]? = w.heap[k]? := h.2.2.2.2
theorem Apart.refl (O : Nat → Prop) (w : World) : Apart O w w := ⟨rfl, rfl, rfl, Nat.le_refl _, fun _ _ _ => rfl⟩
theorem apart_of {w w' : World} (h : Below w.heap.size w w') (O : Nat → Prop) : Apart O w w' := ⟨h.os, h.tape, h.output, h.size, fun k hk _ => h.block k hk⟩
theorem Apart.below {O : Nat → Prop} {B : Nat} {w w' : World} (h : Apart O w w') (hO : ∀ b, O b → B ≤ b) (hB : B ≤ w.heap.size) : Below B w w' :=
  ⟨h.1, h.2.1, h.2.2.1, h.size, fun k hk => h.block k (by omega) (fun ho => by have := hO k ho; omega)⟩
/-- One behind the other; the second one's blocks are the first one's, or new. -/
theorem Apart.trans {O P : Nat → Prop} {a b c : World} (h : Apart O a b) (k : Apart P b c) (hP : ∀ x, P x → O x ∨ a.heap.size ≤ x) : Apart O a c :=
  ⟨k.1.trans h.1, k.2.1.trans h.2.1, k.2.2.1.trans h.2.2.1, Nat.le_trans h.size k.size, fun i hi hno => (k.block i (Nat.lt_of_lt_of_le hi h.size) (fun hp => by rcases hP i hp with h | h; exact hno h; omega)).trans (h.block i hi hno)⟩
theorem Apart.same {O : Nat → Prop} {a b c : World} (h : Apart O a b) (k : Apart O b c) : Apart O a c := h.trans k (fun _ h => .inl h)
theorem Apart.set {O : Nat → Prop} {a b : World} (h : Apart O a b) {g : Nat} (hg : O g) (o : Nat) (v : Value) : Apart O a (b.setCell ⟨g, o, none⟩ v) :=
  h.same ⟨rfl, rfl, rfl, by simp [World.setCell], fun i hi hno => Below.heap_setCell b ⟨g, o, none⟩ v i (fun e => hno (e ▸ hg))⟩
theorem Apart.grown {O : Nat → Prop} {a b c : World} {row : Option Nat} (h : Apart O a b) (hg : b.grownBy c row) (hr : ∀ k, row = some k → O k) : Apart O a c :=
  h.same ⟨hg.os, hg.tape, hg.output, hg.size, fun k hk hno => hg.block k hk (fun e => hno (hr k e.symm))⟩
theorem owns_keep {w w' : World} {base : Nat} {e : TypeId} {size : Nat} {v : Value} {n : Nat} {xs : List Value} (h : w.ownsRow base e size v n xs) (hk : ∀ b, v.ownBlock = some b → w'.heap[b]? = w.heap[b]?) : w'.ownsRow base e size v n xs := by
  obtain ⟨h1, h2 | ⟨g, cap, cur, hv, hg, hbk, hr⟩⟩ := h
  · exact ⟨h1, .inl h2⟩
  · exact ⟨h1, .inr ⟨g, cap, cur, hv, hg, (hk g (by rw [hv]; rfl)).trans hbk, hr⟩⟩
theorem owns_type {w : World} {base : Nat} {e : TypeId} {size : Nat} {v : Value} {n : Nat} {xs : List Value} (h : w.ownsRow base e size v n xs) {b : Nat} (hb : v.ownBlock = some b) : ∃ cur, w.heap[b]? = some (.cells cur e (0, 0)) := by
  obtain ⟨h1, ⟨rfl, h2⟩ | ⟨g, cap, cur, rfl, hg, hbk, hr⟩⟩ := h
  · cases hb
  · cases hb
    exact ⟨cur, hbk⟩
theorem owns_ne {w : World} {base base' : Nat} {e e' : TypeId} {size size' : Nat} {v v' : Value} {n n' : Nat} {xs xs' : List Value} (h : w.ownsRow base e size v n xs) (h' : w.ownsRow base' e' size' v' n' xs') (hne : e ≠ e') {b : Nat} (hb : v.ownBlock = some b) : v'.ownBlock ≠ some b := by
  intro hb'
  obtain ⟨c1, h1⟩ := owns_type h hb
  obtain ⟨c2, h2⟩ := owns_type h' hb'
  rw [h1] at h2
  cases h2
  exact hne rfl
theorem owns_low {w : World} {base : Nat} {e : TypeId} {size : Nat} {v : Value} {n : Nat} {xs : List Value} (h : w.ownsRow base e size v n xs) : w.ownsRow 0 e size v n xs := by
  obtain ⟨h1, h2 | ⟨g, cap, cur, hv, hg, hr⟩⟩ := h
  · exact ⟨h1, .inl h2⟩
  · exact ⟨h1, .inr ⟨g, cap, cur, hv, Nat.zero_le _, hr⟩⟩
def encX (x : ByteArray × ByteArray × Nat) : List Value := [.string x.1, .string x.2.1, .int .i64 (x.2.2 : Nat)]
def encXs (xs : List (ByteArray × ByteArray × Nat)) : List Value := xs.flatMap encX
theorem encXs_length (xs : List (ByteArray × ByteArray × Nat)) : (encXs xs).length = xs.length * 3 := by
  unfold encXs
  induction xs with
  | nil => rfl
  | cons p ts ih => rw [List.flatMap_cons, List.length_append, ih, List.length_cons]; show 3 + _ = _; omega
theorem encXs_app (xs ys : List (ByteArray × ByteArray × Nat)) : encXs (xs ++ ys) = encXs xs ++ encXs ys := by unfold encXs; rw [List.flatMap_append]
def chgAt (xs : List (ByteArray × ByteArray × Nat)) (i : Nat) : ByteArray × ByteArray × Nat := xs.getD i (ByteArray.empty, ByteArray.empty, 0)
theorem encXs_at : ∀ (xs : List (ByteArray × ByteArray × Nat)) (i : Nat), i < xs.length → (encXs xs)[i * 3]? = some (.string (chgAt xs i).1) ∧ (encXs xs)[i * 3 + 1]? = some (.string (chgAt xs i).2.1) ∧ (encXs xs)[i * 3 + 2]? = some (.int .i64 ((chgAt xs i).2.2 : Nat))
  | [], i, h => by simp at h
  | p :: xs, 0, _ => ⟨rfl, rfl, rfl⟩
  | p :: xs, i + 1, h => by
    have ih := encXs_at xs i (by simpa using h)
    have e : encXs (p :: xs) = .string p.1 :: .string p.2.1 :: .int .i64 (p.2.2 : Nat) :: encXs xs := rfl
    rw [e, show (i + 1) * 3 = i * 3 + 1 + 1 + 1 by omega, List.getElem?_cons_succ, List.getElem?_cons_succ, List.getElem?_cons_succ, List.getElem?_cons_succ, List.getElem?_cons_succ, List.getElem?_cons_succ, show i * 3 + 1 + 1 + 1 + 2 = i * 3 + 2 + 1 + 1 + 1 by omega, List.getElem?_cons_succ, List.getElem?_cons_succ, List.getElem?_cons_succ]
    exact ih
def OwnF (w : World) (v : Value) (ts : List (ByteArray × Nat)) : Prop := w.ownsRow 0 89 2 v ts.length (encNs ts)
def OwnE (w : World) (v : Value) (ts : List (ByteArray × Nat)) : Prop := OwnN w 0 v ts
def OwnX (w : World) (v : Value) (xs : List (ByteArray × ByteArray × Nat)) : Prop := w.ownsRow 0 87 3 v xs.length (encXs xs)
def inB (O : Nat → Prop) (v : Value) : Prop := ∀ b, v.ownBlock = some b → O b
def cabCells (c : CabM) (vf vn vs vw : Value) : Array Value := #[.int .i64 (c.quota : Nat), vf, vn, vs, vw, .int .i64 c.after, .bool c.timed, .bool c.off]
/-- The document's cabinet at block g, with these rows; all its blocks lie in O. -/
def CabRaw (w : World) (g : Nat) (O : Nat → Prop) (c : CabM) (vf vn vs vw : Value) : Prop :=
  w.heap[g]? = some (.cells (cabCells c vf vn vs vw) 52 (0, 0)) ∧ OwnF w vf c.files ∧ OwnE w vn c.now ∧ OwnE w vs c.sure ∧ OwnX w vw c.wait ∧ O g ∧ inB O vf ∧ inB O vn ∧ inB O vs ∧ inB O vw ∧ ∀ b, O b → b < w.heap.size
def CabAt (w : World) (g : Nat) (O : Nat → Prop) (c : CabM) : Prop := ∃ vf vn vs vw, CabRaw w g O c vf vn vs vw
/-- Behind a call: the cabinet is this one, and nothing else has turned. -/
def CabPost (w : World) (g : Nat) (O : Nat → Prop) (c : CabM) (w' : World) : Prop := (∃ O', CabAt w' g O' c ∧ ∀ b, O' b → O b ∨ w.heap.size ≤ b) ∧ Apart O w w'
theorem CabPost.trans {w w1 w2 : World} {g : Nat} {O O1 : Nat → Prop} {c2 : CabM} (hO : ∀ b, O1 b → O b ∨ w.heap.size ≤ b) (ha : Apart O w w1) (h : CabPost w1 g O1 c2 w2) : CabPost w g O c2 w2 := by
  obtain ⟨⟨O', hc, hO'⟩, ha'⟩ := h
  refine ⟨⟨O', hc, fun b hb => ?_⟩, ha.trans ha' hO⟩
  rcases hO' b hb with h | h
  · exact hO b h
  · exact .inr (Nat.le_trans ha.size h)
theorem CabRaw.keep {w w' : World} {g : Nat} {O P : Nat → Prop} {c : CabM} {vf vn vs vw : Value} (h : CabRaw w g O c vf vn vs vw) (hp : Apart P w w') (hd : ∀ b, O b → ¬ P b) : CabRaw w' g O c vf vn vs vw := by
  obtain ⟨h1, h2, h3, h4, h5, h6, h7, h8, h9, h10, h11⟩ := h
  have hk : ∀ v, inB O v → ∀ b, v.ownBlock = some b → w'.heap[b]? = w.heap[b]? := fun v hv b hb => hp.block b (h11 b (hv b hb)) (hd b (hv b hb))
  exact ⟨(hp.block g (h11 g h6) (hd g h6)).trans h1, owns_keep h2 (hk _ h7), owns_keep h3 (hk _ h8), owns_keep h4 (hk _ h9), owns_keep h5 (hk _ h10), h6, h7, h8, h9, h10, fun b hb => Nat.lt_of_lt_of_le (h11 b hb) hp.size⟩
theorem CabAt.keep {w w' : World} {g : Nat} {O P : Nat → Prop} {c : CabM} (h : CabAt w g O c) (hp : Apart P w w') (hd : ∀ b, O b → ¬ P b) : CabAt w' g O c := by
  obtain ⟨vf, vn, vs, vw, h⟩ := h
  exact ⟨vf, vn, vs, vw, h.keep hp hd⟩
theorem CabAt.below {w w' : World} {g : Nat} {O : Nat → Prop} {c : CabM} (h : CabAt w g O c) (hb : Below w.heap.size w w') : CabAt w' g O c :=
  h.keep (apart_of hb (fun _ => False)) (fun _ _ h => h)
theorem CabRaw.below {w w' : World} {g : Nat} {O : Nat → Prop} {c : CabM} {vf vn vs vw : Value} (h : CabRaw w g O c vf vn vs vw) (hb : Below w.heap.size w w') : CabRaw w' g O c vf vn vs vw :=
  h.keep (apart_of hb (fun _ => False)) (fun _ _ h => h)
theorem CabRaw.lt {w : World} {g : Nat} {O : Nat → Prop} {c : CabM} {vf vn vs vw : Value} (h : CabRaw w g O c vf vn vs vw) : g < w.heap.size := h.2.2.2.2.2.2.2.2.2.2 g h.2.2.2.2.2.1
theorem CabRaw.cells {w : World} {g : Nat} {O : Nat → Prop} {c : CabM} {vf vn vs vw : Value} (h : CabRaw w g O c vf vn vs vw) :
    w.cell? ⟨g, 0, none⟩ = some (.int .i64 (c.quota : Nat)) ∧ w.cell? ⟨g, 1, none⟩ = some vf ∧ w.cell? ⟨g, 2, none⟩ = some vn ∧ w.cell? ⟨g, 3, none⟩ = some vs ∧ w.cell? ⟨g, 4, none⟩ = some vw ∧ w.cell? ⟨g, 5, none⟩ = some (.int .i64 c.after) ∧ w.cell? ⟨g, 6, none⟩ = some (.bool c.timed) ∧ w.cell? ⟨g, 7, none⟩ = some (.bool c.off) := by
  have e := fun i => cell_of_row w g i _ _ _ h.1
  exact ⟨e 0, e 1, e 2, e 3, e 4, e 5, e 6, e 7⟩
theorem CabRaw.frozen {w : World} {g : Nat} {O : Nat → Prop} {c : CabM} {vf vn vs vw : Value} (h : CabRaw w g O c vf vn vs vw) (i : Nat) : w.frozen? ⟨g, i, none⟩ = false := frozen_of_row w g i _ _ h.1
theorem heap_set (w : World) (g i : Nat) (v : Value) (cs : Array Value) (t : TypeId) (h : w.heap[g]? = some (.cells cs t (0, 0))) : (w.setCell ⟨g, i, none⟩ v).heap[g]? = some (.cells (cs.setIfInBounds i v) t (0, 0)) := by
  simp [World.setCell, Array.getElem?_modify, h]
/-- One field of the block written: the rows are as they were. -/
theorem CabRaw.field {w : World} {g : Nat} {O : Nat → Prop} {c c' : CabM} {vf vn vs vw vf' vn' vs' vw' : Value} (h : CabRaw w g O c vf vn vs vw) (i : Nat) (v : Value)
    (hset : (cabCells c vf vn vs vw).setIfInBounds i v = cabCells c' vf' vn' vs' vw') (O' : Nat → Prop) (hO : ∀ b, O b → O' b) (hO' : ∀ b, O' b → b < w.heap.size)
    (h2 : OwnF w vf' c'.files) (h3 : OwnE w vn' c'.now) (h4 : OwnE w vs' c'.sure) (h5 : OwnX w vw' c'.wait) (i1 : inB O' vf') (i2 : inB O' vn') (i3 : inB O' vs') (i4 : inB O' vw') : CabRaw (w.setCell ⟨g, i, none⟩ v) g O' c' vf' vn' vs' vw' := by
  have hg := h.1
  have hne : ∀ {base size n xs e v0}, w.ownsRow base e size v0 n xs → e ≠ 52 → ∀ b, v0.ownBlock = some b → (w.setCell ⟨g, i, none⟩ v).heap[b]? = w.heap[b]? := by
    intro base size n xs e v0 ho he b hb
    refine Below.heap_setCell w ⟨g, i, none⟩ v b (fun hbg => ?_)
    obtain ⟨cur, hcur⟩ := owns_type ho hb
    rw [show b = g from hbg, hg] at hcur
    cases hcur
    exact he rfl
  refine ⟨by rw [heap_set w g i v _ _ hg, hset], owns_keep h2 (hne h2 (by decide)), owns_keep h3 (hne h3 (by decide)), owns_keep h4 (hne h4 (by decide)), owns_keep h5 (hne h5 (by decide)), hO g h.2.2.2.2.2.1, i1, i2, i3, i4, fun b hb => ?_⟩
  simp [World.setCell]
  exact hO' b hb
theorem CabRaw.parts {w : World} {g : Nat} {O : Nat → Prop} {c : CabM} {vf vn vs vw : Value} (h : CabRaw w g O c vf vn vs vw) :
    OwnF w vf c.files ∧ OwnE w vn c.now ∧ OwnE w vs c.sure ∧ OwnX w vw c.wait ∧ O g ∧ inB O vf ∧ inB O vn ∧ inB O vs ∧ inB O vw ∧ ∀ b, O b → b < w.heap.size := h.2
/-- .. a number or a truth. -/
theorem CabRaw.plain {w : World} {g : Nat} {O : Nat → Prop} {c c' : CabM} {vf vn vs vw : Value} (h : CabRaw w g O c vf vn vs vw) (i : Nat) (v : Value)
    (hset : (cabCells c vf vn vs vw).setIfInBounds i v = cabCells c' vf vn vs vw) (e1 : c'.files = c.files) (e2 : c'.now = c.now) (e3 : c'.sure = c.sure) (e4 : c'.wait = c.wait) : CabRaw (w.setCell ⟨g, i, none⟩ v) g O c' vf vn vs vw := by
  obtain ⟨h2, h3, h4, h5, h6, h7, h8, h9, h10, h11⟩ := h.parts
  exact h.field i v hset O (fun _ h => h) h11 (by rw [e1]; exact h2) (by rw [e2]; exact h3) (by rw [e3]; exact h4) (by rw [e4]; exact h5) h7 h8 h9 h10
theorem CabRaw.post {w w' : World} {g : Nat} {O : Nat → Prop} {c : CabM} {vf vn vs vw : Value} (h : CabRaw w' g O c vf vn vs vw) (ha : Apart O w w') : CabPost w g O c w' := ⟨⟨O, ⟨vf, vn, vs, vw, h⟩, fun _ h => .inl h⟩, ha⟩
/-- The files' cells. -/
theorem OwnF.at {w : World} {v : Value} {ts : List (ByteArray × Nat)} (h : OwnF w v ts) : ∃ a cap, v = .slice a ts.length cap ∧ ts.length ≤ cap ∧ cap ≤ maxLen ∧ ∀ i, i < ts.length → ∃ b, a = some ⟨b, 0, none⟩ ∧ v.ownBlock = some b ∧ b < w.heap.size ∧ w.cell? ⟨b, i * 2, none⟩ = some (.string (entAt ts i).1) ∧ w.cell? ⟨b, i * 2 + 1, none⟩ = some (.int .i64 ((entAt ts i).2 : Nat)) := by
  have h0 := h
  obtain ⟨h1, ⟨rfl, h2⟩ | ⟨g, cap, cur, rfl, hg, hbk, hn, hmm, hs, ht⟩⟩ := h
  · exact ⟨none, 0, by rw [h2], by omega, Nat.zero_le _, fun i hi => by omega⟩
  · refine ⟨some ⟨g, 0, none⟩, cap, rfl, hn, hmm, fun i hi => ⟨g, rfl, rfl, (World.ownsRow.lt h0 g rfl).2, ?_⟩⟩
    obtain ⟨e1, e2⟩ := encNs_at ts i hi
    have hl := encNs_length ts
    exact ⟨(World.ownsRow.cellAt h0 (i * 2) (by omega)).trans e1, (World.ownsRow.cellAt h0 (i * 2 + 1) (by omega)).trans e2⟩
theorem OwnE.at {w : World} {v : Value} {ts : List (ByteArray × Nat)} (h : OwnE w v ts) : ∃ a cap, v = .slice a ts.length cap ∧ ts.length ≤ cap ∧ cap ≤ maxLen ∧ RowN w a ts := by
  obtain ⟨a, cap, hv, hr, hl, hm, -⟩ := OwnN.row h
  exact ⟨a, cap, hv, hl, hm, hr⟩
theorem OwnX.at {w : World} {v : Value} {xs : List (ByteArray × ByteArray × Nat)} (h : OwnX w v xs) : ∃ a cap, v = .slice a xs.length cap ∧ xs.length ≤ cap ∧ cap ≤ maxLen ∧ ∀ i, i < xs.length → ∃ b, a = some ⟨b, 0, none⟩ ∧ v.ownBlock = some b ∧ b < w.heap.size ∧ w.cell? ⟨b, i * 3, none⟩ = some (.string (chgAt xs i).1) ∧ w.cell? ⟨b, i * 3 + 1, none⟩ = some (.string (chgAt xs i).2.1) ∧ w.cell? ⟨b, i * 3 + 2, none⟩ = some (.int .i64 ((chgAt xs i).2.2 : Nat)) := by
  have h0 := h
  obtain ⟨h1, ⟨rfl, h2⟩ | ⟨g, cap, cur, rfl, hg, hbk, hn, hmm, hs, ht⟩⟩ := h
  · exact ⟨none, 0, by rw [h2], by omega, Nat.zero_le _, fun i hi => by omega⟩
  · refine ⟨some ⟨g, 0, none⟩, cap, rfl, hn, hmm, fun i hi => ⟨g, rfl, rfl, (World.ownsRow.lt h0 g rfl).2, ?_⟩⟩
    obtain ⟨e1, e2, e3⟩ := encXs_at xs i hi
    have hl := encXs_length xs
    exact ⟨(World.ownsRow.cellAt h0 (i * 3) (by omega)).trans e1, (World.ownsRow.cellAt h0 (i * 3 + 1) (by omega)).trans e2, (World.ownsRow.cellAt h0 (i * 3 + 2) (by omega)).trans e3⟩
/-- The cabinet's rows as slices. -/
theorem CabAt.open {w : World} {g : Nat} {O : Nat → Prop} {c : CabM} (h : CabAt w g O c) : ∃ (af : Option Addr) (nf cf : Nat) (an : Option Addr) (nn cn : Nat) (az : Option Addr) (ns cs : Nat) (aw : Option Addr) (nw cw : Nat),
    CabRaw w g O c (.slice af nf cf) (.slice an nn cn) (.slice az ns cs) (.slice aw nw cw) ∧ nf = c.files.length ∧ nn = c.now.length ∧ ns = c.sure.length ∧ nw = c.wait.length ∧ nn ≤ cn ∧ ns ≤ cs ∧ RowN w an c.now ∧ RowN w az c.sure := by
  obtain ⟨vf, vn, vs, vw, h⟩ := h
  obtain ⟨h2, h3, h4, h5, -⟩ := h.parts
  obtain ⟨af, cf, rfl, -, -, -⟩ := h2.at
  obtain ⟨an, cn, rfl, l1, -, r1⟩ := h3.at
  obtain ⟨az, cs, rfl, l2, -, r2⟩ := h4.at
  obtain ⟨aw, cw, rfl, -, -, -⟩ := h5.at
  exact ⟨af, _, cf, an, _, cn, az, _, cs, aw, _, cw, h, rfl, rfl, rfl, rfl, l1, l2, r1, r2⟩
end Go.Proofs.Ytlhmeebbdjiokaa
