/-
  The document's cabinet: New, Names; Texts. Texts in memory.
-/
import Derived.Test.YtlhmeebbdjiokaaCabAppend
namespace Go.Proofs.Ytlhmeebbdjiokaa
open Go.ChangeShapes Go.WideShapes Go.ChangeAt Go.RowKit
set_option linter.unusedVariables false
set_option linter.unusedSimpArgs false
def textAt (ss : List ByteArray) (i : Nat) : ByteArray := ss.getD i ByteArray.empty
/-- Texts in memory. -/
def RowS (w : World) (a : Option Addr) (ss : List ByteArray) : Prop :=
  ss.length = 0 ∨ ∃ b off, a = some ⟨b, off, none⟩ ∧ b < w.heap.size ∧ ∀ i, i < ss.length → w.cell? ⟨b, off + i, none⟩ = some (.string (textAt ss i))
theorem RowS.below {w w' : World} {a : Option Addr} {ss : List ByteArray} (h : RowS w a ss) (hb : Below w.heap.size w w') : RowS w' a ss := by
  rcases h with h | ⟨b, off, ha, hlt, hc⟩
  · exact .inl h
  · exact .inr ⟨b, off, ha, Nat.lt_of_lt_of_le hlt hb.size, fun i hi => (hb.cell (p := ⟨b, off + i, none⟩) hlt).trans (hc i hi)⟩
theorem textT : (Try.prog.info? 9).map (fun i => (i.zero, i.size, i.bytes)) = some (some (.string ByteArray.empty), 1, 16) := by kernel_rfl
def encS (ss : List ByteArray) : List Value := ss.map Value.string
theorem encS_app (ss ts : List ByteArray) : encS (ss ++ ts) = encS ss ++ encS ts := by unfold encS; rw [List.map_append]
theorem encS_at (ss : List ByteArray) (i : Nat) (h : i < ss.length) : (encS ss)[i]? = some (.string (textAt ss i)) := by
  unfold encS textAt
  rw [List.getElem?_map, List.getD_eq_getElem?_getD, List.getElem?_eq_getElem h]
  rfl
def OwnT (w : World) (base : Nat) (v : Value) (ss : List ByteArray) : Prop := w.ownsRow base 9 1 v ss.length (encS ss)
theorem OwnT.empty (w : World) (base : Nat) (hb : base ≤ w.heap.size) : OwnT (w.alloc (.cells #[] 9)) base (.slice (some ⟨w.heap.size, 0, none⟩) 0 0) [] :=
  World.ownsRow_lit w #[] 0 hb (by decide) rfl
theorem OwnT.alloc {w : World} {base : Nat} {v : Value} {ts : List ByteArray} (h : OwnT w base v ts) (o : Obj) : OwnT (w.alloc o) base v ts := World.ownsRow.alloc h o
theorem OwnT.row {w : World} {base : Nat} {v : Value} {ss : List ByteArray} (h : OwnT w base v ss) : ∃ a cap, v = .slice a ss.length cap ∧ RowS w a ss ∧ ss.length ≤ cap ∧ cap ≤ maxLen := by
  have h0 := h
  obtain ⟨h1, ⟨rfl, h2⟩ | ⟨g, cap, cur, rfl, hg, hbk, hn, hmm, hs, ht⟩⟩ := h
  · exact ⟨none, 0, by rw [h2], .inl h2, by omega, Nat.zero_le _⟩
  · refine ⟨some ⟨g, 0, none⟩, cap, rfl, .inr ⟨g, 0, rfl, (World.ownsRow.lt h0 g rfl).2, fun i hi => ?_⟩, hn, hmm⟩
    have c1 := World.ownsRow.cellAt h0 i (by omega)
    rw [Nat.zero_add]
    exact c1.trans (encS_at ss i hi)
theorem appendT {ops : Array Oper} {rest : List Oper} (w : World) {o : Oper} {a : Act} {Q : Exit → Act → World → Prop} (hgd : o.guard = none) (sl x : Operand)
    (ho : o.op = .call { callee := .builtin .append, args := #[sl, x], argTypes := #[64, 64] })
    (base : Nat) (v : Value) (ss : List ByteArray) (hs : a.eval sl = v) (hown : OwnT w base v ss) (q : Nat) (t : ByteArray) (hx : a.eval x = .slice (some ⟨q, 0, none⟩) 1 1)
    (hq : w.heap[q]? = some (.cells #[.string t] 9 (0, 0))) (hl : ss.length ≤ 4398046511104) (hb : base ≤ w.heap.size)
    (h : ∀ v' w', OwnT w' base v' (ss ++ [t]) → Below base w w' → wpList Try.prog ops Q rest (a.put o.dst v') w') : wpList Try.prog ops Q (o :: rest) a w := by
  obtain ⟨i0, hi, hz0, hz1, hz2⟩ := info_parts textT
  refine wpList_plain hgd fun K hK => wp_append_own w sl x 64 ho base 9 i0 (.string ByteArray.empty) 1 16 Try.underlying64 hi hz0 hz1 hz2 rfl (by decide) v ss.length (encS ss) hs hown ⟨q, 0, none⟩ 1 1 [.string t] hx rfl ?_ ?_ (by unfold maxLen; omega) (by omega) (by omega) ?_
  · intro j u hj
    match j, hj with
    | 0, hj => simp at hj; subst hj; exact cell_of_row w q 0 _ _ _ hq
    | j + 1, hj => simp at hj
  · intro u hu
    simp at hu
    subst hu
    rfl
  · intro v' w' h1 h2 _
    refine hK _ _ (h v' w' ?_ (Below.grown (Below.refl _ _) h2 hb (fun j hj => (World.ownsRow.lt hown j hj).1)))
    unfold OwnT
    rw [List.length_append, encS_app]
    exact h1
/-! New. -/
def newC (q : Nat) : CabM := { quota := q, files := [], now := [], sure := [], wait := [], after := 0, timed := false, off := false }
theorem inv_new (q : Nat) : InvC (newC q) := by
  refine ⟨fun e he => (by cases he), fun i hi => ?_, fun i => ⟨Nat.le_refl _, Nat.zero_le _⟩, Nat.zero_le _⟩
  rcases (taken_iff _ _).1 hi with ⟨e, he, _⟩ | ⟨x, hx, _⟩
  · cases he
  · cases hx
theorem time_new (q : Nat) : TimeC (newC q) := fun h => by cases h
def newOk (z : Int) : Bool := decide (1 ≤ z) && decide (z ≤ 1073741824)
def newP (w : World) (z : Int) (e : Ending) (w' : World) : Prop :=
  if newOk z then ∃ g, e = .returned (.tuple #[.pointer (some ⟨g, 0, none⟩), .int .i64 0]) ∧ w.heap.size ≤ g ∧ CabAt w' g (fun b => b = g) (newC z.toNat) ∧ Below w.heap.size w w'
  else e = .returned (.tuple #[.pointer none, .int .i64 1]) ∧ w' = w
theorem cab_fresh (w : World) (q : Nat) : CabAt (w.alloc (.cells (cabCells (newC q) (.slice none 0 0) (.slice none 0 0) (.slice none 0 0) (.slice none 0 0)) 52)) w.heap.size (fun b => b = w.heap.size) (newC q) := by
  refine ⟨.slice none 0 0, .slice none 0 0, .slice none 0 0, .slice none 0 0, heap_alloc_last w _, ⟨rfl, .inl ⟨rfl, rfl⟩⟩, ⟨rfl, .inl ⟨rfl, rfl⟩⟩, ⟨rfl, .inl ⟨rfl, rfl⟩⟩, ⟨rfl, .inl ⟨rfl, rfl⟩⟩, rfl, (fun b hb => by cases hb), (fun b hb => by cases hb), (fun b hb => by cases hb), (fun b hb => by cases hb), fun b hb => ?_⟩
  have hb' : b = w.heap.size := hb
  subst hb'
  simp
set_option maxHeartbeats 1000000 in
theorem rnew_any (w : World) (z : Int) : Calls Try.prog 6 #[.int .i64 z] w fun e w' => newP w z e w' := by
  by_cases h1 : z < 1
  · have HR : Hid (newOk z = false) := by unfold Hid newOk; rw [decide_eq_false (by omega)]; rfl
    go_enter Try.func6, Try.ntmps6
    go_wp2_with fail
    go_ret2
    unfold newP
    rw [HR.out]
    exact ⟨rfl, rfl⟩
  · by_cases h2 : 1073741824 < z
    · have HR : Hid (newOk z = false) := by unfold Hid newOk; rw [decide_eq_true (by omega), decide_eq_false (by omega)]; rfl
      go_enter Try.func6, Try.ntmps6
      go_wp2_with fail
      go_ret2
      unfold newP
      rw [HR.out]
      exact ⟨rfl, rfl⟩
    · have HR : Hid (newOk z = true) := by unfold Hid newOk; rw [decide_eq_true (by omega), decide_eq_true (by omega)]; rfl
      obtain ⟨q, hq⟩ : ∃ q : Nat, z = (q : Int) := ⟨z.toNat, by omega⟩
      subst hq
      have HC : Hid _ := cab_fresh w q
      have HB : Hid _ := below_new w (.cells (cabCells (newC q) (.slice none 0 0) (.slice none 0 0) (.slice none 0 0) (.slice none 0 0)) 52)
      go_enter Try.func6, Try.ntmps6
      go_wp2_with fail
      go_ret2
      unfold newP
      rw [HR.out]
      exact ⟨w.heap.size, rfl, Nat.le_refl _, HC.out, HB.out⟩
/-! Names. -/
def namesR (c : CabM) : List ByteArray := if c.off then [] else c.now.map (·.1)
def namesE (c : CabM) : Nat := if c.off then 11 else 0
def namesP (c : CabM) (e : Ending) (w' : World) : Prop := ∃ a cap, e = .returned (.tuple #[.slice a (namesR c).length cap, .int .i64 (namesE c : Nat)]) ∧ RowS w' a (namesR c)
set_option maxRecDepth 100000 in
set_option maxHeartbeats 4000000 in
theorem rlist_any (w : World) (g : Nat) (O : Nat → Prop) (c : CabM) (h : CabAt w g O c) (hb1 : c.now.length ≤ 1099511627776) :
    Calls Try.prog 21 #[.pointer (some ⟨g, 0, none⟩)] w fun e w' => namesP c e w' ∧ Below w.heap.size w w' := by
  have HAT : Hid (CabAt w g O c) := h
  have hA := h.below (below_new w (.cells #[] 9))
  obtain ⟨af, nf, cf, an, nn, cn, az, ns, cs, aw, nw, cw, hraw, hnf, hnn, -, -, hcn, -, hrn, -⟩ := h.open
  have HRAW : Hid (CabRaw w g O c (.slice af nf cf) (.slice an nn cn) (.slice az ns cs) (.slice aw nw cw)) := hraw
  have c7 := (hraw.below (below_new w (.cells #[] 9))).cells.2.2.2.2.2.2.2
  have HO0 : Hid (OwnT (w.alloc (.cells #[] 9)) w.heap.size (.slice (some ⟨w.heap.size, 0, none⟩) 0 0) []) := OwnT.empty w _ (Nat.le_refl _)
  have HB0 : Hid (Below w.heap.size w (w.alloc (.cells #[] 9))) := below_new w _
  have HNN : Hid (nn = c.now.length) := hnn
  have hnnb : nn ≤ 1099511627776 := by omega
  clear hraw hnf hnn hcn hrn h hA
  cases hoff : c.off with
  | true =>
    rw [hoff] at c7
    have HR : Hid (namesR c = []) := by unfold Hid namesR; rw [hoff]; rfl
    have HE : Hid (namesE c = 11) := by unfold Hid namesE; rw [hoff]; rfl
    clear hoff
    go_enter Try.func21, Try.ntmps21
    go_wp2_with fail
    go_ret2
    exact ⟨⟨_, _, by rw [HR.out, HE.out]; rfl, .inl (by rw [HR.out]; rfl)⟩, HB0.out⟩
  | false =>
    rw [hoff] at c7
    have HR : Hid (namesR c = c.now.map (·.1)) := by unfold Hid namesR; rw [hoff]; rfl
    have HE : Hid (namesE c = 0) := by unfold Hid namesE; rw [hoff]; rfl
    clear hoff
    go_enter Try.func21, Try.ntmps21
    go_wp2_with fail
    go_loopw [4, 5] (fun ov ix wr => ∃ (wz : World) (v0 : Value) (i : Nat), wz = wr ∧ ov = v0 ∧ ix = .int .i64 (i : Nat) ∧ i ≤ nn ∧ OwnT wz w.heap.size v0 ((c.now.map (·.1)).take i) ∧ Below w.heap.size w wz) (fun _ ix _ => nn - (intOf ix).toNat)
    case atStart => exact ⟨_, _, 0, rfl, rfl, rfl, Nat.zero_le _, HO0.out, HB0.out⟩
    case round =>
      clear HO0 HB0 c7
      obtain ⟨wz, v0, i, hwz, hov, rfl, hi, hown, hbe⟩ := hrel
      subst hwz
      replace hov := hov.symm
      subst hov
      have HOW : Hid (OwnT wz w.heap.size v0 ((c.now.map (·.1)).take i)) := hown
      have HBE : Hid (Below w.heap.size w wz) := hbe
      have hraw := HRAW.out.below hbe
      have c2 := hraw.cells.2.2.1
      clear hown hbe
      by_cases hlt : i < nn
      · have hii : (i : Int) < (nn : Int) := by omega
        have hil : i < c.now.length := by rw [← HNN.out]; exact hlt
        obtain ⟨a', cap', hv, -, -, hr⟩ := OwnE.at hraw.parts.2.1
        cases hv
        rcases hr with h0 | ⟨b, off, ha, hblt, hc⟩
        · omega
        · subst ha
          have hcell := (hc i hil).1
          have HSN : Hid ((c.now.map (·.1)).take (i + 1) = (c.now.map (·.1)).take i ++ [(entAt c.now i).1]) := by
            unfold Hid
            rw [List.take_succ_eq_append_getElem (by rw [List.length_map]; exact hil), List.getElem_map]
            unfold entAt
            rw [List.getD_eq_getElem?_getD, List.getElem?_eq_getElem hil]
            rfl
          generalize (entAt c.now i).1 = T at *
          have hlen : ((c.now.map (·.1)).take i).length ≤ 4398046511104 := by rw [List.length_take, List.length_map]; omega
          have HQ : Hid ((wz.alloc (.cells #[.string T] 9)).heap[wz.heap.size]? = some (.cells #[.string T] 9 (0, 0))) := heap_alloc_last wz _
          have HO2 : Hid (OwnT (wz.alloc (.cells #[.string T] 9)) w.heap.size v0 ((c.now.map (·.1)).take i)) := HOW.out.alloc _
          have HB2 : Hid (Below w.heap.size w (wz.alloc (.cells #[.string T] 9))) := HBE.out.trans ((below_new wz _).mono HBE.out.size)
          have hsz : w.heap.size ≤ (wz.alloc (.cells #[.string T] 9)).heap.size := HB2.out.size
          clear hraw hc hil HOW HBE
          go_wp2_with (at_builtin; (refine appendT (wz.alloc (.cells #[.string T] 9)) rfl _ _ rfl w.heap.size v0 ((c.now.map (·.1)).take i) rfl HO2.out wz.heap.size T rfl HQ.out hlen hsz ?_; intro v4 w4 hown4 hb4; have HO4 : Hid (OwnT w4 w.heap.size v4 ((c.now.map (·.1)).take (i + 1))) := (by unfold Hid; rw [HSN.out]; exact hown4); have HB4 : Hid (Below w.heap.size w w4) := HB2.out.trans hb4; clear hown4 hb4))
          go_roundw
          case rel => exact ⟨_, v4, i + 1, rfl, rfl, by go_num, by omega, HO4.out, HB4.out⟩
          case measure => simp [intOf]; omega
      · have hii : ¬ (i : Int) < (nn : Int) := by omega
        have hown : OwnT wz w.heap.size v0 (c.now.map (·.1)) := by
          have := HOW.out
          rw [List.take_of_length_le (by rw [List.length_map, ← HNN.out]; omega)] at this
          exact this
        obtain ⟨a, cap, hv, hrow, -, -⟩ := hown.row
        subst hv
        have HRW : Hid (RowS wz a (c.now.map (·.1))) := hrow
        clear hown hrow HOW hraw
        generalize (c.now.map (·.1)) = L at *
        go_wp2_with fail
        go_ret2
        exact ⟨⟨a, cap, by rw [HR.out, HE.out]; rfl, by rw [HR.out]; exact HRW.out⟩, HBE.out⟩
/-! Texts. -/
set_option maxHeartbeats 2000000 in
theorem rtexts_same (w : World) (a b : Option Addr) (n k m : Nat) (ss : List ByteArray) (ha : RowS w a ss) (hb : RowS w b ss) (hn : n = ss.length) (hnb : n ≤ 9223372036854775806) :
    Calls Try.prog 22 #[.slice a n k, .slice b n m] w fun e w' => e = .returned (.bool true) ∧ Below w.heap.size w w' := by
  have HA : Hid (RowS w a ss) := ha
  have HB : Hid (RowS w b ss) := hb
  have HN : Hid (n = ss.length) := hn
  clear ha hb hn
  go_enter Try.func22, Try.ntmps22
  go_wp2_with fail
  go_loopw [5] (fun ix wr => ∃ (wz : World) (i : Nat), wz = wr ∧ ix = .int .i64 (i : Nat) ∧ i ≤ n ∧ Below w.heap.size w wz) (fun ix _ => n - (intOf ix).toNat)
  case atStart => exact ⟨_, 0, rfl, rfl, Nat.zero_le _, Below.refl _ _⟩
  case round =>
    obtain ⟨wz, i, hwz, rfl, hi, hbe⟩ := hrel
    subst hwz
    have HBE : Hid (Below w.heap.size w wz) := hbe
    have hra := HA.out.below hbe
    have hrb := HB.out.below hbe
    clear hbe
    by_cases hlt : i < n
    · have hii : (i : Int) < (n : Int) := by omega
      have hil : i < ss.length := by rw [← HN.out]; exact hlt
      rcases hra with h0 | ⟨b1, o1, ha, -, hc1⟩
      · omega
      · rcases hrb with h0 | ⟨b2, o2, hb, -, hc2⟩
        · omega
        · subst ha
          subst hb
          have d1 : wz.cell? ⟨b1, o1 + i, none⟩ = some (.string (textAt ss i)) := hc1 i hil
          have d2 : wz.cell? ⟨b2, o2 + i, none⟩ = some (.string (textAt ss i)) := hc2 i hil
          generalize textAt ss i = T at *
          clear hc1 hc2 hil
          go_wp2_with fail
          go_quiet (fail)
          have HBD : Hid (Below w.heap.size w (wz.drewN nq)) := below_drew HBE.out nq
          clear d1 d2 HBE
          generalize wz.drewN nq = wd at *
          go_wp2_with fail
          go_roundw
          case rel => exact ⟨_, i + 1, rfl, by go_num, by omega, HBD.out⟩
          case measure => simp [intOf]; omega
    · have hii : ¬ (i : Int) < (n : Int) := by omega
      go_wp2_with fail
      go_ret
      exact ⟨rfl, HBE.out⟩
end Go.Proofs.Ytlhmeebbdjiokaa
