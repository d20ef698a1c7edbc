/-
  The document's cabinet: a change of names.
-/
import Derived.Test.YtlhmeebbdjiokaaCabRows
import Derived.Test.YtlhmeebbdjiokaaHeldMore
namespace Go.Proofs.Ytlhmeebbdjiokaa
open Go.ChangeShapes Go.WideShapes Go.ChangeAt Go.RowKit
set_option linter.unusedVariables false
set_option linter.unusedSimpArgs false
theorem chgT : (Try.prog.info? 87).map (fun i => (i.zero, i.size, i.bytes)) = some (some (.agg #[.string ByteArray.empty, .string ByteArray.empty, .int .i64 0]), 3, 40) := by kernel_rfl
/-- One change behind a row of changes, at one operation. -/
theorem appendX_at (w : World) {o : Oper} {a : Act} {K : Act → World → Prop} {Q : Exit → Act → World → Prop} (sl x : Operand)
    (ho : o.op = .call { callee := .builtin .append, args := #[sl, x], argTypes := #[50, 50] })
    (v : Value) (xs : List (ByteArray × ByteArray × Nat)) (hs : a.eval sl = v) (hown : OwnX w v xs) (q : Nat) (y : ByteArray × ByteArray × Nat) (hx : a.eval x = .slice (some ⟨q, 0, none⟩) 1 1)
    (hq : w.heap[q]? = some (.cells #[.string y.1, .string y.2.1, .int .i64 (y.2.2 : Nat)] 87 (0, 0))) (hl : xs.length ≤ 1099511627776) (d : Option Tmp) (hd : o.dst = d)
    (h : ∀ v' w', OwnX w' v' (xs ++ [y]) → w.grownBy w' v.ownBlock → (∀ b, v'.ownBlock = some b → v.ownBlock = some b ∨ w.heap.size ≤ b) → K (a.put d v') w') : Oper.wp Try.prog o a w K Q := by
  obtain ⟨i0, hi, hz0, hz1, hz2⟩ := info_parts chgT
  refine wp_append_where w sl x 50 ho 87 i0 (.agg #[.string ByteArray.empty, .string ByteArray.empty, .int .i64 0]) 3 40 Try.underlying50 hi hz0 hz1 hz2 rfl (by decide) v xs.length (encXs xs) hs hown ⟨q, 0, none⟩ 1 1 (encX y) hx rfl ?_ ?_ (by unfold maxLen; omega) (by omega) d hd ?_
  · intro j u hj
    have e := fun i => cell_of_row w q i _ _ _ hq
    match j, hj with
    | 0, hj => simp [encX] at hj; subst hj; exact e 0
    | 1, hj => simp [encX] at hj; subst hj; exact e 1
    | 2, hj => simp [encX] at hj; subst hj; exact e 2
    | j + 3, hj => simp [encX] at hj
  · intro u hu
    simp [encX] at hu
    rcases hu with rfl | rfl | rfl <;> rfl
  · intro v' w' h1 h2 h3
    refine h v' w' ?_ h2 h3
    unfold OwnX
    rw [List.length_append, encXs_app]
    have e : encXs [y] = encX y := by unfold encXs; simp
    rw [e]
    exact h1
theorem OwnX.slice {w : World} {v : Value} {xs : List (ByteArray × ByteArray × Nat)} (h : OwnX w v xs) : ∃ a n k, v = .slice a n k := by
  obtain ⟨a, cap, hv, -⟩ := h.at
  exact ⟨a, _, cap, hv⟩
set_option maxRecDepth 100000 in
set_option maxHeartbeats 16000000 in
theorem rnames_any (w : World) (g : Nat) (O : Nat → Prop) (c : CabM) (h : CabAt w g O c) (old nm : ByteArray) (f : Nat) (hb1 : c.now.length ≤ 1099511627776) (hb2 : c.wait.length ≤ 1099511627776) :
    Calls Try.prog 55 #[.pointer (some ⟨g, 0, none⟩), .agg #[.string old, .string nm, .int .i64 (f : Nat)]] w fun e w' => e = .returned (.tuple #[]) ∧ CabPost w g O (namesC c (old, nm, f)) w' := by
  have h1 := h.below (below_new w (.cells #[.string old, .string nm, .int .i64 (f : Nat)] 87))
  obtain ⟨af, nf, cf, an, nn, cn, az, ns, cs, aw, nw, cw, hraw, -, hnn, -, hnw, hcn, -, hrn, -⟩ := h1.open
  have HNN : Hid (nn = c.now.length) := hnn
  have hnnb : nn ≤ 1099511627776 := by omega
  clear hnn hnw
  have x0 : (w.alloc (.cells #[.string old, .string nm, .int .i64 (f : Nat)] 87)).cell? ⟨w.heap.size, 0, none⟩ = some (.string old) := by rw [cell_of_row _ w.heap.size _ _ _ _ (heap_alloc_last w _)]; rfl
  have x1 : (w.alloc (.cells #[.string old, .string nm, .int .i64 (f : Nat)] 87)).cell? ⟨w.heap.size, 1, none⟩ = some (.string nm) := by rw [cell_of_row _ w.heap.size _ _ _ _ (heap_alloc_last w _)]; rfl
  have x2 : (w.alloc (.cells #[.string old, .string nm, .int .i64 (f : Nat)] 87)).cell? ⟨w.heap.size, 2, none⟩ = some (.int .i64 (f : Nat)) := by rw [cell_of_row _ w.heap.size _ _ _ _ (heap_alloc_last w _)]; rfl
  have HA1 : Hid (Apart O w (w.alloc (.cells #[.string old, .string nm, .int .i64 (f : Nat)] 87))) := apart_of (below_new w _) O
  have hp1 : w.heap.size < (w.alloc (.cells #[.string old, .string nm, .int .i64 (f : Nat)] 87)).heap.size := by simp
  have hgp : g < w.heap.size := by
    obtain ⟨_, _, _, _, hr0⟩ := h
    exact hr0.lt
  have HWS : Hid (w.heap.size ≤ (w.alloc (.cells #[.string old, .string nm, .int .i64 (f : Nat)] 87)).heap.size) := Nat.le_of_lt hp1
  have HVW : Hid ((Value.slice aw nw cw).ownBlock = some w.heap.size → False) := by
    obtain ⟨_, _, _, _, hr0⟩ := h
    intro e
    exact absurd (hr0.parts.2.2.2.2.2.2.2.2.2 _ (hraw.parts.2.2.2.2.2.2.2.2.1 _ e)) (Nat.lt_irrefl _)
  clear h h1
  go_enter Try.func55, Try.ntmps55
  go_wp2_with fail
  generalize w.alloc (.cells #[.string old, .string nm, .int .i64 (f : Nat)] 87) = w1 at *
  obtain ⟨p, hp⟩ : ∃ p, p = w.heap.size := ⟨_, rfl⟩
  rw [← hp] at x0 x1 x2 hp1 hgp HWS HVW
  have HPW : Hid (p = w.heap.size) := hp
  rw [← hp]
  have HRAW : Hid (CabRaw w1.drew g O c (.slice af nf cf) (.slice an nn cn) (.slice az ns cs) (.slice aw nw cw)) := hraw.below (Below.refl _ _).drew
  have HRN : Hid (RowN w1.drew an c.now) := hrn.below (Below.refl _ _).drew
  have HAD : Hid (Apart O w w1.drew) := HA1.out.same (apart_of (Below.refl _ _).drew O)
  have hp1d : p < w1.drew.heap.size := hp1
  have HWSD : Hid (p ≤ w1.drew.heap.size) := HWS.out
  have hne : g ≠ p := by omega
  clear hraw hrn HA1 hp
  refine wp_region_held_drew (S := fun w' => w'.cell? ⟨p, 0, none⟩ = some (.string old) ∧ w'.cell? ⟨p, 1, none⟩ = some (.string nm) ∧ w'.cell? ⟨p, 2, none⟩ = some (.int .i64 (f : Nat))) (by kernel_rfl) (⟨x0, x1, x2⟩) (fun hHeld => ?_)
  clear x0 x1 x2 hp1 HWS
  generalize w1.drew = wd at *
  refine held_take 0 (some 4) (.pointer (some ⟨g, 0, none⟩)) rfl rfl (by kernel_rfl) (by kernel_rfl) (by kernel_rfl) (fun _ _ _ h => h) rfl (fun w' hS => ?_) hHeld ?_
  · clear hS; go_simp
  try simp only [Act.put, List.setIfInBounds_toArray, List.set_cons_zero, List.set_cons_succ]
  refine held_take 1 (some 5) (.pointer (some ⟨g, 0, none⟩)) rfl rfl (by kernel_rfl) (by kernel_rfl) (by kernel_rfl) (fun _ _ _ h => h) rfl (fun w' hS => ?_) hHeld ?_
  · clear hS; go_simp
  try simp only [Act.put, List.setIfInBounds_toArray, List.set_cons_zero, List.set_cons_succ]
  refine held_take 2 (some 6) (.pointer (some ⟨g, 0, none⟩)) rfl rfl (by kernel_rfl) (by kernel_rfl) (by kernel_rfl) (fun _ _ _ h => h) rfl (fun w' hS => ?_) hHeld ?_
  · clear hS; go_simp
  try simp only [Act.put, List.setIfInBounds_toArray, List.set_cons_zero, List.set_cons_succ]
  refine held_take 3 (some 7) (.pointer (some ⟨g, 2, none⟩)) rfl rfl (by kernel_rfl) (by kernel_rfl) (by kernel_rfl) (fun _ _ _ h => h) rfl (fun w' hS => ?_) hHeld ?_
  · clear hS; go_simp
  try simp only [Act.put, List.setIfInBounds_toArray, List.set_cons_zero, List.set_cons_succ]
  refine held_take 5 (some 9) (.agg #[.string old, .string nm, .int .i64 (f : Nat)]) rfl rfl (by kernel_rfl) (by kernel_rfl) (by kernel_rfl) (fun _ _ _ h => h) rfl (fun w' hS => ?_) hHeld ?_
  · obtain ⟨y0, y1, y2⟩ := hS; go_simp
  try simp only [Act.put, List.setIfInBounds_toArray, List.set_cons_zero, List.set_cons_succ]
  have c2 := HRAW.out.cells.2.2.1
  refine held_one (i := 4) (by kernel_rfl) rfl rfl (fun K hK => ?_)
  go_simp
  refine hK.out _ _ hHeld ?_
  clear hK K
  try simp only [Act.put, List.setIfInBounds_toArray, List.set_cons_zero, List.set_cons_succ]
  refine held_one (i := 6) (by kernel_rfl) rfl rfl (fun K hK => ?_)
  go_simp
  refine Calls.mono (rwith_any an nn cn c.now old nm f wd HRN.out HNN.out.symm hnnb hcn HRAW.out.parts.2.1) ?_
  rintro _ w2 ⟨⟨a2, k2, rfl, hr2, hl2, ho2, hbk2⟩, hb2'⟩
  dsimp only
  have hS2 : w2.cell? ⟨p, 0, none⟩ = some (.string old) ∧ w2.cell? ⟨p, 1, none⟩ = some (.string nm) ∧ w2.cell? ⟨p, 2, none⟩ = some (.int .i64 (f : Nat)) := ⟨(hb2'.cell (p := ⟨p, 0, none⟩) hp1d).trans hHeld.1, (hb2'.cell (p := ⟨p, 1, none⟩) hp1d).trans hHeld.2.1, (hb2'.cell (p := ⟨p, 2, none⟩) hp1d).trans hHeld.2.2⟩
  have hraw2 := HRAW.out.below hb2'
  have HA2 : Hid (Apart O w w2) := HAD.out.same (apart_of hb2' O)
  have hvn := HRAW.out.parts.2.2.2.2.2.2.1
  obtain ⟨⟨O3, hraw3, hO3⟩, ha3⟩ := hraw2.named ho2 p (fun b e => by
    rcases hbk2 b e with e | e
    · exact .inr (Nat.le_trans HWSD.out e)
    · exact .inl (hvn b e))
  have HA3 : Hid (Apart O w (w2.setCell ⟨g, 2, none⟩ (.slice a2 (withC c.now (old, nm, f)).length k2))) := HA2.out.same ha3
  have HO3 : Hid (∀ b, O3 b → O b ∨ p ≤ b) := hO3
  have hp2 : p < w2.heap.size := Nat.lt_of_lt_of_le hp1d hb2'.size
  have c2' := hraw2.cells.2.2.1
  have f2' := hraw2.frozen 2
  refine hK.out _ _ hS2 ?_
  clear hK K HRAW HRN HAD c2 hHeld hr2 hl2 ho2 hbk2 hb2' hvn hO3 ha3 hraw2 HA2 hcn hp1d HWSD
  generalize (withC c.now (old, nm, f)).length = n2 at *
  try simp only [Act.put, List.setIfInBounds_toArray, List.set_cons_zero, List.set_cons_succ]
  refine held_take 7 (some 11) (.pointer (some ⟨g, 0, none⟩)) rfl rfl (by kernel_rfl) (by kernel_rfl) (by kernel_rfl) (fun _ _ _ h => h) rfl (fun w' hS => ?_) hS2 ?_
  · clear hS; go_simp
  try simp only [Act.put, List.setIfInBounds_toArray, List.set_cons_zero, List.set_cons_succ]
  refine held_take 8 (some 12) (.pointer (some ⟨g, 2, none⟩)) rfl rfl (by kernel_rfl) (by kernel_rfl) (by kernel_rfl) (fun _ _ _ h => h) rfl (fun w' hS => ?_) hS2 ?_
  · clear hS; go_simp
  try simp only [Act.put, List.setIfInBounds_toArray, List.set_cons_zero, List.set_cons_succ]
  refine held_one (i := 9) (by kernel_rfl) rfl rfl (fun K hK => ?_)
  go_simp
  have HS3 : (w2.setCell ⟨g, 2, none⟩ (.slice a2 n2 k2)).cell? ⟨p, 0, none⟩ = some (.string old) ∧ (w2.setCell ⟨g, 2, none⟩ (.slice a2 n2 k2)).cell? ⟨p, 1, none⟩ = some (.string nm) ∧ (w2.setCell ⟨g, 2, none⟩ (.slice a2 n2 k2)).cell? ⟨p, 2, none⟩ = some (.int .i64 (f : Nat)) := by
    have e := fun i => World.cell?_of_block (w := w2) (w' := w2.setCell ⟨g, 2, none⟩ (.slice a2 n2 k2)) (a := ⟨p, i, none⟩) (Below.heap_setCell w2 ⟨g, 2, none⟩ _ p (fun e => hne e.symm))
    exact ⟨(e 0).trans hS2.1, (e 1).trans hS2.2.1, (e 2).trans hS2.2.2⟩
  have hp3 : p < (w2.setCell ⟨g, 2, none⟩ (.slice a2 n2 k2)).heap.size := by simp [World.setCell]; exact hp2
  refine hK.out _ _ HS3 ?_
  clear hK K hS2 c2' f2' hp2
  generalize w2.setCell ⟨g, 2, none⟩ (.slice a2 n2 k2) = w3 at *
  try simp only [Act.put, List.setIfInBounds_toArray, List.set_cons_zero, List.set_cons_succ]
  refine wpAnyH_done (by kernel_rfl) ?_ _
  obtain ⟨y0, y1, y2⟩ := HS3
  have HN : Hid (namesC c (old, nm, f) = { ({ c with now := withC c.now (old, nm, f) } : CabM) with wait := c.wait ++ [(old, nm, f)] }) := rfl
  obtain ⟨c1, hc1⟩ : ∃ c1, c1 = ({ c with now := withC c.now (old, nm, f) } : CabM) := ⟨_, rfl⟩
  have hcw : c1.wait = c.wait := by rw [hc1]
  rw [← hc1] at hraw3 HN
  rw [← hcw] at HN hb2
  have HRAW : Hid (CabRaw w3.drew g O3 c1 (.slice af nf cf) (.slice a2 n2 k2) (.slice az ns cs) (.slice aw nw cw)) := hraw3.below (Below.refl _ _).drew
  have HAD : Hid (Apart O w w3.drew) := HA3.out.same (apart_of (Below.refl _ _).drew O)
  have z0 : w3.drew.cell? ⟨p, 0, none⟩ = some (.string old) := y0
  have z1 : w3.drew.cell? ⟨p, 1, none⟩ = some (.string nm) := y1
  have z2 : w3.drew.cell? ⟨p, 2, none⟩ = some (.int .i64 (f : Nat)) := y2
  have hp3d : p < w3.drew.heap.size := hp3
  clear hc1 hcw hraw3 HA3 y0 y1 y2 hp3
  go_wp2_with fail
  refine wp_region_held_drew (S := fun w' => w'.cell? ⟨p, 0, none⟩ = some (.string old) ∧ w'.cell? ⟨p, 1, none⟩ = some (.string nm) ∧ w'.cell? ⟨p, 2, none⟩ = some (.int .i64 (f : Nat))) (by kernel_rfl) (⟨z0, z1, z2⟩) (fun hHeld => ?_)
  clear z0 z1 z2
  generalize w3.drew = we at *
  refine held_take 0 (some 13) (.pointer (some ⟨g, 0, none⟩)) rfl rfl (by kernel_rfl) (by kernel_rfl) (by kernel_rfl) (fun _ _ _ h => h) rfl (fun w' hS => ?_) hHeld ?_
  · clear hS; go_simp
  try simp only [Act.put, List.setIfInBounds_toArray, List.set_cons_zero, List.set_cons_succ]
  refine held_take 1 (some 14) (.pointer (some ⟨g, 0, none⟩)) rfl rfl (by kernel_rfl) (by kernel_rfl) (by kernel_rfl) (fun _ _ _ h => h) rfl (fun w' hS => ?_) hHeld ?_
  · clear hS; go_simp
  try simp only [Act.put, List.setIfInBounds_toArray, List.set_cons_zero, List.set_cons_succ]
  refine held_take 2 (some 15) (.pointer (some ⟨g, 0, none⟩)) rfl rfl (by kernel_rfl) (by kernel_rfl) (by kernel_rfl) (fun _ _ _ h => h) rfl (fun w' hS => ?_) hHeld ?_
  · clear hS; go_simp
  try simp only [Act.put, List.setIfInBounds_toArray, List.set_cons_zero, List.set_cons_succ]
  refine held_take 3 (some 16) (.pointer (some ⟨g, 4, none⟩)) rfl rfl (by kernel_rfl) (by kernel_rfl) (by kernel_rfl) (fun _ _ _ h => h) rfl (fun w' hS => ?_) hHeld ?_
  · clear hS; go_simp
  try simp only [Act.put, List.setIfInBounds_toArray, List.set_cons_zero, List.set_cons_succ]
  refine held_take 5 (some 18) (.agg #[.string old, .string nm, .int .i64 (f : Nat)]) rfl rfl (by kernel_rfl) (by kernel_rfl) (by kernel_rfl) (fun _ _ _ h => h) rfl (fun w' hS => ?_) hHeld ?_
  · obtain ⟨y0, y1, y2⟩ := hS; go_simp
  try simp only [Act.put, List.setIfInBounds_toArray, List.set_cons_zero, List.set_cons_succ]
  have c4 := HRAW.out.cells.2.2.2.2.1
  have HB5 : Hid (Below we.heap.size we (we.alloc (.cells #[.string old, .string nm, .int .i64 (f : Nat)] 87))) := below_new we _
  have hS5 : (we.alloc (.cells #[.string old, .string nm, .int .i64 (f : Nat)] 87)).cell? ⟨p, 0, none⟩ = some (.string old) ∧ (we.alloc (.cells #[.string old, .string nm, .int .i64 (f : Nat)] 87)).cell? ⟨p, 1, none⟩ = some (.string nm) ∧ (we.alloc (.cells #[.string old, .string nm, .int .i64 (f : Nat)] 87)).cell? ⟨p, 2, none⟩ = some (.int .i64 (f : Nat)) := ⟨(HB5.out.cell (p := ⟨p, 0, none⟩) hp3d).trans hHeld.1, (HB5.out.cell (p := ⟨p, 1, none⟩) hp3d).trans hHeld.2.1, (HB5.out.cell (p := ⟨p, 2, none⟩) hp3d).trans hHeld.2.2⟩
  have HRAW5 : Hid (CabRaw (we.alloc (.cells #[.string old, .string nm, .int .i64 (f : Nat)] 87)) g O3 c1 (.slice af nf cf) (.slice a2 n2 k2) (.slice az ns cs) (.slice aw nw cw)) := HRAW.out.below HB5.out
  have HA5 : Hid (Apart O w (we.alloc (.cells #[.string old, .string nm, .int .i64 (f : Nat)] 87))) := HAD.out.same (apart_of HB5.out O)
  have hq5 : (we.alloc (.cells #[.string old, .string nm, .int .i64 (f : Nat)] 87)).heap[we.heap.size]? = some (.cells #[.string old, .string nm, .int .i64 (f : Nat)] 87 (0, 0)) := heap_alloc_last we _
  have c4' := HRAW5.out.cells.2.2.2.2.1
  have hp5 : p < (we.alloc (.cells #[.string old, .string nm, .int .i64 (f : Nat)] 87)).heap.size := Nat.lt_of_lt_of_le hp3d HB5.out.size
  have HQN : Hid (we.heap.size ≠ p) := by unfold Hid; omega
  have HPG : Hid (p ≤ we.heap.size) := Nat.le_of_lt hp3d
  refine held_two (i := 4) (j := 6) (by kernel_rfl) rfl rfl rfl rfl (fun K hK => ?_) (fun K hK => ?_)
  · go_simp
    refine hK.out _ _ hHeld ?_
    clear hK K
    try simp only [Act.put, List.setIfInBounds_toArray, List.set_cons_zero, List.set_cons_succ]
    refine held_one (i := 6) (by kernel_rfl) rfl rfl (fun K hK => ?_)
    go_simp
    refine hK.out _ _ hS5 ?_
    clear hK K hHeld
    try simp only [Act.put, List.setIfInBounds_toArray, List.set_cons_zero, List.set_cons_succ]
    generalize we.alloc (.cells #[.string old, .string nm, .int .i64 (f : Nat)] 87) = w5 at *
    generalize we.heap.size = q at *
    refine held_one (i := 7) (by kernel_rfl) rfl rfl (fun K hK => ?_)
    refine appendX_at w5 _ _ rfl (.slice aw nw cw) c1.wait rfl HRAW5.out.parts.2.2.2.1 q (old, nm, f) rfl hq5 hb2 (some 20) rfl ?_
    intro v6 w6 hown6 hgr6 hbk6
    obtain ⟨HP6, c46, f46⟩ := HRAW5.out.waits hgr6 hown6 hbk6
    obtain ⟨a6, n6, k6, hv6⟩ := hown6.slice
    subst hv6
    have hpw : (Value.slice aw nw cw).ownBlock ≠ some p := fun e => HVW.out e
    have hS6 : w6.cell? ⟨p, 0, none⟩ = some (.string old) ∧ w6.cell? ⟨p, 1, none⟩ = some (.string nm) ∧ w6.cell? ⟨p, 2, none⟩ = some (.int .i64 (f : Nat)) := by
      have e := fun i => World.cell?_of_block (w := w5) (w' := w6) (a := ⟨p, i, none⟩) (hgr6.block p hp5 (fun e => hpw e.symm))
      exact ⟨(e 0).trans hS5.1, (e 1).trans hS5.2.1, (e 2).trans hS5.2.2⟩
    refine hK.out _ _ hS6 ?_
    clear hK K
    try simp only [Act.put, List.setIfInBounds_toArray, List.set_cons_zero, List.set_cons_succ]
    refine held_take 8 (some 21) (.pointer (some ⟨g, 0, none⟩)) rfl rfl (by kernel_rfl) (by kernel_rfl) (by kernel_rfl) (fun _ _ _ h => h) rfl (fun w' hS => ?_) hS6 ?_
    · clear hS; go_simp
    try simp only [Act.put, List.setIfInBounds_toArray, List.set_cons_zero, List.set_cons_succ]
    refine held_take 9 (some 22) (.pointer (some ⟨g, 4, none⟩)) rfl rfl (by kernel_rfl) (by kernel_rfl) (by kernel_rfl) (fun _ _ _ h => h) rfl (fun w' hS => ?_) hS6 ?_
    · clear hS; go_simp
    try simp only [Act.put, List.setIfInBounds_toArray, List.set_cons_zero, List.set_cons_succ]
    refine held_one (i := 10) (by kernel_rfl) rfl rfl (fun K hK => ?_)
    go_simp
    have HS7 : (w6.setCell ⟨g, 4, none⟩ (.slice a6 n6 k6)).cell? ⟨p, 0, none⟩ = some (.string old) ∧ (w6.setCell ⟨g, 4, none⟩ (.slice a6 n6 k6)).cell? ⟨p, 1, none⟩ = some (.string nm) ∧ (w6.setCell ⟨g, 4, none⟩ (.slice a6 n6 k6)).cell? ⟨p, 2, none⟩ = some (.int .i64 (f : Nat)) := by
      have e := fun i => World.cell?_of_block (w := w6) (w' := w6.setCell ⟨g, 4, none⟩ (.slice a6 n6 k6)) (a := ⟨p, i, none⟩) (Below.heap_setCell w6 ⟨g, 4, none⟩ _ p (fun e => hne e.symm))
      exact ⟨(e 0).trans hS6.1, (e 1).trans hS6.2.1, (e 2).trans hS6.2.2⟩
    refine hK.out _ _ HS7 ?_
    have HPF : Hid (CabPost w g O (namesC c (old, nm, f)) (w6.setCell ⟨g, 4, none⟩ (.slice a6 n6 k6))) := by
      unfold Hid
      rw [HN.out]
      exact CabPost.trans (fun b e => by rw [← HPW.out]; exact HO3.out b e) HA5.out HP6
    clear hK K HS7 hS6 HP6 hgr6 hown6 hbk6 c46 f46
    try simp only [Act.put, List.setIfInBounds_toArray, List.set_cons_zero, List.set_cons_succ]
    refine wpAnyH_done (by kernel_rfl) ?_ _
    go_wp2_with fail
    go_end0
    exact ⟨rfl, HPF.out⟩
  · go_simp
    refine hK.out _ _ hS5 ?_
    clear hK K hHeld
    try simp only [Act.put, List.setIfInBounds_toArray, List.set_cons_zero, List.set_cons_succ]
    refine held_one (i := 4) (by kernel_rfl) rfl rfl (fun K hK => ?_)
    go_simp
    refine hK.out _ _ hS5 ?_
    clear hK K
    try simp only [Act.put, List.setIfInBounds_toArray, List.set_cons_zero, List.set_cons_succ]
    generalize we.alloc (.cells #[.string old, .string nm, .int .i64 (f : Nat)] 87) = w5 at *
    generalize we.heap.size = q at *
    refine held_one (i := 7) (by kernel_rfl) rfl rfl (fun K hK => ?_)
    refine appendX_at w5 _ _ rfl (.slice aw nw cw) c1.wait rfl HRAW5.out.parts.2.2.2.1 q (old, nm, f) rfl hq5 hb2 (some 20) rfl ?_
    intro v6 w6 hown6 hgr6 hbk6
    obtain ⟨HP6, c46, f46⟩ := HRAW5.out.waits hgr6 hown6 hbk6
    obtain ⟨a6, n6, k6, hv6⟩ := hown6.slice
    subst hv6
    have hpw : (Value.slice aw nw cw).ownBlock ≠ some p := fun e => HVW.out e
    have hS6 : w6.cell? ⟨p, 0, none⟩ = some (.string old) ∧ w6.cell? ⟨p, 1, none⟩ = some (.string nm) ∧ w6.cell? ⟨p, 2, none⟩ = some (.int .i64 (f : Nat)) := by
      have e := fun i => World.cell?_of_block (w := w5) (w' := w6) (a := ⟨p, i, none⟩) (hgr6.block p hp5 (fun e => hpw e.symm))
      exact ⟨(e 0).trans hS5.1, (e 1).trans hS5.2.1, (e 2).trans hS5.2.2⟩
    refine hK.out _ _ hS6 ?_
    clear hK K
    try simp only [Act.put, List.setIfInBounds_toArray, List.set_cons_zero, List.set_cons_succ]
    refine held_take 8 (some 21) (.pointer (some ⟨g, 0, none⟩)) rfl rfl (by kernel_rfl) (by kernel_rfl) (by kernel_rfl) (fun _ _ _ h => h) rfl (fun w' hS => ?_) hS6 ?_
    · clear hS; go_simp
    try simp only [Act.put, List.setIfInBounds_toArray, List.set_cons_zero, List.set_cons_succ]
    refine held_take 9 (some 22) (.pointer (some ⟨g, 4, none⟩)) rfl rfl (by kernel_rfl) (by kernel_rfl) (by kernel_rfl) (fun _ _ _ h => h) rfl (fun w' hS => ?_) hS6 ?_
    · clear hS; go_simp
    try simp only [Act.put, List.setIfInBounds_toArray, List.set_cons_zero, List.set_cons_succ]
    refine held_one (i := 10) (by kernel_rfl) rfl rfl (fun K hK => ?_)
    go_simp
    have HS7 : (w6.setCell ⟨g, 4, none⟩ (.slice a6 n6 k6)).cell? ⟨p, 0, none⟩ = some (.string old) ∧ (w6.setCell ⟨g, 4, none⟩ (.slice a6 n6 k6)).cell? ⟨p, 1, none⟩ = some (.string nm) ∧ (w6.setCell ⟨g, 4, none⟩ (.slice a6 n6 k6)).cell? ⟨p, 2, none⟩ = some (.int .i64 (f : Nat)) := by
      have e := fun i => World.cell?_of_block (w := w6) (w' := w6.setCell ⟨g, 4, none⟩ (.slice a6 n6 k6)) (a := ⟨p, i, none⟩) (Below.heap_setCell w6 ⟨g, 4, none⟩ _ p (fun e => hne e.symm))
      exact ⟨(e 0).trans hS6.1, (e 1).trans hS6.2.1, (e 2).trans hS6.2.2⟩
    refine hK.out _ _ HS7 ?_
    have HPF : Hid (CabPost w g O (namesC c (old, nm, f)) (w6.setCell ⟨g, 4, none⟩ (.slice a6 n6 k6))) := by
      unfold Hid
      rw [HN.out]
      exact CabPost.trans (fun b e => by rw [← HPW.out]; exact HO3.out b e) HA5.out HP6
    clear hK K HS7 hS6 HP6 hgr6 hown6 hbk6 c46 f46
    try simp only [Act.put, List.setIfInBounds_toArray, List.set_cons_zero, List.set_cons_succ]
    refine wpAnyH_done (by kernel_rfl) ?_ _
    go_wp2_with fail
    go_end0
    exact ⟨rfl, HPF.out⟩
end Go.Proofs.Ytlhmeebbdjiokaa
