/-
  The law's 'change' (layer 9): one call of the program's cabinet and of the document's; both answer the same, and both stand for the same lists behind it.
-/
import Derived.Test.YtlhmeebbdjiokaaCabCopy
namespace Go.Proofs.Ytlhmeebbdjiokaa
open Go.ChangeShapes Go.WideShapes Go.ChangeAt Go.RowKit
set_option linter.unusedVariables false
set_option linter.unusedSimpArgs false
theorem RowL.lowB {k : IntKind} {B : Nat} {w w' : World} {a : Option Addr} {len : Nat} {xs : List Nat} (h : RowL k w a len xs) (hb : Below B w w') (hB : 0 < len → ∀ x, a = some x → x.block < B) : RowL k w' a len xs := by
  obtain ⟨h1, h4⟩ := h
  refine ⟨h1, ?_⟩
  rcases h4 with h4 | ⟨b, off, ha, hlt, hc⟩
  · exact .inl h4
  · exact .inr ⟨b, off, ha, Nat.lt_of_lt_of_le hlt hb.size, fun i hi => (hb.cell (p := ⟨b, off + i, none⟩) (hB (by omega) ⟨b, off, none⟩ ha)).trans (hc i hi)⟩
theorem RowZ.lowB {B : Nat} {w w' : World} {a : Option Addr} {len : Nat} {xs : List Int} (h : RowZ w a len xs) (hb : Below B w w') (hB : 0 < len → ∀ x, a = some x → x.block < B) : RowZ w' a len xs := by
  obtain ⟨h1, h4⟩ := h
  refine ⟨h1, ?_⟩
  rcases h4 with h4 | ⟨b, off, ha, hlt, hc⟩
  · exact .inl h4
  · exact .inr ⟨b, off, ha, Nat.lt_of_lt_of_le hlt hb.size, fun i hi => (hb.cell (p := ⟨b, off + i, none⟩) (hB (by omega) ⟨b, off, none⟩ ha)).trans (hc i hi)⟩
def changeR (c : CabM) (what : Int) (old nm D : ByteArray) : Nat × CabM :=
  if what = 0 then createR c nm else if what = 1 then appendR c nm D else if what = 2 then syncR c nm else if what = 3 then renameR c old nm else if what = 4 then removeR c nm else turnR c
theorem good_change {c : CabM} {n : Nat} (h : GoodC c n) (what : Int) (old nm D : ByteArray) : GoodC (changeR c what old nm D).2 (n + 1) := by
  unfold changeR
  split
  · exact good_create h nm
  · split
    · exact good_append h nm D
    · split
      · exact good_sync h nm
      · split
        · exact good_rename h old nm
        · split
          · exact good_remove h nm
          · exact good_turn h
/-- What the pair and the step hold. -/
def ChS (q p gp gd : Nat) (old nm : ByteArray) (vd : Value) (W : World) : Prop :=
  W.cell? ⟨q, 0, none⟩ = some (.pointer (some ⟨gp, 0, none⟩)) ∧ W.cell? ⟨q, 1, none⟩ = some (.pointer (some ⟨gd, 0, none⟩)) ∧ W.cell? ⟨p, 1, none⟩ = some (.string old) ∧ W.cell? ⟨p, 2, none⟩ = some (.string nm) ∧ W.cell? ⟨p, 3, none⟩ = some vd
theorem ChS.keep {q p gp gd : Nat} {old nm : ByteArray} {vd : Value} {W W' : World} (h : ChS q p gp gd old nm vd W) (h1 : W'.heap[q]? = W.heap[q]?) (h2 : W'.heap[p]? = W.heap[p]?) : ChS q p gp gd old nm vd W' := by
  have e1 := fun i => World.cell?_of_block (w := W) (w' := W') (a := ⟨q, i, none⟩) h1
  have e2 := fun i => World.cell?_of_block (w := W) (w' := W') (a := ⟨p, i, none⟩) h2
  exact ⟨(e1 0).trans h.1, (e1 1).trans h.2.1, (e2 1).trans h.2.2.1, (e2 2).trans h.2.2.2.1, (e2 3).trans h.2.2.2.2⟩
def FP (F : Nat → Prop) (p : Nat) : Nat → Prop := fun b => F b ∨ b = p
set_option maxRecDepth 100000 in
set_option maxHeartbeats 32000000 in
theorem change_any (Z : CabP) (B : Nat) (F : Nat → Prop) (w : World) (q gp gd : Nat) (c : CabM) (n : Nat) (h : PairAt Z B F w gp gd c c) (hF : F q) (hq : w.heap[q]? = some (.cells #[.pointer (some ⟨gp, 0, none⟩), .pointer (some ⟨gd, 0, none⟩)] 33 (0, 0))) (hg : GoodC c n) (hn : n ≤ 1000)
    (what : Int) (old nm D : ByteArray) (ad : Option Addr) (nd kd : Nat) (N : Int) (ak : Option Addr) (nk kk tn : Nat) (hsz : nm.size ≤ 9223372036854775806) (hso : old.size ≤ 9223372036854775806) (hrow : RowL .u8 w ad nd (txt D)) (hnil : ad = none → nd = 0 ∧ kd = 0) (hadB : 0 < nd → ∀ x, ad = some x → x.block < B) (hnd : nd ≤ 1200000) :
    Calls Try.prog 15 #[.pointer (some ⟨q, 0, none⟩), .agg #[.int .i64 what, .string old, .string nm, .slice ad nd kd, .int .i64 N, .slice ak nk kk, .int .u8 (tn : Nat)]] w fun e w' => e = .returned (.tuple #[.int .i64 ((changeR c what old nm D).1 : Nat), .int .i64 ((changeR c what old nm D).1 : Nat)]) ∧ PairTo Z B F w gp gd (changeR c what old nm D).2 (changeR c what old nm D).2 w' := by
  have HG : Hid (GoodC c n) := hg
  have HN : Hid (n ≤ 1000) := hn
  have HSZ : Hid (nm.size ≤ 9223372036854775806) := hsz
  have HSO : Hid (old.size ≤ 9223372036854775806) := hso
  have HROW : Hid (RowL .u8 w ad nd (txt D)) := hrow
  have HNIL : Hid (ad = none → nd = 0 ∧ kd = 0) := hnil
  have HADB : Hid (0 < nd → ∀ x, ad = some x → x.block < B) := hadB
  have HND : Hid (nd ≤ 1200000) := hnd
  have HF : Hid (F q) := hF
  have hqlt : q < w.heap.size := (Array.getElem?_eq_some_iff.1 hq).1
  have HB1 : Hid (Below w.heap.size w (w.alloc (.cells #[.int .i64 what, .string old, .string nm, .slice ad nd kd, .int .i64 N, .slice ak nk kk, .int .u8 (tn : Nat)] 38))) := below_new w _
  have HP1 : Hid (PairAt Z B (FP F w.heap.size) (w.alloc (.cells #[.int .i64 what, .string old, .string nm, .slice ad nd kd, .int .i64 N, .slice ak nk kk, .int .u8 (tn : Nat)] 38)) gp gd c c) := h.more HB1.out w.heap.size (Nat.le_refl _) (by simp)
  have HBB : Hid (Below B w (w.alloc (.cells #[.int .i64 what, .string old, .string nm, .slice ad nd kd, .int .i64 N, .slice ak nk kk, .int .u8 (tn : Nat)] 38))) := HB1.out.mono h.size
  have HFK : Hid (∀ x, F x → (w.alloc (.cells #[.int .i64 what, .string old, .string nm, .slice ad nd kd, .int .i64 N, .slice ak nk kk, .int .u8 (tn : Nat)] 38)).heap[x]? = w.heap[x]?) := (h.to HB1.out).2.2
  have HS0 : Hid (ChS q w.heap.size gp gd old nm (.slice ad nd kd) (w.alloc (.cells #[.int .i64 what, .string old, .string nm, .slice ad nd kd, .int .i64 N, .slice ak nk kk, .int .u8 (tn : Nat)] 38))) := by
    have eq := (HB1.out.block q hqlt).trans hq
    have ep := heap_alloc_last w (.cells #[.int .i64 what, .string old, .string nm, .slice ad nd kd, .int .i64 N, .slice ak nk kk, .int .u8 (tn : Nat)] 38)
    exact ⟨cell_of_row _ q 0 _ _ _ eq, cell_of_row _ q 1 _ _ _ eq, cell_of_row _ w.heap.size 1 _ _ _ ep, cell_of_row _ w.heap.size 2 _ _ _ ep, cell_of_row _ w.heap.size 3 _ _ _ ep⟩
  have x0 : (w.alloc (.cells #[.int .i64 what, .string old, .string nm, .slice ad nd kd, .int .i64 N, .slice ak nk kk, .int .u8 (tn : Nat)] 38)).cell? ⟨w.heap.size, 0, none⟩ = some (.int .i64 what) := by rw [cell_of_row _ w.heap.size _ _ _ _ (heap_alloc_last w _)]; rfl
  have HCR : Hid (changeR c what old nm D = if what = 0 then createR c nm else if what = 1 then appendR c nm D else if what = 2 then syncR c nm else if what = 3 then renameR c old nm else if what = 4 then removeR c nm else turnR c) := rfl
  clear hg hn hsz hso hrow hnil hadB hnd hF hqlt h hq HB1
  by_cases w0 : what = 0
  · subst w0
    rw [if_pos rfl] at HCR
    go_enter Try.func15, Try.ntmps15
    go_wp2_with fail
    generalize w.alloc (.cells #[.int .i64 0, .string old, .string nm, .slice ad nd kd, .int .i64 N, .slice ak nk kk, .int .u8 (tn : Nat)] 38) = wa at *
    generalize w.heap.size = p at *
    have HPD : Hid (PairAt Z B (FP F p) wa.drew gp gd c c) := HP1.out.below (Below.refl _ _).drew
    have HBD : Hid (Below B w wa.drew) := HBB.out.drew
    have HFD : Hid (∀ x, F x → wa.drew.heap[x]? = w.heap[x]?) := HFK.out
    have hS0 : ChS q p gp gd old nm (.slice ad nd kd) wa.drew := HS0.out
    refine wp_region_held_drew (S := ChS q p gp gd old nm (.slice ad nd kd)) (by kernel_rfl) hS0 (fun hHeld => ?_)
    clear hS0 x0 HS0 HP1 HBB HFK
    generalize wa.drew = wd at *
    refine held_take 0 (some 10) (.pointer (some ⟨q, 0, none⟩)) rfl rfl (by kernel_rfl) (by kernel_rfl) (by kernel_rfl) (fun _ _ _ h => h) rfl (fun w' hS => ?_) hHeld ?_
    · clear hS; go_simp
    try simp only [Act.put, List.setIfInBounds_toArray, List.set_cons_zero, List.set_cons_succ]
    refine held_take 1 (some 11) (.pointer (some ⟨q, 0, none⟩)) rfl rfl (by kernel_rfl) (by kernel_rfl) (by kernel_rfl) (fun _ _ _ h => h) rfl (fun w' hS => ?_) hHeld ?_
    · clear hS; go_simp
    try simp only [Act.put, List.setIfInBounds_toArray, List.set_cons_zero, List.set_cons_succ]
    refine held_take 2 (some 12) (.pointer (some ⟨q, 0, none⟩)) rfl rfl (by kernel_rfl) (by kernel_rfl) (by kernel_rfl) (fun _ _ _ h => h) rfl (fun w' hS => ?_) hHeld ?_
    · clear hS; go_simp
    try simp only [Act.put, List.setIfInBounds_toArray, List.set_cons_zero, List.set_cons_succ]
    refine held_take 3 (some 13) (.pointer (some ⟨gp, 0, none⟩)) rfl rfl (by kernel_rfl) (by kernel_rfl) (by kernel_rfl) (fun _ _ _ h => h) rfl (fun w' hS => ?_) hHeld ?_
    · obtain ⟨y0, y1, y2, y3, y4⟩ := hS; go_simp
    try simp only [Act.put, List.setIfInBounds_toArray, List.set_cons_zero, List.set_cons_succ]
    refine held_take 4 (some 14) (.pointer (some ⟨p, 2, none⟩)) rfl rfl (by kernel_rfl) (by kernel_rfl) (by kernel_rfl) (fun _ _ _ h => h) rfl (fun w' hS => ?_) hHeld ?_
    · clear hS; go_simp
    try simp only [Act.put, List.setIfInBounds_toArray, List.set_cons_zero, List.set_cons_succ]
    refine held_take 5 (some 15) (.string nm) rfl rfl (by kernel_rfl) (by kernel_rfl) (by kernel_rfl) (fun _ _ _ h => h) rfl (fun w' hS => ?_) hHeld ?_
    · obtain ⟨y0, y1, y2, y3, y4⟩ := hS; go_simp
    try simp only [Act.put, List.setIfInBounds_toArray, List.set_cons_zero, List.set_cons_succ]
    refine held_take 7 (some 17) (.pointer (some ⟨q, 0, none⟩)) rfl rfl (by kernel_rfl) (by kernel_rfl) (by kernel_rfl) (fun _ _ _ h => h) rfl (fun w' hS => ?_) hHeld ?_
    · clear hS; go_simp
    try simp only [Act.put, List.setIfInBounds_toArray, List.set_cons_zero, List.set_cons_succ]
    refine held_take 8 (some 18) (.pointer (some ⟨q, 0, none⟩)) rfl rfl (by kernel_rfl) (by kernel_rfl) (by kernel_rfl) (fun _ _ _ h => h) rfl (fun w' hS => ?_) hHeld ?_
    · clear hS; go_simp
    try simp only [Act.put, List.setIfInBounds_toArray, List.set_cons_zero, List.set_cons_succ]
    refine held_take 9 (some 19) (.pointer (some ⟨q, 1, none⟩)) rfl rfl (by kernel_rfl) (by kernel_rfl) (by kernel_rfl) (fun _ _ _ h => h) rfl (fun w' hS => ?_) hHeld ?_
    · clear hS; go_simp
    try simp only [Act.put, List.setIfInBounds_toArray, List.set_cons_zero, List.set_cons_succ]
    refine held_take 10 (some 20) (.pointer (some ⟨gd, 0, none⟩)) rfl rfl (by kernel_rfl) (by kernel_rfl) (by kernel_rfl) (fun _ _ _ h => h) rfl (fun w' hS => ?_) hHeld ?_
    · obtain ⟨y0, y1, y2, y3, y4⟩ := hS; go_simp
    try simp only [Act.put, List.setIfInBounds_toArray, List.set_cons_zero, List.set_cons_succ]
    refine held_take 11 (some 21) (.pointer (some ⟨p, 2, none⟩)) rfl rfl (by kernel_rfl) (by kernel_rfl) (by kernel_rfl) (fun _ _ _ h => h) rfl (fun w' hS => ?_) hHeld ?_
    · clear hS; go_simp
    try simp only [Act.put, List.setIfInBounds_toArray, List.set_cons_zero, List.set_cons_succ]
    refine held_take 12 (some 22) (.string nm) rfl rfl (by kernel_rfl) (by kernel_rfl) (by kernel_rfl) (fun _ _ _ h => h) rfl (fun w' hS => ?_) hHeld ?_
    · obtain ⟨y0, y1, y2, y3, y4⟩ := hS; go_simp
    try simp only [Act.put, List.setIfInBounds_toArray, List.set_cons_zero, List.set_cons_succ]
    obtain ⟨Op, Od, a1, a2, a3, a4, a5, a6, a7⟩ := HPD.out
    clear HPD
    refine held_one (i := 6) (by kernel_rfl) rfl rfl (fun K hK => ?_)
    go_simp
    refine Calls.mono (Z.create wd gp Op c n nm a1 HG.out HN.out HSZ.out) ?_
    rintro _ w4 ⟨rfl, hp4⟩
    dsimp only
    have hto := pair_prog a1 a2 a3 a4 a5 a6 a7 hp4
    have hS4 : ChS q p gp gd old nm (.slice ad nd kd) w4 := hHeld.keep (hto.2.2 q (.inl HF.out)) (hto.2.2 p (.inr rfl))
    have HB4 : Hid (Below B w w4) := HBD.out.trans hto.2.1
    have HF4 : Hid (∀ x, F x → w4.heap[x]? = w.heap[x]?) := fun x e => (hto.2.2 x (.inl e)).trans (HFD.out x e)
    have HP4 : Hid _ := hto.1
    refine hK.out _ _ hS4 ?_
    clear hK K hHeld HBD HFD hto hp4 a1 a2 a3 a4 a5 a6 a7
    try simp only [Act.put, List.setIfInBounds_toArray, List.set_cons_zero, List.set_cons_succ]
    obtain ⟨Op2, Od2, b1, b2, b3, b4, b5, b6, b7⟩ := HP4.out
    refine held_one (i := 13) (by kernel_rfl) rfl rfl (fun K hK => ?_)
    go_simp
    refine Calls.mono (rcreate_any w4 gd Od2 c b2 HG.out.2.1 nm HSZ.out (by have := HG.out.2.2; unfold SmallC at this; have := HN.out; omega) (by have := HG.out.2.2; unfold SmallC at this; have := HN.out; omega) (by have := HG.out.2.2; unfold SmallC at this; have := HN.out; omega)) ?_
    rintro _ w5 ⟨rfl, hp5⟩
    dsimp only
    have hto := pair_doc b1 b2 b3 b4 b5 b6 b7 hp5
    have hS5 : ChS q p gp gd old nm (.slice ad nd kd) w5 := hS4.keep (hto.2.2 q (.inl HF.out)) (hto.2.2 p (.inr rfl))
    have HP5 : Hid (PairTo Z B F w gp gd (createR c nm).2 (createR c nm).2 w5) := PairTo.trans HB4.out HF4.out hto (fun _ e => .inl e)
    refine hK.out _ _ hS5 ?_
    clear hK K hS4 hto hp5 HP4 HB4 HF4
    try simp only [Act.put, List.setIfInBounds_toArray, List.set_cons_zero, List.set_cons_succ]
    refine held_take 14 (some 4) (.int .i64 ((createR c nm).1 : Nat)) rfl rfl (by kernel_rfl) (by kernel_rfl) (by kernel_rfl) (fun _ _ _ h => h) rfl (fun w' hS => ?_) hS5 ?_
    · clear hS; go_simp
    try simp only [Act.put, List.setIfInBounds_toArray, List.set_cons_zero, List.set_cons_succ]
    refine held_take 15 (some 5) (.int .i64 ((createR c nm).1 : Nat)) rfl rfl (by kernel_rfl) (by kernel_rfl) (by kernel_rfl) (fun _ _ _ h => h) rfl (fun w' hS => ?_) hS5 ?_
    · clear hS; go_simp
    try simp only [Act.put, List.setIfInBounds_toArray, List.set_cons_zero, List.set_cons_succ]
    refine wpAnyH_done (by kernel_rfl) ?_ _
    go_wp2_with fail
    go_ret2
    exact ⟨by rw [HCR.out]; rfl, by rw [HCR.out]; exact HP5.out⟩
  · by_cases w1 : what = 1
    · subst w1
      rw [if_neg (by decide), if_pos rfl] at HCR
      go_enter Try.func15, Try.ntmps15
      go_wp2_with fail
      generalize w.alloc (.cells #[.int .i64 1, .string old, .string nm, .slice ad nd kd, .int .i64 N, .slice ak nk kk, .int .u8 (tn : Nat)] 38) = wa at *
      generalize w.heap.size = p at *
      have HPD : Hid (PairAt Z B (FP F p) wa.drew gp gd c c) := HP1.out.below (Below.refl _ _).drew
      have HBD : Hid (Below B w wa.drew) := HBB.out.drew
      have HFD : Hid (∀ x, F x → wa.drew.heap[x]? = w.heap[x]?) := HFK.out
      have hS0 : ChS q p gp gd old nm (.slice ad nd kd) wa.drew := HS0.out
      refine wp_region_held_drew (S := ChS q p gp gd old nm (.slice ad nd kd)) (by kernel_rfl) hS0 (fun hHeld => ?_)
      clear hS0 x0 HS0 HP1 HBB HFK
      generalize wa.drew = wd at *
      refine held_take 0 (some 26) (.pointer (some ⟨q, 0, none⟩)) rfl rfl (by kernel_rfl) (by kernel_rfl) (by kernel_rfl) (fun _ _ _ h => h) rfl (fun w' hS => ?_) hHeld ?_
      · clear hS; go_simp
      try simp only [Act.put, List.setIfInBounds_toArray, List.set_cons_zero, List.set_cons_succ]
      refine held_take 1 (some 27) (.pointer (some ⟨q, 0, none⟩)) rfl rfl (by kernel_rfl) (by kernel_rfl) (by kernel_rfl) (fun _ _ _ h => h) rfl (fun w' hS => ?_) hHeld ?_
      · clear hS; go_simp
      try simp only [Act.put, List.setIfInBounds_toArray, List.set_cons_zero, List.set_cons_succ]
      refine held_take 2 (some 28) (.pointer (some ⟨q, 0, none⟩)) rfl rfl (by kernel_rfl) (by kernel_rfl) (by kernel_rfl) (fun _ _ _ h => h) rfl (fun w' hS => ?_) hHeld ?_
      · clear hS; go_simp
      try simp only [Act.put, List.setIfInBounds_toArray, List.set_cons_zero, List.set_cons_succ]
      refine held_take 3 (some 29) (.pointer (some ⟨gp, 0, none⟩)) rfl rfl (by kernel_rfl) (by kernel_rfl) (by kernel_rfl) (fun _ _ _ h => h) rfl (fun w' hS => ?_) hHeld ?_
      · obtain ⟨y0, y1, y2, y3, y4⟩ := hS; go_simp
      try simp only [Act.put, List.setIfInBounds_toArray, List.set_cons_zero, List.set_cons_succ]
      refine held_take 4 (some 30) (.pointer (some ⟨p, 2, none⟩)) rfl rfl (by kernel_rfl) (by kernel_rfl) (by kernel_rfl) (fun _ _ _ h => h) rfl (fun w' hS => ?_) hHeld ?_
      · clear hS; go_simp
      try simp only [Act.put, List.setIfInBounds_toArray, List.set_cons_zero, List.set_cons_succ]
      refine held_take 5 (some 31) (.string nm) rfl rfl (by kernel_rfl) (by kernel_rfl) (by kernel_rfl) (fun _ _ _ h => h) rfl (fun w' hS => ?_) hHeld ?_
      · obtain ⟨y0, y1, y2, y3, y4⟩ := hS; go_simp
      try simp only [Act.put, List.setIfInBounds_toArray, List.set_cons_zero, List.set_cons_succ]
      refine held_take 7 (some 33) (.pointer (some ⟨p, 3, none⟩)) rfl rfl (by kernel_rfl) (by kernel_rfl) (by kernel_rfl) (fun _ _ _ h => h) rfl (fun w' hS => ?_) hHeld ?_
      · clear hS; go_simp
      try simp only [Act.put, List.setIfInBounds_toArray, List.set_cons_zero, List.set_cons_succ]
      refine held_take 8 (some 34) (.slice ad nd kd) rfl rfl (by kernel_rfl) (by kernel_rfl) (by kernel_rfl) (fun _ _ _ h => h) rfl (fun w' hS => ?_) hHeld ?_
      · obtain ⟨y0, y1, y2, y3, y4⟩ := hS; go_simp
      try simp only [Act.put, List.setIfInBounds_toArray, List.set_cons_zero, List.set_cons_succ]
      refine held_take 11 (some 37) (.pointer (some ⟨q, 0, none⟩)) rfl rfl (by kernel_rfl) (by kernel_rfl) (by kernel_rfl) (fun _ _ _ h => h) rfl (fun w' hS => ?_) hHeld ?_
      · clear hS; go_simp
      try simp only [Act.put, List.setIfInBounds_toArray, List.set_cons_zero, List.set_cons_succ]
      refine held_take 12 (some 38) (.pointer (some ⟨q, 0, none⟩)) rfl rfl (by kernel_rfl) (by kernel_rfl) (by kernel_rfl) (fun _ _ _ h => h) rfl (fun w' hS => ?_) hHeld ?_
      · clear hS; go_simp
      try simp only [Act.put, List.setIfInBounds_toArray, List.set_cons_zero, List.set_cons_succ]
      refine held_take 13 (some 39) (.pointer (some ⟨q, 1, none⟩)) rfl rfl (by kernel_rfl) (by kernel_rfl) (by kernel_rfl) (fun _ _ _ h => h) rfl (fun w' hS => ?_) hHeld ?_
      · clear hS; go_simp
      try simp only [Act.put, List.setIfInBounds_toArray, List.set_cons_zero, List.set_cons_succ]
      refine held_take 14 (some 40) (.pointer (some ⟨gd, 0, none⟩)) rfl rfl (by kernel_rfl) (by kernel_rfl) (by kernel_rfl) (fun _ _ _ h => h) rfl (fun w' hS => ?_) hHeld ?_
      · obtain ⟨y0, y1, y2, y3, y4⟩ := hS; go_simp
      try simp only [Act.put, List.setIfInBounds_toArray, List.set_cons_zero, List.set_cons_succ]
      refine held_take 15 (some 41) (.pointer (some ⟨p, 2, none⟩)) rfl rfl (by kernel_rfl) (by kernel_rfl) (by kernel_rfl) (fun _ _ _ h => h) rfl (fun w' hS => ?_) hHeld ?_
      · clear hS; go_simp
      try simp only [Act.put, List.setIfInBounds_toArray, List.set_cons_zero, List.set_cons_succ]
      refine held_take 16 (some 42) (.string nm) rfl rfl (by kernel_rfl) (by kernel_rfl) (by kernel_rfl) (fun _ _ _ h => h) rfl (fun w' hS => ?_) hHeld ?_
      · obtain ⟨y0, y1, y2, y3, y4⟩ := hS; go_simp
      try simp only [Act.put, List.setIfInBounds_toArray, List.set_cons_zero, List.set_cons_succ]
      refine held_take 17 (some 43) (.pointer (some ⟨p, 3, none⟩)) rfl rfl (by kernel_rfl) (by kernel_rfl) (by kernel_rfl) (fun _ _ _ h => h) rfl (fun w' hS => ?_) hHeld ?_
      · clear hS; go_simp
      try simp only [Act.put, List.setIfInBounds_toArray, List.set_cons_zero, List.set_cons_succ]
      refine held_take 18 (some 44) (.slice ad nd kd) rfl rfl (by kernel_rfl) (by kernel_rfl) (by kernel_rfl) (fun _ _ _ h => h) rfl (fun w' hS => ?_) hHeld ?_
      · obtain ⟨y0, y1, y2, y3, y4⟩ := hS; go_simp
      try simp only [Act.put, List.setIfInBounds_toArray, List.set_cons_zero, List.set_cons_succ]
      obtain ⟨Op, Od, a1, a2, a3, a4, a5, a6, a7⟩ := HPD.out
      refine held_one (i := 6) (by kernel_rfl) rfl rfl (fun K hK => ?_)
      go_simp
      have HBN : Hid (Below wd.heap.size wd (wd.alloc (.cells #[] 5))) := below_new wd _
      have hown : (wd.alloc (.cells #[] 5)).ownsRow wd.heap.size 5 1 (.slice (some ⟨wd.heap.size, 0, none⟩) 0 0) 0 [] := World.ownsRow_lit wd #[] 0 (Nat.le_refl _) (by decide) rfl
      have hS1 : ChS q p gp gd old nm (.slice ad nd kd) (wd.alloc (.cells #[] 5)) := hHeld.keep (HBN.out.block q (a6 q (.inl HF.out))) (HBN.out.block p (a6 p (.inr rfl)))
      refine hK.out _ _ hS1 ?_
      clear hK K
      try simp only [Act.put, List.setIfInBounds_toArray, List.set_cons_zero, List.set_cons_succ]
      refine held_one (i := 9) (by kernel_rfl) rfl rfl (fun K hK => ?_)
      have hrw2 : RowL .u8 (wd.alloc (.cells #[] 5)) ad nd (txt D) := (HROW.out.lowB HBD.out HADB.out).below HBN.out
      refine copy_at byteT9 rfl Try.underlying35 (wd.alloc (.cells #[] 5)) _ _ rfl wd.heap.size (.slice (some ⟨wd.heap.size, 0, none⟩) 0 0) rfl hown ad nd kd rfl ((txt D).map fun x => .int .u8 (x : Nat)) hrw2.cells9 (by rw [List.length_map]; exact hrw2.1) HNIL.out (by intro u hu; obtain ⟨z, _, rfl⟩ := List.mem_map.1 hu; rfl) (by have := HND.out; omega) (by have := HND.out; unfold maxLen; omega) HBN.out.size (some 35) rfl ?_
      intro v3 w3 hown3 hb3
      have HB3 : Hid (Below wd.heap.size wd w3) := HBN.out.trans hb3
      rw [← hrw2.1] at hown3
      obtain ⟨a3', k3, hv3, hrow3, hnil3, had3⟩ := owned_bytes hown3
      rw [hrw2.1] at hv3 hrow3 hnil3
      subst hv3
      have hS3 : ChS q p gp gd old nm (.slice ad nd kd) w3 := hHeld.keep (HB3.out.block q (a6 q (.inl HF.out))) (HB3.out.block p (a6 p (.inr rfl)))
      have HRW3 : Hid (RowL .u8 w3 a3' nd (txt D)) := hrow3
      have HNL3 : Hid (a3' = none → nd = 0) := hnil3
      have HAD3 : Hid (0 < nd → ∀ x, a3' = some x → ¬ Op x.block) := fun _ x e ho => by
        have := (had3 x e).2.1
        have := Z.lt a1 _ ho
        omega
      replace a1 := Z.keep a1 (apart_of HB3.out (fun _ => False)) (fun _ _ h => h)
      replace a2 := a2.below HB3.out
      replace a6 : ∀ b, FP F p b → b < w3.heap.size := fun b e => Nat.lt_of_lt_of_le (a6 b e) HB3.out.size
      have HBD : Hid (Below B w w3) := HBD.out.trans (HB3.out.mono a7)
      have HFD : Hid (∀ x, F x → w3.heap[x]? = w.heap[x]?) := fun x e => (((HPD.out.to HB3.out).2.2) x (.inl e)).trans (HFD.out x e)
      replace a7 := Nat.le_trans a7 HB3.out.size
      refine hK.out _ _ hS3 ?_
      clear hK K hown hS1 hown3 hb3 hrow3 hnil3 had3 hHeld hrw2 HBN HB3 HPD
      try simp only [Act.put, List.setIfInBounds_toArray, List.set_cons_zero, List.set_cons_succ]
      refine held_one (i := 10) (by kernel_rfl) rfl rfl (fun K hK => ?_)
      go_simp
      refine Calls.mono (Z.append w3 gp Op c n nm D a3' nd k3 a1 HG.out HN.out HSZ.out HRW3.out HNL3.out HAD3.out HND.out) ?_
      rintro _ w4 ⟨rfl, hp4⟩
      dsimp only
      have hto := pair_prog a1 a2 a3 a4 a5 a6 a7 hp4
      have hS4 : ChS q p gp gd old nm (.slice ad nd kd) w4 := hS3.keep (hto.2.2 q (.inl HF.out)) (hto.2.2 p (.inr rfl))
      have HB4 : Hid (Below B w w4) := HBD.out.trans hto.2.1
      have HF4 : Hid (∀ x, F x → w4.heap[x]? = w.heap[x]?) := fun x e => (hto.2.2 x (.inl e)).trans (HFD.out x e)
      have HP4 : Hid _ := hto.1
      refine hK.out _ _ hS4 ?_
      clear hK K hS3 HBD HFD hto hp4 a1 a2 a3 a4 a5 a6 a7
      try simp only [Act.put, List.setIfInBounds_toArray, List.set_cons_zero, List.set_cons_succ]
      obtain ⟨Op2, Od2, b1, b2, b3, b4, b5, b6, b7⟩ := HP4.out
      refine held_one (i := 19) (by kernel_rfl) rfl rfl (fun K hK => ?_)
      go_simp
      refine Calls.mono (rappend_any w4 gd Od2 c b2 HG.out.2.1 HG.out.1 nm D ad nd kd (HROW.out.lowB HB4.out HADB.out) (fun e => (HNIL.out e).1) (fun hp x e ho => by have := (b5 _ ho).1; have := HADB.out hp x e; omega) (by have := HND.out; omega) (by have := HG.out.2.2.2.2.2; omega) (by have := HG.out.2.2; unfold SmallC at this; have := HN.out; omega) (by have := HG.out.2.2; unfold SmallC at this; have := HN.out; omega) (by have := HG.out.2.2; unfold SmallC at this; have := HN.out; omega) (by have := HG.out.2.2; unfold SmallC at this; have := HN.out; omega)) ?_
      rintro _ w5 ⟨rfl, hp5⟩
      dsimp only
      have hto := pair_doc b1 b2 b3 b4 b5 b6 b7 hp5
      have hS5 : ChS q p gp gd old nm (.slice ad nd kd) w5 := hS4.keep (hto.2.2 q (.inl HF.out)) (hto.2.2 p (.inr rfl))
      have HP5 : Hid (PairTo Z B F w gp gd (appendR c nm D).2 (appendR c nm D).2 w5) := PairTo.trans HB4.out HF4.out hto (fun _ e => .inl e)
      refine hK.out _ _ hS5 ?_
      clear hK K hS4 hto hp5 HP4 HB4 HF4
      try simp only [Act.put, List.setIfInBounds_toArray, List.set_cons_zero, List.set_cons_succ]
      refine held_take 20 (some 4) (.int .i64 ((appendR c nm D).1 : Nat)) rfl rfl (by kernel_rfl) (by kernel_rfl) (by kernel_rfl) (fun _ _ _ h => h) rfl (fun w' hS => ?_) hS5 ?_
      · clear hS; go_simp
      try simp only [Act.put, List.setIfInBounds_toArray, List.set_cons_zero, List.set_cons_succ]
      refine held_take 21 (some 5) (.int .i64 ((appendR c nm D).1 : Nat)) rfl rfl (by kernel_rfl) (by kernel_rfl) (by kernel_rfl) (fun _ _ _ h => h) rfl (fun w' hS => ?_) hS5 ?_
      · clear hS; go_simp
      try simp only [Act.put, List.setIfInBounds_toArray, List.set_cons_zero, List.set_cons_succ]
      refine wpAnyH_done (by kernel_rfl) ?_ _
      go_wp2_with fail
      go_ret2
      exact ⟨by rw [HCR.out]; rfl, by rw [HCR.out]; exact HP5.out⟩
    · by_cases w2 : what = 2
      · subst w2
        rw [if_neg (by decide), if_neg (by decide), if_pos rfl] at HCR
        go_enter Try.func15, Try.ntmps15
        go_wp2_with fail
        generalize w.alloc (.cells #[.int .i64 2, .string old, .string nm, .slice ad nd kd, .int .i64 N, .slice ak nk kk, .int .u8 (tn : Nat)] 38) = wa at *
        generalize w.heap.size = p at *
        have HPD : Hid (PairAt Z B (FP F p) wa.drew gp gd c c) := HP1.out.below (Below.refl _ _).drew
        have HBD : Hid (Below B w wa.drew) := HBB.out.drew
        have HFD : Hid (∀ x, F x → wa.drew.heap[x]? = w.heap[x]?) := HFK.out
        have hS0 : ChS q p gp gd old nm (.slice ad nd kd) wa.drew := HS0.out
        refine wp_region_held_drew (S := ChS q p gp gd old nm (.slice ad nd kd)) (by kernel_rfl) hS0 (fun hHeld => ?_)
        clear hS0 x0 HS0 HP1 HBB HFK
        generalize wa.drew = wd at *
        refine held_take 0 (some 48) (.pointer (some ⟨q, 0, none⟩)) rfl rfl (by kernel_rfl) (by kernel_rfl) (by kernel_rfl) (fun _ _ _ h => h) rfl (fun w' hS => ?_) hHeld ?_
        · clear hS; go_simp
        try simp only [Act.put, List.setIfInBounds_toArray, List.set_cons_zero, List.set_cons_succ]
        refine held_take 1 (some 49) (.pointer (some ⟨q, 0, none⟩)) rfl rfl (by kernel_rfl) (by kernel_rfl) (by kernel_rfl) (fun _ _ _ h => h) rfl (fun w' hS => ?_) hHeld ?_
        · clear hS; go_simp
        try simp only [Act.put, List.setIfInBounds_toArray, List.set_cons_zero, List.set_cons_succ]
        refine held_take 2 (some 50) (.pointer (some ⟨q, 0, none⟩)) rfl rfl (by kernel_rfl) (by kernel_rfl) (by kernel_rfl) (fun _ _ _ h => h) rfl (fun w' hS => ?_) hHeld ?_
        · clear hS; go_simp
        try simp only [Act.put, List.setIfInBounds_toArray, List.set_cons_zero, List.set_cons_succ]
        refine held_take 3 (some 51) (.pointer (some ⟨gp, 0, none⟩)) rfl rfl (by kernel_rfl) (by kernel_rfl) (by kernel_rfl) (fun _ _ _ h => h) rfl (fun w' hS => ?_) hHeld ?_
        · obtain ⟨y0, y1, y2, y3, y4⟩ := hS; go_simp
        try simp only [Act.put, List.setIfInBounds_toArray, List.set_cons_zero, List.set_cons_succ]
        refine held_take 4 (some 52) (.pointer (some ⟨p, 2, none⟩)) rfl rfl (by kernel_rfl) (by kernel_rfl) (by kernel_rfl) (fun _ _ _ h => h) rfl (fun w' hS => ?_) hHeld ?_
        · clear hS; go_simp
        try simp only [Act.put, List.setIfInBounds_toArray, List.set_cons_zero, List.set_cons_succ]
        refine held_take 5 (some 53) (.string nm) rfl rfl (by kernel_rfl) (by kernel_rfl) (by kernel_rfl) (fun _ _ _ h => h) rfl (fun w' hS => ?_) hHeld ?_
        · obtain ⟨y0, y1, y2, y3, y4⟩ := hS; go_simp
        try simp only [Act.put, List.setIfInBounds_toArray, List.set_cons_zero, List.set_cons_succ]
        refine held_take 7 (some 55) (.pointer (some ⟨q, 0, none⟩)) rfl rfl (by kernel_rfl) (by kernel_rfl) (by kernel_rfl) (fun _ _ _ h => h) rfl (fun w' hS => ?_) hHeld ?_
        · clear hS; go_simp
        try simp only [Act.put, List.setIfInBounds_toArray, List.set_cons_zero, List.set_cons_succ]
        refine held_take 8 (some 56) (.pointer (some ⟨q, 0, none⟩)) rfl rfl (by kernel_rfl) (by kernel_rfl) (by kernel_rfl) (fun _ _ _ h => h) rfl (fun w' hS => ?_) hHeld ?_
        · clear hS; go_simp
        try simp only [Act.put, List.setIfInBounds_toArray, List.set_cons_zero, List.set_cons_succ]
        refine held_take 9 (some 57) (.pointer (some ⟨q, 1, none⟩)) rfl rfl (by kernel_rfl) (by kernel_rfl) (by kernel_rfl) (fun _ _ _ h => h) rfl (fun w' hS => ?_) hHeld ?_
        · clear hS; go_simp
        try simp only [Act.put, List.setIfInBounds_toArray, List.set_cons_zero, List.set_cons_succ]
        refine held_take 10 (some 58) (.pointer (some ⟨gd, 0, none⟩)) rfl rfl (by kernel_rfl) (by kernel_rfl) (by kernel_rfl) (fun _ _ _ h => h) rfl (fun w' hS => ?_) hHeld ?_
        · obtain ⟨y0, y1, y2, y3, y4⟩ := hS; go_simp
        try simp only [Act.put, List.setIfInBounds_toArray, List.set_cons_zero, List.set_cons_succ]
        refine held_take 11 (some 59) (.pointer (some ⟨p, 2, none⟩)) rfl rfl (by kernel_rfl) (by kernel_rfl) (by kernel_rfl) (fun _ _ _ h => h) rfl (fun w' hS => ?_) hHeld ?_
        · clear hS; go_simp
        try simp only [Act.put, List.setIfInBounds_toArray, List.set_cons_zero, List.set_cons_succ]
        refine held_take 12 (some 60) (.string nm) rfl rfl (by kernel_rfl) (by kernel_rfl) (by kernel_rfl) (fun _ _ _ h => h) rfl (fun w' hS => ?_) hHeld ?_
        · obtain ⟨y0, y1, y2, y3, y4⟩ := hS; go_simp
        try simp only [Act.put, List.setIfInBounds_toArray, List.set_cons_zero, List.set_cons_succ]
        obtain ⟨Op, Od, a1, a2, a3, a4, a5, a6, a7⟩ := HPD.out
        clear HPD
        refine held_one (i := 6) (by kernel_rfl) rfl rfl (fun K hK => ?_)
        go_simp
        refine Calls.mono (Z.sync wd gp Op c n nm a1 HG.out HN.out HSZ.out) ?_
        rintro _ w4 ⟨rfl, hp4⟩
        dsimp only
        have hto := pair_prog a1 a2 a3 a4 a5 a6 a7 hp4
        have hS4 : ChS q p gp gd old nm (.slice ad nd kd) w4 := hHeld.keep (hto.2.2 q (.inl HF.out)) (hto.2.2 p (.inr rfl))
        have HB4 : Hid (Below B w w4) := HBD.out.trans hto.2.1
        have HF4 : Hid (∀ x, F x → w4.heap[x]? = w.heap[x]?) := fun x e => (hto.2.2 x (.inl e)).trans (HFD.out x e)
        have HP4 : Hid _ := hto.1
        refine hK.out _ _ hS4 ?_
        clear hK K hHeld HBD HFD hto hp4 a1 a2 a3 a4 a5 a6 a7
        try simp only [Act.put, List.setIfInBounds_toArray, List.set_cons_zero, List.set_cons_succ]
        obtain ⟨Op2, Od2, b1, b2, b3, b4, b5, b6, b7⟩ := HP4.out
        refine held_one (i := 13) (by kernel_rfl) rfl rfl (fun K hK => ?_)
        go_simp
        refine Calls.mono (rsync_any w4 gd Od2 c b2 HG.out.2.1 nm (by have := HG.out.2.2; unfold SmallC at this; have := HN.out; omega) (fun k hk => (inv_files HG.out.1 hk).1) (by have := HG.out.2.2; unfold SmallC at this; have := HN.out; omega) (fun k _ => (HG.out.1.2.2.1 k).2)) ?_
        rintro _ w5 ⟨rfl, hp5⟩
        dsimp only
        have hto := pair_doc b1 b2 b3 b4 b5 b6 b7 hp5
        have hS5 : ChS q p gp gd old nm (.slice ad nd kd) w5 := hS4.keep (hto.2.2 q (.inl HF.out)) (hto.2.2 p (.inr rfl))
        have HP5 : Hid (PairTo Z B F w gp gd (syncR c nm).2 (syncR c nm).2 w5) := PairTo.trans HB4.out HF4.out hto (fun _ e => .inl e)
        refine hK.out _ _ hS5 ?_
        clear hK K hS4 hto hp5 HP4 HB4 HF4
        try simp only [Act.put, List.setIfInBounds_toArray, List.set_cons_zero, List.set_cons_succ]
        refine held_take 14 (some 4) (.int .i64 ((syncR c nm).1 : Nat)) rfl rfl (by kernel_rfl) (by kernel_rfl) (by kernel_rfl) (fun _ _ _ h => h) rfl (fun w' hS => ?_) hS5 ?_
        · clear hS; go_simp
        try simp only [Act.put, List.setIfInBounds_toArray, List.set_cons_zero, List.set_cons_succ]
        refine held_take 15 (some 5) (.int .i64 ((syncR c nm).1 : Nat)) rfl rfl (by kernel_rfl) (by kernel_rfl) (by kernel_rfl) (fun _ _ _ h => h) rfl (fun w' hS => ?_) hS5 ?_
        · clear hS; go_simp
        try simp only [Act.put, List.setIfInBounds_toArray, List.set_cons_zero, List.set_cons_succ]
        refine wpAnyH_done (by kernel_rfl) ?_ _
        go_wp2_with fail
        go_ret2
        exact ⟨by rw [HCR.out]; rfl, by rw [HCR.out]; exact HP5.out⟩
      · by_cases w3 : what = 3
        · subst w3
          rw [if_neg (by decide), if_neg (by decide), if_neg (by decide), if_pos rfl] at HCR
          go_enter Try.func15, Try.ntmps15
          go_wp2_with fail
          generalize w.alloc (.cells #[.int .i64 3, .string old, .string nm, .slice ad nd kd, .int .i64 N, .slice ak nk kk, .int .u8 (tn : Nat)] 38) = wa at *
          generalize w.heap.size = p at *
          have HPD : Hid (PairAt Z B (FP F p) wa.drew gp gd c c) := HP1.out.below (Below.refl _ _).drew
          have HBD : Hid (Below B w wa.drew) := HBB.out.drew
          have HFD : Hid (∀ x, F x → wa.drew.heap[x]? = w.heap[x]?) := HFK.out
          have hS0 : ChS q p gp gd old nm (.slice ad nd kd) wa.drew := HS0.out
          refine wp_region_held_drew (S := ChS q p gp gd old nm (.slice ad nd kd)) (by kernel_rfl) hS0 (fun hHeld => ?_)
          clear hS0 x0 HS0 HP1 HBB HFK
          generalize wa.drew = wd at *
          refine held_take 0 (some 64) (.pointer (some ⟨q, 0, none⟩)) rfl rfl (by kernel_rfl) (by kernel_rfl) (by kernel_rfl) (fun _ _ _ h => h) rfl (fun w' hS => ?_) hHeld ?_
          · clear hS; go_simp
          try simp only [Act.put, List.setIfInBounds_toArray, List.set_cons_zero, List.set_cons_succ]
          refine held_take 1 (some 65) (.pointer (some ⟨q, 0, none⟩)) rfl rfl (by kernel_rfl) (by kernel_rfl) (by kernel_rfl) (fun _ _ _ h => h) rfl (fun w' hS => ?_) hHeld ?_
          · clear hS; go_simp
          try simp only [Act.put, List.setIfInBounds_toArray, List.set_cons_zero, List.set_cons_succ]
          refine held_take 2 (some 66) (.pointer (some ⟨q, 0, none⟩)) rfl rfl (by kernel_rfl) (by kernel_rfl) (by kernel_rfl) (fun _ _ _ h => h) rfl (fun w' hS => ?_) hHeld ?_
          · clear hS; go_simp
          try simp only [Act.put, List.setIfInBounds_toArray, List.set_cons_zero, List.set_cons_succ]
          refine held_take 3 (some 67) (.pointer (some ⟨gp, 0, none⟩)) rfl rfl (by kernel_rfl) (by kernel_rfl) (by kernel_rfl) (fun _ _ _ h => h) rfl (fun w' hS => ?_) hHeld ?_
          · obtain ⟨y0, y1, y2, y3, y4⟩ := hS; go_simp
          try simp only [Act.put, List.setIfInBounds_toArray, List.set_cons_zero, List.set_cons_succ]
          refine held_take 4 (some 68) (.pointer (some ⟨p, 1, none⟩)) rfl rfl (by kernel_rfl) (by kernel_rfl) (by kernel_rfl) (fun _ _ _ h => h) rfl (fun w' hS => ?_) hHeld ?_
          · clear hS; go_simp
          try simp only [Act.put, List.setIfInBounds_toArray, List.set_cons_zero, List.set_cons_succ]
          refine held_take 5 (some 69) (.string old) rfl rfl (by kernel_rfl) (by kernel_rfl) (by kernel_rfl) (fun _ _ _ h => h) rfl (fun w' hS => ?_) hHeld ?_
          · obtain ⟨y0, y1, y2, y3, y4⟩ := hS; go_simp
          try simp only [Act.put, List.setIfInBounds_toArray, List.set_cons_zero, List.set_cons_succ]
          refine held_take 6 (some 70) (.pointer (some ⟨p, 2, none⟩)) rfl rfl (by kernel_rfl) (by kernel_rfl) (by kernel_rfl) (fun _ _ _ h => h) rfl (fun w' hS => ?_) hHeld ?_
          · clear hS; go_simp
          try simp only [Act.put, List.setIfInBounds_toArray, List.set_cons_zero, List.set_cons_succ]
          refine held_take 7 (some 71) (.string nm) rfl rfl (by kernel_rfl) (by kernel_rfl) (by kernel_rfl) (fun _ _ _ h => h) rfl (fun w' hS => ?_) hHeld ?_
          · obtain ⟨y0, y1, y2, y3, y4⟩ := hS; go_simp
          try simp only [Act.put, List.setIfInBounds_toArray, List.set_cons_zero, List.set_cons_succ]
          refine held_take 9 (some 73) (.pointer (some ⟨q, 0, none⟩)) rfl rfl (by kernel_rfl) (by kernel_rfl) (by kernel_rfl) (fun _ _ _ h => h) rfl (fun w' hS => ?_) hHeld ?_
          · clear hS; go_simp
          try simp only [Act.put, List.setIfInBounds_toArray, List.set_cons_zero, List.set_cons_succ]
          refine held_take 10 (some 74) (.pointer (some ⟨q, 0, none⟩)) rfl rfl (by kernel_rfl) (by kernel_rfl) (by kernel_rfl) (fun _ _ _ h => h) rfl (fun w' hS => ?_) hHeld ?_
          · clear hS; go_simp
          try simp only [Act.put, List.setIfInBounds_toArray, List.set_cons_zero, List.set_cons_succ]
          refine held_take 11 (some 75) (.pointer (some ⟨q, 1, none⟩)) rfl rfl (by kernel_rfl) (by kernel_rfl) (by kernel_rfl) (fun _ _ _ h => h) rfl (fun w' hS => ?_) hHeld ?_
          · clear hS; go_simp
          try simp only [Act.put, List.setIfInBounds_toArray, List.set_cons_zero, List.set_cons_succ]
          refine held_take 12 (some 76) (.pointer (some ⟨gd, 0, none⟩)) rfl rfl (by kernel_rfl) (by kernel_rfl) (by kernel_rfl) (fun _ _ _ h => h) rfl (fun w' hS => ?_) hHeld ?_
          · obtain ⟨y0, y1, y2, y3, y4⟩ := hS; go_simp
          try simp only [Act.put, List.setIfInBounds_toArray, List.set_cons_zero, List.set_cons_succ]
          refine held_take 13 (some 77) (.pointer (some ⟨p, 1, none⟩)) rfl rfl (by kernel_rfl) (by kernel_rfl) (by kernel_rfl) (fun _ _ _ h => h) rfl (fun w' hS => ?_) hHeld ?_
          · clear hS; go_simp
          try simp only [Act.put, List.setIfInBounds_toArray, List.set_cons_zero, List.set_cons_succ]
          refine held_take 14 (some 78) (.string old) rfl rfl (by kernel_rfl) (by kernel_rfl) (by kernel_rfl) (fun _ _ _ h => h) rfl (fun w' hS => ?_) hHeld ?_
          · obtain ⟨y0, y1, y2, y3, y4⟩ := hS; go_simp
          try simp only [Act.put, List.setIfInBounds_toArray, List.set_cons_zero, List.set_cons_succ]
          refine held_take 15 (some 79) (.pointer (some ⟨p, 2, none⟩)) rfl rfl (by kernel_rfl) (by kernel_rfl) (by kernel_rfl) (fun _ _ _ h => h) rfl (fun w' hS => ?_) hHeld ?_
          · clear hS; go_simp
          try simp only [Act.put, List.setIfInBounds_toArray, List.set_cons_zero, List.set_cons_succ]
          refine held_take 16 (some 80) (.string nm) rfl rfl (by kernel_rfl) (by kernel_rfl) (by kernel_rfl) (fun _ _ _ h => h) rfl (fun w' hS => ?_) hHeld ?_
          · obtain ⟨y0, y1, y2, y3, y4⟩ := hS; go_simp
          try simp only [Act.put, List.setIfInBounds_toArray, List.set_cons_zero, List.set_cons_succ]
          obtain ⟨Op, Od, a1, a2, a3, a4, a5, a6, a7⟩ := HPD.out
          clear HPD
          refine held_one (i := 8) (by kernel_rfl) rfl rfl (fun K hK => ?_)
          go_simp
          refine Calls.mono (Z.rename wd gp Op c n old nm a1 HG.out HN.out HSO.out HSZ.out) ?_
          rintro _ w4 ⟨rfl, hp4⟩
          dsimp only
          have hto := pair_prog a1 a2 a3 a4 a5 a6 a7 hp4
          have hS4 : ChS q p gp gd old nm (.slice ad nd kd) w4 := hHeld.keep (hto.2.2 q (.inl HF.out)) (hto.2.2 p (.inr rfl))
          have HB4 : Hid (Below B w w4) := HBD.out.trans hto.2.1
          have HF4 : Hid (∀ x, F x → w4.heap[x]? = w.heap[x]?) := fun x e => (hto.2.2 x (.inl e)).trans (HFD.out x e)
          have HP4 : Hid _ := hto.1
          refine hK.out _ _ hS4 ?_
          clear hK K hHeld HBD HFD hto hp4 a1 a2 a3 a4 a5 a6 a7
          try simp only [Act.put, List.setIfInBounds_toArray, List.set_cons_zero, List.set_cons_succ]
          obtain ⟨Op2, Od2, b1, b2, b3, b4, b5, b6, b7⟩ := HP4.out
          refine held_one (i := 17) (by kernel_rfl) rfl rfl (fun K hK => ?_)
          go_simp
          refine Calls.mono (rrename_any w4 gd Od2 c b2 HG.out.2.1 old nm HSZ.out (by have := HG.out.2.2; unfold SmallC at this; have := HN.out; omega) (by have := HG.out.2.2; unfold SmallC at this; have := HN.out; omega)) ?_
          rintro _ w5 ⟨rfl, hp5⟩
          dsimp only
          have hto := pair_doc b1 b2 b3 b4 b5 b6 b7 hp5
          have hS5 : ChS q p gp gd old nm (.slice ad nd kd) w5 := hS4.keep (hto.2.2 q (.inl HF.out)) (hto.2.2 p (.inr rfl))
          have HP5 : Hid (PairTo Z B F w gp gd (renameR c old nm).2 (renameR c old nm).2 w5) := PairTo.trans HB4.out HF4.out hto (fun _ e => .inl e)
          refine hK.out _ _ hS5 ?_
          clear hK K hS4 hto hp5 HP4 HB4 HF4
          try simp only [Act.put, List.setIfInBounds_toArray, List.set_cons_zero, List.set_cons_succ]
          refine held_take 18 (some 4) (.int .i64 ((renameR c old nm).1 : Nat)) rfl rfl (by kernel_rfl) (by kernel_rfl) (by kernel_rfl) (fun _ _ _ h => h) rfl (fun w' hS => ?_) hS5 ?_
          · clear hS; go_simp
          try simp only [Act.put, List.setIfInBounds_toArray, List.set_cons_zero, List.set_cons_succ]
          refine held_take 19 (some 5) (.int .i64 ((renameR c old nm).1 : Nat)) rfl rfl (by kernel_rfl) (by kernel_rfl) (by kernel_rfl) (fun _ _ _ h => h) rfl (fun w' hS => ?_) hS5 ?_
          · clear hS; go_simp
          try simp only [Act.put, List.setIfInBounds_toArray, List.set_cons_zero, List.set_cons_succ]
          refine wpAnyH_done (by kernel_rfl) ?_ _
          go_wp2_with fail
          go_ret2
          exact ⟨by rw [HCR.out]; rfl, by rw [HCR.out]; exact HP5.out⟩
        · by_cases w4 : what = 4
          · subst w4
            rw [if_neg (by decide), if_neg (by decide), if_neg (by decide), if_neg (by decide), if_pos rfl] at HCR
            go_enter Try.func15, Try.ntmps15
            go_wp2_with fail
            generalize w.alloc (.cells #[.int .i64 4, .string old, .string nm, .slice ad nd kd, .int .i64 N, .slice ak nk kk, .int .u8 (tn : Nat)] 38) = wa at *
            generalize w.heap.size = p at *
            have HPD : Hid (PairAt Z B (FP F p) wa.drew gp gd c c) := HP1.out.below (Below.refl _ _).drew
            have HBD : Hid (Below B w wa.drew) := HBB.out.drew
            have HFD : Hid (∀ x, F x → wa.drew.heap[x]? = w.heap[x]?) := HFK.out
            have hS0 : ChS q p gp gd old nm (.slice ad nd kd) wa.drew := HS0.out
            refine wp_region_held_drew (S := ChS q p gp gd old nm (.slice ad nd kd)) (by kernel_rfl) hS0 (fun hHeld => ?_)
            clear hS0 x0 HS0 HP1 HBB HFK
            generalize wa.drew = wd at *
            refine held_take 0 (some 84) (.pointer (some ⟨q, 0, none⟩)) rfl rfl (by kernel_rfl) (by kernel_rfl) (by kernel_rfl) (fun _ _ _ h => h) rfl (fun w' hS => ?_) hHeld ?_
            · clear hS; go_simp
            try simp only [Act.put, List.setIfInBounds_toArray, List.set_cons_zero, List.set_cons_succ]
            refine held_take 1 (some 85) (.pointer (some ⟨q, 0, none⟩)) rfl rfl (by kernel_rfl) (by kernel_rfl) (by kernel_rfl) (fun _ _ _ h => h) rfl (fun w' hS => ?_) hHeld ?_
            · clear hS; go_simp
            try simp only [Act.put, List.setIfInBounds_toArray, List.set_cons_zero, List.set_cons_succ]
            refine held_take 2 (some 86) (.pointer (some ⟨q, 0, none⟩)) rfl rfl (by kernel_rfl) (by kernel_rfl) (by kernel_rfl) (fun _ _ _ h => h) rfl (fun w' hS => ?_) hHeld ?_
            · clear hS; go_simp
            try simp only [Act.put, List.setIfInBounds_toArray, List.set_cons_zero, List.set_cons_succ]
            refine held_take 3 (some 87) (.pointer (some ⟨gp, 0, none⟩)) rfl rfl (by kernel_rfl) (by kernel_rfl) (by kernel_rfl) (fun _ _ _ h => h) rfl (fun w' hS => ?_) hHeld ?_
            · obtain ⟨y0, y1, y2, y3, y4⟩ := hS; go_simp
            try simp only [Act.put, List.setIfInBounds_toArray, List.set_cons_zero, List.set_cons_succ]
            refine held_take 4 (some 88) (.pointer (some ⟨p, 2, none⟩)) rfl rfl (by kernel_rfl) (by kernel_rfl) (by kernel_rfl) (fun _ _ _ h => h) rfl (fun w' hS => ?_) hHeld ?_
            · clear hS; go_simp
            try simp only [Act.put, List.setIfInBounds_toArray, List.set_cons_zero, List.set_cons_succ]
            refine held_take 5 (some 89) (.string nm) rfl rfl (by kernel_rfl) (by kernel_rfl) (by kernel_rfl) (fun _ _ _ h => h) rfl (fun w' hS => ?_) hHeld ?_
            · obtain ⟨y0, y1, y2, y3, y4⟩ := hS; go_simp
            try simp only [Act.put, List.setIfInBounds_toArray, List.set_cons_zero, List.set_cons_succ]
            refine held_take 7 (some 91) (.pointer (some ⟨q, 0, none⟩)) rfl rfl (by kernel_rfl) (by kernel_rfl) (by kernel_rfl) (fun _ _ _ h => h) rfl (fun w' hS => ?_) hHeld ?_
            · clear hS; go_simp
            try simp only [Act.put, List.setIfInBounds_toArray, List.set_cons_zero, List.set_cons_succ]
            refine held_take 8 (some 92) (.pointer (some ⟨q, 0, none⟩)) rfl rfl (by kernel_rfl) (by kernel_rfl) (by kernel_rfl) (fun _ _ _ h => h) rfl (fun w' hS => ?_) hHeld ?_
            · clear hS; go_simp
            try simp only [Act.put, List.setIfInBounds_toArray, List.set_cons_zero, List.set_cons_succ]
            refine held_take 9 (some 93) (.pointer (some ⟨q, 1, none⟩)) rfl rfl (by kernel_rfl) (by kernel_rfl) (by kernel_rfl) (fun _ _ _ h => h) rfl (fun w' hS => ?_) hHeld ?_
            · clear hS; go_simp
            try simp only [Act.put, List.setIfInBounds_toArray, List.set_cons_zero, List.set_cons_succ]
            refine held_take 10 (some 94) (.pointer (some ⟨gd, 0, none⟩)) rfl rfl (by kernel_rfl) (by kernel_rfl) (by kernel_rfl) (fun _ _ _ h => h) rfl (fun w' hS => ?_) hHeld ?_
            · obtain ⟨y0, y1, y2, y3, y4⟩ := hS; go_simp
            try simp only [Act.put, List.setIfInBounds_toArray, List.set_cons_zero, List.set_cons_succ]
            refine held_take 11 (some 95) (.pointer (some ⟨p, 2, none⟩)) rfl rfl (by kernel_rfl) (by kernel_rfl) (by kernel_rfl) (fun _ _ _ h => h) rfl (fun w' hS => ?_) hHeld ?_
            · clear hS; go_simp
            try simp only [Act.put, List.setIfInBounds_toArray, List.set_cons_zero, List.set_cons_succ]
            refine held_take 12 (some 96) (.string nm) rfl rfl (by kernel_rfl) (by kernel_rfl) (by kernel_rfl) (fun _ _ _ h => h) rfl (fun w' hS => ?_) hHeld ?_
            · obtain ⟨y0, y1, y2, y3, y4⟩ := hS; go_simp
            try simp only [Act.put, List.setIfInBounds_toArray, List.set_cons_zero, List.set_cons_succ]
            obtain ⟨Op, Od, a1, a2, a3, a4, a5, a6, a7⟩ := HPD.out
            clear HPD
            refine held_one (i := 6) (by kernel_rfl) rfl rfl (fun K hK => ?_)
            go_simp
            refine Calls.mono (Z.remove wd gp Op c n nm a1 HG.out HN.out HSZ.out) ?_
            rintro _ w4 ⟨rfl, hp4⟩
            dsimp only
            have hto := pair_prog a1 a2 a3 a4 a5 a6 a7 hp4
            have hS4 : ChS q p gp gd old nm (.slice ad nd kd) w4 := hHeld.keep (hto.2.2 q (.inl HF.out)) (hto.2.2 p (.inr rfl))
            have HB4 : Hid (Below B w w4) := HBD.out.trans hto.2.1
            have HF4 : Hid (∀ x, F x → w4.heap[x]? = w.heap[x]?) := fun x e => (hto.2.2 x (.inl e)).trans (HFD.out x e)
            have HP4 : Hid _ := hto.1
            refine hK.out _ _ hS4 ?_
            clear hK K hHeld HBD HFD hto hp4 a1 a2 a3 a4 a5 a6 a7
            try simp only [Act.put, List.setIfInBounds_toArray, List.set_cons_zero, List.set_cons_succ]
            obtain ⟨Op2, Od2, b1, b2, b3, b4, b5, b6, b7⟩ := HP4.out
            refine held_one (i := 13) (by kernel_rfl) rfl rfl (fun K hK => ?_)
            go_simp
            refine Calls.mono (rremove_any w4 gd Od2 c b2 HG.out.2.1 nm (by have := HG.out.2.2; unfold SmallC at this; have := HN.out; omega) (by have := HG.out.2.2; unfold SmallC at this; have := HN.out; omega)) ?_
            rintro _ w5 ⟨rfl, hp5⟩
            dsimp only
            have hto := pair_doc b1 b2 b3 b4 b5 b6 b7 hp5
            have hS5 : ChS q p gp gd old nm (.slice ad nd kd) w5 := hS4.keep (hto.2.2 q (.inl HF.out)) (hto.2.2 p (.inr rfl))
            have HP5 : Hid (PairTo Z B F w gp gd (removeR c nm).2 (removeR c nm).2 w5) := PairTo.trans HB4.out HF4.out hto (fun _ e => .inl e)
            refine hK.out _ _ hS5 ?_
            clear hK K hS4 hto hp5 HP4 HB4 HF4
            try simp only [Act.put, List.setIfInBounds_toArray, List.set_cons_zero, List.set_cons_succ]
            refine held_take 14 (some 4) (.int .i64 ((removeR c nm).1 : Nat)) rfl rfl (by kernel_rfl) (by kernel_rfl) (by kernel_rfl) (fun _ _ _ h => h) rfl (fun w' hS => ?_) hS5 ?_
            · clear hS; go_simp
            try simp only [Act.put, List.setIfInBounds_toArray, List.set_cons_zero, List.set_cons_succ]
            refine held_take 15 (some 5) (.int .i64 ((removeR c nm).1 : Nat)) rfl rfl (by kernel_rfl) (by kernel_rfl) (by kernel_rfl) (fun _ _ _ h => h) rfl (fun w' hS => ?_) hS5 ?_
            · clear hS; go_simp
            try simp only [Act.put, List.setIfInBounds_toArray, List.set_cons_zero, List.set_cons_succ]
            refine wpAnyH_done (by kernel_rfl) ?_ _
            go_wp2_with fail
            go_ret2
            exact ⟨by rw [HCR.out]; rfl, by rw [HCR.out]; exact HP5.out⟩
          · rw [if_neg w0, if_neg w1, if_neg w2, if_neg w3, if_neg w4] at HCR
            have b0 : (what == 0) = false := by rw [beq_eq_false_iff_ne]; exact w0
            have b1 : (what == 1) = false := by rw [beq_eq_false_iff_ne]; exact w1
            have b2 : (what == 2) = false := by rw [beq_eq_false_iff_ne]; exact w2
            have b3 : (what == 3) = false := by rw [beq_eq_false_iff_ne]; exact w3
            have b4 : (what == 4) = false := by rw [beq_eq_false_iff_ne]; exact w4
            clear w0 w1 w2 w3 w4
            go_enter Try.func15, Try.ntmps15
            go_wp2_with fail
            generalize w.alloc (.cells #[.int .i64 what, .string old, .string nm, .slice ad nd kd, .int .i64 N, .slice ak nk kk, .int .u8 (tn : Nat)] 38) = wa at *
            generalize w.heap.size = p at *
            have HPD : Hid (PairAt Z B (FP F p) wa.drew gp gd c c) := HP1.out.below (Below.refl _ _).drew
            have HBD : Hid (Below B w wa.drew) := HBB.out.drew
            have HFD : Hid (∀ x, F x → wa.drew.heap[x]? = w.heap[x]?) := HFK.out
            have hS0 : ChS q p gp gd old nm (.slice ad nd kd) wa.drew := HS0.out
            refine wp_region_held_drew (S := ChS q p gp gd old nm (.slice ad nd kd)) (by kernel_rfl) hS0 (fun hHeld => ?_)
            clear hS0 x0 HS0 HP1 HBB HFK
            generalize wa.drew = wd at *
            refine held_take 0 (some 98) (.pointer (some ⟨q, 0, none⟩)) rfl rfl (by kernel_rfl) (by kernel_rfl) (by kernel_rfl) (fun _ _ _ h => h) rfl (fun w' hS => ?_) hHeld ?_
            · clear hS; go_simp
            try simp only [Act.put, List.setIfInBounds_toArray, List.set_cons_zero, List.set_cons_succ]
            refine held_take 1 (some 99) (.pointer (some ⟨q, 0, none⟩)) rfl rfl (by kernel_rfl) (by kernel_rfl) (by kernel_rfl) (fun _ _ _ h => h) rfl (fun w' hS => ?_) hHeld ?_
            · clear hS; go_simp
            try simp only [Act.put, List.setIfInBounds_toArray, List.set_cons_zero, List.set_cons_succ]
            refine held_take 2 (some 100) (.pointer (some ⟨q, 0, none⟩)) rfl rfl (by kernel_rfl) (by kernel_rfl) (by kernel_rfl) (fun _ _ _ h => h) rfl (fun w' hS => ?_) hHeld ?_
            · clear hS; go_simp
            try simp only [Act.put, List.setIfInBounds_toArray, List.set_cons_zero, List.set_cons_succ]
            refine held_take 3 (some 101) (.pointer (some ⟨gp, 0, none⟩)) rfl rfl (by kernel_rfl) (by kernel_rfl) (by kernel_rfl) (fun _ _ _ h => h) rfl (fun w' hS => ?_) hHeld ?_
            · obtain ⟨y0, y1, y2, y3, y4⟩ := hS; go_simp
            try simp only [Act.put, List.setIfInBounds_toArray, List.set_cons_zero, List.set_cons_succ]
            refine held_take 5 (some 103) (.pointer (some ⟨q, 0, none⟩)) rfl rfl (by kernel_rfl) (by kernel_rfl) (by kernel_rfl) (fun _ _ _ h => h) rfl (fun w' hS => ?_) hHeld ?_
            · clear hS; go_simp
            try simp only [Act.put, List.setIfInBounds_toArray, List.set_cons_zero, List.set_cons_succ]
            refine held_take 6 (some 104) (.pointer (some ⟨q, 0, none⟩)) rfl rfl (by kernel_rfl) (by kernel_rfl) (by kernel_rfl) (fun _ _ _ h => h) rfl (fun w' hS => ?_) hHeld ?_
            · clear hS; go_simp
            try simp only [Act.put, List.setIfInBounds_toArray, List.set_cons_zero, List.set_cons_succ]
            refine held_take 7 (some 105) (.pointer (some ⟨q, 1, none⟩)) rfl rfl (by kernel_rfl) (by kernel_rfl) (by kernel_rfl) (fun _ _ _ h => h) rfl (fun w' hS => ?_) hHeld ?_
            · clear hS; go_simp
            try simp only [Act.put, List.setIfInBounds_toArray, List.set_cons_zero, List.set_cons_succ]
            refine held_take 8 (some 106) (.pointer (some ⟨gd, 0, none⟩)) rfl rfl (by kernel_rfl) (by kernel_rfl) (by kernel_rfl) (fun _ _ _ h => h) rfl (fun w' hS => ?_) hHeld ?_
            · obtain ⟨y0, y1, y2, y3, y4⟩ := hS; go_simp
            try simp only [Act.put, List.setIfInBounds_toArray, List.set_cons_zero, List.set_cons_succ]
            obtain ⟨Op, Od, a1, a2, a3, a4, a5, a6, a7⟩ := HPD.out
            clear HPD
            refine held_one (i := 4) (by kernel_rfl) rfl rfl (fun K hK => ?_)
            go_simp
            refine Calls.mono (Z.turn wd gp Op c n a1 HG.out HN.out) ?_
            rintro _ w4 ⟨rfl, hp4⟩
            dsimp only
            have hto := pair_prog a1 a2 a3 a4 a5 a6 a7 hp4
            have hS4 : ChS q p gp gd old nm (.slice ad nd kd) w4 := hHeld.keep (hto.2.2 q (.inl HF.out)) (hto.2.2 p (.inr rfl))
            have HB4 : Hid (Below B w w4) := HBD.out.trans hto.2.1
            have HF4 : Hid (∀ x, F x → w4.heap[x]? = w.heap[x]?) := fun x e => (hto.2.2 x (.inl e)).trans (HFD.out x e)
            have HP4 : Hid _ := hto.1
            refine hK.out _ _ hS4 ?_
            clear hK K hHeld HBD HFD hto hp4 a1 a2 a3 a4 a5 a6 a7
            try simp only [Act.put, List.setIfInBounds_toArray, List.set_cons_zero, List.set_cons_succ]
            obtain ⟨Op2, Od2, b1, b2, b3, b4, b5, b6, b7⟩ := HP4.out
            refine held_one (i := 9) (by kernel_rfl) rfl rfl (fun K hK => ?_)
            go_simp
            refine Calls.mono (rturn_any w4 gd Od2 c b2 HG.out.2.1) ?_
            rintro _ w5 ⟨rfl, hp5⟩
            dsimp only
            have hto := pair_doc b1 b2 b3 b4 b5 b6 b7 hp5
            have hS5 : ChS q p gp gd old nm (.slice ad nd kd) w5 := hS4.keep (hto.2.2 q (.inl HF.out)) (hto.2.2 p (.inr rfl))
            have HP5 : Hid (PairTo Z B F w gp gd (turnR c).2 (turnR c).2 w5) := PairTo.trans HB4.out HF4.out hto (fun _ e => .inl e)
            refine hK.out _ _ hS5 ?_
            clear hK K hS4 hto hp5 HP4 HB4 HF4
            try simp only [Act.put, List.setIfInBounds_toArray, List.set_cons_zero, List.set_cons_succ]
            refine held_take 10 (some 4) (.int .i64 ((turnR c).1 : Nat)) rfl rfl (by kernel_rfl) (by kernel_rfl) (by kernel_rfl) (fun _ _ _ h => h) rfl (fun w' hS => ?_) hS5 ?_
            · clear hS; go_simp
            try simp only [Act.put, List.setIfInBounds_toArray, List.set_cons_zero, List.set_cons_succ]
            refine held_take 11 (some 5) (.int .i64 ((turnR c).1 : Nat)) rfl rfl (by kernel_rfl) (by kernel_rfl) (by kernel_rfl) (fun _ _ _ h => h) rfl (fun w' hS => ?_) hS5 ?_
            · clear hS; go_simp
            try simp only [Act.put, List.setIfInBounds_toArray, List.set_cons_zero, List.set_cons_succ]
            refine wpAnyH_done (by kernel_rfl) ?_ _
            go_wp2_with fail
            go_ret2
            exact ⟨by rw [HCR.out]; rfl, by rw [HCR.out]; exact HP5.out⟩
end Go.Proofs.Ytlhmeebbdjiokaa
