/-
  The program's names behind a change: with.
-/
import Derived.Test.YtlhmeebbdjiokaaCabPLow
import Derived.Shelf.SlMaps.Clone
namespace Go.Proofs.Ytlhmeebbdjiokaa
open Go.ChangeShapes Go.WideShapes Go.ChangeAt Go.RowKit Go.Maps Go.MapKept Go.ChangeMaps
set_option linter.unusedVariables false
set_option linter.unusedSimpArgs false
theorem MapF.alloc {w : World} {m : Option Nat} {l : List (ByteArray × Nat)} {fa : Nat → Nat} (h : MapF w m l fa) (o : Obj) : MapF (w.alloc o) m l fa := h.keep fun b hb => Below.heap_alloc w o b (h.lt b hb)
theorem apart_map {b : Nat} {w w' : World} (h : w.grownBy w' (some b)) : Apart (fun k => some b = some k) w w' := ⟨h.os, h.tape, h.output, h.size, fun k hk hno => h.block k hk (fun e => hno e.symm)⟩
theorem apart_new {b B : Nat} {w w' : World} (h : w.grownBy w' (some b)) (hb : B ≤ b) (hB : B ≤ w.heap.size) : Below B w w' := ⟨h.os, h.tape, h.output, h.size, fun k hk => h.block k (by omega) (fun e => by cases e; omega)⟩
def ApM (b : Nat) (w w' : World) : Prop := Apart (fun k => some b = some k) w w'
/-- What with answers. -/
def WithP (w : World) (m : Option Nat) (l : List (ByteArray × Nat)) (fa : Nat → Nat) (x : ByteArray × ByteArray × Nat) (e : Ending) (w' : World) : Prop :=
  ∃ b, e = .returned (.map (some b)) ∧ MapF w' (some b) (withC l x) fa ∧ (m = some b ∨ (m = none ∧ w.heap.size ≤ b)) ∧ Apart (fun k => m = some k) w w'
theorem with0 (l : List (ByteArray × Nat)) {x : ByteArray × ByteArray × Nat} (h1 : x.1.size = 0) (h2 : x.2.1.size ≠ 0) : withC l x = layC (lessC l x.2.1) x.2.1 x.2.2 := by unfold withC; rw [if_neg h2, if_pos h1]
theorem with1 (l : List (ByteArray × Nat)) {x : ByteArray × ByteArray × Nat} (h1 : x.1.size ≠ 0) (h2 : x.2.1.size ≠ 0) : withC l x = layC (lessC (lessC l x.1) x.2.1) x.2.1 x.2.2 := by unfold withC; rw [if_neg h2, if_neg h1]
theorem with2 (l : List (ByteArray × Nat)) {x : ByteArray × ByteArray × Nat} (h1 : x.1.size ≠ 0) (h2 : x.2.1.size = 0) : withC l x = lessC l x.1 := by unfold withC; rw [if_pos h2, if_neg h1]
set_option maxRecDepth 100000 in
set_option maxHeartbeats 1000000 in
theorem pwith_0 (w : World) (b : Nat) (l : List (ByteArray × Nat)) (fa : Nat → Nat) (old nm : ByteArray) (f : Nat) (h : MapF w (some b) l fa) (hl : l.length ≤ 1099511627776) (hn : nm.size ≤ maxLen) (ho : old.size ≤ maxLen) :
    Calls Try.prog 49 #[.map (some b), .agg #[.int .i64 0, .string old, .string nm, .pointer (some ⟨fa f, 0, none⟩)]] w fun e w' => ∃ b', e = .returned (.map (some b')) ∧ MapF w' (some b') (layC (lessC l nm) nm f) fa ∧ b' = b ∧ ApM b w w' := by
  have hq := fun w => run_eql_map_nil_sl (P := Try.prog) w 44 _ _ (some b) folderU
  have HM : Hid (MapF (w.alloc (.cells #[.int .i64 0, .string old, .string nm, .pointer (some ⟨fa f, 0, none⟩)] 76)) (some b) l fa) := h.alloc _
  have HB : Hid (Apart (fun k => some b = some k) w (w.alloc (.cells #[.int .i64 0, .string old, .string nm, .pointer (some ⟨fa f, 0, none⟩)] 76))) := apart_of (below_new w _) _
  have hlm : l.length < maxLen := by unfold maxLen; omega
  clear h
  go_enter Try.func49, Try.ntmps49
  go_wp2_with (at_mapUpdate; (refine store_file rfl _ _ _ rfl _ l fa rfl HM.out hlm nm hn f rfl rfl ?_; intro w1 hm1 hg1 hs1))
  go_ret
  exact ⟨_, rfl, hm1, rfl, HB.out.same (apart_map hg1)⟩
set_option maxRecDepth 100000 in
set_option maxHeartbeats 1000000 in
theorem pwith_0n (w : World) (fa : Nat → Nat) (old nm : ByteArray) (f : Nat) (hn : nm.size ≤ maxLen) (ho : old.size ≤ maxLen) :
    Calls Try.prog 49 #[.map none, .agg #[.int .i64 0, .string old, .string nm, .pointer (some ⟨fa f, 0, none⟩)]] w fun e w' => ∃ b', e = .returned (.map (some b')) ∧ MapF w' (some b') (layC (lessC [] nm) nm f) fa ∧ w.heap.size ≤ b' ∧ Below w.heap.size w w' := by
  have hq := fun w => run_eql_map_nil_sl (P := Try.prog) w 44 _ _ none folderU
  have HM : Hid (MapF ((w.alloc (.cells #[.int .i64 0, .string old, .string nm, .pointer (some ⟨fa f, 0, none⟩)] 76)).alloc (.map #[] 0)) (some (w.heap.size + 1)) [] fa) := by
    have e := MapF.made (w.alloc (.cells #[.int .i64 0, .string old, .string nm, .pointer (some ⟨fa f, 0, none⟩)] 76)) fa
    rw [show (w.alloc (.cells #[.int .i64 0, .string old, .string nm, .pointer (some ⟨fa f, 0, none⟩)] 76)).heap.size = w.heap.size + 1 by simp] at e
    exact e
  have HB : Hid (Below w.heap.size w ((w.alloc (.cells #[.int .i64 0, .string old, .string nm, .pointer (some ⟨fa f, 0, none⟩)] 76)).alloc (.map #[] 0))) := ((Below.refl _ w).alloc (Nat.le_refl _) _).alloc (by simp) _
  have HZ : Hid (w.heap.size ≤ (w.heap.size + 1)) := Nat.le_succ _
  have HZ2 : Hid (w.heap.size ≤ ((w.alloc (.cells #[.int .i64 0, .string old, .string nm, .pointer (some ⟨fa f, 0, none⟩)] 76)).alloc (.map #[] 0)).heap.size) := by unfold Hid; simp; omega
  have hmm := @run_makeMap Try.prog
  go_enter Try.func49, Try.ntmps49
  go_wp2_with (at_mapUpdate; (refine store_file rfl _ _ _ rfl _ [] fa rfl HM.out (by simp [maxLen]) nm hn f rfl rfl ?_; intro w1 hm1 hg1 hs1))
  go_ret
  exact ⟨_, rfl, hm1, HZ.out, HB.out.trans (apart_new hg1 HZ.out HZ2.out)⟩
set_option maxRecDepth 100000 in
set_option maxHeartbeats 1000000 in
theorem pwith_1 (w : World) (b : Nat) (l : List (ByteArray × Nat)) (fa : Nat → Nat) (old nm : ByteArray) (f : Nat) (h : MapF w (some b) l fa) (hl : l.length ≤ 1099511627776) (hn : nm.size ≤ maxLen) (ho : old.size ≤ maxLen) :
    Calls Try.prog 49 #[.map (some b), .agg #[.int .i64 1, .string old, .string nm, .pointer (some ⟨fa f, 0, none⟩)]] w fun e w' => ∃ b', e = .returned (.map (some b')) ∧ MapF w' (some b') (layC (lessC (lessC l old) nm) nm f) fa ∧ b' = b ∧ ApM b w w' := by
  have D2 : Hid ((w.alloc (.cells #[.int .i64 1, .string old, .string nm, .pointer (some ⟨fa f, 0, none⟩)] 76)).cell? ⟨w.heap.size, 2, none⟩ = some (.string nm)) := by unfold Hid; rw [cell_of_row _ w.heap.size _ _ _ _ (heap_alloc_last w _)]; rfl
  have D3 : Hid ((w.alloc (.cells #[.int .i64 1, .string old, .string nm, .pointer (some ⟨fa f, 0, none⟩)] 76)).cell? ⟨w.heap.size, 3, none⟩ = some (.pointer (some ⟨fa f, 0, none⟩))) := by unfold Hid; rw [cell_of_row _ w.heap.size _ _ _ _ (heap_alloc_last w _)]; rfl
  have HNE : Hid (some (⟨w.heap.size, 0, none⟩ : Addr).block ≠ some b) := by
    unfold Hid
    intro e
    have := h.lt b rfl
    cases e
    exact Nat.lt_irrefl _ this
  have HL0 : Hid ((lessC l old).length < maxLen) := Nat.lt_of_le_of_lt (List.length_filter_le _ _) (by unfold maxLen; omega)
  have hq := fun w => run_eql_map_nil_sl (P := Try.prog) w 44 _ _ (some b) folderU
  have HM : Hid (MapF (w.alloc (.cells #[.int .i64 1, .string old, .string nm, .pointer (some ⟨fa f, 0, none⟩)] 76)) (some b) l fa) := h.alloc _
  have HB : Hid (Apart (fun k => some b = some k) w (w.alloc (.cells #[.int .i64 1, .string old, .string nm, .pointer (some ⟨fa f, 0, none⟩)] 76))) := apart_of (below_new w _) _
  have hlm : l.length < maxLen := by unfold maxLen; omega
  clear h
  go_enter Try.func49, Try.ntmps49
  go_wp2_with (first | (at_delete; (refine drop_file rfl _ _ rfl _ l fa rfl HM.out old ho rfl ?_; intro w0 hm0 hg0 hs0; have d2 : w0.cell? ⟨w.heap.size, 2, none⟩ = some (.string nm) := hg0.cell (a := ⟨w.heap.size, 2, none⟩) D2.out HNE.out; have d3 : w0.cell? ⟨w.heap.size, 3, none⟩ = some (.pointer (some ⟨fa f, 0, none⟩)) := hg0.cell (a := ⟨w.heap.size, 3, none⟩) D3.out HNE.out)) | (at_mapUpdate; (refine store_file rfl _ _ _ rfl _ (lessC l old) fa rfl hm0 HL0.out nm hn f rfl rfl ?_; intro w1 hm1 hg1 hs1)))
  go_ret
  exact ⟨_, rfl, hm1, rfl, (HB.out.same (apart_map hg0)).same (apart_map hg1)⟩
set_option maxRecDepth 100000 in
set_option maxHeartbeats 1000000 in
theorem pwith_1n (w : World) (fa : Nat → Nat) (old nm : ByteArray) (f : Nat) (hn : nm.size ≤ maxLen) (ho : old.size ≤ maxLen) :
    Calls Try.prog 49 #[.map none, .agg #[.int .i64 1, .string old, .string nm, .pointer (some ⟨fa f, 0, none⟩)]] w fun e w' => ∃ b', e = .returned (.map (some b')) ∧ MapF w' (some b') (layC (lessC (lessC [] old) nm) nm f) fa ∧ w.heap.size ≤ b' ∧ Below w.heap.size w w' := by
  have D2 : Hid (((w.alloc (.cells #[.int .i64 1, .string old, .string nm, .pointer (some ⟨fa f, 0, none⟩)] 76)).alloc (.map #[] 0)).cell? ⟨w.heap.size, 2, none⟩ = some (.string nm)) := by unfold Hid; rw [cell_of_row _ w.heap.size _ _ _ _ ((Below.heap_alloc _ _ _ (by simp)).trans (heap_alloc_last w _))]; rfl
  have D3 : Hid (((w.alloc (.cells #[.int .i64 1, .string old, .string nm, .pointer (some ⟨fa f, 0, none⟩)] 76)).alloc (.map #[] 0)).cell? ⟨w.heap.size, 3, none⟩ = some (.pointer (some ⟨fa f, 0, none⟩))) := by unfold Hid; rw [cell_of_row _ w.heap.size _ _ _ _ ((Below.heap_alloc _ _ _ (by simp)).trans (heap_alloc_last w _))]; rfl
  have HNE : Hid (some (⟨w.heap.size, 0, none⟩ : Addr).block ≠ some ((w.heap.size + 1))) := by
    unfold Hid
    intro e
    have := Option.some.inj e
    simp at this
  have HL0 : Hid ((lessC [] old).length < maxLen) := (by unfold Hid; simp [maxLen, lessC])
  have hq := fun w => run_eql_map_nil_sl (P := Try.prog) w 44 _ _ none folderU
  have HM : Hid (MapF ((w.alloc (.cells #[.int .i64 1, .string old, .string nm, .pointer (some ⟨fa f, 0, none⟩)] 76)).alloc (.map #[] 0)) (some (w.heap.size + 1)) [] fa) := by
    have e := MapF.made (w.alloc (.cells #[.int .i64 1, .string old, .string nm, .pointer (some ⟨fa f, 0, none⟩)] 76)) fa
    rw [show (w.alloc (.cells #[.int .i64 1, .string old, .string nm, .pointer (some ⟨fa f, 0, none⟩)] 76)).heap.size = w.heap.size + 1 by simp] at e
    exact e
  have HB : Hid (Below w.heap.size w ((w.alloc (.cells #[.int .i64 1, .string old, .string nm, .pointer (some ⟨fa f, 0, none⟩)] 76)).alloc (.map #[] 0))) := ((Below.refl _ w).alloc (Nat.le_refl _) _).alloc (by simp) _
  have HZ : Hid (w.heap.size ≤ (w.heap.size + 1)) := Nat.le_succ _
  have HZ2 : Hid (w.heap.size ≤ ((w.alloc (.cells #[.int .i64 1, .string old, .string nm, .pointer (some ⟨fa f, 0, none⟩)] 76)).alloc (.map #[] 0)).heap.size) := by unfold Hid; simp; omega
  have hmm := @run_makeMap Try.prog
  go_enter Try.func49, Try.ntmps49
  go_wp2_with (first | (at_delete; (refine drop_file rfl _ _ rfl _ [] fa rfl HM.out old ho rfl ?_; intro w0 hm0 hg0 hs0; have d2 : w0.cell? ⟨w.heap.size, 2, none⟩ = some (.string nm) := hg0.cell (a := ⟨w.heap.size, 2, none⟩) D2.out HNE.out; have d3 : w0.cell? ⟨w.heap.size, 3, none⟩ = some (.pointer (some ⟨fa f, 0, none⟩)) := hg0.cell (a := ⟨w.heap.size, 3, none⟩) D3.out HNE.out)) | (at_mapUpdate; (refine store_file rfl _ _ _ rfl _ (lessC [] old) fa rfl hm0 HL0.out nm hn f rfl rfl ?_; intro w1 hm1 hg1 hs1)))
  go_ret
  exact ⟨_, rfl, hm1, HZ.out, HB.out.trans ((apart_new hg0 HZ.out HZ2.out).trans (apart_new hg1 HZ.out (by rw [hs0]; exact HZ2.out)))⟩
set_option maxRecDepth 100000 in
set_option maxHeartbeats 1000000 in
theorem pwith_2 (w : World) (b : Nat) (l : List (ByteArray × Nat)) (fa : Nat → Nat) (old nm : ByteArray) (f : Nat) (h : MapF w (some b) l fa) (hl : l.length ≤ 1099511627776) (hn : nm.size ≤ maxLen) (ho : old.size ≤ maxLen) :
    Calls Try.prog 49 #[.map (some b), .agg #[.int .i64 2, .string old, .string nm, .pointer none]] w fun e w' => ∃ b', e = .returned (.map (some b')) ∧ MapF w' (some b') (lessC l old) fa ∧ b' = b ∧ ApM b w w' := by
  have hq := fun w => run_eql_map_nil_sl (P := Try.prog) w 44 _ _ (some b) folderU
  have HM : Hid (MapF (w.alloc (.cells #[.int .i64 2, .string old, .string nm, .pointer none] 76)) (some b) l fa) := h.alloc _
  have HB : Hid (Apart (fun k => some b = some k) w (w.alloc (.cells #[.int .i64 2, .string old, .string nm, .pointer none] 76))) := apart_of (below_new w _) _
  have hlm : l.length < maxLen := by unfold maxLen; omega
  clear h
  go_enter Try.func49, Try.ntmps49
  go_wp2_with (at_delete; (refine drop_file rfl _ _ rfl _ l fa rfl HM.out old ho rfl ?_; intro w1 hm1 hg1 hs1))
  go_ret
  exact ⟨_, rfl, hm1, rfl, HB.out.same (apart_map hg1)⟩
set_option maxRecDepth 100000 in
set_option maxHeartbeats 1000000 in
theorem pwith_2n (w : World) (fa : Nat → Nat) (old nm : ByteArray) (f : Nat) (hn : nm.size ≤ maxLen) (ho : old.size ≤ maxLen) :
    Calls Try.prog 49 #[.map none, .agg #[.int .i64 2, .string old, .string nm, .pointer none]] w fun e w' => ∃ b', e = .returned (.map (some b')) ∧ MapF w' (some b') (lessC [] old) fa ∧ w.heap.size ≤ b' ∧ Below w.heap.size w w' := by
  have hq := fun w => run_eql_map_nil_sl (P := Try.prog) w 44 _ _ none folderU
  have HM : Hid (MapF ((w.alloc (.cells #[.int .i64 2, .string old, .string nm, .pointer none] 76)).alloc (.map #[] 0)) (some (w.heap.size + 1)) [] fa) := by
    have e := MapF.made (w.alloc (.cells #[.int .i64 2, .string old, .string nm, .pointer none] 76)) fa
    rw [show (w.alloc (.cells #[.int .i64 2, .string old, .string nm, .pointer none] 76)).heap.size = w.heap.size + 1 by simp] at e
    exact e
  have HB : Hid (Below w.heap.size w ((w.alloc (.cells #[.int .i64 2, .string old, .string nm, .pointer none] 76)).alloc (.map #[] 0))) := ((Below.refl _ w).alloc (Nat.le_refl _) _).alloc (by simp) _
  have HZ : Hid (w.heap.size ≤ (w.heap.size + 1)) := Nat.le_succ _
  have HZ2 : Hid (w.heap.size ≤ ((w.alloc (.cells #[.int .i64 2, .string old, .string nm, .pointer none] 76)).alloc (.map #[] 0)).heap.size) := by unfold Hid; simp; omega
  have hmm := @run_makeMap Try.prog
  go_enter Try.func49, Try.ntmps49
  go_wp2_with (at_delete; (refine drop_file rfl _ _ rfl _ [] fa rfl HM.out old ho rfl ?_; intro w1 hm1 hg1 hs1))
  go_ret
  exact ⟨_, rfl, hm1, HZ.out, HB.out.trans (apart_new hg1 HZ.out HZ2.out)⟩
theorem kind0 {x : ByteArray × ByteArray × Nat} (fa : Nat → Nat) (h1 : x.1.size = 0) : encG fa x = [.int .i64 0, .string x.1, .string x.2.1, .pointer (some ⟨fa x.2.2, 0, none⟩)] := by
  have : kindG x = 0 := by unfold kindG; rw [if_pos h1]
  unfold encG
  rw [this]
  rfl
theorem kind1 {x : ByteArray × ByteArray × Nat} (fa : Nat → Nat) (h1 : x.1.size ≠ 0) (h2 : x.2.1.size ≠ 0) : encG fa x = [.int .i64 1, .string x.1, .string x.2.1, .pointer (some ⟨fa x.2.2, 0, none⟩)] := by
  have : kindG x = 1 := by unfold kindG; rw [if_neg h1, if_neg h2]
  unfold encG
  rw [this]
  rfl
theorem kind2 {x : ByteArray × ByteArray × Nat} (fa : Nat → Nat) (h1 : x.1.size ≠ 0) (h2 : x.2.1.size = 0) : encG fa x = [.int .i64 2, .string x.1, .string x.2.1, .pointer none] := by
  have : kindG x = 2 := by unfold kindG; rw [if_neg h1, if_pos h2]
  unfold encG
  rw [this]
  rfl
theorem pwith_any (w : World) (m : Option Nat) (l : List (ByteArray × Nat)) (fa : Nat → Nat) (x : ByteArray × ByteArray × Nat) (h : MapF w m l fa) (hl : l.length ≤ 1099511627776) (hn : x.2.1.size ≤ maxLen) (ho : x.1.size ≤ maxLen) (hk : x.1.size = 0 → x.2.1.size ≠ 0) :
    Calls Try.prog 49 #[.map m, .agg (encG fa x).toArray] w fun e w' => WithP w m l fa x e w' := by
  have hnil : m = none → l = [] := fun e => by
    rcases h with ⟨_, h⟩ | ⟨b, hb, _⟩
    · exact h
    · rw [e] at hb; cases hb
  have two : ∀ r, r = withC l x → (∀ e w', (m = none → (∃ b', e = Ending.returned (.map (some b')) ∧ MapF w' (some b') r fa ∧ w.heap.size ≤ b' ∧ Below w.heap.size w w')) → (∀ b, m = some b → ∃ b', e = Ending.returned (.map (some b')) ∧ MapF w' (some b') r fa ∧ b' = b ∧ ApM b w w') → WithP w m l fa x e w') := by
    intro r hr e w' h1 h2
    subst hr
    cases m with
    | none =>
      obtain ⟨b, he, hm, hb, hbl⟩ := h1 rfl
      exact ⟨b, he, hm, .inr ⟨rfl, hb⟩, apart_of hbl _⟩
    | some b =>
      obtain ⟨b', he, hm, rfl, ha⟩ := h2 b rfl
      exact ⟨b', he, hm, .inl rfl, ha⟩
  by_cases h1 : x.1.size = 0
  · have h2 := hk h1
    rw [kind0 fa h1]
    have e0 := with0 l h1 h2
    cases m with
    | none =>
      have hl0 := hnil rfl
      subst hl0
      exact (pwith_0n w fa x.1 x.2.1 x.2.2 hn ho).mono fun e w' hp => two _ e0.symm e w' (fun _ => hp) (fun _ h => by cases h)
    | some b => exact (pwith_0 w b l fa x.1 x.2.1 x.2.2 h hl hn ho).mono fun e w' hp => two _ e0.symm e w' (fun h => by cases h) (fun _ h => by cases h; exact hp)
  · by_cases h2 : x.2.1.size = 0
    · rw [kind2 fa h1 h2]
      have e0 := with2 l h1 h2
      cases m with
      | none =>
        have hl0 := hnil rfl
        subst hl0
        exact (pwith_2n w fa x.1 x.2.1 x.2.2 hn ho).mono fun e w' hp => two _ e0.symm e w' (fun _ => hp) (fun _ h => by cases h)
      | some b => exact (pwith_2 w b l fa x.1 x.2.1 x.2.2 h hl hn ho).mono fun e w' hp => two _ e0.symm e w' (fun h => by cases h) (fun _ h => by cases h; exact hp)
    · rw [kind1 fa h1 h2]
      have e0 := with1 l h1 h2
      cases m with
      | none =>
        have hl0 := hnil rfl
        subst hl0
        exact (pwith_1n w fa x.1 x.2.1 x.2.2 hn ho).mono fun e w' hp => two _ e0.symm e w' (fun _ => hp) (fun _ h => by cases h)
      | some b => exact (pwith_1 w b l fa x.1 x.2.1 x.2.2 h hl hn ho).mono fun e w' hp => two _ e0.symm e w' (fun h => by cases h) (fun _ h => by cases h; exact hp)
end Go.Proofs.Ytlhmeebbdjiokaa
