/-
  Locks and defaults as numbers; the document's Sound, Good, Binds, Held, Erase, Retain, Begin, Covers.
-/
import Derived.Test.YtoaegepphkocoaaWhenRef
import Derived.Test.YtoaegepphkocoaaInS
import Derived.Test.YtoaegepphkocoaaByVal
namespace Go.Proofs.Ytoaegepphkocoaa
open Go.ChangeShapes Go.WideShapes Go.ChangeAt Go.RowKit
set_option linter.unusedVariables false
set_option linter.unusedSimpArgs false
abbrev lockV (m u : Int) (h : Bool) : Value := .agg #[.int .i64 m, .int .i64 u, .bool h]
abbrev defV (m d : Int) : Value := .agg #[.int .i64 m, .int .i64 d]
def soundL (m u : Int) : Bool := if m = 0 then decide (u = 0) else (decide (m = 1) || decide (m = 2)) && decide (clampN u = u)
def goodD (m d : Int) : Bool := if m = 0 then decide (d = 0) else (decide (m = 1) || decide (m = 2)) && (decide (1 ≤ d) && decide (d ≤ 36500))
def bindsL (m u t : Int) : Bool := if m = 0 then false else decide (t < u)
def heldL (m u : Int) (h : Bool) (t : Int) : Bool := h || bindsL m u t
def eraseL (m u : Int) (h : Bool) (t : Int) (b : Bool) : Nat := if soundL m u = false then 2 else if h = true then 13 else if bindsL m u t = true ∧ (m = 2 ∨ b = false) then 13 else 0
def retainE (m u : Int) (m2 u2 t : Int) (b : Bool) : Nat :=
  if soundL m u = false ∨ soundL m2 u2 = false then 2 else if m2 ≠ 0 ∧ u2 ≤ t then 4
  else if bindsL m u t = true ∧ ((m = 2 ∧ (m2 ≠ 2 ∨ u2 < u)) ∨ (m = 1 ∧ b = false ∧ (m2 = 0 ∨ u2 < u))) then 13 else 0
def retainV (m u : Int) (h : Bool) (m2 u2 t : Int) (b : Bool) : Value := if retainE m u m2 u2 t b = 0 then lockV m2 u2 h else lockV 0 0 false
def beginE (m d : Int) : Nat := if goodD m d = true then 0 else 2
def beginV (m d t : Int) : Value := if goodD m d = true ∧ m ≠ 0 then lockV m (daysN t d) false else lockV 0 0 false
def coversL (m u : Int) (h : Bool) (m2 u2 : Int) (h2 : Bool) (t : Int) : Bool := (!h2 || h) && (!bindsL m2 u2 t || (decide (m2 ≤ m) && decide (u2 ≤ u)))
def i64 (a : Int) : Prop := -9223372036854775808 ≤ a ∧ a ≤ 9223372036854775807
/-- A lock in a block of its own, and what a region that only reads and calls leaves. -/
def LockS (w0 : World) (g : Nat) (m u : Int) (h : Bool) (w : World) : Prop := (w.cell? ⟨g, 0, none⟩ = some (.int .i64 m) ∧ w.cell? ⟨g, 1, none⟩ = some (.int .i64 u) ∧ w.cell? ⟨g, 2, none⟩ = some (.bool h)) ∧ g < w.heap.size ∧ Below w0.heap.size w0 w
theorem LockS.new (w : World) (m u : Int) (h : Bool) : LockS w w.heap.size m u h (w.alloc (.cells #[.int .i64 m, .int .i64 u, .bool h] 23)).drew := by
  refine ⟨⟨?_, ?_, ?_⟩, by simp, (below_new w _).drew⟩ <;>
  · show (w.alloc _).cell? _ = _
    rw [cell_of_row _ w.heap.size _ _ _ _ (heap_alloc_last w _)]; rfl
theorem LockS.keep {w0 w w' : World} {g : Nat} {m u : Int} {h : Bool} (k : LockS w0 g m u h w) (hb : Below w.heap.size w w') : LockS w0 g m u h w' :=
  ⟨⟨(hb.cell (p := ⟨g, 0, none⟩) k.2.1).trans k.1.1, (hb.cell (p := ⟨g, 1, none⟩) k.2.1).trans k.1.2.1, (hb.cell (p := ⟨g, 2, none⟩) k.2.1).trans k.1.2.2⟩, Nat.lt_of_lt_of_le k.2.1 hb.size, k.2.2.trans (hb.mono k.2.2.size)⟩
/-- A lock's three cells. -/
def LockC (w : World) (g : Nat) (m u : Int) (h : Bool) : Prop := (w.cell? ⟨g, 0, none⟩ = some (.int .i64 m) ∧ w.cell? ⟨g, 1, none⟩ = some (.int .i64 u) ∧ w.cell? ⟨g, 2, none⟩ = some (.bool h)) ∧ g < w.heap.size
theorem LockC.new (w : World) (m u : Int) (h : Bool) : LockC (w.alloc (.cells #[.int .i64 m, .int .i64 u, .bool h] 23)) w.heap.size m u h := by
  refine ⟨⟨?_, ?_, ?_⟩, by simp⟩ <;>
  · rw [cell_of_row _ w.heap.size _ _ _ _ (heap_alloc_last w _)]; rfl
theorem LockC.keep {w w' : World} {g : Nat} {m u : Int} {h : Bool} (k : LockC w g m u h) (hb : Below w.heap.size w w') : LockC w' g m u h :=
  ⟨⟨(hb.cell (p := ⟨g, 0, none⟩) k.2).trans k.1.1, (hb.cell (p := ⟨g, 1, none⟩) k.2).trans k.1.2.1, (hb.cell (p := ⟨g, 2, none⟩) k.2).trans k.1.2.2⟩, Nat.lt_of_lt_of_le k.2 hb.size⟩
theorem sound_zero (u : Int) : soundL 0 u = (u == 0) := by unfold soundL; rw [if_pos rfl]; by_cases h : u = 0 <;> simp [h]
theorem sound_one {m : Int} (u : Int) (h : m = 1 ∨ m = 2) : soundL m u = (clampN u == u) := by
  unfold soundL
  rcases h with rfl | rfl <;> by_cases h : clampN u = u <;> simp [h]
theorem sound_other {m : Int} (u : Int) (h0 : m ≠ 0) (h1 : m ≠ 1) (h2 : m ≠ 2) : soundL m u = false := by unfold soundL; simp [h0, h1, h2]
set_option maxHeartbeats 1000000 in
theorem msound_ref (m u : Int) (h : Bool) (w : World) :
    Calls Try.prog 11 #[lockV m u h] w fun e w' => e = .returned (.bool (soundL m u)) ∧ Below w.heap.size w w' := by
  by_cases m0 : m = 0
  · subst m0
    have HS : Hid (soundL 0 u = (u == 0)) := sound_zero u
    go_enter Try.func11, Try.ntmps11
    go_wp2
    go_ret
    exact ⟨by rw [HS.out]; rfl, below_new w _⟩
  · have m0i : (m == 0) = false := beq_eq_false_iff_ne.2 m0
    have hS := LockS.new w m u h
    have HSS : Hid (LockS w w.heap.size m u h (w.alloc (.cells #[.int .i64 m, .int .i64 u, .bool h] 23)).drew) := hS
    have hne := InS.some hS
    have q0 : ∀ p : InS (LockS w w.heap.size m u h), p.w.cell? ⟨w.heap.size, 0, none⟩ = some (.int .i64 m) := fun p => p.h.1.1
    have q1 : ∀ p : InS (LockS w w.heap.size m u h), p.w.cell? ⟨w.heap.size, 1, none⟩ = some (.int .i64 u) := fun p => p.h.1.2.1
    have HC : Hid (∀ p : InS (LockS w w.heap.size m u h), Calls Try.prog 24 #[.int .i64 u] p.w fun e w' => e = .returned (.int .i64 (clampN u)) ∧ LockS w w.heap.size m u h w') := fun p =>
      (rclamp_any u p.w).mono fun e w' ⟨he, hw⟩ => ⟨he, by rw [hw]; exact p.h⟩
    clear hS
    go_enter Try.func11, Try.ntmps11
    go_wp2_with fail
    by_cases h12 : m = 1 ∨ m = 2
    · have HS : Hid (soundL m u = (clampN u == u)) := sound_one u h12
      rcases h12 with rfl | rfl
      · refine wp_region_in (S := LockS w w.heap.size 1 u h) (by kernel_rfl) (by kernel_rfl) HSS.out ?_
        repeat (go_big_quiet_step (refine Calls.in_of (HC.out _)))
        refine wpQuiet_nil ?_
        rintro _ ⟨p, rfl⟩
        have HB : Hid (Below w.heap.size w p.w) := p.h.2.2
        generalize p.w = w1 at *
        clear hne q0 q1 HC
        go_wp2_with fail
        go_ret
        exact ⟨by rw [HS.out]; rfl, HB.out⟩
      · refine wp_region_in (S := LockS w w.heap.size 2 u h) (by kernel_rfl) (by kernel_rfl) HSS.out ?_
        repeat (go_big_quiet_step (refine Calls.in_of (HC.out _)))
        refine wpQuiet_nil ?_
        rintro _ ⟨p, rfl⟩
        have HB : Hid (Below w.heap.size w p.w) := p.h.2.2
        generalize p.w = w1 at *
        clear hne q0 q1 HC
        go_wp2_with fail
        go_ret
        exact ⟨by rw [HS.out]; rfl, HB.out⟩
    · have m1i : (m == 1) = false := beq_eq_false_iff_ne.2 (fun e => h12 (.inl e))
      have m2i : (m == 2) = false := beq_eq_false_iff_ne.2 (fun e => h12 (.inr e))
      have HS : Hid (soundL m u = false) := sound_other u m0 (fun e => h12 (.inl e)) (fun e => h12 (.inr e))
      refine wp_region_in (S := LockS w w.heap.size m u h) (by kernel_rfl) (by kernel_rfl) HSS.out ?_
      repeat (go_big_quiet_step (refine Calls.in_of (HC.out _)))
      refine wpQuiet_nil ?_
      rintro _ ⟨p, rfl⟩
      have HB : Hid (Below w.heap.size w p.w) := p.h.2.2
      generalize p.w = w1 at *
      clear hne q0 q1 HC
      go_wp2_with fail
      go_ret
      exact ⟨by rw [HS.out]; rfl, HB.out⟩
theorem mbinds_ref (m u : Int) (h : Bool) (t : Int) (w : World) :
    Calls Try.prog 27 #[lockV m u h, .int .i64 t] w fun e w' => e = .returned (.bool (bindsL m u t)) ∧ Below w.heap.size w w' := by
  by_cases m0 : m = 0
  · subst m0
    go_enter Try.func27, Try.ntmps27
    go_wp2
    go_ret
    exact ⟨rfl, below_new w _⟩
  · have m0i : (m == 0) = false := beq_eq_false_iff_ne.2 m0
    have HS : Hid (bindsL m u t = decide (t < u)) := by unfold Hid bindsL; rw [if_neg m0]
    go_enter Try.func27, Try.ntmps27
    go_wp2
    go_ret
    exact ⟨by rw [HS.out]; rfl, below_new w _⟩
theorem mheld_ref (m u : Int) (h : Bool) (t : Int) (w : World) :
    Calls Try.prog 15 #[lockV m u h, .int .i64 t] w fun e w' => e = .returned (.bool (heldL m u h t)) ∧ Below w.heap.size w w' := by
  cases h with
  | true =>
    go_enter Try.func15, Try.ntmps15
    go_wp2
    go_ret
    exact ⟨rfl, below_new w _⟩
  | false =>
    go_enter Try.func15, Try.ntmps15
    go_wp2_with fail
    refine (mbinds_ref m u false t _).mono ?_
    rintro e w1 ⟨rfl, hb⟩
    have HB : Hid (Below w.heap.size w w1) := (below_new w _).trans (hb.mono (by simp))
    clear hb
    go_wp2_with fail
    go_ret
    exact ⟨rfl, HB.out⟩
theorem mgood_ref (m d : Int) (w : World) :
    Calls Try.prog 13 #[defV m d] w fun e w' => e = .returned (.bool (goodD m d)) ∧ Below w.heap.size w w' := by
  go_enter Try.func13, Try.ntmps13
  by_cases m0 : m = 0
  · subst m0
    have HS : Hid (goodD 0 d = (d == 0)) := by unfold Hid goodD; rw [if_pos rfl]; by_cases h : d = 0 <;> simp [h]
    go_wp2
    go_ret
    exact ⟨by rw [HS.out]; rfl, below_new w _⟩
  · have m0i : (m == 0) = false := beq_eq_false_iff_ne.2 m0
    go_wp2
    all_goals (go_ret; exact ⟨by show Ending.returned (.bool _) = Ending.returned (.bool _); congr 2; simp [goodD, *] <;> omega, below_new w _⟩)
theorem merase_ref (m u : Int) (h : Bool) (t : Int) (b : Bool) (w : World) :
    Calls Try.prog 17 #[lockV m u h, .int .i64 t, .bool b] w fun e w' => e = .returned (.int .i64 (eraseL m u h t b : Nat)) ∧ Below w.heap.size w w' := by
  have HC0 : Hid (LockC (w.alloc (.cells #[.int .i64 m, .int .i64 u, .bool h] 23)) w.heap.size m u h) := LockC.new w m u h
  have HB0 : Hid (Below w.heap.size w (w.alloc (.cells #[.int .i64 m, .int .i64 u, .bool h] 23))) := below_new w _
  go_enter Try.func17, Try.ntmps17
  go_wp2_with fail
  refine (msound_ref m u h _).mono ?_
  rintro e w1 ⟨rfl, hb1⟩
  have HC1 : Hid (LockC w1 w.heap.size m u h ∧ Below w.heap.size w w1) := ⟨HC0.out.keep hb1, HB0.out.trans (hb1.mono HB0.out.size)⟩
  clear hb1 HC0 HB0
  show _
  cases hs : soundL m u with
  | false =>
    have HE : Hid (eraseL m u h t b = 2) := by unfold Hid eraseL; rw [if_pos hs]
    clear hs
    go_wp2
    go_ret
    exact ⟨by rw [HE.out]; rfl, HC1.out.2⟩
  | true =>
    obtain ⟨⟨k0, k1, k2⟩, -⟩ := HC1.out.1
    cases h with
    | true =>
      have HE : Hid (eraseL m u true t b = 13) := by unfold Hid eraseL; rw [if_neg (by rw [hs]; decide), if_pos rfl]
      clear hs
      go_wp2
      go_ret
      exact ⟨by rw [HE.out]; rfl, HC1.out.2⟩
    | false =>
      have HE : Hid (eraseL m u false t b = if bindsL m u t = true ∧ (m = 2 ∨ b = false) then 13 else 0) := by unfold Hid eraseL; rw [if_neg (by rw [hs]; decide), if_neg (by decide)]
      clear hs
      go_wp2_with fail
      refine (mbinds_ref m u false t _).mono ?_
      rintro e w2 ⟨rfl, hb2⟩
      have HC2 : Hid (LockC w2 w.heap.size m u false ∧ Below w.heap.size w w2) := ⟨HC1.out.1.keep hb2, HC1.out.2.trans (hb2.mono HC1.out.2.size)⟩
      clear hb2 k0 k1 k2 HC1
      obtain ⟨⟨k0, k1, k2⟩, -⟩ := HC2.out.1
      show _
      cases hbd : bindsL m u t with
      | false =>
        rw [hbd] at HE
        clear hbd
        go_wp2
        go_ret
        exact ⟨by rw [HE.out]; rfl, HC2.out.2⟩
      | true =>
        rw [hbd] at HE
        clear hbd
        cases b <;>
        · go_wp2
          all_goals (go_ret; exact ⟨by rw [HE.out]; simp [*], HC2.out.2⟩)
/-- A block that holds just a lock. -/
def LockB (w : World) (g : Nat) (m u : Int) (h : Bool) : Prop := w.heap[g]? = some (.cells #[.int .i64 m, .int .i64 u, .bool h] 23 (0, 0))
theorem LockB.lt {w : World} {g : Nat} {m u : Int} {h : Bool} (k : LockB w g m u h) : g < w.heap.size := (Array.getElem?_eq_some_iff.1 k).1
theorem LockB.cells {w : World} {g : Nat} {m u : Int} {h : Bool} (k : LockB w g m u h) : LockC w g m u h := by
  refine ⟨⟨?_, ?_, ?_⟩, k.lt⟩ <;>
  · rw [cell_of_row _ g _ _ _ _ k]; rfl
theorem LockB.new (w : World) (m u : Int) (h : Bool) : LockB (w.alloc (.cells #[.int .i64 m, .int .i64 u, .bool h] 23)) w.heap.size m u h := heap_alloc_last w _
theorem LockB.below {w w' : World} {g : Nat} {m u : Int} {h : Bool} (k : LockB w g m u h) (hb : Below w.heap.size w w') : LockB w' g m u h := (hb.block g k.lt).trans k
theorem lockInfo : (Try.prog.info? 23).map (·.size) = some 3 := by kernel_rfl
theorem LockB.load {w : World} {g : Nat} {m u : Int} {h : Bool} (k : LockB w g m u h) : (loadVar 23 ⟨g, 0, none⟩).run Try.prog w = .ok (lockV m u h) w :=
  run_loadVar_row w g 23 23 _ (0, 0) _ k Try.underlying23 rfl lockInfo
theorem LockB.store {w : World} {g : Nat} {m u : Int} {h : Bool} (k : LockB w g m u h) (m2 u2 : Int) (h2 : Bool) :
    (storeVar 23 ⟨g, 0, none⟩ (lockV m2 u2 h2)).run Try.prog w = .ok () (w.setRow g #[.int .i64 m2, .int .i64 u2, .bool h2]) ∧ LockB (w.setRow g #[.int .i64 m2, .int .i64 u2, .bool h2]) g m2 u2 h2 :=
  ⟨run_storeVar_row w g 23 23 _ #[.int .i64 m2, .int .i64 u2, .bool h2] k lockInfo rfl (by simp [Value.oneCell']), setRow_heap w g _ _ _ _ k⟩
theorem below_row {B : Nat} {a w : World} (h : Below B a w) {g : Nat} (hg : B ≤ g) (c : Array Value) : Below B a (w.setRow g c) :=
  h.trans ⟨rfl, rfl, rfl, by simp [World.setRow], fun k hk => setRow_other w g k c (by omega)⟩
theorem results_ct {fn : Func} {p q : Tmp} {ty : TypeId} (h : fn.results = #[.cell p ty, .tmp q]) (tmps : Array Value) (P : Program) (w : World) (g : Nat) (hp : tmps.getD p undef = .pointer (some ⟨g, 0, none⟩)) (v : Value) (hv : (loadVar ty ⟨g, 0, none⟩).run P w = .ok v w) :
    (results fn tmps).run P w = .ok (.tuple #[v, tmps.getD q undef]) w := by
  have hp' : tmps[p]?.getD undef = .pointer (some ⟨g, 0, none⟩) := by simpa using hp
  simp [results, h, hp', asAddr, hv, Sem.run_bind, Result.andThen]
theorem lock_end {w w' : World} {R : Nat} {x y : Int} {z : Bool} (hB : Below w.heap.size w w') (hR : w.heap.size ≤ R) (k : LockB w' R x y z) (m u : Int) (h : Bool) :
    (storeVar 23 ⟨R, 0, none⟩ (lockV m u h)).run Try.prog w' = .ok () (w'.setRow R #[.int .i64 m, .int .i64 u, .bool h]) ∧ Below w.heap.size w (w'.setRow R #[.int .i64 m, .int .i64 u, .bool h]) ∧
      (loadVar 23 ⟨R, 0, none⟩).run Try.prog (w'.setRow R #[.int .i64 m, .int .i64 u, .bool h]) = .ok (lockV m u h) (w'.setRow R #[.int .i64 m, .int .i64 u, .bool h]) :=
  ⟨(k.store m u h).1, below_row hB hR _, (k.store m u h).2.load⟩
end Go.Proofs.Ytoaegepphkocoaa
