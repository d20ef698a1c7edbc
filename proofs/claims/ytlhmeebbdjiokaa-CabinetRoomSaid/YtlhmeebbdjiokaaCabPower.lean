/-
  The document's cabinet: power, Fail, part, New, Turn, Read.
-/
import Derived.Test.YtlhmeebbdjiokaaCabAt
namespace Go.Proofs.Ytlhmeebbdjiokaa
open Go.ChangeShapes Go.WideShapes Go.ChangeAt Go.RowKit
set_option linter.unusedVariables false
set_option linter.unusedSimpArgs false
/-- The time that is left is not below none. -/
def TimeC (c : CabM) : Prop := c.timed = true → 0 ≤ c.after ∧ c.after ≤ 9223372036854775807
theorem time_power {c : CabM} (h : TimeC c) : TimeC (powerC c) := by
  unfold powerC
  split
  · exact h
  · rename_i h1
    split
    · rename_i h2
      intro _
      have := h h2
      rw [h2, Bool.true_and, decide_eq_true_eq] at h1
      show 0 ≤ c.after - 1 ∧ c.after - 1 ≤ 9223372036854775807
      omega
    · exact h
set_option maxHeartbeats 1000000 in
theorem rpower_any (w : World) (g : Nat) (O : Nat → Prop) (c : CabM) (h : CabAt w g O c) (ht : TimeC c) :
    Calls Try.prog 54 #[.pointer (some ⟨g, 0, none⟩)] w fun e w' => e = .returned (.int .i64 (powerE c : Nat)) ∧ CabPost w g O (powerC c) w' := by
  obtain ⟨vf, vn, vs, vw, hraw⟩ := h
  obtain ⟨c0, c1, c2, c3, c4, c5, c6, c7⟩ := hraw.cells
  have f5 := hraw.frozen 5
  have f7 := hraw.frozen 7
  have HRAW : Hid (CabRaw w g O c vf vn vs vw) := hraw
  clear c0 c1 c2 c3 c4 hraw
  cases htm : c.timed with
  | true =>
    obtain ⟨t0, t1⟩ := ht htm
    rw [htm] at c6
    by_cases ha : c.after = 0
    · have HE : Hid (powerE c = 11) := by unfold Hid powerE; rw [htm, ha]; rfl
      have HC : Hid (powerC c = { c with off := true }) := by unfold Hid powerC; rw [htm, ha]; rfl
      have HP : Hid (CabPost w g O (powerC c) (w.setCell ⟨g, 7, none⟩ (.bool true))) := by
        unfold Hid
        rw [HC.out]
        exact (HRAW.out.plain (c' := { c with off := true }) 7 (.bool true) rfl rfl rfl rfl rfl).post ((Apart.refl _ _).set HRAW.out.parts.2.2.2.2.1 _ _)
      rw [ha] at c5
      clear ha htm HC HRAW t0 t1
      go_enter Try.func54, Try.ntmps54
      go_wp2_with fail
      go_ret
      exact ⟨by rw [HE.out]; rfl, HP.out⟩
    · have HE : Hid (powerE c = 0) := by unfold Hid powerE; rw [htm, decide_eq_false ha]; rfl
      have HC : Hid (powerC c = { c with after := c.after - 1 }) := by unfold Hid powerC; rw [htm, decide_eq_false ha]; rfl
      have HP : Hid (CabPost w g O (powerC c) (w.setCell ⟨g, 5, none⟩ (.int .i64 (c.after - 1)))) := by
        unfold Hid
        rw [HC.out]
        exact (HRAW.out.plain (c' := { c with after := c.after - 1 }) 5 (.int .i64 (c.after - 1)) rfl rfl rfl rfl rfl).post ((Apart.refl _ _).set HRAW.out.parts.2.2.2.2.1 _ _)
      have hb : (c.after == 0) = false := by rw [beq_eq_false_iff_ne]; exact ha
      have hm : -9223372036854775808 ≤ c.after - 1 := by omega
      clear ha htm HC HRAW
      generalize c.after = z at *
      go_enter Try.func54, Try.ntmps54
      go_wp2_with fail
      go_ret
      exact ⟨by rw [HE.out]; rfl, HP.out⟩
  | false =>
    have HE : Hid (powerE c = 0) := by unfold Hid powerE; rw [htm]; rfl
    have HC : Hid (powerC c = c) := by unfold Hid powerC; rw [htm]; rfl
    have HP : Hid (CabPost w g O (powerC c) w) := by unfold Hid; rw [HC.out]; exact HRAW.out.post (Apart.refl _ _)
    rw [htm] at c6
    clear htm HC HRAW
    go_enter Try.func54, Try.ntmps54
    go_wp2_with fail
    go_ret
    exact ⟨by rw [HE.out]; rfl, HP.out⟩
theorem rfail_any (w : World) (g : Nat) (O : Nat → Prop) (c : CabM) (h : CabAt w g O c) (z : Int) :
    Calls Try.prog 17 #[.pointer (some ⟨g, 0, none⟩), .int .i64 z] w fun e w' => e = .returned (.tuple #[]) ∧ CabPost w g O (failC c z) w' := by
  obtain ⟨vf, vn, vs, vw, hraw⟩ := h
  obtain ⟨c0, c1, c2, c3, c4, c5, c6, c7⟩ := hraw.cells
  have f5 := hraw.frozen 5
  have f6 := hraw.frozen 6
  have hr6 : CabRaw (w.setCell ⟨g, 6, none⟩ (.bool (decide (0 ≤ z)))) g O { c with timed := decide (0 ≤ z) } vf vn vs vw := hraw.plain 6 (.bool (decide (0 ≤ z))) rfl rfl rfl rfl rfl
  have d5 := hr6.cells.2.2.2.2.2.1
  have e5 := hr6.frozen 5
  have HP : Hid (CabPost w g O (failC c z) ((w.setCell ⟨g, 6, none⟩ (.bool (decide (0 ≤ z)))).setCell ⟨g, 5, none⟩ (.int .i64 z))) := by
    unfold Hid failC
    exact (hr6.plain (c' := { c with timed := decide (0 ≤ z), after := z }) 5 (.int .i64 z) rfl rfl rfl rfl rfl).post (((Apart.refl _ _).set hraw.parts.2.2.2.2.1 _ _).set hraw.parts.2.2.2.2.1 _ _)
  clear hr6 hraw c0 c1 c2 c3 c4 c7
  go_enter Try.func17, Try.ntmps17
  go_wp2_with fail
  go_end0
  exact ⟨rfl, HP.out⟩
theorem rpart_any (w : World) (z : Int) (m : Nat) :
    Calls Try.prog 45 #[.int .i64 z, .int .i64 (m : Nat)] w fun e w' => e = .returned (.int .i64 (partC z m : Nat)) ∧ w' = w := by
  have HP : Hid (partC z m = if z < 0 then 0 else if (m : Int) < z then m else z.toNat) := rfl
  by_cases h0 : z < 0
  · rw [if_pos h0] at HP
    go_enter Try.func45, Try.ntmps45
    go_wp2_with fail
    go_ret
    exact ⟨by rw [HP.out]; rfl, rfl⟩
  · rw [if_neg h0] at HP
    by_cases h1 : (m : Int) < z
    · rw [if_pos h1] at HP
      go_enter Try.func45, Try.ntmps45
      go_wp2_with fail
      go_ret
      exact ⟨by rw [HP.out]; rfl, rfl⟩
    · rw [if_neg h1] at HP
      have HZ : Hid (((z.toNat : Nat) : Int) = z) := Int.toNat_of_nonneg (by omega)
      go_enter Try.func45, Try.ntmps45
      go_wp2_with fail
      go_ret
      exact ⟨by rw [HP.out, HZ.out]; rfl, rfl⟩
/-- A change: its own error; else that of the power; else it is done. -/
def doneC (e : Nat) (c : CabM) (f : CabM → CabM) : Nat × CabM := if e = 0 then (if powerE c = 0 then (0, f (powerC c)) else (powerE c, powerC c)) else (e, c)
theorem done_no {e : Nat} (he : e ≠ 0) (c : CabM) (f : CabM → CabM) : doneC e c f = (e, c) := by unfold doneC; rw [if_neg he]
theorem done_down {c : CabM} (h : powerE c = 11) (f : CabM → CabM) : doneC 0 c f = (11, powerC c) := by unfold doneC; rw [if_pos rfl, if_neg (by rw [h]; decide), h]
theorem done_yes {c : CabM} (h : powerE c = 0) (f : CabM → CabM) : doneC 0 c f = (0, f (powerC c)) := by unfold doneC; rw [if_pos rfl, if_pos h]
theorem power_two (c : CabM) : powerE c = 0 ∨ powerE c = 11 := by unfold powerE; split <;> simp
def turnR (c : CabM) : Nat × CabM := doneC (turnE c) c turnC
set_option maxHeartbeats 1000000 in
theorem rturn_any (w : World) (g : Nat) (O : Nat → Prop) (c : CabM) (h : CabAt w g O c) (ht : TimeC c) :
    Calls Try.prog 44 #[.pointer (some ⟨g, 0, none⟩)] w fun e w' => e = .returned (.int .i64 ((turnR c).1 : Nat)) ∧ CabPost w g O (turnR c).2 w' := by
  have HPW : Hid _ := rpower_any w g O c h ht
  obtain ⟨vf, vn, vs, vw, hraw⟩ := h
  obtain ⟨c0, c1, c2, c3, c4, c5, c6, c7⟩ := hraw.cells
  have HRAW : Hid (CabRaw w g O c vf vn vs vw) := hraw
  clear hraw c0 c1 c2 c3 c4 c5 c6
  cases hoff : c.off with
  | true =>
    rw [hoff] at c7
    have HR : Hid (turnR c = (11, c)) := by unfold Hid turnR turnE; rw [hoff]; exact done_no (by decide) _ _
    clear HPW hoff
    go_enter Try.func44, Try.ntmps44
    go_wp2_with fail
    go_ret
    exact ⟨by rw [HR.out]; rfl, by rw [HR.out]; exact HRAW.out.post (Apart.refl _ _)⟩
  | false =>
    rw [hoff] at c7
    have HT0 : Hid (turnR c = doneC 0 c turnC) := by unfold Hid turnR turnE; rw [hoff]; rfl
    clear hoff HRAW
    rcases power_two c with hpe | hpe
    · have HR : Hid (turnR c = (0, turnC (powerC c))) := HT0.out.trans (done_yes hpe _)
      rw [hpe] at HPW
      clear hpe HT0
      go_enter Try.func44, Try.ntmps44
      go_wp2_with fail
      refine Calls.mono HPW.out ?_
      rintro _ w1 ⟨rfl, ⟨O1, hc1, hO1⟩, ha1⟩
      clear HPW c7
      have HA1 : Hid (Apart O w w1) := ha1
      have HO1 : Hid (∀ b, O1 b → O b ∨ w.heap.size ≤ b) := hO1
      generalize powerC c = c' at *
      obtain ⟨af, nf, cf, an, nn, cn, az, ns, cs, aw, nw, cw, hraw, -⟩ := hc1.open
      obtain ⟨c0, c1, c2, c3, c4, c5, c6, c7⟩ := hraw.cells
      have f3 := hraw.frozen 3
      obtain ⟨p1, p2, p3, p4, p5, p6, p7, p8, p9, p10⟩ := hraw.parts
      have hr3 : CabRaw (w1.setCell ⟨g, 3, none⟩ (.slice an nn cn)) g O1 { c' with sure := c'.now } (.slice af nf cf) (.slice an nn cn) (.slice an nn cn) (.slice aw nw cw) := hraw.field (c' := { c' with sure := c'.now }) 3 (.slice an nn cn) rfl O1 (fun _ h => h) p10 p1 p2 p2 p4 p6 p7 p7 p9
      obtain ⟨q1, q2, q3, q4, q5, q6, q7, q8, q9, q10⟩ := hr3.parts
      have d4 := hr3.cells.2.2.2.2.1
      have g4 := hr3.frozen 4
      have hown0 : OwnX (w1.setCell ⟨g, 3, none⟩ (.slice an nn cn)) (.slice none 0 0) [] := ⟨rfl, .inl ⟨rfl, rfl⟩⟩
      have HP : Hid (CabPost w g O (turnC c') ((w1.setCell ⟨g, 3, none⟩ (.slice an nn cn)).setCell ⟨g, 4, none⟩ (.slice none 0 0))) := by
        refine CabPost.trans HO1.out HA1.out (CabRaw.post (vf := .slice af nf cf) (vn := .slice an nn cn) (vs := .slice an nn cn) (vw := .slice none 0 0) ?_ (((Apart.refl _ _).set p5 _ _).set p5 _ _))
        exact hr3.field (c' := turnC c') 4 (.slice none 0 0) rfl O1 (fun _ h => h) q10 q1 q2 q3 hown0 q6 q7 q8 (fun b hb => by cases hb)
      clear hr3 hraw hown0 c0 c1 c4 c5 c6 c7 HA1 HO1 p1 p2 p3 p4 p5 p6 p7 p8 p9 p10 q1 q2 q3 q4 q5 q6 q7 q8 q9 q10 hc1 hO1 ha1
      go_wp2_with fail
      go_ret
      exact ⟨by rw [HR.out]; rfl, by rw [HR.out]; exact HP.out⟩
    · have HR : Hid (turnR c = (11, powerC c)) := HT0.out.trans (done_down hpe _)
      rw [hpe] at HPW
      clear hpe HT0
      go_enter Try.func44, Try.ntmps44
      go_wp2_with fail
      refine Calls.mono HPW.out ?_
      rintro _ w1 ⟨rfl, hp⟩
      have HP : Hid (CabPost w g O (powerC c) w1) := hp
      clear HPW c7 hp
      go_wp2_with fail
      go_ret
      exact ⟨by rw [HR.out]; rfl, by rw [HR.out]; exact HP.out⟩
end Go.Proofs.Ytlhmeebbdjiokaa
