/-
  PackBack: for all fields (of at most 60 the first), where what comes in is of bulk at most 1048576: what was written is read as it was, and nothing is left.
-/
import Derived.Test.YtngojkleehgbaaaPArgs
import Derived.Test.YtngojkleehgbaaaPackElem
import Derived.Test.YtngojkleehgbaaaHeld
namespace Go.Proofs.Ytngojkleehgbaaa.packBackUpto
open Go.ChangeShapes Go.WideShapes Go.ChangeAt Go.RowKit
open Go.ChangeMaps (open_string shut_string)
set_option linter.unusedVariables false
set_option linter.unusedSimpArgs false
def encB (x : Fld) : List Nat := ((((pkN x.2.1 ++ pkN (zigN x.2.2.1)) ++ flagN (decide (x.2.1 % 2 = 1))) ++ textN x.2.2.2.1) ++ x.2.2.2.2)
def allB (fs : List Fld) : Nat → List Nat
  | 0 => []
  | i + 1 => allB fs i ++ encB (fldAt fs i)
def restB (fs : List Fld) (i : Nat) : Nat → List Nat
  | 0 => []
  | m + 1 => encB (fldAt fs i) ++ restB fs (i + 1) m
theorem rest_snoc (fs : List Fld) : ∀ (m i : Nat), restB fs i (m + 1) = restB fs i m ++ encB (fldAt fs (i + m))
  | 0, i => by simp [restB]
  | m + 1, i => by
    rw [restB, rest_snoc fs m (i + 1), restB, List.append_assoc, show i + 1 + m = i + (m + 1) by omega]
theorem all_rest (fs : List Fld) : ∀ n, allB fs n = restB fs 0 n
  | 0 => rfl
  | n + 1 => by rw [allB, all_rest fs n, rest_snoc, Nat.zero_add]
theorem encB_len {x : Fld} (h : FldOk x) (hs : x.2.2.2.1.size ≤ 1048576) : (encB x).length ≤ 1048700 := by
  have p1 := (pkN_len x.2.1).2
  have p2 := (pkN_len (zigN x.2.2.1)).2
  have p3 := (pkN_len x.2.2.2.1.size).2
  have p4 := h.2.2.2.1
  unfold encB textN flagN
  simp [txt_length]
  omega
theorem allB_len {fs : List Fld} {n : Nat} (h : ∀ i, i < n → FldOk (fldAt fs i)) (hs : ∀ i, i < n → (fldAt fs i).2.2.2.1.size ≤ 1048576) : ∀ i, i ≤ n → (allB fs i).length ≤ i * 1048700
  | 0, _ => Nat.zero_le _
  | i + 1, hi => by
    have ih := allB_len h hs i (by omega)
    have := encB_len (h i (by omega)) (hs i (by omega))
    rw [allB, List.length_append]; omega
theorem allB_byt {fs : List Fld} {n : Nat} (h : ∀ i, i < n → FldOk (fldAt fs i)) (hs : ∀ i, i < n → (fldAt fs i).2.2.2.1.size ≤ 1048576) : ∀ i, i ≤ n → Byt (allB fs i)
  | 0, _ => Byt.nil
  | i + 1, hi => by
    have ih := allB_byt h hs i (by omega)
    obtain ⟨k1, k2, k3, k4, k5⟩ := h i (by omega)
    have k6 := hs i (by omega)
    refine ih.app (((((pkN_byt _ k2).app (pkN_byt _ (zigN_le _ k3.1 k3.2).1)).app ?_).app ((pkN_byt _ (by omega)).app (Byt.txt _))).app k5)
    intro c hc
    unfold flagN at hc
    simp at hc
    subst hc
    split <;> decide
theorem encB_assoc (X : Fld) (R : List Nat) : encB X ++ R = pkN X.2.1 ++ (pkN (zigN X.2.2.1) ++ (flagN (decide (X.2.1 % 2 = 1)) ++ (textN X.2.2.2.1 ++ (X.2.2.2.2 ++ R)))) := by
  unfold encB
  simp only [List.append_assoc]
theorem FldBlk.lt {w : World} {g : Nat} {x : Fld} (h : FldBlk w g x) : g < w.heap.size := (Array.getElem?_eq_some_iff.1 h).1
theorem rd_num (z : World) (G r n : Nat) (R : List Nat) (hn : n ≤ 18446744073709551615) (h : RdAt z G r (pkN n ++ R, 0)) : Calls Try.prog 22 #[.pointer (some ⟨G, 0, none⟩)] z (RdR z G r (.int .u64 (n : Nat)) (R, 0)) := by
  have := pnum_any z G r _ h
  rw [num_read n hn R] at this
  exact this
theorem rd_int (z : World) (G r : Nat) (a : Int) (R : List Nat) (a0 : -9223372036854775808 ≤ a) (a1 : a ≤ 9223372036854775807) (h : RdAt z G r (pkN (zigN a) ++ R, 0)) : Calls Try.prog 24 #[.pointer (some ⟨G, 0, none⟩)] z (RdR z G r (.int .i64 a) (R, 0)) := by
  have := pint_any z G r _ h
  have e := int_read a a0 a1 R
  unfold intS at e
  rw [Prod.mk.injEq] at e
  rw [e.1, e.2] at this
  exact this
theorem rd_flag (z : World) (G r : Nat) (b : Bool) (R : List Nat) (h : RdAt z G r (flagN b ++ R, 0)) : Calls Try.prog 25 #[.pointer (some ⟨G, 0, none⟩)] z (RdR z G r (.bool b) (R, 0)) := by
  have := pflag_any z G r _ h
  rw [flag_read b R] at this
  exact this
theorem rd_text (z : World) (G r : Nat) (s : ByteArray) (R : List Nat) (hs : s.size ≤ 16384) (h : RdAt z G r (textN s ++ R, 0)) : Calls Try.prog 27 #[.pointer (some ⟨G, 0, none⟩)] z (RdR z G r (.string s) (R, 0)) := by
  have := ptext_any z G r _ h
  rw [text_read s hs R] at this
  rw [strN_txt] at this
  exact this
theorem rd_dig (z : World) (G r : Nat) (d R : List Nat) (hd : d.length = 32) (h : RdAt z G r (d ++ R, 0)) : Calls Try.prog 29 #[.pointer (some ⟨G, 0, none⟩)] z (RdR z G r (.agg (encL .u8 d)) (R, 0)) := by
  have := pdigest_any z G r _ h
  rw [digest_read d hd R] at this
  exact this
theorem odd_dec (n : Nat) : (((n : Nat) : Int) % 2 == 1) = decide (n % 2 = 1) := by
  by_cases h : n % 2 = 1
  · rw [decide_eq_true h, beq_iff_eq]; omega
  · rw [decide_eq_false h, beq_eq_false_iff_ne]; omega
set_option maxRecDepth 100000 in
set_option maxHeartbeats 16000000 in
theorem walk (w : World) (a0 : Option Addr) (len0 cap0 : Nat) (x0 : List Fld) (w0 : ArgF w a0 len0 x0) (lc0 : len0 ≤ cap0) (mc0 : cap0 ≤ maxLen) (bu0 : ∀ i, i < len0 → (fldAt x0 i).2.2.2.1.size ≤ 1048576) :
    Calls Try.prog 5 #[.slice a0 len0 cap0] w fun e w' => e = .returned (.bool true) ∧ Below w.heap.size w w' := by
  have hl0 : len0 ≤ 9223372036854775807 := by unfold maxLen at mc0; omega
  have hc0 : len0 ≤ cap0 := lc0
  have HARG : Hid (ArgF w a0 len0 x0 ∧ ∀ i, i < len0 → (fldAt x0 i).2.2.2.1.size ≤ 1048576) := ⟨w0, bu0⟩
  clear w0 bu0 lc0 mc0
  go_enter Try.func5, Try.ntmps5
  go_wp2_with fail
  refine (new_any w).mono ?_
  rintro _ v1 ⟨rfl, hW1, b1⟩
  by_cases h60 : 60 < len0
  · have h60' : (60 : Int) < (len0 : Int) := by omega
    have HNN : Hid (60 ≤ 60 ∧ 60 ≤ len0) := by unfold Hid; omega
    go_wp2_with fail
    go_loopw [4] (fun ix wr => ∃ (wz : World) (i : Nat), wz = wr ∧ ix = .int .i64 i ∧ i ≤ 60 ∧ WAt wz w.heap.size (allB x0 i) ∧ Below w.heap.size w wz) (fun ix _ => 60 - (intOf ix).toNat)
    case atStart => exact ⟨_, 0, rfl, rfl, by omega, hW1, b1⟩
    case round =>
      obtain ⟨wr, i, hwr, rfl, hin, hWr, hbr⟩ := hrel
      subst hwr
      have hyl := allB_len (fun i hi => HARG.out.1.2.1 i (by omega)) (fun i hi => HARG.out.2 i (by omega)) (n := 60) i hin
      have hnn : 60 ≤ 60 ∧ 60 ≤ len0 := HNN.out
      by_cases hil : i < 60
      · obtain ⟨b, off, rfl, hb, -⟩ := HARG.out.1.at hbr i (by omega)
        have hok := HARG.out.1.2.1 i (by omega)
        have hsz := HARG.out.2 i (by omega)
        have HCELL : Hid (∀ W, Below w.heap.size w W → W.cell? ⟨b, off + i * 36, none⟩ = some (.int .i64 (fldAt x0 i).1) ∧ W.cell? ⟨b, off + i * 36 + 1, none⟩ = some (.int .u64 ((fldAt x0 i).2.1 : Nat)) ∧ W.cell? ⟨b, off + i * 36 + 2, none⟩ = some (.int .i64 (fldAt x0 i).2.2.1) ∧ W.cell? ⟨b, off + i * 36 + 3, none⟩ = some (.string (fldAt x0 i).2.2.2.1) ∧
            (loadVar 27 ⟨b, off + i * 36 + 4, none⟩).run Try.prog W = .ok (.agg (encL .u8 (fldAt x0 i).2.2.2.2)) W) := by
          intro W hW
          obtain ⟨b', off', he, -, hc⟩ := HARG.out.1.at hW i (by omega)
          cases he
          exact ⟨hc 0 (by omega), hc 1 (by omega), hc 2 (by omega), hc 3 (by omega), fld_digest hc hok.2.2.2.1⟩
        have HENC : Hid (allB x0 (i + 1) = allB x0 i ++ encB (fldAt x0 i)) := rfl
        generalize allB x0 i = ys at *
        generalize fldAt x0 i = X at *
        have HOK : Hid (FldOk X) := hok
        have HFL : Hid ((((X.2.1 : Nat) : Int) % 2 == 1) = decide (X.2.1 % 2 = 1)) := odd_dec X.2.1
        have HLEN : Hid (ys.length ≤ 70000000 ∧ X.2.2.2.1.size ≤ 1048576) := by unfold Hid; omega
        have HBR : Hid (Below w.heap.size w wr) := hbr
        have hW0 : WAt wr.drew w.heap.size ys := hWr
        clear hok hsz hyl hWr hb
        go_wp2_with fail
        refine wp_region_held_drew (S := fun w' => Below w.heap.size w w') (by kernel_rfl) (HBR.out.drew) (fun hHeld => ?_)
        refine held_take 0 (some 20) (.pointer (some ⟨w.heap.size, 0, none⟩)) rfl rfl (by kernel_rfl) (by kernel_rfl) (by kernel_rfl) (fun _ _ _ h => h) rfl (fun w' hS => ?_) hHeld ?_
        · clear hS; go_simp
        try simp only [Act.put, List.setIfInBounds_toArray, List.set_cons_zero, List.set_cons_succ]
        refine held_take 1 (some 21) (.slice (some ⟨b, off, none⟩) 60 cap0) rfl rfl (by kernel_rfl) (by kernel_rfl) (by kernel_rfl) (fun _ _ _ h => h) rfl (fun w' hS => ?_) hHeld ?_
        · clear hS; go_simp
        try simp only [Act.put, List.setIfInBounds_toArray, List.set_cons_zero, List.set_cons_succ]
        refine held_take 2 (some 22) (.int .i64 (i : Nat)) rfl rfl (by kernel_rfl) (by kernel_rfl) (by kernel_rfl) (fun _ _ _ h => h) rfl (fun w' hS => ?_) hHeld ?_
        · clear hS; go_simp
        try simp only [Act.put, List.setIfInBounds_toArray, List.set_cons_zero, List.set_cons_succ]
        refine held_take 3 (some 23) (.pointer (some ⟨b, off + i * 36, none⟩)) rfl rfl (by kernel_rfl) (by kernel_rfl) (by kernel_rfl) (fun _ _ _ h => h) rfl (fun w' hS => ?_) hHeld ?_
        · clear hS; go_simp
        try simp only [Act.put, List.setIfInBounds_toArray, List.set_cons_zero, List.set_cons_succ]
        refine held_take 4 (some 24) (.pointer (some ⟨b, off + i * 36 + 1, none⟩)) rfl rfl (by kernel_rfl) (by kernel_rfl) (by kernel_rfl) (fun _ _ _ h => h) rfl (fun w' hS => ?_) hHeld ?_
        · clear hS; go_simp
        try simp only [Act.put, List.setIfInBounds_toArray, List.set_cons_zero, List.set_cons_succ]
        refine held_take 5 (some 25) (.int .u64 (X.2.1 : Nat)) rfl rfl (by kernel_rfl) (by kernel_rfl) (by kernel_rfl) (fun _ _ _ h => h) rfl (fun w' hS => ?_) hHeld ?_
        · have := HCELL.out _ hS; obtain ⟨c0, c1, c2, c3, -⟩ := this; clear hS; go_simp
        try simp only [Act.put, List.setIfInBounds_toArray, List.set_cons_zero, List.set_cons_succ]
        refine held_take 7 (some 27) (.slice (some ⟨b, off, none⟩) 60 cap0) rfl rfl (by kernel_rfl) (by kernel_rfl) (by kernel_rfl) (fun _ _ _ h => h) rfl (fun w' hS => ?_) hHeld ?_
        · clear hS; go_simp
        try simp only [Act.put, List.setIfInBounds_toArray, List.set_cons_zero, List.set_cons_succ]
        refine held_take 8 (some 28) (.int .i64 (i : Nat)) rfl rfl (by kernel_rfl) (by kernel_rfl) (by kernel_rfl) (fun _ _ _ h => h) rfl (fun w' hS => ?_) hHeld ?_
        · clear hS; go_simp
        try simp only [Act.put, List.setIfInBounds_toArray, List.set_cons_zero, List.set_cons_succ]
        refine held_take 9 (some 29) (.pointer (some ⟨b, off + i * 36, none⟩)) rfl rfl (by kernel_rfl) (by kernel_rfl) (by kernel_rfl) (fun _ _ _ h => h) rfl (fun w' hS => ?_) hHeld ?_
        · clear hS; go_simp
        try simp only [Act.put, List.setIfInBounds_toArray, List.set_cons_zero, List.set_cons_succ]
        refine held_take 10 (some 30) (.pointer (some ⟨b, off + i * 36 + 2, none⟩)) rfl rfl (by kernel_rfl) (by kernel_rfl) (by kernel_rfl) (fun _ _ _ h => h) rfl (fun w' hS => ?_) hHeld ?_
        · clear hS; go_simp
        try simp only [Act.put, List.setIfInBounds_toArray, List.set_cons_zero, List.set_cons_succ]
        refine held_take 11 (some 31) (.int .i64 X.2.2.1) rfl rfl (by kernel_rfl) (by kernel_rfl) (by kernel_rfl) (fun _ _ _ h => h) rfl (fun w' hS => ?_) hHeld ?_
        · have := HCELL.out _ hS; obtain ⟨c0, c1, c2, c3, -⟩ := this; clear hS; go_simp
        try simp only [Act.put, List.setIfInBounds_toArray, List.set_cons_zero, List.set_cons_succ]
        refine held_take 13 (some 33) (.slice (some ⟨b, off, none⟩) 60 cap0) rfl rfl (by kernel_rfl) (by kernel_rfl) (by kernel_rfl) (fun _ _ _ h => h) rfl (fun w' hS => ?_) hHeld ?_
        · clear hS; go_simp
        try simp only [Act.put, List.setIfInBounds_toArray, List.set_cons_zero, List.set_cons_succ]
        refine held_take 14 (some 34) (.int .i64 (i : Nat)) rfl rfl (by kernel_rfl) (by kernel_rfl) (by kernel_rfl) (fun _ _ _ h => h) rfl (fun w' hS => ?_) hHeld ?_
        · clear hS; go_simp
        try simp only [Act.put, List.setIfInBounds_toArray, List.set_cons_zero, List.set_cons_succ]
        refine held_take 15 (some 35) (.pointer (some ⟨b, off + i * 36, none⟩)) rfl rfl (by kernel_rfl) (by kernel_rfl) (by kernel_rfl) (fun _ _ _ h => h) rfl (fun w' hS => ?_) hHeld ?_
        · clear hS; go_simp
        try simp only [Act.put, List.setIfInBounds_toArray, List.set_cons_zero, List.set_cons_succ]
        refine held_take 16 (some 36) (.pointer (some ⟨b, off + i * 36 + 1, none⟩)) rfl rfl (by kernel_rfl) (by kernel_rfl) (by kernel_rfl) (fun _ _ _ h => h) rfl (fun w' hS => ?_) hHeld ?_
        · clear hS; go_simp
        try simp only [Act.put, List.setIfInBounds_toArray, List.set_cons_zero, List.set_cons_succ]
        refine held_take 17 (some 37) (.int .u64 (X.2.1 : Nat)) rfl rfl (by kernel_rfl) (by kernel_rfl) (by kernel_rfl) (fun _ _ _ h => h) rfl (fun w' hS => ?_) hHeld ?_
        · have := HCELL.out _ hS; obtain ⟨c0, c1, c2, c3, -⟩ := this; clear hS; go_simp
        try simp only [Act.put, List.setIfInBounds_toArray, List.set_cons_zero, List.set_cons_succ]
        refine held_take 18 (some 38) (.int .u64 ((X.2.1 : Int) % 2)) rfl rfl (by kernel_rfl) (by kernel_rfl) (by kernel_rfl) (fun _ _ _ h => h) rfl (fun w' hS => ?_) hHeld ?_
        · clear hS; go_simp; first | omega | exact Int.tmod_eq_emod_of_nonneg (by omega)
        try simp only [Act.put, List.setIfInBounds_toArray, List.set_cons_zero, List.set_cons_succ]
        refine held_take 19 (some 39) (.bool (decide (X.2.1 % 2 = 1))) rfl rfl (by kernel_rfl) (by kernel_rfl) (by kernel_rfl) (fun _ _ _ h => h) rfl (fun w' hS => ?_) hHeld ?_
        · clear hS; have hfl := HFL.out; go_simp
        try simp only [Act.put, List.setIfInBounds_toArray, List.set_cons_zero, List.set_cons_succ]
        refine held_take 21 (some 41) (.slice (some ⟨b, off, none⟩) 60 cap0) rfl rfl (by kernel_rfl) (by kernel_rfl) (by kernel_rfl) (fun _ _ _ h => h) rfl (fun w' hS => ?_) hHeld ?_
        · clear hS; go_simp
        try simp only [Act.put, List.setIfInBounds_toArray, List.set_cons_zero, List.set_cons_succ]
        refine held_take 22 (some 42) (.int .i64 (i : Nat)) rfl rfl (by kernel_rfl) (by kernel_rfl) (by kernel_rfl) (fun _ _ _ h => h) rfl (fun w' hS => ?_) hHeld ?_
        · clear hS; go_simp
        try simp only [Act.put, List.setIfInBounds_toArray, List.set_cons_zero, List.set_cons_succ]
        refine held_take 23 (some 43) (.pointer (some ⟨b, off + i * 36, none⟩)) rfl rfl (by kernel_rfl) (by kernel_rfl) (by kernel_rfl) (fun _ _ _ h => h) rfl (fun w' hS => ?_) hHeld ?_
        · clear hS; go_simp
        try simp only [Act.put, List.setIfInBounds_toArray, List.set_cons_zero, List.set_cons_succ]
        refine held_take 24 (some 44) (.pointer (some ⟨b, off + i * 36 + 3, none⟩)) rfl rfl (by kernel_rfl) (by kernel_rfl) (by kernel_rfl) (fun _ _ _ h => h) rfl (fun w' hS => ?_) hHeld ?_
        · clear hS; go_simp
        try simp only [Act.put, List.setIfInBounds_toArray, List.set_cons_zero, List.set_cons_succ]
        refine held_take 25 (some 45) (.string X.2.2.2.1) rfl rfl (by kernel_rfl) (by kernel_rfl) (by kernel_rfl) (fun _ _ _ h => h) rfl (fun w' hS => ?_) hHeld ?_
        · have := HCELL.out _ hS; obtain ⟨c0, c1, c2, c3, -⟩ := this; clear hS; go_simp
        try simp only [Act.put, List.setIfInBounds_toArray, List.set_cons_zero, List.set_cons_succ]
        refine held_take 27 (some 47) (.slice (some ⟨b, off, none⟩) 60 cap0) rfl rfl (by kernel_rfl) (by kernel_rfl) (by kernel_rfl) (fun _ _ _ h => h) rfl (fun w' hS => ?_) hHeld ?_
        · clear hS; go_simp
        try simp only [Act.put, List.setIfInBounds_toArray, List.set_cons_zero, List.set_cons_succ]
        refine held_take 28 (some 48) (.int .i64 (i : Nat)) rfl rfl (by kernel_rfl) (by kernel_rfl) (by kernel_rfl) (fun _ _ _ h => h) rfl (fun w' hS => ?_) hHeld ?_
        · clear hS; go_simp
        try simp only [Act.put, List.setIfInBounds_toArray, List.set_cons_zero, List.set_cons_succ]
        refine held_take 29 (some 49) (.pointer (some ⟨b, off + i * 36, none⟩)) rfl rfl (by kernel_rfl) (by kernel_rfl) (by kernel_rfl) (fun _ _ _ h => h) rfl (fun w' hS => ?_) hHeld ?_
        · clear hS; go_simp
        try simp only [Act.put, List.setIfInBounds_toArray, List.set_cons_zero, List.set_cons_succ]
        refine held_take 30 (some 50) (.pointer (some ⟨b, off + i * 36 + 4, none⟩)) rfl rfl (by kernel_rfl) (by kernel_rfl) (by kernel_rfl) (fun _ _ _ h => h) rfl (fun w' hS => ?_) hHeld ?_
        · clear hS; go_simp
        try simp only [Act.put, List.setIfInBounds_toArray, List.set_cons_zero, List.set_cons_succ]
        refine held_take 31 (some 51) (.agg (encL .u8 X.2.2.2.2)) rfl rfl (by kernel_rfl) (by kernel_rfl) (by kernel_rfl) (fun _ _ _ h => h) rfl (held_yield 27 (.tmp 50) rfl ⟨b, off + i * 36 + 4, none⟩ rfl _ (fun w' hS => (HCELL.out _ hS).2.2.2.2)) hHeld ?_
        try simp only [Act.put, List.setIfInBounds_toArray, List.set_cons_zero, List.set_cons_succ]
        refine held_one (i := 6) (by kernel_rfl) rfl rfl (fun K hK => ?_)
        go_simp
        refine Calls.mono (wnum_any _ w.heap.size X.2.1 (ys) hW0 HOK.out.2.1 (by have := HLEN.out; have p1 := (pkN_len X.2.1).2; have p2 := (pkN_len (zigN X.2.2.1)).2; have p3 := (pkN_len X.2.2.2.1.size).2; simp [flagN, textN, txt_length]; omega)) ?_
        rintro _ v1 ⟨rfl, hW1, hb1⟩
        dsimp only
        have hH1 : Below w.heap.size w v1 := hHeld.trans hb1
        refine hK.out _ _ hH1 ?_
        clear hK K hb1 hW0
        try simp only [Act.put, List.setIfInBounds_toArray, List.set_cons_zero, List.set_cons_succ]
        refine held_one (i := 12) (by kernel_rfl) rfl rfl (fun K hK => ?_)
        go_simp
        refine Calls.mono (wint_any _ w.heap.size X.2.2.1 (ys ++ pkN X.2.1) hW1 HOK.out.2.2.1.1 HOK.out.2.2.1.2 (by have := HLEN.out; have p1 := (pkN_len X.2.1).2; have p2 := (pkN_len (zigN X.2.2.1)).2; have p3 := (pkN_len X.2.2.2.1.size).2; simp [flagN, textN, txt_length]; omega)) ?_
        rintro _ v2 ⟨rfl, hW2, hb2⟩
        dsimp only
        have hH2 : Below w.heap.size w v2 := hH1.trans hb2
        refine hK.out _ _ hH2 ?_
        clear hK K hb2 hW1
        try simp only [Act.put, List.setIfInBounds_toArray, List.set_cons_zero, List.set_cons_succ]
        refine held_one (i := 20) (by kernel_rfl) rfl rfl (fun K hK => ?_)
        go_simp
        refine Calls.mono (wflag_any _ w.heap.size (decide (X.2.1 % 2 = 1)) ((ys ++ pkN X.2.1) ++ pkN (zigN X.2.2.1)) hW2 (by have := HLEN.out; have p1 := (pkN_len X.2.1).2; have p2 := (pkN_len (zigN X.2.2.1)).2; have p3 := (pkN_len X.2.2.2.1.size).2; simp [flagN, textN, txt_length]; omega)) ?_
        rintro _ v3 ⟨rfl, hW3, hb3⟩
        dsimp only
        have hH3 : Below w.heap.size w v3 := hH2.trans hb3
        refine hK.out _ _ hH3 ?_
        clear hK K hb3 hW2
        try simp only [Act.put, List.setIfInBounds_toArray, List.set_cons_zero, List.set_cons_succ]
        refine held_one (i := 26) (by kernel_rfl) rfl rfl (fun K hK => ?_)
        go_simp
        refine Calls.mono (wtext_any _ w.heap.size X.2.2.2.1 (((ys ++ pkN X.2.1) ++ pkN (zigN X.2.2.1)) ++ flagN (decide (X.2.1 % 2 = 1))) hW3 (by have := HLEN.out; have p1 := (pkN_len X.2.1).2; have p2 := (pkN_len (zigN X.2.2.1)).2; have p3 := (pkN_len X.2.2.2.1.size).2; simp [flagN, textN, txt_length]; omega)) ?_
        rintro _ v4 ⟨rfl, hW4, hb4⟩
        dsimp only
        have hH4 : Below w.heap.size w v4 := hH3.trans hb4
        refine hK.out _ _ hH4 ?_
        clear hK K hb4 hW3
        try simp only [Act.put, List.setIfInBounds_toArray, List.set_cons_zero, List.set_cons_succ]
        refine held_one (i := 32) (by kernel_rfl) rfl rfl (fun K hK => ?_)
        go_simp
        refine Calls.mono (wdigest_any _ w.heap.size X.2.2.2.2 ((((ys ++ pkN X.2.1) ++ pkN (zigN X.2.2.1)) ++ flagN (decide (X.2.1 % 2 = 1))) ++ textN X.2.2.2.1) hW4 HOK.out.2.2.2.1 HOK.out.2.2.2.2 (by have := HLEN.out; have p1 := (pkN_len X.2.1).2; have p2 := (pkN_len (zigN X.2.2.1)).2; have p3 := (pkN_len X.2.2.2.1.size).2; simp [flagN, textN, txt_length]; omega)) ?_
        rintro _ v5 ⟨rfl, hW5, hb5⟩
        dsimp only
        have hH5 : Below w.heap.size w v5 := hH4.trans hb5
        refine hK.out _ _ hH5 ?_
        clear hK K hb5 hW4
        try simp only [Act.put, List.setIfInBounds_toArray, List.set_cons_zero, List.set_cons_succ]
        refine wpAnyH_done (by kernel_rfl) ?_ _
        have HF : Hid (WAt v5 w.heap.size (ys ++ encB X) ∧ Below w.heap.size w v5) := ⟨by unfold encB; simpa [List.append_assoc] using hW5, hH5⟩
        clear hW5 hH5
        go_wp2_with fail
        go_roundw
        case rel => exact ⟨v5, i + 1, rfl, rfl, by omega, by rw [HENC.out]; exact HF.out.1, HF.out.2⟩
        case measure => simp [intOf]; omega
      · have hiN : i = 60 := by omega
        have hA2 : ¬ ((i : Int) < (60 : Int)) := by omega
        rw [hiN] at hWr hyl
        have hbyt := allB_byt (fun i hi => HARG.out.1.2.1 i (by omega)) (fun i hi => HARG.out.2 i (by omega)) (n := 60) 60 (Nat.le_refl _)
        have hys : allB x0 60 = restB x0 0 60 := all_rest x0 60
        rw [hys] at hWr hbyt hyl
        have hlen : (restB x0 0 60).length ≤ 140737488355328 := by omega
        have P := wout_any wr w.heap.size _ hWr hlen
        have HB1 : Hid (Below w.heap.size w wr) := hbr
        have HBYT : Hid (Byt (restB x0 0 60)) := hbyt
        clear hWr hbr hyl hbyt hys
        go_wp2_with fail
        refine P.mono ?_
        rintro _ v2 ⟨a, cap, r, rfl, hr, hn, hc, hcm, hi, hlt, b2⟩
        have HB2 : Hid (Below w.heap.size w v2) := HB1.out.trans (b2.mono HB1.out.size)
        have Q := read_any v2 a cap _ hr hc hcm (fun h => (hn h).2) r hi hlt HBYT.out
        clear P hr hn hc hcm hi hlt b2 HB1 HBYT
        go_wp2_with fail
        refine Q.mono ?_
        rintro _ v3 ⟨rfl, hR3, b3⟩
        have HB3 : Hid (Below w.heap.size w v3) := HB2.out.trans (b3.mono HB2.out.size)
        have hG : w.heap.size ≤ v2.heap.size := HB2.out.size
        have HR3 : Hid (RdAt v3 v2.heap.size r (restB x0 0 60, 0)) := hR3
        clear Q b3 HB2 hR3
        generalize v2.heap.size = G at *
        go_wp2_with fail
        go_loopw [6] (fun ix wr => ∃ (wz : World) (i : Nat), wz = wr ∧ ix = .int .i64 i ∧ i ≤ 60 ∧ RdAt wz G r (restB x0 i (60 - i), 0) ∧ Below w.heap.size w wz) (fun ix _ => 60 - (intOf ix).toNat)
        case atStart => exact ⟨_, 0, rfl, rfl, by omega, by rw [Nat.sub_zero]; exact HR3.out, HB3.out⟩
        case round =>
          clear HR3 HB3
          obtain ⟨wr, i, hwr, rfl, hin, hRr, hbr⟩ := hrel
          subst hwr
          have hnn : 60 ≤ 60 ∧ 60 ≤ len0 := HNN.out
          by_cases hil : i < 60
          · obtain ⟨b, off, rfl, hb, hcell⟩ := HARG.out.1.at hbr i (by omega)
            have hok := HARG.out.1.2.1 i (by omega)
            rw [show 60 - i = (60 - (i + 1)) + 1 by omega, restB] at hRr
            obtain ⟨R, hRe⟩ : ∃ R, R = restB x0 (i + 1) (60 - (i + 1)) := ⟨_, rfl⟩
            rw [← hRe] at hRr
            have HIX : Hid (R = restB x0 (i + 1) (60 - (i + 1))) := hRe
            clear hRe
            obtain ⟨wA, wB, hL, hA, hC, hX, hbX, hsB⟩ := fld_take hcell hok.2.2.2.1
            have hR0 := hRr.below hbX
            have HGX : Hid (G < wr.heap.size) := hRr.lt
            generalize fldAt x0 i = X at *
            have HOK : Hid (FldOk X) := hok
            have HFL : Hid ((((X.2.1 : Nat) : Int) % 2 == 1) = decide (X.2.1 % 2 = 1)) := odd_dec X.2.1
            have HS : Hid (FldBlk wB wr.heap.size X ∧ Below w.heap.size w wB) := ⟨hX, hbr.trans (hbX.mono hbr.size)⟩
            have HXG : Hid (wr.heap.size ≠ G) := by have := HGX.out; unfold Hid; omega
            have HGG : Hid (w.heap.size ≤ G) := hG
            obtain ⟨c0, c1, c2, c3⟩ := hX.cells
            rw [encB_assoc] at hR0
            clear hX hbX hsB hok hcell hRr hbr hb hG HGX
            by_cases hsm : X.2.2.2.1.size ≤ 16384
            · have HSM : Hid (X.2.2.2.1.size ≤ 16384) := hsm
              go_wp2_with (first
                | (refine load_op rfl 29 (.tmp 64) rfl ⟨b, off + i * 36, none⟩ rfl _ hL ?_)
                | (refine alloc_op rfl 29 rfl _ hA ?_)
                | (refine store_op rfl 29 (.tmp 7) (.tmp 65) rfl ⟨wr.heap.size, 0, none⟩ rfl _ rfl hC ?_))
              clear c0 c1 c2 c3 hL hA hC hsm
              refine wp_region_held_drew (S := fun w' => FldBlk w' wr.heap.size X ∧ Below w.heap.size w w') (by kernel_rfl) (⟨HS.out.1, HS.out.2.drew⟩) (fun hHeld => ?_)
              refine held_take 0 (some 71) (.pointer (some ⟨G, 0, none⟩)) rfl rfl (by kernel_rfl) (by kernel_rfl) (by kernel_rfl) (fun _ _ _ h => h) rfl (fun w' hS => ?_) hHeld ?_
              · clear hS; go_simp
              try simp only [Act.put, List.setIfInBounds_toArray, List.set_cons_zero, List.set_cons_succ]
              refine held_take 2 (some 73) (.pointer (some ⟨wr.heap.size, 1, none⟩)) rfl rfl (by kernel_rfl) (by kernel_rfl) (by kernel_rfl) (fun _ _ _ h => h) rfl (fun w' hS => ?_) hHeld ?_
              · clear hS; go_simp
              try simp only [Act.put, List.setIfInBounds_toArray, List.set_cons_zero, List.set_cons_succ]
              refine held_take 3 (some 74) (.int .u64 (X.2.1 : Nat)) rfl rfl (by kernel_rfl) (by kernel_rfl) (by kernel_rfl) (fun _ _ _ h => h) rfl (fun w' hS => ?_) hHeld ?_
              · have := FldBlk.cells hS.1; obtain ⟨c0, c1, c2, c3⟩ := this; clear hS; go_simp
              try simp only [Act.put, List.setIfInBounds_toArray, List.set_cons_zero, List.set_cons_succ]
              refine held_one (i := 1) (by kernel_rfl) rfl rfl (fun K hK => ?_)
              go_simp
              refine Calls.mono (rd_num _ G r X.2.1 _ HOK.out.2.1 hR0) ?_
              rintro _ v1 ⟨rfl, hR1, hb1⟩
              dsimp only
              have hH1 : FldBlk v1 wr.heap.size X ∧ Below w.heap.size w v1 := ⟨FldBlk.keep hHeld.1 (hb1.block _ (FldBlk.lt hHeld.1) HXG.out), hHeld.2.trans (hb1.below HGG.out hHeld.2.size)⟩
              refine hK.out _ _ hH1 ?_
              clear hK K hb1 hR0
              try simp only [Act.put, List.setIfInBounds_toArray, List.set_cons_zero, List.set_cons_succ]
              refine held_take 4 (some 75) (.bool false) rfl rfl (by kernel_rfl) (by kernel_rfl) (by kernel_rfl) (fun _ _ _ h => h) rfl (fun w' hS => ?_) hH1 ?_
              · clear hS; go_simp
              try simp only [Act.put, List.setIfInBounds_toArray, List.set_cons_zero, List.set_cons_succ]
              refine held_take 5 (some 76) (.bool false) rfl rfl (by kernel_rfl) (by kernel_rfl) (by kernel_rfl) (fun _ _ _ h => h) rfl (fun w' hS => ?_) hH1 ?_
              · clear hS; go_simp
              try simp only [Act.put, List.setIfInBounds_toArray, List.set_cons_zero, List.set_cons_succ]
              refine held_take 6 (some 77) (.pointer (some ⟨G, 0, none⟩)) rfl rfl (by kernel_rfl) (by kernel_rfl) (by kernel_rfl) (fun _ _ _ h => h) rfl (fun w' hS => ?_) hH1 ?_
              · clear hS; go_simp
              try simp only [Act.put, List.setIfInBounds_toArray, List.set_cons_zero, List.set_cons_succ]
              refine held_take 8 (some 79) (.pointer (some ⟨wr.heap.size, 2, none⟩)) rfl rfl (by kernel_rfl) (by kernel_rfl) (by kernel_rfl) (fun _ _ _ h => h) rfl (fun w' hS => ?_) hH1 ?_
              · clear hS; go_simp
              try simp only [Act.put, List.setIfInBounds_toArray, List.set_cons_zero, List.set_cons_succ]
              refine held_take 9 (some 80) (.int .i64 X.2.2.1) rfl rfl (by kernel_rfl) (by kernel_rfl) (by kernel_rfl) (fun _ _ _ h => h) rfl (fun w' hS => ?_) hH1 ?_
              · have := FldBlk.cells hS.1; obtain ⟨c0, c1, c2, c3⟩ := this; clear hS; go_simp
              try simp only [Act.put, List.setIfInBounds_toArray, List.set_cons_zero, List.set_cons_succ]
              refine held_one (i := 7) (by kernel_rfl) rfl rfl (fun K hK => ?_)
              go_simp
              refine Calls.mono (rd_int _ G r X.2.2.1 _ HOK.out.2.2.1.1 HOK.out.2.2.1.2 hR1) ?_
              rintro _ v2 ⟨rfl, hR2, hb2⟩
              dsimp only
              have hH2 : FldBlk v2 wr.heap.size X ∧ Below w.heap.size w v2 := ⟨FldBlk.keep hH1.1 (hb2.block _ (FldBlk.lt hH1.1) HXG.out), hH1.2.trans (hb2.below HGG.out hH1.2.size)⟩
              refine hK.out _ _ hH2 ?_
              clear hK K hb2 hR1
              try simp only [Act.put, List.setIfInBounds_toArray, List.set_cons_zero, List.set_cons_succ]
              refine held_take 10 (some 81) (.bool false) rfl rfl (by kernel_rfl) (by kernel_rfl) (by kernel_rfl) (fun _ _ _ h => h) rfl (fun w' hS => ?_) hH2 ?_
              · clear hS; go_simp
              try simp only [Act.put, List.setIfInBounds_toArray, List.set_cons_zero, List.set_cons_succ]
              refine held_take 11 (some 82) (.bool false) rfl rfl (by kernel_rfl) (by kernel_rfl) (by kernel_rfl) (fun _ _ _ h => h) rfl (fun w' hS => ?_) hH2 ?_
              · clear hS; go_simp
              try simp only [Act.put, List.setIfInBounds_toArray, List.set_cons_zero, List.set_cons_succ]
              refine held_take 12 (some 83) (.bool false) rfl rfl (by kernel_rfl) (by kernel_rfl) (by kernel_rfl) (fun _ _ _ h => h) rfl (fun w' hS => ?_) hH2 ?_
              · clear hS; go_simp
              try simp only [Act.put, List.setIfInBounds_toArray, List.set_cons_zero, List.set_cons_succ]
              refine held_take 13 (some 84) (.pointer (some ⟨G, 0, none⟩)) rfl rfl (by kernel_rfl) (by kernel_rfl) (by kernel_rfl) (fun _ _ _ h => h) rfl (fun w' hS => ?_) hH2 ?_
              · clear hS; go_simp
              try simp only [Act.put, List.setIfInBounds_toArray, List.set_cons_zero, List.set_cons_succ]
              refine held_take 15 (some 86) (.pointer (some ⟨wr.heap.size, 1, none⟩)) rfl rfl (by kernel_rfl) (by kernel_rfl) (by kernel_rfl) (fun _ _ _ h => h) rfl (fun w' hS => ?_) hH2 ?_
              · clear hS; go_simp
              try simp only [Act.put, List.setIfInBounds_toArray, List.set_cons_zero, List.set_cons_succ]
              refine held_take 16 (some 87) (.int .u64 (X.2.1 : Nat)) rfl rfl (by kernel_rfl) (by kernel_rfl) (by kernel_rfl) (fun _ _ _ h => h) rfl (fun w' hS => ?_) hH2 ?_
              · have := FldBlk.cells hS.1; obtain ⟨c0, c1, c2, c3⟩ := this; clear hS; go_simp
              try simp only [Act.put, List.setIfInBounds_toArray, List.set_cons_zero, List.set_cons_succ]
              refine held_take 17 (some 88) (.int .u64 ((X.2.1 : Int) % 2)) rfl rfl (by kernel_rfl) (by kernel_rfl) (by kernel_rfl) (fun _ _ _ h => h) rfl (fun w' hS => ?_) hH2 ?_
              · clear hS; go_simp; first | omega | exact Int.tmod_eq_emod_of_nonneg (by omega)
              try simp only [Act.put, List.setIfInBounds_toArray, List.set_cons_zero, List.set_cons_succ]
              refine held_take 18 (some 89) (.bool (decide (X.2.1 % 2 = 1))) rfl rfl (by kernel_rfl) (by kernel_rfl) (by kernel_rfl) (fun _ _ _ h => h) rfl (fun w' hS => ?_) hH2 ?_
              · clear hS; have hfl := HFL.out; go_simp
              try simp only [Act.put, List.setIfInBounds_toArray, List.set_cons_zero, List.set_cons_succ]
              refine held_one (i := 14) (by kernel_rfl) rfl rfl (fun K hK => ?_)
              go_simp
              refine Calls.mono (rd_flag _ G r (decide (X.2.1 % 2 = 1)) _ hR2) ?_
              rintro _ v3 ⟨rfl, hR3, hb3⟩
              dsimp only
              have hH3 : FldBlk v3 wr.heap.size X ∧ Below w.heap.size w v3 := ⟨FldBlk.keep hH2.1 (hb3.block _ (FldBlk.lt hH2.1) HXG.out), hH2.2.trans (hb3.below HGG.out hH2.2.size)⟩
              refine hK.out _ _ hH3 ?_
              clear hK K hb3 hR2
              try simp only [Act.put, List.setIfInBounds_toArray, List.set_cons_zero, List.set_cons_succ]
              refine held_take 19 (some 90) (.bool false) rfl rfl (by kernel_rfl) (by kernel_rfl) (by kernel_rfl) (fun _ _ _ h => h) rfl (fun w' hS => ?_) hH3 ?_
              · clear hS; go_simp
              try simp only [Act.put, List.setIfInBounds_toArray, List.set_cons_zero, List.set_cons_succ]
              refine held_take 20 (some 91) (.bool false) rfl rfl (by kernel_rfl) (by kernel_rfl) (by kernel_rfl) (fun _ _ _ h => h) rfl (fun w' hS => ?_) hH3 ?_
              · clear hS; go_simp
              try simp only [Act.put, List.setIfInBounds_toArray, List.set_cons_zero, List.set_cons_succ]
              refine held_take 21 (some 92) (.bool false) rfl rfl (by kernel_rfl) (by kernel_rfl) (by kernel_rfl) (fun _ _ _ h => h) rfl (fun w' hS => ?_) hH3 ?_
              · clear hS; go_simp
              try simp only [Act.put, List.setIfInBounds_toArray, List.set_cons_zero, List.set_cons_succ]
              refine held_take 22 (some 93) (.pointer (some ⟨G, 0, none⟩)) rfl rfl (by kernel_rfl) (by kernel_rfl) (by kernel_rfl) (fun _ _ _ h => h) rfl (fun w' hS => ?_) hH3 ?_
              · clear hS; go_simp
              try simp only [Act.put, List.setIfInBounds_toArray, List.set_cons_zero, List.set_cons_succ]
              refine held_take 24 (some 95) (.pointer (some ⟨wr.heap.size, 3, none⟩)) rfl rfl (by kernel_rfl) (by kernel_rfl) (by kernel_rfl) (fun _ _ _ h => h) rfl (fun w' hS => ?_) hH3 ?_
              · clear hS; go_simp
              try simp only [Act.put, List.setIfInBounds_toArray, List.set_cons_zero, List.set_cons_succ]
              refine held_take 25 (some 96) (.string X.2.2.2.1) rfl rfl (by kernel_rfl) (by kernel_rfl) (by kernel_rfl) (fun _ _ _ h => h) rfl (fun w' hS => ?_) hH3 ?_
              · have := FldBlk.cells hS.1; obtain ⟨c0, c1, c2, c3⟩ := this; clear hS; go_simp
              try simp only [Act.put, List.setIfInBounds_toArray, List.set_cons_zero, List.set_cons_succ]
              refine held_one (i := 23) (by kernel_rfl) rfl rfl (fun K hK => ?_)
              go_simp
              refine Calls.mono (rd_text _ G r X.2.2.2.1 _ HSM.out hR3) ?_
              rintro _ v4 ⟨rfl, hR4, hb4⟩
              dsimp only
              have hH4 : FldBlk v4 wr.heap.size X ∧ Below w.heap.size w v4 := ⟨FldBlk.keep hH3.1 (hb4.block _ (FldBlk.lt hH3.1) HXG.out), hH3.2.trans (hb4.below HGG.out hH3.2.size)⟩
              refine hK.out _ _ hH4 ?_
              clear hK K hb4 hR3
              try simp only [Act.put, List.setIfInBounds_toArray, List.set_cons_zero, List.set_cons_succ]
              refine held_take 26 (some 97) (.bool false) rfl rfl (by kernel_rfl) (by kernel_rfl) (by kernel_rfl) (fun _ _ _ h => h) rfl (fun w' hS => ?_) hH4 ?_
              · clear hS; go_simp
              try simp only [Act.put, List.setIfInBounds_toArray, List.set_cons_zero, List.set_cons_succ]
              refine held_take 27 (some 98) (.bool false) rfl rfl (by kernel_rfl) (by kernel_rfl) (by kernel_rfl) (fun _ _ _ h => h) rfl (fun w' hS => ?_) hH4 ?_
              · clear hS; go_simp
              try simp only [Act.put, List.setIfInBounds_toArray, List.set_cons_zero, List.set_cons_succ]
              refine held_take 28 (some 99) (.bool false) rfl rfl (by kernel_rfl) (by kernel_rfl) (by kernel_rfl) (fun _ _ _ h => h) rfl (fun w' hS => ?_) hH4 ?_
              · clear hS; go_simp
              try simp only [Act.put, List.setIfInBounds_toArray, List.set_cons_zero, List.set_cons_succ]
              refine held_take 29 (some 100) (.pointer (some ⟨G, 0, none⟩)) rfl rfl (by kernel_rfl) (by kernel_rfl) (by kernel_rfl) (fun _ _ _ h => h) rfl (fun w' hS => ?_) hH4 ?_
              · clear hS; go_simp
              try simp only [Act.put, List.setIfInBounds_toArray, List.set_cons_zero, List.set_cons_succ]
              refine held_take 31 (some 102) (.pointer (some ⟨wr.heap.size, 4, none⟩)) rfl rfl (by kernel_rfl) (by kernel_rfl) (by kernel_rfl) (fun _ _ _ h => h) rfl (fun w' hS => ?_) hH4 ?_
              · clear hS; go_simp
              try simp only [Act.put, List.setIfInBounds_toArray, List.set_cons_zero, List.set_cons_succ]
              refine held_take 32 (some 103) (.agg (encL .u8 X.2.2.2.2)) rfl rfl (by kernel_rfl) (by kernel_rfl) (by kernel_rfl) (fun _ _ _ h => h) rfl (held_yield 27 (.tmp 102) rfl ⟨wr.heap.size, 4, none⟩ rfl _ (fun w' hS => FldBlk.digest hS.1 HOK.out.2.2.2.1)) hH4 ?_
              try simp only [Act.put, List.setIfInBounds_toArray, List.set_cons_zero, List.set_cons_succ]
              refine held_one (i := 30) (by kernel_rfl) rfl rfl (fun K hK => ?_)
              go_simp
              refine Calls.mono (rd_dig _ G r X.2.2.2.2 _ HOK.out.2.2.2.1 hR4) ?_
              rintro _ v5 ⟨rfl, hR5, hb5⟩
              dsimp only
              have hH5 : FldBlk v5 wr.heap.size X ∧ Below w.heap.size w v5 := ⟨FldBlk.keep hH4.1 (hb5.block _ (FldBlk.lt hH4.1) HXG.out), hH4.2.trans (hb5.below HGG.out hH4.2.size)⟩
              refine hK.out _ _ hH5 ?_
              clear hK K hb5 hR4
              try simp only [Act.put, List.setIfInBounds_toArray, List.set_cons_zero, List.set_cons_succ]
              refine held_take 33 (some 104) (.bool false) rfl rfl (by kernel_rfl) (by kernel_rfl) (by kernel_rfl) (fun _ _ _ h => h) rfl (fun w' hS => ?_) hH5 ?_
              · clear hS; have := same_digest X.2.2.2.2 HOK.out.2.2.2.1 w'; go_simp
              try simp only [Act.put, List.setIfInBounds_toArray, List.set_cons_zero, List.set_cons_succ]
              refine held_take 34 (some 105) (.bool false) rfl rfl (by kernel_rfl) (by kernel_rfl) (by kernel_rfl) (fun _ _ _ h => h) rfl (fun w' hS => ?_) hH5 ?_
              · clear hS; go_simp
              try simp only [Act.put, List.setIfInBounds_toArray, List.set_cons_zero, List.set_cons_succ]
              refine held_take 35 (some 106) (.bool false) rfl rfl (by kernel_rfl) (by kernel_rfl) (by kernel_rfl) (fun _ _ _ h => h) rfl (fun w' hS => ?_) hH5 ?_
              · clear hS; go_simp
              try simp only [Act.put, List.setIfInBounds_toArray, List.set_cons_zero, List.set_cons_succ]
              refine held_take 36 (some 107) (.pointer (some ⟨G, 0, none⟩)) rfl rfl (by kernel_rfl) (by kernel_rfl) (by kernel_rfl) (fun _ _ _ h => h) rfl (fun w' hS => ?_) hH5 ?_
              · clear hS; go_simp
              try simp only [Act.put, List.setIfInBounds_toArray, List.set_cons_zero, List.set_cons_succ]
              refine held_one (i := 37) (by kernel_rfl) rfl rfl (fun K hK => ?_)
              go_simp
              refine Calls.mono ((err_any _ G r _ hR5).mono (fun _ _ h => (⟨h.1, h.2⟩ : _ ∧ _))) ?_
              rintro _ v6 ⟨rfl, hb6⟩
              dsimp only
              have hR6 : RdAt v6 G r (R, 0) := by rw [hb6]; exact hR5
              have hH6 : FldBlk v6 wr.heap.size X ∧ Below w.heap.size w v6 := by rw [hb6]; exact hH5
              refine hK.out _ _ hH6 ?_
              clear hK K hb6 
              try simp only [Act.put, List.setIfInBounds_toArray, List.set_cons_zero, List.set_cons_succ]
              refine held_take 38 (some 109) (.bool false) rfl rfl (by kernel_rfl) (by kernel_rfl) (by kernel_rfl) (fun _ _ _ h => h) rfl (fun w' hS => ?_) hH6 ?_
              · clear hS; go_simp
              try simp only [Act.put, List.setIfInBounds_toArray, List.set_cons_zero, List.set_cons_succ]
              refine held_take 39 (some 110) (.bool false) rfl rfl (by kernel_rfl) (by kernel_rfl) (by kernel_rfl) (fun _ _ _ h => h) rfl (fun w' hS => ?_) hH6 ?_
              · clear hS; go_simp
              try simp only [Act.put, List.setIfInBounds_toArray, List.set_cons_zero, List.set_cons_succ]
              refine wpAnyH_done (by kernel_rfl) ?_ _
              have HF : Hid (RdAt v6 G r (R, 0) ∧ Below w.heap.size w v6) := ⟨hR6, hH6.2⟩
              clear hR6 hH6
              go_wp2_with fail
              go_roundw
              case rel => exact ⟨v6, i + 1, rfl, rfl, by omega, by rw [← HIX.out]; exact HF.out.1, HF.out.2⟩
              case measure => simp [intOf]; omega
            · have hsm2 : (16384 : Int) < (X.2.2.2.1.size : Int) := by omega
              go_wp2_with (first
                | (refine load_op rfl 29 (.tmp 64) rfl ⟨b, off + i * 36, none⟩ rfl _ hL ?_)
                | (refine alloc_op rfl 29 rfl _ hA ?_)
                | (refine store_op rfl 29 (.tmp 7) (.tmp 65) rfl ⟨wr.heap.size, 0, none⟩ rfl _ rfl hC ?_))
              refine (awake_any wB).mono ?_
              rintro _ z1 ⟨rfl, bA⟩
              go_wp2_with fail
              go_ret
              exact ⟨rfl, HS.out.2.trans (bA.mono HS.out.2.size)⟩
          · have hiN : i = 60 := by omega
            have hA2 : ¬ ((i : Int) < (60 : Int)) := by omega
            rw [hiN, Nat.sub_self, restB] at hRr
            have HB1 : Hid (Below w.heap.size w wr ∧ w.heap.size ≤ G) := ⟨hbr, hG⟩
            clear hbr hG
            go_wp2_with fail
            refine (awake_any wr).mono ?_
            rintro _ z1 ⟨rfl, bA⟩
            have P : Calls Try.prog 34 #[.pointer (some ⟨G, 0, none⟩)] z1 (RdR z1 G r (.int .i64 0) ([], 0)) := by
              have := pend_any z1 G r _ (hRr.below bA)
              exact this
            have HB2 : Hid (Below w.heap.size w z1) := HB1.out.1.trans (bA.mono HB1.out.1.size)
            clear hRr bA
            go_wp2_with fail
            refine P.mono ?_
            rintro _ z2 ⟨rfl, hR2, o2⟩
            have HB3 : Hid (Below w.heap.size w z2) := HB2.out.trans (o2.below HB1.out.2 HB2.out.size)
            clear P
            go_wp2_with fail
            go_ret
            exact ⟨rfl, HB3.out⟩
  · have h60' : ¬ (60 : Int) < (len0 : Int) := by omega
    have HNN : Hid (len0 ≤ 60 ∧ len0 ≤ len0) := by unfold Hid; omega
    go_wp2_with fail
    go_loopw [4] (fun ix wr => ∃ (wz : World) (i : Nat), wz = wr ∧ ix = .int .i64 i ∧ i ≤ len0 ∧ WAt wz w.heap.size (allB x0 i) ∧ Below w.heap.size w wz) (fun ix _ => len0 - (intOf ix).toNat)
    case atStart => exact ⟨_, 0, rfl, rfl, by omega, hW1, b1⟩
    case round =>
      obtain ⟨wr, i, hwr, rfl, hin, hWr, hbr⟩ := hrel
      subst hwr
      have hyl := allB_len (fun i hi => HARG.out.1.2.1 i (by omega)) (fun i hi => HARG.out.2 i (by omega)) (n := len0) i hin
      have hnn : len0 ≤ 60 ∧ len0 ≤ len0 := HNN.out
      by_cases hil : i < len0
      · obtain ⟨b, off, rfl, hb, -⟩ := HARG.out.1.at hbr i (by omega)
        have hok := HARG.out.1.2.1 i (by omega)
        have hsz := HARG.out.2 i (by omega)
        have HCELL : Hid (∀ W, Below w.heap.size w W → W.cell? ⟨b, off + i * 36, none⟩ = some (.int .i64 (fldAt x0 i).1) ∧ W.cell? ⟨b, off + i * 36 + 1, none⟩ = some (.int .u64 ((fldAt x0 i).2.1 : Nat)) ∧ W.cell? ⟨b, off + i * 36 + 2, none⟩ = some (.int .i64 (fldAt x0 i).2.2.1) ∧ W.cell? ⟨b, off + i * 36 + 3, none⟩ = some (.string (fldAt x0 i).2.2.2.1) ∧
            (loadVar 27 ⟨b, off + i * 36 + 4, none⟩).run Try.prog W = .ok (.agg (encL .u8 (fldAt x0 i).2.2.2.2)) W) := by
          intro W hW
          obtain ⟨b', off', he, -, hc⟩ := HARG.out.1.at hW i (by omega)
          cases he
          exact ⟨hc 0 (by omega), hc 1 (by omega), hc 2 (by omega), hc 3 (by omega), fld_digest hc hok.2.2.2.1⟩
        have HENC : Hid (allB x0 (i + 1) = allB x0 i ++ encB (fldAt x0 i)) := rfl
        generalize allB x0 i = ys at *
        generalize fldAt x0 i = X at *
        have HOK : Hid (FldOk X) := hok
        have HFL : Hid ((((X.2.1 : Nat) : Int) % 2 == 1) = decide (X.2.1 % 2 = 1)) := odd_dec X.2.1
        have HLEN : Hid (ys.length ≤ 70000000 ∧ X.2.2.2.1.size ≤ 1048576) := by unfold Hid; omega
        have HBR : Hid (Below w.heap.size w wr) := hbr
        have hW0 : WAt wr.drew w.heap.size ys := hWr
        clear hok hsz hyl hWr hb
        go_wp2_with fail
        refine wp_region_held_drew (S := fun w' => Below w.heap.size w w') (by kernel_rfl) (HBR.out.drew) (fun hHeld => ?_)
        refine held_take 0 (some 20) (.pointer (some ⟨w.heap.size, 0, none⟩)) rfl rfl (by kernel_rfl) (by kernel_rfl) (by kernel_rfl) (fun _ _ _ h => h) rfl (fun w' hS => ?_) hHeld ?_
        · clear hS; go_simp
        try simp only [Act.put, List.setIfInBounds_toArray, List.set_cons_zero, List.set_cons_succ]
        refine held_take 1 (some 21) (.slice (some ⟨b, off, none⟩) len0 cap0) rfl rfl (by kernel_rfl) (by kernel_rfl) (by kernel_rfl) (fun _ _ _ h => h) rfl (fun w' hS => ?_) hHeld ?_
        · clear hS; go_simp
        try simp only [Act.put, List.setIfInBounds_toArray, List.set_cons_zero, List.set_cons_succ]
        refine held_take 2 (some 22) (.int .i64 (i : Nat)) rfl rfl (by kernel_rfl) (by kernel_rfl) (by kernel_rfl) (fun _ _ _ h => h) rfl (fun w' hS => ?_) hHeld ?_
        · clear hS; go_simp
        try simp only [Act.put, List.setIfInBounds_toArray, List.set_cons_zero, List.set_cons_succ]
        refine held_take 3 (some 23) (.pointer (some ⟨b, off + i * 36, none⟩)) rfl rfl (by kernel_rfl) (by kernel_rfl) (by kernel_rfl) (fun _ _ _ h => h) rfl (fun w' hS => ?_) hHeld ?_
        · clear hS; go_simp
        try simp only [Act.put, List.setIfInBounds_toArray, List.set_cons_zero, List.set_cons_succ]
        refine held_take 4 (some 24) (.pointer (some ⟨b, off + i * 36 + 1, none⟩)) rfl rfl (by kernel_rfl) (by kernel_rfl) (by kernel_rfl) (fun _ _ _ h => h) rfl (fun w' hS => ?_) hHeld ?_
        · clear hS; go_simp
        try simp only [Act.put, List.setIfInBounds_toArray, List.set_cons_zero, List.set_cons_succ]
        refine held_take 5 (some 25) (.int .u64 (X.2.1 : Nat)) rfl rfl (by kernel_rfl) (by kernel_rfl) (by kernel_rfl) (fun _ _ _ h => h) rfl (fun w' hS => ?_) hHeld ?_
        · have := HCELL.out _ hS; obtain ⟨c0, c1, c2, c3, -⟩ := this; clear hS; go_simp
        try simp only [Act.put, List.setIfInBounds_toArray, List.set_cons_zero, List.set_cons_succ]
        refine held_take 7 (some 27) (.slice (some ⟨b, off, none⟩) len0 cap0) rfl rfl (by kernel_rfl) (by kernel_rfl) (by kernel_rfl) (fun _ _ _ h => h) rfl (fun w' hS => ?_) hHeld ?_
        · clear hS; go_simp
        try simp only [Act.put, List.setIfInBounds_toArray, List.set_cons_zero, List.set_cons_succ]
        refine held_take 8 (some 28) (.int .i64 (i : Nat)) rfl rfl (by kernel_rfl) (by kernel_rfl) (by kernel_rfl) (fun _ _ _ h => h) rfl (fun w' hS => ?_) hHeld ?_
        · clear hS; go_simp
        try simp only [Act.put, List.setIfInBounds_toArray, List.set_cons_zero, List.set_cons_succ]
        refine held_take 9 (some 29) (.pointer (some ⟨b, off + i * 36, none⟩)) rfl rfl (by kernel_rfl) (by kernel_rfl) (by kernel_rfl) (fun _ _ _ h => h) rfl (fun w' hS => ?_) hHeld ?_
        · clear hS; go_simp
        try simp only [Act.put, List.setIfInBounds_toArray, List.set_cons_zero, List.set_cons_succ]
        refine held_take 10 (some 30) (.pointer (some ⟨b, off + i * 36 + 2, none⟩)) rfl rfl (by kernel_rfl) (by kernel_rfl) (by kernel_rfl) (fun _ _ _ h => h) rfl (fun w' hS => ?_) hHeld ?_
        · clear hS; go_simp
        try simp only [Act.put, List.setIfInBounds_toArray, List.set_cons_zero, List.set_cons_succ]
        refine held_take 11 (some 31) (.int .i64 X.2.2.1) rfl rfl (by kernel_rfl) (by kernel_rfl) (by kernel_rfl) (fun _ _ _ h => h) rfl (fun w' hS => ?_) hHeld ?_
        · have := HCELL.out _ hS; obtain ⟨c0, c1, c2, c3, -⟩ := this; clear hS; go_simp
        try simp only [Act.put, List.setIfInBounds_toArray, List.set_cons_zero, List.set_cons_succ]
        refine held_take 13 (some 33) (.slice (some ⟨b, off, none⟩) len0 cap0) rfl rfl (by kernel_rfl) (by kernel_rfl) (by kernel_rfl) (fun _ _ _ h => h) rfl (fun w' hS => ?_) hHeld ?_
        · clear hS; go_simp
        try simp only [Act.put, List.setIfInBounds_toArray, List.set_cons_zero, List.set_cons_succ]
        refine held_take 14 (some 34) (.int .i64 (i : Nat)) rfl rfl (by kernel_rfl) (by kernel_rfl) (by kernel_rfl) (fun _ _ _ h => h) rfl (fun w' hS => ?_) hHeld ?_
        · clear hS; go_simp
        try simp only [Act.put, List.setIfInBounds_toArray, List.set_cons_zero, List.set_cons_succ]
        refine held_take 15 (some 35) (.pointer (some ⟨b, off + i * 36, none⟩)) rfl rfl (by kernel_rfl) (by kernel_rfl) (by kernel_rfl) (fun _ _ _ h => h) rfl (fun w' hS => ?_) hHeld ?_
        · clear hS; go_simp
        try simp only [Act.put, List.setIfInBounds_toArray, List.set_cons_zero, List.set_cons_succ]
        refine held_take 16 (some 36) (.pointer (some ⟨b, off + i * 36 + 1, none⟩)) rfl rfl (by kernel_rfl) (by kernel_rfl) (by kernel_rfl) (fun _ _ _ h => h) rfl (fun w' hS => ?_) hHeld ?_
        · clear hS; go_simp
        try simp only [Act.put, List.setIfInBounds_toArray, List.set_cons_zero, List.set_cons_succ]
        refine held_take 17 (some 37) (.int .u64 (X.2.1 : Nat)) rfl rfl (by kernel_rfl) (by kernel_rfl) (by kernel_rfl) (fun _ _ _ h => h) rfl (fun w' hS => ?_) hHeld ?_
        · have := HCELL.out _ hS; obtain ⟨c0, c1, c2, c3, -⟩ := this; clear hS; go_simp
        try simp only [Act.put, List.setIfInBounds_toArray, List.set_cons_zero, List.set_cons_succ]
        refine held_take 18 (some 38) (.int .u64 ((X.2.1 : Int) % 2)) rfl rfl (by kernel_rfl) (by kernel_rfl) (by kernel_rfl) (fun _ _ _ h => h) rfl (fun w' hS => ?_) hHeld ?_
        · clear hS; go_simp; first | omega | exact Int.tmod_eq_emod_of_nonneg (by omega)
        try simp only [Act.put, List.setIfInBounds_toArray, List.set_cons_zero, List.set_cons_succ]
        refine held_take 19 (some 39) (.bool (decide (X.2.1 % 2 = 1))) rfl rfl (by kernel_rfl) (by kernel_rfl) (by kernel_rfl) (fun _ _ _ h => h) rfl (fun w' hS => ?_) hHeld ?_
        · clear hS; have hfl := HFL.out; go_simp
        try simp only [Act.put, List.setIfInBounds_toArray, List.set_cons_zero, List.set_cons_succ]
        refine held_take 21 (some 41) (.slice (some ⟨b, off, none⟩) len0 cap0) rfl rfl (by kernel_rfl) (by kernel_rfl) (by kernel_rfl) (fun _ _ _ h => h) rfl (fun w' hS => ?_) hHeld ?_
        · clear hS; go_simp
        try simp only [Act.put, List.setIfInBounds_toArray, List.set_cons_zero, List.set_cons_succ]
        refine held_take 22 (some 42) (.int .i64 (i : Nat)) rfl rfl (by kernel_rfl) (by kernel_rfl) (by kernel_rfl) (fun _ _ _ h => h) rfl (fun w' hS => ?_) hHeld ?_
        · clear hS; go_simp
        try simp only [Act.put, List.setIfInBounds_toArray, List.set_cons_zero, List.set_cons_succ]
        refine held_take 23 (some 43) (.pointer (some ⟨b, off + i * 36, none⟩)) rfl rfl (by kernel_rfl) (by kernel_rfl) (by kernel_rfl) (fun _ _ _ h => h) rfl (fun w' hS => ?_) hHeld ?_
        · clear hS; go_simp
        try simp only [Act.put, List.setIfInBounds_toArray, List.set_cons_zero, List.set_cons_succ]
        refine held_take 24 (some 44) (.pointer (some ⟨b, off + i * 36 + 3, none⟩)) rfl rfl (by kernel_rfl) (by kernel_rfl) (by kernel_rfl) (fun _ _ _ h => h) rfl (fun w' hS => ?_) hHeld ?_
        · clear hS; go_simp
        try simp only [Act.put, List.setIfInBounds_toArray, List.set_cons_zero, List.set_cons_succ]
        refine held_take 25 (some 45) (.string X.2.2.2.1) rfl rfl (by kernel_rfl) (by kernel_rfl) (by kernel_rfl) (fun _ _ _ h => h) rfl (fun w' hS => ?_) hHeld ?_
        · have := HCELL.out _ hS; obtain ⟨c0, c1, c2, c3, -⟩ := this; clear hS; go_simp
        try simp only [Act.put, List.setIfInBounds_toArray, List.set_cons_zero, List.set_cons_succ]
        refine held_take 27 (some 47) (.slice (some ⟨b, off, none⟩) len0 cap0) rfl rfl (by kernel_rfl) (by kernel_rfl) (by kernel_rfl) (fun _ _ _ h => h) rfl (fun w' hS => ?_) hHeld ?_
        · clear hS; go_simp
        try simp only [Act.put, List.setIfInBounds_toArray, List.set_cons_zero, List.set_cons_succ]
        refine held_take 28 (some 48) (.int .i64 (i : Nat)) rfl rfl (by kernel_rfl) (by kernel_rfl) (by kernel_rfl) (fun _ _ _ h => h) rfl (fun w' hS => ?_) hHeld ?_
        · clear hS; go_simp
        try simp only [Act.put, List.setIfInBounds_toArray, List.set_cons_zero, List.set_cons_succ]
        refine held_take 29 (some 49) (.pointer (some ⟨b, off + i * 36, none⟩)) rfl rfl (by kernel_rfl) (by kernel_rfl) (by kernel_rfl) (fun _ _ _ h => h) rfl (fun w' hS => ?_) hHeld ?_
        · clear hS; go_simp
        try simp only [Act.put, List.setIfInBounds_toArray, List.set_cons_zero, List.set_cons_succ]
        refine held_take 30 (some 50) (.pointer (some ⟨b, off + i * 36 + 4, none⟩)) rfl rfl (by kernel_rfl) (by kernel_rfl) (by kernel_rfl) (fun _ _ _ h => h) rfl (fun w' hS => ?_) hHeld ?_
        · clear hS; go_simp
        try simp only [Act.put, List.setIfInBounds_toArray, List.set_cons_zero, List.set_cons_succ]
        refine held_take 31 (some 51) (.agg (encL .u8 X.2.2.2.2)) rfl rfl (by kernel_rfl) (by kernel_rfl) (by kernel_rfl) (fun _ _ _ h => h) rfl (held_yield 27 (.tmp 50) rfl ⟨b, off + i * 36 + 4, none⟩ rfl _ (fun w' hS => (HCELL.out _ hS).2.2.2.2)) hHeld ?_
        try simp only [Act.put, List.setIfInBounds_toArray, List.set_cons_zero, List.set_cons_succ]
        refine held_one (i := 6) (by kernel_rfl) rfl rfl (fun K hK => ?_)
        go_simp
        refine Calls.mono (wnum_any _ w.heap.size X.2.1 (ys) hW0 HOK.out.2.1 (by have := HLEN.out; have p1 := (pkN_len X.2.1).2; have p2 := (pkN_len (zigN X.2.2.1)).2; have p3 := (pkN_len X.2.2.2.1.size).2; simp [flagN, textN, txt_length]; omega)) ?_
        rintro _ v1 ⟨rfl, hW1, hb1⟩
        dsimp only
        have hH1 : Below w.heap.size w v1 := hHeld.trans hb1
        refine hK.out _ _ hH1 ?_
        clear hK K hb1 hW0
        try simp only [Act.put, List.setIfInBounds_toArray, List.set_cons_zero, List.set_cons_succ]
        refine held_one (i := 12) (by kernel_rfl) rfl rfl (fun K hK => ?_)
        go_simp
        refine Calls.mono (wint_any _ w.heap.size X.2.2.1 (ys ++ pkN X.2.1) hW1 HOK.out.2.2.1.1 HOK.out.2.2.1.2 (by have := HLEN.out; have p1 := (pkN_len X.2.1).2; have p2 := (pkN_len (zigN X.2.2.1)).2; have p3 := (pkN_len X.2.2.2.1.size).2; simp [flagN, textN, txt_length]; omega)) ?_
        rintro _ v2 ⟨rfl, hW2, hb2⟩
        dsimp only
        have hH2 : Below w.heap.size w v2 := hH1.trans hb2
        refine hK.out _ _ hH2 ?_
        clear hK K hb2 hW1
        try simp only [Act.put, List.setIfInBounds_toArray, List.set_cons_zero, List.set_cons_succ]
        refine held_one (i := 20) (by kernel_rfl) rfl rfl (fun K hK => ?_)
        go_simp
        refine Calls.mono (wflag_any _ w.heap.size (decide (X.2.1 % 2 = 1)) ((ys ++ pkN X.2.1) ++ pkN (zigN X.2.2.1)) hW2 (by have := HLEN.out; have p1 := (pkN_len X.2.1).2; have p2 := (pkN_len (zigN X.2.2.1)).2; have p3 := (pkN_len X.2.2.2.1.size).2; simp [flagN, textN, txt_length]; omega)) ?_
        rintro _ v3 ⟨rfl, hW3, hb3⟩
        dsimp only
        have hH3 : Below w.heap.size w v3 := hH2.trans hb3
        refine hK.out _ _ hH3 ?_
        clear hK K hb3 hW2
        try simp only [Act.put, List.setIfInBounds_toArray, List.set_cons_zero, List.set_cons_succ]
        refine held_one (i := 26) (by kernel_rfl) rfl rfl (fun K hK => ?_)
        go_simp
        refine Calls.mono (wtext_any _ w.heap.size X.2.2.2.1 (((ys ++ pkN X.2.1) ++ pkN (zigN X.2.2.1)) ++ flagN (decide (X.2.1 % 2 = 1))) hW3 (by have := HLEN.out; have p1 := (pkN_len X.2.1).2; have p2 := (pkN_len (zigN X.2.2.1)).2; have p3 := (pkN_len X.2.2.2.1.size).2; simp [flagN, textN, txt_length]; omega)) ?_
        rintro _ v4 ⟨rfl, hW4, hb4⟩
        dsimp only
        have hH4 : Below w.heap.size w v4 := hH3.trans hb4
        refine hK.out _ _ hH4 ?_
        clear hK K hb4 hW3
        try simp only [Act.put, List.setIfInBounds_toArray, List.set_cons_zero, List.set_cons_succ]
        refine held_one (i := 32) (by kernel_rfl) rfl rfl (fun K hK => ?_)
        go_simp
        refine Calls.mono (wdigest_any _ w.heap.size X.2.2.2.2 ((((ys ++ pkN X.2.1) ++ pkN (zigN X.2.2.1)) ++ flagN (decide (X.2.1 % 2 = 1))) ++ textN X.2.2.2.1) hW4 HOK.out.2.2.2.1 HOK.out.2.2.2.2 (by have := HLEN.out; have p1 := (pkN_len X.2.1).2; have p2 := (pkN_len (zigN X.2.2.1)).2; have p3 := (pkN_len X.2.2.2.1.size).2; simp [flagN, textN, txt_length]; omega)) ?_
        rintro _ v5 ⟨rfl, hW5, hb5⟩
        dsimp only
        have hH5 : Below w.heap.size w v5 := hH4.trans hb5
        refine hK.out _ _ hH5 ?_
        clear hK K hb5 hW4
        try simp only [Act.put, List.setIfInBounds_toArray, List.set_cons_zero, List.set_cons_succ]
        refine wpAnyH_done (by kernel_rfl) ?_ _
        have HF : Hid (WAt v5 w.heap.size (ys ++ encB X) ∧ Below w.heap.size w v5) := ⟨by unfold encB; simpa [List.append_assoc] using hW5, hH5⟩
        clear hW5 hH5
        go_wp2_with fail
        go_roundw
        case rel => exact ⟨v5, i + 1, rfl, rfl, by omega, by rw [HENC.out]; exact HF.out.1, HF.out.2⟩
        case measure => simp [intOf]; omega
      · have hiN : i = len0 := by omega
        have hA2 : ¬ ((i : Int) < (len0 : Int)) := by omega
        rw [hiN] at hWr hyl
        have hbyt := allB_byt (fun i hi => HARG.out.1.2.1 i (by omega)) (fun i hi => HARG.out.2 i (by omega)) (n := len0) len0 (Nat.le_refl _)
        have hys : allB x0 len0 = restB x0 0 len0 := all_rest x0 len0
        rw [hys] at hWr hbyt hyl
        have hlen : (restB x0 0 len0).length ≤ 140737488355328 := by omega
        have P := wout_any wr w.heap.size _ hWr hlen
        have HB1 : Hid (Below w.heap.size w wr) := hbr
        have HBYT : Hid (Byt (restB x0 0 len0)) := hbyt
        clear hWr hbr hyl hbyt hys
        go_wp2_with fail
        refine P.mono ?_
        rintro _ v2 ⟨a, cap, r, rfl, hr, hn, hc, hcm, hi, hlt, b2⟩
        have HB2 : Hid (Below w.heap.size w v2) := HB1.out.trans (b2.mono HB1.out.size)
        have Q := read_any v2 a cap _ hr hc hcm (fun h => (hn h).2) r hi hlt HBYT.out
        clear P hr hn hc hcm hi hlt b2 HB1 HBYT
        go_wp2_with fail
        refine Q.mono ?_
        rintro _ v3 ⟨rfl, hR3, b3⟩
        have HB3 : Hid (Below w.heap.size w v3) := HB2.out.trans (b3.mono HB2.out.size)
        have hG : w.heap.size ≤ v2.heap.size := HB2.out.size
        have HR3 : Hid (RdAt v3 v2.heap.size r (restB x0 0 len0, 0)) := hR3
        clear Q b3 HB2 hR3
        generalize v2.heap.size = G at *
        go_wp2_with fail
        go_loopw [6] (fun ix wr => ∃ (wz : World) (i : Nat), wz = wr ∧ ix = .int .i64 i ∧ i ≤ len0 ∧ RdAt wz G r (restB x0 i (len0 - i), 0) ∧ Below w.heap.size w wz) (fun ix _ => len0 - (intOf ix).toNat)
        case atStart => exact ⟨_, 0, rfl, rfl, by omega, by rw [Nat.sub_zero]; exact HR3.out, HB3.out⟩
        case round =>
          clear HR3 HB3
          obtain ⟨wr, i, hwr, rfl, hin, hRr, hbr⟩ := hrel
          subst hwr
          have hnn : len0 ≤ 60 ∧ len0 ≤ len0 := HNN.out
          by_cases hil : i < len0
          · obtain ⟨b, off, rfl, hb, hcell⟩ := HARG.out.1.at hbr i (by omega)
            have hok := HARG.out.1.2.1 i (by omega)
            rw [show len0 - i = (len0 - (i + 1)) + 1 by omega, restB] at hRr
            obtain ⟨R, hRe⟩ : ∃ R, R = restB x0 (i + 1) (len0 - (i + 1)) := ⟨_, rfl⟩
            rw [← hRe] at hRr
            have HIX : Hid (R = restB x0 (i + 1) (len0 - (i + 1))) := hRe
            clear hRe
            obtain ⟨wA, wB, hL, hA, hC, hX, hbX, hsB⟩ := fld_take hcell hok.2.2.2.1
            have hR0 := hRr.below hbX
            have HGX : Hid (G < wr.heap.size) := hRr.lt
            generalize fldAt x0 i = X at *
            have HOK : Hid (FldOk X) := hok
            have HFL : Hid ((((X.2.1 : Nat) : Int) % 2 == 1) = decide (X.2.1 % 2 = 1)) := odd_dec X.2.1
            have HS : Hid (FldBlk wB wr.heap.size X ∧ Below w.heap.size w wB) := ⟨hX, hbr.trans (hbX.mono hbr.size)⟩
            have HXG : Hid (wr.heap.size ≠ G) := by have := HGX.out; unfold Hid; omega
            have HGG : Hid (w.heap.size ≤ G) := hG
            obtain ⟨c0, c1, c2, c3⟩ := hX.cells
            rw [encB_assoc] at hR0
            clear hX hbX hsB hok hcell hRr hbr hb hG HGX
            by_cases hsm : X.2.2.2.1.size ≤ 16384
            · have HSM : Hid (X.2.2.2.1.size ≤ 16384) := hsm
              go_wp2_with (first
                | (refine load_op rfl 29 (.tmp 64) rfl ⟨b, off + i * 36, none⟩ rfl _ hL ?_)
                | (refine alloc_op rfl 29 rfl _ hA ?_)
                | (refine store_op rfl 29 (.tmp 7) (.tmp 65) rfl ⟨wr.heap.size, 0, none⟩ rfl _ rfl hC ?_))
              clear c0 c1 c2 c3 hL hA hC hsm
              refine wp_region_held_drew (S := fun w' => FldBlk w' wr.heap.size X ∧ Below w.heap.size w w') (by kernel_rfl) (⟨HS.out.1, HS.out.2.drew⟩) (fun hHeld => ?_)
              refine held_take 0 (some 71) (.pointer (some ⟨G, 0, none⟩)) rfl rfl (by kernel_rfl) (by kernel_rfl) (by kernel_rfl) (fun _ _ _ h => h) rfl (fun w' hS => ?_) hHeld ?_
              · clear hS; go_simp
              try simp only [Act.put, List.setIfInBounds_toArray, List.set_cons_zero, List.set_cons_succ]
              refine held_take 2 (some 73) (.pointer (some ⟨wr.heap.size, 1, none⟩)) rfl rfl (by kernel_rfl) (by kernel_rfl) (by kernel_rfl) (fun _ _ _ h => h) rfl (fun w' hS => ?_) hHeld ?_
              · clear hS; go_simp
              try simp only [Act.put, List.setIfInBounds_toArray, List.set_cons_zero, List.set_cons_succ]
              refine held_take 3 (some 74) (.int .u64 (X.2.1 : Nat)) rfl rfl (by kernel_rfl) (by kernel_rfl) (by kernel_rfl) (fun _ _ _ h => h) rfl (fun w' hS => ?_) hHeld ?_
              · have := FldBlk.cells hS.1; obtain ⟨c0, c1, c2, c3⟩ := this; clear hS; go_simp
              try simp only [Act.put, List.setIfInBounds_toArray, List.set_cons_zero, List.set_cons_succ]
              refine held_one (i := 1) (by kernel_rfl) rfl rfl (fun K hK => ?_)
              go_simp
              refine Calls.mono (rd_num _ G r X.2.1 _ HOK.out.2.1 hR0) ?_
              rintro _ v1 ⟨rfl, hR1, hb1⟩
              dsimp only
              have hH1 : FldBlk v1 wr.heap.size X ∧ Below w.heap.size w v1 := ⟨FldBlk.keep hHeld.1 (hb1.block _ (FldBlk.lt hHeld.1) HXG.out), hHeld.2.trans (hb1.below HGG.out hHeld.2.size)⟩
              refine hK.out _ _ hH1 ?_
              clear hK K hb1 hR0
              try simp only [Act.put, List.setIfInBounds_toArray, List.set_cons_zero, List.set_cons_succ]
              refine held_take 4 (some 75) (.bool false) rfl rfl (by kernel_rfl) (by kernel_rfl) (by kernel_rfl) (fun _ _ _ h => h) rfl (fun w' hS => ?_) hH1 ?_
              · clear hS; go_simp
              try simp only [Act.put, List.setIfInBounds_toArray, List.set_cons_zero, List.set_cons_succ]
              refine held_take 5 (some 76) (.bool false) rfl rfl (by kernel_rfl) (by kernel_rfl) (by kernel_rfl) (fun _ _ _ h => h) rfl (fun w' hS => ?_) hH1 ?_
              · clear hS; go_simp
              try simp only [Act.put, List.setIfInBounds_toArray, List.set_cons_zero, List.set_cons_succ]
              refine held_take 6 (some 77) (.pointer (some ⟨G, 0, none⟩)) rfl rfl (by kernel_rfl) (by kernel_rfl) (by kernel_rfl) (fun _ _ _ h => h) rfl (fun w' hS => ?_) hH1 ?_
              · clear hS; go_simp
              try simp only [Act.put, List.setIfInBounds_toArray, List.set_cons_zero, List.set_cons_succ]
              refine held_take 8 (some 79) (.pointer (some ⟨wr.heap.size, 2, none⟩)) rfl rfl (by kernel_rfl) (by kernel_rfl) (by kernel_rfl) (fun _ _ _ h => h) rfl (fun w' hS => ?_) hH1 ?_
              · clear hS; go_simp
              try simp only [Act.put, List.setIfInBounds_toArray, List.set_cons_zero, List.set_cons_succ]
              refine held_take 9 (some 80) (.int .i64 X.2.2.1) rfl rfl (by kernel_rfl) (by kernel_rfl) (by kernel_rfl) (fun _ _ _ h => h) rfl (fun w' hS => ?_) hH1 ?_
              · have := FldBlk.cells hS.1; obtain ⟨c0, c1, c2, c3⟩ := this; clear hS; go_simp
              try simp only [Act.put, List.setIfInBounds_toArray, List.set_cons_zero, List.set_cons_succ]
              refine held_one (i := 7) (by kernel_rfl) rfl rfl (fun K hK => ?_)
              go_simp
              refine Calls.mono (rd_int _ G r X.2.2.1 _ HOK.out.2.2.1.1 HOK.out.2.2.1.2 hR1) ?_
              rintro _ v2 ⟨rfl, hR2, hb2⟩
              dsimp only
              have hH2 : FldBlk v2 wr.heap.size X ∧ Below w.heap.size w v2 := ⟨FldBlk.keep hH1.1 (hb2.block _ (FldBlk.lt hH1.1) HXG.out), hH1.2.trans (hb2.below HGG.out hH1.2.size)⟩
              refine hK.out _ _ hH2 ?_
              clear hK K hb2 hR1
              try simp only [Act.put, List.setIfInBounds_toArray, List.set_cons_zero, List.set_cons_succ]
              refine held_take 10 (some 81) (.bool false) rfl rfl (by kernel_rfl) (by kernel_rfl) (by kernel_rfl) (fun _ _ _ h => h) rfl (fun w' hS => ?_) hH2 ?_
              · clear hS; go_simp
              try simp only [Act.put, List.setIfInBounds_toArray, List.set_cons_zero, List.set_cons_succ]
              refine held_take 11 (some 82) (.bool false) rfl rfl (by kernel_rfl) (by kernel_rfl) (by kernel_rfl) (fun _ _ _ h => h) rfl (fun w' hS => ?_) hH2 ?_
              · clear hS; go_simp
              try simp only [Act.put, List.setIfInBounds_toArray, List.set_cons_zero, List.set_cons_succ]
              refine held_take 12 (some 83) (.bool false) rfl rfl (by kernel_rfl) (by kernel_rfl) (by kernel_rfl) (fun _ _ _ h => h) rfl (fun w' hS => ?_) hH2 ?_
              · clear hS; go_simp
              try simp only [Act.put, List.setIfInBounds_toArray, List.set_cons_zero, List.set_cons_succ]
              refine held_take 13 (some 84) (.pointer (some ⟨G, 0, none⟩)) rfl rfl (by kernel_rfl) (by kernel_rfl) (by kernel_rfl) (fun _ _ _ h => h) rfl (fun w' hS => ?_) hH2 ?_
              · clear hS; go_simp
              try simp only [Act.put, List.setIfInBounds_toArray, List.set_cons_zero, List.set_cons_succ]
              refine held_take 15 (some 86) (.pointer (some ⟨wr.heap.size, 1, none⟩)) rfl rfl (by kernel_rfl) (by kernel_rfl) (by kernel_rfl) (fun _ _ _ h => h) rfl (fun w' hS => ?_) hH2 ?_
              · clear hS; go_simp
              try simp only [Act.put, List.setIfInBounds_toArray, List.set_cons_zero, List.set_cons_succ]
              refine held_take 16 (some 87) (.int .u64 (X.2.1 : Nat)) rfl rfl (by kernel_rfl) (by kernel_rfl) (by kernel_rfl) (fun _ _ _ h => h) rfl (fun w' hS => ?_) hH2 ?_
              · have := FldBlk.cells hS.1; obtain ⟨c0, c1, c2, c3⟩ := this; clear hS; go_simp
              try simp only [Act.put, List.setIfInBounds_toArray, List.set_cons_zero, List.set_cons_succ]
              refine held_take 17 (some 88) (.int .u64 ((X.2.1 : Int) % 2)) rfl rfl (by kernel_rfl) (by kernel_rfl) (by kernel_rfl) (fun _ _ _ h => h) rfl (fun w' hS => ?_) hH2 ?_
              · clear hS; go_simp; first | omega | exact Int.tmod_eq_emod_of_nonneg (by omega)
              try simp only [Act.put, List.setIfInBounds_toArray, List.set_cons_zero, List.set_cons_succ]
              refine held_take 18 (some 89) (.bool (decide (X.2.1 % 2 = 1))) rfl rfl (by kernel_rfl) (by kernel_rfl) (by kernel_rfl) (fun _ _ _ h => h) rfl (fun w' hS => ?_) hH2 ?_
              · clear hS; have hfl := HFL.out; go_simp
              try simp only [Act.put, List.setIfInBounds_toArray, List.set_cons_zero, List.set_cons_succ]
              refine held_one (i := 14) (by kernel_rfl) rfl rfl (fun K hK => ?_)
              go_simp
              refine Calls.mono (rd_flag _ G r (decide (X.2.1 % 2 = 1)) _ hR2) ?_
              rintro _ v3 ⟨rfl, hR3, hb3⟩
              dsimp only
              have hH3 : FldBlk v3 wr.heap.size X ∧ Below w.heap.size w v3 := ⟨FldBlk.keep hH2.1 (hb3.block _ (FldBlk.lt hH2.1) HXG.out), hH2.2.trans (hb3.below HGG.out hH2.2.size)⟩
              refine hK.out _ _ hH3 ?_
              clear hK K hb3 hR2
              try simp only [Act.put, List.setIfInBounds_toArray, List.set_cons_zero, List.set_cons_succ]
              refine held_take 19 (some 90) (.bool false) rfl rfl (by kernel_rfl) (by kernel_rfl) (by kernel_rfl) (fun _ _ _ h => h) rfl (fun w' hS => ?_) hH3 ?_
              · clear hS; go_simp
              try simp only [Act.put, List.setIfInBounds_toArray, List.set_cons_zero, List.set_cons_succ]
              refine held_take 20 (some 91) (.bool false) rfl rfl (by kernel_rfl) (by kernel_rfl) (by kernel_rfl) (fun _ _ _ h => h) rfl (fun w' hS => ?_) hH3 ?_
              · clear hS; go_simp
              try simp only [Act.put, List.setIfInBounds_toArray, List.set_cons_zero, List.set_cons_succ]
              refine held_take 21 (some 92) (.bool false) rfl rfl (by kernel_rfl) (by kernel_rfl) (by kernel_rfl) (fun _ _ _ h => h) rfl (fun w' hS => ?_) hH3 ?_
              · clear hS; go_simp
              try simp only [Act.put, List.setIfInBounds_toArray, List.set_cons_zero, List.set_cons_succ]
              refine held_take 22 (some 93) (.pointer (some ⟨G, 0, none⟩)) rfl rfl (by kernel_rfl) (by kernel_rfl) (by kernel_rfl) (fun _ _ _ h => h) rfl (fun w' hS => ?_) hH3 ?_
              · clear hS; go_simp
              try simp only [Act.put, List.setIfInBounds_toArray, List.set_cons_zero, List.set_cons_succ]
              refine held_take 24 (some 95) (.pointer (some ⟨wr.heap.size, 3, none⟩)) rfl rfl (by kernel_rfl) (by kernel_rfl) (by kernel_rfl) (fun _ _ _ h => h) rfl (fun w' hS => ?_) hH3 ?_
              · clear hS; go_simp
              try simp only [Act.put, List.setIfInBounds_toArray, List.set_cons_zero, List.set_cons_succ]
              refine held_take 25 (some 96) (.string X.2.2.2.1) rfl rfl (by kernel_rfl) (by kernel_rfl) (by kernel_rfl) (fun _ _ _ h => h) rfl (fun w' hS => ?_) hH3 ?_
              · have := FldBlk.cells hS.1; obtain ⟨c0, c1, c2, c3⟩ := this; clear hS; go_simp
              try simp only [Act.put, List.setIfInBounds_toArray, List.set_cons_zero, List.set_cons_succ]
              refine held_one (i := 23) (by kernel_rfl) rfl rfl (fun K hK => ?_)
              go_simp
              refine Calls.mono (rd_text _ G r X.2.2.2.1 _ HSM.out hR3) ?_
              rintro _ v4 ⟨rfl, hR4, hb4⟩
              dsimp only
              have hH4 : FldBlk v4 wr.heap.size X ∧ Below w.heap.size w v4 := ⟨FldBlk.keep hH3.1 (hb4.block _ (FldBlk.lt hH3.1) HXG.out), hH3.2.trans (hb4.below HGG.out hH3.2.size)⟩
              refine hK.out _ _ hH4 ?_
              clear hK K hb4 hR3
              try simp only [Act.put, List.setIfInBounds_toArray, List.set_cons_zero, List.set_cons_succ]
              refine held_take 26 (some 97) (.bool false) rfl rfl (by kernel_rfl) (by kernel_rfl) (by kernel_rfl) (fun _ _ _ h => h) rfl (fun w' hS => ?_) hH4 ?_
              · clear hS; go_simp
              try simp only [Act.put, List.setIfInBounds_toArray, List.set_cons_zero, List.set_cons_succ]
              refine held_take 27 (some 98) (.bool false) rfl rfl (by kernel_rfl) (by kernel_rfl) (by kernel_rfl) (fun _ _ _ h => h) rfl (fun w' hS => ?_) hH4 ?_
              · clear hS; go_simp
              try simp only [Act.put, List.setIfInBounds_toArray, List.set_cons_zero, List.set_cons_succ]
              refine held_take 28 (some 99) (.bool false) rfl rfl (by kernel_rfl) (by kernel_rfl) (by kernel_rfl) (fun _ _ _ h => h) rfl (fun w' hS => ?_) hH4 ?_
              · clear hS; go_simp
              try simp only [Act.put, List.setIfInBounds_toArray, List.set_cons_zero, List.set_cons_succ]
              refine held_take 29 (some 100) (.pointer (some ⟨G, 0, none⟩)) rfl rfl (by kernel_rfl) (by kernel_rfl) (by kernel_rfl) (fun _ _ _ h => h) rfl (fun w' hS => ?_) hH4 ?_
              · clear hS; go_simp
              try simp only [Act.put, List.setIfInBounds_toArray, List.set_cons_zero, List.set_cons_succ]
              refine held_take 31 (some 102) (.pointer (some ⟨wr.heap.size, 4, none⟩)) rfl rfl (by kernel_rfl) (by kernel_rfl) (by kernel_rfl) (fun _ _ _ h => h) rfl (fun w' hS => ?_) hH4 ?_
              · clear hS; go_simp
              try simp only [Act.put, List.setIfInBounds_toArray, List.set_cons_zero, List.set_cons_succ]
              refine held_take 32 (some 103) (.agg (encL .u8 X.2.2.2.2)) rfl rfl (by kernel_rfl) (by kernel_rfl) (by kernel_rfl) (fun _ _ _ h => h) rfl (held_yield 27 (.tmp 102) rfl ⟨wr.heap.size, 4, none⟩ rfl _ (fun w' hS => FldBlk.digest hS.1 HOK.out.2.2.2.1)) hH4 ?_
              try simp only [Act.put, List.setIfInBounds_toArray, List.set_cons_zero, List.set_cons_succ]
              refine held_one (i := 30) (by kernel_rfl) rfl rfl (fun K hK => ?_)
              go_simp
              refine Calls.mono (rd_dig _ G r X.2.2.2.2 _ HOK.out.2.2.2.1 hR4) ?_
              rintro _ v5 ⟨rfl, hR5, hb5⟩
              dsimp only
              have hH5 : FldBlk v5 wr.heap.size X ∧ Below w.heap.size w v5 := ⟨FldBlk.keep hH4.1 (hb5.block _ (FldBlk.lt hH4.1) HXG.out), hH4.2.trans (hb5.below HGG.out hH4.2.size)⟩
              refine hK.out _ _ hH5 ?_
              clear hK K hb5 hR4
              try simp only [Act.put, List.setIfInBounds_toArray, List.set_cons_zero, List.set_cons_succ]
              refine held_take 33 (some 104) (.bool false) rfl rfl (by kernel_rfl) (by kernel_rfl) (by kernel_rfl) (fun _ _ _ h => h) rfl (fun w' hS => ?_) hH5 ?_
              · clear hS; have := same_digest X.2.2.2.2 HOK.out.2.2.2.1 w'; go_simp
              try simp only [Act.put, List.setIfInBounds_toArray, List.set_cons_zero, List.set_cons_succ]
              refine held_take 34 (some 105) (.bool false) rfl rfl (by kernel_rfl) (by kernel_rfl) (by kernel_rfl) (fun _ _ _ h => h) rfl (fun w' hS => ?_) hH5 ?_
              · clear hS; go_simp
              try simp only [Act.put, List.setIfInBounds_toArray, List.set_cons_zero, List.set_cons_succ]
              refine held_take 35 (some 106) (.bool false) rfl rfl (by kernel_rfl) (by kernel_rfl) (by kernel_rfl) (fun _ _ _ h => h) rfl (fun w' hS => ?_) hH5 ?_
              · clear hS; go_simp
              try simp only [Act.put, List.setIfInBounds_toArray, List.set_cons_zero, List.set_cons_succ]
              refine held_take 36 (some 107) (.pointer (some ⟨G, 0, none⟩)) rfl rfl (by kernel_rfl) (by kernel_rfl) (by kernel_rfl) (fun _ _ _ h => h) rfl (fun w' hS => ?_) hH5 ?_
              · clear hS; go_simp
              try simp only [Act.put, List.setIfInBounds_toArray, List.set_cons_zero, List.set_cons_succ]
              refine held_one (i := 37) (by kernel_rfl) rfl rfl (fun K hK => ?_)
              go_simp
              refine Calls.mono ((err_any _ G r _ hR5).mono (fun _ _ h => (⟨h.1, h.2⟩ : _ ∧ _))) ?_
              rintro _ v6 ⟨rfl, hb6⟩
              dsimp only
              have hR6 : RdAt v6 G r (R, 0) := by rw [hb6]; exact hR5
              have hH6 : FldBlk v6 wr.heap.size X ∧ Below w.heap.size w v6 := by rw [hb6]; exact hH5
              refine hK.out _ _ hH6 ?_
              clear hK K hb6 
              try simp only [Act.put, List.setIfInBounds_toArray, List.set_cons_zero, List.set_cons_succ]
              refine held_take 38 (some 109) (.bool false) rfl rfl (by kernel_rfl) (by kernel_rfl) (by kernel_rfl) (fun _ _ _ h => h) rfl (fun w' hS => ?_) hH6 ?_
              · clear hS; go_simp
              try simp only [Act.put, List.setIfInBounds_toArray, List.set_cons_zero, List.set_cons_succ]
              refine held_take 39 (some 110) (.bool false) rfl rfl (by kernel_rfl) (by kernel_rfl) (by kernel_rfl) (fun _ _ _ h => h) rfl (fun w' hS => ?_) hH6 ?_
              · clear hS; go_simp
              try simp only [Act.put, List.setIfInBounds_toArray, List.set_cons_zero, List.set_cons_succ]
              refine wpAnyH_done (by kernel_rfl) ?_ _
              have HF : Hid (RdAt v6 G r (R, 0) ∧ Below w.heap.size w v6) := ⟨hR6, hH6.2⟩
              clear hR6 hH6
              go_wp2_with fail
              go_roundw
              case rel => exact ⟨v6, i + 1, rfl, rfl, by omega, by rw [← HIX.out]; exact HF.out.1, HF.out.2⟩
              case measure => simp [intOf]; omega
            · have hsm2 : (16384 : Int) < (X.2.2.2.1.size : Int) := by omega
              go_wp2_with (first
                | (refine load_op rfl 29 (.tmp 64) rfl ⟨b, off + i * 36, none⟩ rfl _ hL ?_)
                | (refine alloc_op rfl 29 rfl _ hA ?_)
                | (refine store_op rfl 29 (.tmp 7) (.tmp 65) rfl ⟨wr.heap.size, 0, none⟩ rfl _ rfl hC ?_))
              refine (awake_any wB).mono ?_
              rintro _ z1 ⟨rfl, bA⟩
              go_wp2_with fail
              go_ret
              exact ⟨rfl, HS.out.2.trans (bA.mono HS.out.2.size)⟩
          · have hiN : i = len0 := by omega
            have hA2 : ¬ ((i : Int) < (len0 : Int)) := by omega
            rw [hiN, Nat.sub_self, restB] at hRr
            have HB1 : Hid (Below w.heap.size w wr ∧ w.heap.size ≤ G) := ⟨hbr, hG⟩
            clear hbr hG
            go_wp2_with fail
            refine (awake_any wr).mono ?_
            rintro _ z1 ⟨rfl, bA⟩
            have P : Calls Try.prog 34 #[.pointer (some ⟨G, 0, none⟩)] z1 (RdR z1 G r (.int .i64 0) ([], 0)) := by
              have := pend_any z1 G r _ (hRr.below bA)
              exact this
            have HB2 : Hid (Below w.heap.size w z1) := HB1.out.1.trans (bA.mono HB1.out.1.size)
            clear hRr bA
            go_wp2_with fail
            refine P.mono ?_
            rintro _ z2 ⟨rfl, hR2, o2⟩
            have HB3 : Hid (Below w.heap.size w z2) := HB2.out.trans (o2.below HB1.out.2 HB2.out.size)
            clear P
            go_wp2_with fail
            go_ret
            exact ⟨rfl, HB3.out⟩
set_option maxRecDepth 100000 in
theorem contract (H : Type) (enc : TypeId × Value → H) (W : World) (base : Nat) (args : Array Value) (ds gs : List (DataW H)) (before : List MemPlace)
    (hval : ∀ (j : Nat) t v, Try.f5.params[j]? = some t → args[j]? = some v → Value.okWide Try.prog W .any base t v)
    (hW : DataW.Whole enc Try.prog Try.f5.params.toList Rows.packBackSpec.vars false W args.toList ds gs before)
    (hk : Rows.uptoSmall H (ds ++ gs) = true)
    (hsz : (DataW.weightsEach Try.prog (Try.f5.params.toList ++ (Rows.OpenSpec.upto Rows.packBackSpec).bare.plain.varTypes Try.prog) (ds ++ gs)).all (· ≤ reachBytes) = true) :
    Calls Try.prog 5 args W fun e W' => ∃ v, e = .returned v ∧ Rows.packBackSpec.post enc Try.prog Try.f5 false true false false W args v W' := by
  have hW' := hW
  obtain ⟨p, q, hA0, hV, rfl, hfz, hnd⟩ := hW
  have hA : DataW.TrodAll enc Try.prog W 0 (fun _ => true) true Try.f5.params.toList args.toList ds p := hA0
  rw [Try.params5] at hA hval hsz
  obtain ⟨v0, vs0, d0, ds0, p0, q0, hargs, rfl, rfl, h0, r0⟩ := trodAll_cons hA
  obtain ⟨rfl, rfl, rfl⟩ := trodAll_nil r0
  obtain rfl : args = #[v0] := by cases args; simp_all
  obtain ⟨rfl, rfl⟩ := trodVars_none hV
  have hbulk := of_decide_eq_true hk
  simp only [List.append_nil, Rows.uptoBulkAll] at hbulk
  obtain ⟨a0, len0, cap0, rfl⟩ := okWide_slice Try.underlying22 (hval 0 22 v0 rfl rfl)
  have k0 := h0
  have lt0 : ∀ x ∈ p0, x.block < W.heap.size := by obtain ⟨m, hm⟩ := k0; exact DataW.trod_lt m _ _ _ hm
  obtain ⟨x0, w0, lc0, mc0, bu00⟩ : ∃ fs, ArgF W a0 len0 fs ∧ len0 ≤ cap0 ∧ cap0 ≤ maxLen ∧ ∀ i, i < len0 → (fldAt fs i).2.2.2.1.size ≤ Rows.uptoBulk d0 := by
    obtain ⟨fuel, hf⟩ := h0
    exact fields_open hf
  have bu0 : ∀ i, i < len0 → (fldAt x0 i).2.2.2.1.size ≤ 1048576 := fun i hi => by have := bu00 i hi; omega
  clear hA0 hsz hbulk
  refine (walk W a0 len0 cap0 x0 w0 lc0 mc0 bu0).mono fun e W' ⟨he, bel⟩ => ?_
  subst he
  exact ⟨_, rfl, _, _, _, [], _, [], hW', trodAll_mk1 (shut_bool Try.underlying4 _), (trodAll_cons_mk (Below.trod laidOut (by kernel_rfl) (of_decide_eq_true (by kernel_rfl)) k0 bel lt0) trodAll_mk0), rfl, bel.frame _, fun h => by cases h⟩
set_option maxRecDepth 100000 in
theorem lifted (os : Os) (started : os.Started) (H : Type) (enc : TypeId × Value → H) (I : Stop.Interp) :
    ReturnsInHanded {} Try.checked os 5 .any ((Rows.OpenSpec.upto Rows.packBackSpec).pre6 enc Try.prog Try.f5 Rows.packBackUptoRow.domain false) (((Rows.OpenSpec.upto Rows.packBackSpec).at I).post enc Try.prog Try.f5 false true false false) := by
  refine returnsInHanded_of_cond_sized (C := Try.checked) (s := (Rows.OpenSpec.upto Rows.packBackSpec)) (k := Rows.uptoSmall) rfl own started (by kernel_rfl) Try.func5
    (OpenSpec.witness (enc := enc) (C := Try.checked) (s := (Rows.OpenSpec.upto Rows.packBackSpec)) (k := Rows.uptoSmall) rfl false ⟨#[], #[.slice none 0 0], []⟩ 8 (by kernel_rfl) (by kernel_rfl) (by kernel_rfl)
      (x := ([.nil], [], [])) (by kernel_rfl) rfl (by kernel_rfl)) ?_
  intro W base args ds gs before hval hW _ hk hsz _
  exact contract H enc W base args ds gs before hval hW hk hsz
theorem over : Rows.packBackUptoRow.holds Try.pinned (Rows.OpenSpec.upto Rows.packBackSpec) :=
  OpenClaim.holds_of_cond 5 Try.f5 rfl rfl rfl rfl rfl rfl rfl ⟨rfl, rfl, rfl, rfl, rfl⟩ rfl rfl rfl rfl rfl (by kernel_rfl) Try.func5 (by kernel_rfl)
    (of_decide_eq_true (by kernel_rfl)) (by unfold Func.isWrapper; first | (rw [if_pos (by decide +kernel)]; kernel_rfl) | (rw [if_neg (by decide +kernel)]; exact ⟨rfl, rfl⟩))
    (fun os started H enc _ I => lifted os started H enc I)
theorem proved : Rows.PackBackUptoSaid := over
end Go.Proofs.Ytngojkleehgbaaa.packBackUpto
