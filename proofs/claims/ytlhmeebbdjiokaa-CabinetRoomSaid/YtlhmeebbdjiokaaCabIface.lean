/-
  What a call of the program's cabinet is asked to keep, in the form that the walks of layer 9 use: lengths, a pair of cabinets (the program's and the document's) that stand for the same lists.
-/
import Derived.Test.YtlhmeebbdjiokaaCabCrash
namespace Go.Proofs.Ytlhmeebbdjiokaa
open Go.ChangeShapes Go.WideShapes Go.ChangeAt Go.RowKit
set_option linter.unusedVariables false
set_option linter.unusedSimpArgs false
/-- No list is longer than n. -/
def SmallC (c : CabM) (n : Nat) : Prop := c.now.length ≤ n ∧ c.sure.length + c.wait.length ≤ n ∧ c.files.length ≤ n ∧ c.quota ≤ 1073741824
theorem SmallC.mono {c : CabM} {n m : Nat} (h : SmallC c n) (hm : n ≤ m) : SmallC c m := ⟨Nat.le_trans h.1 hm, Nat.le_trans h.2.1 hm, Nat.le_trans h.2.2.1 hm, h.2.2.2⟩
theorem small_power {c : CabM} {n : Nat} (h : SmallC c n) : SmallC (powerC c) n := by
  obtain ⟨e1, e2, e3, e4, e5⟩ := power_lists c
  unfold SmallC
  rw [e1, e2, e3, e4, e5]
  exact h
theorem small_new (q : Nat) (h : q ≤ 1073741824) : SmallC (newC q) 0 := ⟨Nat.le_refl _, Nat.le_refl _, Nat.le_refl _, h⟩
theorem small_names {c : CabM} {n : Nat} (x : ByteArray × ByteArray × Nat) (h : SmallC c n) : SmallC (namesC c x) (n + 1) := by
  obtain ⟨h1, h2, h3, h4⟩ := h
  refine ⟨Nat.le_trans (with_len c.now x) (by omega), ?_, by show c.files.length ≤ _; omega, h4⟩
  show c.sure.length + (c.wait ++ [x]).length ≤ n + 1
  rw [List.length_append]
  show c.sure.length + (c.wait.length + 1) ≤ n + 1
  omega
theorem small_create {c : CabM} {n : Nat} (nm : ByteArray) (h : SmallC c n) : SmallC (createC c nm) (n + 1) := by
  obtain ⟨h1, h2, h3, h4⟩ := h
  refine ⟨Nat.le_trans (with_len c.now _) (by omega), ?_, ?_, h4⟩
  · show c.sure.length + (c.wait ++ [_]).length ≤ n + 1
    rw [List.length_append]
    show c.sure.length + (c.wait.length + 1) ≤ n + 1
    omega
  · show (c.files ++ [_]).length ≤ n + 1
    rw [List.length_append]
    show c.files.length + 1 ≤ n + 1
    omega
/-- What a change keeps. -/
def GoodC (c : CabM) (n : Nat) : Prop := InvC c ∧ TimeC c ∧ SmallC c n
theorem GoodC.mono {c : CabM} {n m : Nat} (h : GoodC c n) (hm : n ≤ m) : GoodC c m := ⟨h.1, h.2.1, h.2.2.mono hm⟩
theorem good_new (q : Nat) (h : q ≤ 1073741824) : GoodC (newC q) 0 := ⟨inv_new q, time_new q, small_new q h⟩
theorem good_power {c : CabM} {n : Nat} (h : GoodC c n) : GoodC (powerC c) n := ⟨inv_power h.1, time_power h.2.1, small_power h.2.2⟩
theorem good_done {c : CabM} {n : Nat} (h : GoodC c n) (e : Nat) (f : CabM → CabM) (hf : e = 0 → GoodC (f (powerC c)) (n + 1)) : GoodC (doneC e c f).2 (n + 1) := by
  unfold doneC
  split
  · rename_i he
    split
    · exact hf he
    · exact (good_power h).mono (Nat.le_succ n)
  · exact h.mono (Nat.le_succ n)
theorem good_create {c : CabM} {n : Nat} (h : GoodC c n) (nm : ByteArray) : GoodC (createR c nm).2 (n + 1) :=
  good_done h _ _ fun _ => ⟨inv_create (inv_power h.1) nm, time_power h.2.1, small_create nm (small_power h.2.2)⟩
theorem append_some {c : CabM} {nm B : ByteArray} (h : appendE c nm B = 0) : ∃ n, findC c.now nm = some n ∧ (fileC c n).1.size + B.size ≤ 1048576 ∧ usedC c + B.size ≤ c.quota := by
  unfold appendE at h
  split at h
  · cases h
  · split at h
    · cases h
    · rename_i n hn
      split at h
      · cases h
      · split at h
        · cases h
        · exact ⟨n, hn, by omega, by omega⟩
theorem some_some {c : CabM} {nm : ByteArray} (h : someE c nm = 0) : ∃ n, findC c.now nm = some n := by
  unfold someE at h
  split at h
  · cases h
  · split at h
    · cases h
    · rename_i n hn
      exact ⟨n, hn⟩
theorem rename_some {c : CabM} {old nm : ByteArray} (h : renameE c old nm = 0) : ∃ n, findC c.now old = some n := by
  unfold renameE at h
  split at h
  · cases h
  · split at h
    · cases h
    · rename_i n hn
      exact ⟨n, hn⟩
theorem numC_eq {c : CabM} {nm : ByteArray} {n : Nat} (h : findC c.now nm = some n) : numC c nm = n := by unfold numC; rw [h]; rfl
theorem taken_power (c : CabM) (i : Nat) : takenC (powerC c) i = takenC c i := by
  unfold takenC
  rw [(power_lists c).2.2.2.1, (power_lists c).2.1]
theorem good_append {c : CabM} {n : Nat} (h : GoodC c n) (nm B : ByteArray) : GoodC (appendR c nm B).2 (n + 1) :=
  good_done h _ _ fun he => by
    obtain ⟨k, hk, h1, h2⟩ := append_some he
    have hk' : findC (powerC c).now nm = some k := by rw [(power_lists c).1]; exact hk
    have hf : fileC (powerC c) k = fileC c k := by unfold fileC; rw [(power_lists c).2.2.1]
    rw [numC_eq hk]
    refine ⟨(inv_append (inv_power h.1) B hk' (by rw [hf]; exact h1) (by rw [used_power, (power_lists c).2.2.2.2]; exact h2)).1, time_power h.2.1, ?_⟩
    have := (small_power h.2.2).mono (Nat.le_succ n)
    refine ⟨this.1, this.2.1, ?_, this.2.2.2⟩
    show ((powerC c).files.set k _).length ≤ n + 1
    rw [List.length_set]
    exact this.2.2.1
theorem good_sync {c : CabM} {n : Nat} (h : GoodC c n) (nm : ByteArray) : GoodC (syncR c nm).2 (n + 1) :=
  good_done h _ _ fun he => by
    obtain ⟨k, hk⟩ := some_some he
    have hk' : findC (powerC c).now nm = some k := by rw [(power_lists c).1]; exact hk
    rw [numC_eq hk]
    refine ⟨(inv_sync (inv_power h.1) hk').1, time_power h.2.1, ?_⟩
    have := (small_power h.2.2).mono (Nat.le_succ n)
    refine ⟨this.1, this.2.1, ?_, this.2.2.2⟩
    show ((powerC c).files.set k _).length ≤ n + 1
    rw [List.length_set]
    exact this.2.2.1
theorem good_move {c : CabM} {n : Nat} (h : GoodC c n) (old nm : ByteArray) (k : Nat) (who : ByteArray) (hk : findC c.now who = some k) : GoodC (namesC (powerC c) (old, nm, k)) (n + 1) :=
  ⟨inv_names (inv_power h.1) _ (by rw [taken_power]; exact (inv_files h.1 hk).2), time_power h.2.1, small_names _ (small_power h.2.2)⟩
theorem good_rename {c : CabM} {n : Nat} (h : GoodC c n) (old nm : ByteArray) : GoodC (renameR c old nm).2 (n + 1) :=
  good_done h _ _ fun he => by
    obtain ⟨k, hk⟩ := rename_some he
    rw [numC_eq hk]
    exact good_move h old nm k old hk
theorem good_remove {c : CabM} {n : Nat} (h : GoodC c n) (nm : ByteArray) : GoodC (removeR c nm).2 (n + 1) :=
  good_done h _ _ fun he => by
    obtain ⟨k, hk⟩ := some_some he
    rw [numC_eq hk]
    exact good_move h nm _ k nm hk
theorem good_turn {c : CabM} {n : Nat} (h : GoodC c n) : GoodC (turnR c).2 (n + 1) :=
  good_done h _ _ fun he => by
    have := (small_power h.2.2).mono (Nat.le_succ n)
    exact ⟨inv_turn (inv_power h.1), time_power h.2.1, this.1, this.1, this.2.2.1, this.2.2.2⟩
theorem good_fail {c : CabM} {n : Nat} (h : GoodC c n) (z : Int) (hz : z ≤ 9223372036854775807) : GoodC (failC c z) n :=
  ⟨inv_fail z h.1, fun ht => ⟨by simpa [failC] using ht, hz⟩, h.2.2⟩
theorem good_crash {c : CabM} {n : Nat} (h : GoodC c n) (names : Int) (keep : List Int) (t : UInt8) : GoodC (crashC c names keep t) n := by
  obtain ⟨h1, h2, h3, h4⟩ := h.2.2
  have hl : (lastC c names).length ≤ n := by
    have := last_len c (partC names c.wait.length) (part_le _ _)
    have hp := part_le names c.wait.length
    unfold lastN at this
    unfold lastC
    omega
  refine ⟨(inv_crash h.1 names keep t).1, (fun ht => by cases ht), hl, hl, ?_, h4⟩
  show (crashF _ _ _ c.files).length ≤ _
  have := (crash_files (lastC c names) keep t c.files (last_files c h.1 _) (fun i => (h.1.2.2.1 i).1)).1
  omega
end Go.Proofs.Ytlhmeebbdjiokaa
