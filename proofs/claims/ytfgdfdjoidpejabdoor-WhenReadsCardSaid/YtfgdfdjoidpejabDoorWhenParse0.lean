/-
  The program's Parse of any text.
-/
import Derived.Test.YtfgdfdjoidpejabDoorWhenSeconds0
import Derived.Test.YtfgdfdjoidpejabDoorWhenForm0
import Derived.Test.YtfgdfdjoidpejabDoorWhenRead
import Derived.Test.YtfgdfdjoidpejabDoorWhenParse
namespace Go.Proofs.YtfgdfdjoidpejabDoor
open Go.ChangeShapes Go.WideShapes Go.ChangeAt Go.RowKit
set_option linter.unusedVariables false
set_option linter.unusedSimpArgs false
theorem str_range (s : ByteArray) (a b : Nat) (h : a ≤ b) (h2 : b ≤ s.size) (W : World) : (Instr.slice 9 (.string s) (some (.int .i64 (a : Nat))) (some (.int .i64 (b : Nat))) none).run Tryd.prog W = .ok (.string (s.extract a b)) W := by
  rw [run_slice_string W _ s .i64 .i64 (a : Nat) (b : Nat) Tryd.underlying9 (by omega) (by omega) (by omega), Int.toNat_natCast, Int.toNat_natCast]
theorem str_upto (s : ByteArray) (k : Nat) (h : k ≤ s.size) (W : World) : (Instr.slice 9 (.string s) none (some (.int .i64 (k : Nat))) none).run Tryd.prog W = .ok (.string (s.extract 0 k)) W := by
  rw [run_slice_string_h W _ s Tryd.underlying9 .i64 (k : Nat) (by omega) (by omega), Int.toNat_natCast]
theorem piece_size (s : ByteArray) (a b : Nat) (h : a ≤ b) (h2 : b ≤ s.size) : (s.extract a b).size = b - a := by
  rw [ByteArray.size_extract]; omega
theorem read_piece (S : ByteArray) (hP : PForm (txt S)) (hs : S.size = 20) (a b : Nat) (hab : a ≤ b) (hb : b ≤ 20) (h4 : b - a ≤ 4) (hz : ∀ j, a ≤ j → j < b → signAt j = 0) (w : World) :
    Calls Tryd.prog 17 #[.string (S.extract a b)] w fun e w' => e = .returned (.int .i64 (numF (txt S) a (b - a) : Nat)) ∧ w' = w := by
  have hsz := piece_size S a b hab (by omega)
  have hd : ∀ j, j < (S.extract a b).size → 48 ≤ (txt (S.extract a b)).getD j 0 ∧ (txt (S.extract a b)).getD j 0 ≤ 57 := fun j hj => by
    rw [hsz] at hj
    have e : (txt (S.extract a b)).getD j 0 = (txt S).getD (a + j) 0 := by
      rw [txt_extract]
      simp only [List.getD_eq_getElem?_getD, List.getElem?_drop, List.getElem?_take]
      rw [if_pos (by omega)]
    rw [e]
    exact let_digit hP.2 (a + j) (by omega) (hz _ (by omega) (by omega))
  have := read_any (S.extract a b) w (by omega) hd
  rw [hsz, txt_extract, numF_from (txt S) a b (b - a) (by omega)] at this
  exact this
set_option maxRecDepth 100000 in
set_option maxHeartbeats 16000000 in
theorem pparse_any (S : ByteArray) (w : World) (hT : Tab w) (hs : S.size ≤ 9223372036854775807) :
    Calls Tryd.prog 9 #[.string S] w fun e w' => (∃ v, e = .returned v ∧ ParseR (txt S) v) ∧ Below w.heap.size w w' := by
  by_cases hP : PForm (txt S)
  · have HF : Hid (Calls Tryd.prog 15 #[.string S] w fun e w' => e = .returned (.bool true) ∧ Below w.heap.size w w') := (hasform_any S w hs).mono fun e w' ⟨h1, h2⟩ => by
      rcases h1 with ⟨-, h1⟩ | ⟨h1, -⟩
      · exact ⟨h1, h2⟩
      · exact absurd hP h1
    have hsz : S.size = 20 := by rw [← txt_length]; exact hP.1
    have hz : ∀ j, j < 20 → signAt j = if j = 4 ∨ j = 7 ∨ j = 10 ∨ j = 13 ∨ j = 16 ∨ j = 19 then signAt j else 0 := fun j hj => by
      rcases sign_cases j hj with h | h | h | h | h | h | h
      · rw [h]; split <;> rfl
      all_goals rw [h]; rfl
    have HR0 : Hid (∀ W, Calls Tryd.prog 17 #[.string (S.extract 0 4)] W fun e w' => e = .returned (.int .i64 (numF (txt S) 0 4 : Nat)) ∧ w' = W) := fun W => read_piece S hP hsz 0 4 (by decide) (by decide) (by decide) (fun j h1 h2 => by rw [hz j (by omega), if_neg (by omega)]) W
    have HR1 : Hid (∀ W, Calls Tryd.prog 17 #[.string (S.extract 5 7)] W fun e w' => e = .returned (.int .i64 (numF (txt S) 5 2 : Nat)) ∧ w' = W) := fun W => read_piece S hP hsz 5 7 (by decide) (by decide) (by decide) (fun j h1 h2 => by rw [hz j (by omega), if_neg (by omega)]) W
    have HR2 : Hid (∀ W, Calls Tryd.prog 17 #[.string (S.extract 8 10)] W fun e w' => e = .returned (.int .i64 (numF (txt S) 8 2 : Nat)) ∧ w' = W) := fun W => read_piece S hP hsz 8 10 (by decide) (by decide) (by decide) (fun j h1 h2 => by rw [hz j (by omega), if_neg (by omega)]) W
    have HR3 : Hid (∀ W, Calls Tryd.prog 17 #[.string (S.extract 11 13)] W fun e w' => e = .returned (.int .i64 (numF (txt S) 11 2 : Nat)) ∧ w' = W) := fun W => read_piece S hP hsz 11 13 (by decide) (by decide) (by decide) (fun j h1 h2 => by rw [hz j (by omega), if_neg (by omega)]) W
    have HR4 : Hid (∀ W, Calls Tryd.prog 17 #[.string (S.extract 14 16)] W fun e w' => e = .returned (.int .i64 (numF (txt S) 14 2 : Nat)) ∧ w' = W) := fun W => read_piece S hP hsz 14 16 (by decide) (by decide) (by decide) (fun j h1 h2 => by rw [hz j (by omega), if_neg (by omega)]) W
    have HR5 : Hid (∀ W, Calls Tryd.prog 17 #[.string (S.extract 17 19)] W fun e w' => e = .returned (.int .i64 (numF (txt S) 17 2 : Nat)) ∧ w' = W) := fun W => read_piece S hP hsz 17 19 (by decide) (by decide) (by decide) (fun j h1 h2 => by rw [hz j (by omega), if_neg (by omega)]) W
    have harr : arrAt (txt S) 20 = [numF (txt S) 0 4, numF (txt S) 5 2, numF (txt S) 8 2, numF (txt S) 11 2, numF (txt S) 14 2, numF (txt S) 17 2] := rfl
    generalize numF (txt S) 0 4 = y at *
    generalize numF (txt S) 5 2 = mo at *
    generalize numF (txt S) 8 2 = d at *
    generalize numF (txt S) 11 2 = h at *
    generalize numF (txt S) 14 2 = mi at *
    generalize numF (txt S) 17 2 = s at *
    obtain ⟨AA, EE, HSC, HPR⟩ : ∃ AA EE : Int, Hid (∀ W, Tab W → Calls Tryd.prog 16 #[dateV y mo d h mi s] W fun e w' => e = .returned (.tuple #[.int .i64 AA, .int .i64 EE]) ∧ Below W.heap.size W w') ∧ Hid (ParseR (txt S) (.tuple #[.int .i64 AA, .int .i64 EE])) := by
      by_cases hk : OkD y mo d h mi s
      · exact ⟨_, _, fun W hW => sec_good y mo d h mi s W hW hk, .inr ⟨hP, y, mo, d, h, mi, s, harr, .inl ⟨hk, rfl⟩⟩⟩
      · exact ⟨_, _, fun W hW => sec_bad y mo d h mi s W hW (okI_nat hk), .inr ⟨hP, y, mo, d, h, mi, s, harr, .inr ⟨hk, rfl⟩⟩⟩
    obtain ⟨D0, hD0⟩ : ∃ D, S.extract 0 4 = D := ⟨_, rfl⟩
    have s0 : ∀ W, (Instr.slice 9 (.string S) none (some (.int .i64 4)) none).run Tryd.prog W = .ok (.string D0) W := fun W => by rw [← hD0]; exact str_upto S 4 (by omega) W
    rw [hD0] at HR0
    obtain ⟨D1, hD1⟩ : ∃ D, S.extract 5 7 = D := ⟨_, rfl⟩
    have s1 : ∀ W, (Instr.slice 9 (.string S) (some (.int .i64 5)) (some (.int .i64 7)) none).run Tryd.prog W = .ok (.string D1) W := fun W => by rw [← hD1]; exact str_range S 5 7 (by decide) (by omega) W
    rw [hD1] at HR1
    obtain ⟨D2, hD2⟩ : ∃ D, S.extract 8 10 = D := ⟨_, rfl⟩
    have s2 : ∀ W, (Instr.slice 9 (.string S) (some (.int .i64 8)) (some (.int .i64 10)) none).run Tryd.prog W = .ok (.string D2) W := fun W => by rw [← hD2]; exact str_range S 8 10 (by decide) (by omega) W
    rw [hD2] at HR2
    obtain ⟨D3, hD3⟩ : ∃ D, S.extract 11 13 = D := ⟨_, rfl⟩
    have s3 : ∀ W, (Instr.slice 9 (.string S) (some (.int .i64 11)) (some (.int .i64 13)) none).run Tryd.prog W = .ok (.string D3) W := fun W => by rw [← hD3]; exact str_range S 11 13 (by decide) (by omega) W
    rw [hD3] at HR3
    obtain ⟨D4, hD4⟩ : ∃ D, S.extract 14 16 = D := ⟨_, rfl⟩
    have s4 : ∀ W, (Instr.slice 9 (.string S) (some (.int .i64 14)) (some (.int .i64 16)) none).run Tryd.prog W = .ok (.string D4) W := fun W => by rw [← hD4]; exact str_range S 14 16 (by decide) (by omega) W
    rw [hD4] at HR4
    obtain ⟨D5, hD5⟩ : ∃ D, S.extract 17 19 = D := ⟨_, rfl⟩
    have s5 : ∀ W, (Instr.slice 9 (.string S) (some (.int .i64 17)) (some (.int .i64 19)) none).run Tryd.prog W = .ok (.string D5) W := fun W => by rw [← hD5]; exact str_range S 17 19 (by decide) (by omega) W
    rw [hD5] at HR5
    clear hP harr hz hD0 hD1 hD2 hD3 hD4 hD5
    go_enter Tryd.func9, Tryd.ntmps9
    go_wp2_with fail
    refine Calls.mono HF.out ?_
    rintro _ w1 ⟨rfl, hb1⟩
    have hT1 := hT.own hb1
    clear HF hT
    go_wp2_with fail
    refine wp_region_held_drew (S := fun w' => Tab w' ∧ Below w.heap.size w w') (by kernel_rfl) (⟨hT1.own ((Below.refl _ _).drew), hb1.drew⟩) (fun hHeld => ?_)
    clear hT1 hb1
    refine held_take 0 (some 7) (.string S) rfl rfl (by kernel_rfl) (by kernel_rfl) (by kernel_rfl) (fun _ _ _ h => h) rfl (fun w' hS => ?_) hHeld ?_
    · clear hS; go_simp
    try simp only [Act.put, List.setIfInBounds_toArray, List.set_cons_zero, List.set_cons_succ]
    refine held_take 1 (some 8) (.string D0) rfl rfl (by kernel_rfl) (by kernel_rfl) (by kernel_rfl) (fun _ _ _ h => h) rfl (fun w' hS => ?_) hHeld ?_
    · clear hS; go_simp
    try simp only [Act.put, List.setIfInBounds_toArray, List.set_cons_zero, List.set_cons_succ]
    refine held_take 3 (some 10) (.string S) rfl rfl (by kernel_rfl) (by kernel_rfl) (by kernel_rfl) (fun _ _ _ h => h) rfl (fun w' hS => ?_) hHeld ?_
    · clear hS; go_simp
    try simp only [Act.put, List.setIfInBounds_toArray, List.set_cons_zero, List.set_cons_succ]
    refine held_take 4 (some 11) (.string D1) rfl rfl (by kernel_rfl) (by kernel_rfl) (by kernel_rfl) (fun _ _ _ h => h) rfl (fun w' hS => ?_) hHeld ?_
    · clear hS; go_simp
    try simp only [Act.put, List.setIfInBounds_toArray, List.set_cons_zero, List.set_cons_succ]
    refine held_take 6 (some 13) (.string S) rfl rfl (by kernel_rfl) (by kernel_rfl) (by kernel_rfl) (fun _ _ _ h => h) rfl (fun w' hS => ?_) hHeld ?_
    · clear hS; go_simp
    try simp only [Act.put, List.setIfInBounds_toArray, List.set_cons_zero, List.set_cons_succ]
    refine held_take 7 (some 14) (.string D2) rfl rfl (by kernel_rfl) (by kernel_rfl) (by kernel_rfl) (fun _ _ _ h => h) rfl (fun w' hS => ?_) hHeld ?_
    · clear hS; go_simp
    try simp only [Act.put, List.setIfInBounds_toArray, List.set_cons_zero, List.set_cons_succ]
    refine held_take 9 (some 16) (.string S) rfl rfl (by kernel_rfl) (by kernel_rfl) (by kernel_rfl) (fun _ _ _ h => h) rfl (fun w' hS => ?_) hHeld ?_
    · clear hS; go_simp
    try simp only [Act.put, List.setIfInBounds_toArray, List.set_cons_zero, List.set_cons_succ]
    refine held_take 10 (some 17) (.string D3) rfl rfl (by kernel_rfl) (by kernel_rfl) (by kernel_rfl) (fun _ _ _ h => h) rfl (fun w' hS => ?_) hHeld ?_
    · clear hS; go_simp
    try simp only [Act.put, List.setIfInBounds_toArray, List.set_cons_zero, List.set_cons_succ]
    refine held_take 12 (some 19) (.string S) rfl rfl (by kernel_rfl) (by kernel_rfl) (by kernel_rfl) (fun _ _ _ h => h) rfl (fun w' hS => ?_) hHeld ?_
    · clear hS; go_simp
    try simp only [Act.put, List.setIfInBounds_toArray, List.set_cons_zero, List.set_cons_succ]
    refine held_take 13 (some 20) (.string D4) rfl rfl (by kernel_rfl) (by kernel_rfl) (by kernel_rfl) (fun _ _ _ h => h) rfl (fun w' hS => ?_) hHeld ?_
    · clear hS; go_simp
    try simp only [Act.put, List.setIfInBounds_toArray, List.set_cons_zero, List.set_cons_succ]
    refine held_take 15 (some 22) (.string S) rfl rfl (by kernel_rfl) (by kernel_rfl) (by kernel_rfl) (fun _ _ _ h => h) rfl (fun w' hS => ?_) hHeld ?_
    · clear hS; go_simp
    try simp only [Act.put, List.setIfInBounds_toArray, List.set_cons_zero, List.set_cons_succ]
    refine held_take 16 (some 23) (.string D5) rfl rfl (by kernel_rfl) (by kernel_rfl) (by kernel_rfl) (fun _ _ _ h => h) rfl (fun w' hS => ?_) hHeld ?_
    · clear hS; go_simp
    try simp only [Act.put, List.setIfInBounds_toArray, List.set_cons_zero, List.set_cons_succ]
    refine held_one (i := 2) (by kernel_rfl) rfl rfl (fun K hK => ?_)
    go_simp
    refine Calls.mono (HR0.out _) ?_
    rintro _ v1 ⟨rfl, hb1⟩
    dsimp only
    have hH1 : Tab v1 ∧ Below w.heap.size w v1 := by rw [hb1]; exact hHeld
    refine hK.out _ _ hH1 ?_
    clear hK K hb1 
    try simp only [Act.put, List.setIfInBounds_toArray, List.set_cons_zero, List.set_cons_succ]
    refine held_one (i := 5) (by kernel_rfl) rfl rfl (fun K hK => ?_)
    go_simp
    refine Calls.mono (HR1.out _) ?_
    rintro _ v2 ⟨rfl, hb2⟩
    dsimp only
    have hH2 : Tab v2 ∧ Below w.heap.size w v2 := by rw [hb2]; exact hH1
    refine hK.out _ _ hH2 ?_
    clear hK K hb2 
    try simp only [Act.put, List.setIfInBounds_toArray, List.set_cons_zero, List.set_cons_succ]
    refine held_one (i := 8) (by kernel_rfl) rfl rfl (fun K hK => ?_)
    go_simp
    refine Calls.mono (HR2.out _) ?_
    rintro _ v3 ⟨rfl, hb3⟩
    dsimp only
    have hH3 : Tab v3 ∧ Below w.heap.size w v3 := by rw [hb3]; exact hH2
    refine hK.out _ _ hH3 ?_
    clear hK K hb3 
    try simp only [Act.put, List.setIfInBounds_toArray, List.set_cons_zero, List.set_cons_succ]
    refine held_one (i := 11) (by kernel_rfl) rfl rfl (fun K hK => ?_)
    go_simp
    refine Calls.mono (HR3.out _) ?_
    rintro _ v4 ⟨rfl, hb4⟩
    dsimp only
    have hH4 : Tab v4 ∧ Below w.heap.size w v4 := by rw [hb4]; exact hH3
    refine hK.out _ _ hH4 ?_
    clear hK K hb4 
    try simp only [Act.put, List.setIfInBounds_toArray, List.set_cons_zero, List.set_cons_succ]
    refine held_one (i := 14) (by kernel_rfl) rfl rfl (fun K hK => ?_)
    go_simp
    refine Calls.mono (HR4.out _) ?_
    rintro _ v5 ⟨rfl, hb5⟩
    dsimp only
    have hH5 : Tab v5 ∧ Below w.heap.size w v5 := by rw [hb5]; exact hH4
    refine hK.out _ _ hH5 ?_
    clear hK K hb5 
    try simp only [Act.put, List.setIfInBounds_toArray, List.set_cons_zero, List.set_cons_succ]
    refine held_one (i := 17) (by kernel_rfl) rfl rfl (fun K hK => ?_)
    go_simp
    refine Calls.mono (HR5.out _) ?_
    rintro _ v6 ⟨rfl, hb6⟩
    dsimp only
    have hH6 : Tab v6 ∧ Below w.heap.size w v6 := by rw [hb6]; exact hH5
    refine hK.out _ _ hH6 ?_
    clear hK K hb6 
    try simp only [Act.put, List.setIfInBounds_toArray, List.set_cons_zero, List.set_cons_succ]
    refine held_take 18 (some 25) (dateV (y : Int) (mo : Int) (d : Int) (h : Int) (mi : Int) (s : Int)) rfl rfl (by kernel_rfl) (by kernel_rfl) (by kernel_rfl) (fun _ _ _ h => h) rfl (fun w' hS => ?_) hH6 ?_
    · clear hS; unfold dateV; go_simp
    try simp only [Act.put, List.setIfInBounds_toArray, List.set_cons_zero, List.set_cons_succ]
    refine held_one (i := 19) (by kernel_rfl) rfl rfl (fun K hK => ?_)
    go_simp
    refine Calls.mono (HSC.out _ hH6.1) ?_
    rintro _ v7 ⟨rfl, hb7⟩
    dsimp only
    have hH7 : Tab v7 ∧ Below w.heap.size w v7 := ⟨hH6.1.own hb7, hH6.2.trans (hb7.mono hH6.2.size)⟩
    refine hK.out _ _ hH7 ?_
    clear hK K hb7 
    try simp only [Act.put, List.setIfInBounds_toArray, List.set_cons_zero, List.set_cons_succ]
    refine held_take 20 (some 27) (.int .i64 AA) rfl rfl (by kernel_rfl) (by kernel_rfl) (by kernel_rfl) (fun _ _ _ h => h) rfl (fun w' hS => ?_) hH7 ?_
    · clear hS; go_simp
    try simp only [Act.put, List.setIfInBounds_toArray, List.set_cons_zero, List.set_cons_succ]
    refine held_take 21 (some 28) (.int .i64 EE) rfl rfl (by kernel_rfl) (by kernel_rfl) (by kernel_rfl) (fun _ _ _ h => h) rfl (fun w' hS => ?_) hH7 ?_
    · clear hS; go_simp
    try simp only [Act.put, List.setIfInBounds_toArray, List.set_cons_zero, List.set_cons_succ]
    refine held_take 22 (some 2) (.int .i64 AA) rfl rfl (by kernel_rfl) (by kernel_rfl) (by kernel_rfl) (fun _ _ _ h => h) rfl (fun w' hS => ?_) hH7 ?_
    · clear hS; go_simp
    try simp only [Act.put, List.setIfInBounds_toArray, List.set_cons_zero, List.set_cons_succ]
    refine held_take 23 (some 3) (.int .i64 EE) rfl rfl (by kernel_rfl) (by kernel_rfl) (by kernel_rfl) (fun _ _ _ h => h) rfl (fun w' hS => ?_) hH7 ?_
    · clear hS; go_simp
    try simp only [Act.put, List.setIfInBounds_toArray, List.set_cons_zero, List.set_cons_succ]
    refine wpAnyH_done (by kernel_rfl) ?_ _
    have hfin := hH7.2
    clear hH1 hH2 hH3 hH4 hH5 hH6 hH7 hHeld
    go_wp2_with fail
    go_ret2
    exact ⟨⟨_, rfl, HPR.out⟩, hfin⟩
  · have HF : Hid (Calls Tryd.prog 15 #[.string S] w fun e w' => e = .returned (.bool false) ∧ Below w.heap.size w w') := (hasform_any S w hs).mono fun e w' ⟨h1, h2⟩ => by
      rcases h1 with ⟨h1, -⟩ | ⟨-, h1⟩
      · exact absurd h1 hP
      · exact ⟨h1, h2⟩
    have HPR : Hid (ParseR (txt S) (.tuple #[.int .i64 0, .int .i64 5])) := .inl ⟨hP, rfl⟩
    clear hP
    go_enter Tryd.func9, Tryd.ntmps9
    go_wp2_with fail
    refine Calls.mono HF.out ?_
    rintro _ w1 ⟨rfl, hb1⟩
    go_wp2_with fail
    go_ret2
    exact ⟨⟨_, rfl, HPR.out⟩, hb1⟩
end Go.Proofs.YtfgdfdjoidpejabDoor
