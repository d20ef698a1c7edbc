/-
  The document's Text of any moment: a date's twenty letters.
-/
import Derived.Test.YtfgdfdjoidpejaaDoorWhenFld
import Derived.Test.YtfgdfdjoidpejaaDoorTexts
import Derived.Test.YtfgdfdjoidpejaaDoorHeld
namespace Go.Proofs.YtfgdfdjoidpejaaDoor
open Go.ChangeShapes Go.WideShapes Go.ChangeAt Go.RowKit
set_option linter.unusedVariables false
set_option linter.unusedSimpArgs false
def twoN (n : Nat) : List Nat := [48 + n / 10 % 10, 48 + n % 10]
theorem rtwo_any (n : Nat) (w : World) (hn : n ≤ 9999) :
    Calls Tryd.prog 35 #[.int .i64 (n : Nat)] w fun e w' => e = .returned (.string (strN (twoN n))) ∧ Below w.heap.size w w' := by
  obtain ⟨P, hP⟩ : ∃ P, P = 48 + n / 10 % 10 := ⟨_, rfl⟩
  obtain ⟨R, hR⟩ : ∃ R, R = 48 + n % 10 := ⟨_, rfl⟩
  have hPi : (48 : Int) + (n : Int) / 10 % 10 = (P : Int) := by omega
  have hRi : (48 : Int) + (n : Int) % 10 = (R : Int) := by omega
  have hPb : P ≤ 57 := by omega
  have hRb : R ≤ 57 := by omega
  have HT : Hid (twoN n = [P, R]) := by unfold Hid twoN; rw [hP, hR]
  have hrow : RowL .u8 (w.alloc (.cells #[.int .u8 (P : Int), .int .u8 (R : Int)] 5)) (some ⟨w.heap.size, 0, none⟩) 2 [P, R] := (Blk.new w 5 .u8 [P, R]).row
  have hcv := conv_row hrow 2
  rw [← HT.out] at hcv
  clear hP hR hrow
  generalize strN (twoN n) = st at *
  go_enter Tryd.func35, Tryd.ntmps35
  go_wp2
  go_ret
  exact ⟨rfl, below_new w _⟩
/-- A date's twenty letters. -/
def textN (y mo d h mi s : Nat) : List Nat := twoN (y / 100) ++ twoN (y % 100) ++ [45] ++ twoN mo ++ [45] ++ twoN d ++ [84] ++ twoN h ++ [58] ++ twoN mi ++ [58] ++ twoN s ++ [90]
theorem text_length (y mo d h mi s : Nat) : (textN y mo d h mi s).length = 20 := rfl
theorem add_fact (A B C : ByteArray) (n m : Nat) (hA : A.size = n) (hB : B.size = m) (h : n + m ≤ 1000) (hC : A ++ B = C) : (∀ W, (Op.stringOp .add A B).run Tryd.prog W = .ok (.string C) W) ∧ C.size = n + m := by
  refine ⟨fun W => ?_, by rw [← hC, ByteArray.size_append, hA, hB]⟩
  rw [run_string_add_sum W _ _ (by rw [hA, hB]; omega), hC]
theorem two_size (n : Nat) : (strN (twoN n)).size = 2 := by rw [strN_size]; rfl
theorem rtext_bad (t : Int) (w : World) (h : t < -62135596800 ∨ 253402300799 < t) :
    Calls Tryd.prog 17 #[.int .i64 t] w fun e w' => e = .returned (.tuple #[.string (strN []), .int .i64 4]) ∧ Below w.heap.size w w' := by
  have HF : Hid _ := rfld_bad t w h
  clear h
  go_enter Tryd.func17, Tryd.ntmps17
  go_wp2_with fail
  refine Calls.mono HF.out ?_
  rintro _ w1 ⟨rfl, hb1⟩
  have HZ : Hid (Blk (w1.alloc (.cells #[.int .i64 0, .int .i64 0, .int .i64 0, .int .i64 0, .int .i64 0, .int .i64 0] 28)) w1.heap.size 28 .i64 [0, 0, 0, 0, 0, 0]) := Blk.new w1 _ .i64 [0, 0, 0, 0, 0, 0]
  have HST : Hid _ := agg_store HZ.out dateT rfl (m := [0, 0, 0, 0, 0, 0]) rfl
  have HE : Hid (Below w.heap.size w ((w1.alloc (.cells #[.int .i64 0, .int .i64 0, .int .i64 0, .int .i64 0, .int .i64 0, .int .i64 0] 28)).setRow w1.heap.size (encL .i64 [0, 0, 0, 0, 0, 0]))) := hb1.trans ((below_row (below_new w1 _) (Nat.le_refl _) _).mono hb1.size)
  clear hb1 HF
  rw [show dateV 0 0 0 0 0 0 = .agg (encL .i64 [0, 0, 0, 0, 0, 0]) from rfl]
  go_wp2_with (refine store_op rfl 28 _ _ rfl ⟨w1.heap.size, 0, none⟩ rfl _ rfl HST.out ?_)
  go_ret2
  exact ⟨rfl, HE.out⟩
set_option maxRecDepth 100000 in
set_option maxHeartbeats 16000000 in
theorem rtext_good (T : Nat) (t : Int) (w : World) (ht : t + 62135596800 = (T : Int)) (h9 : T < 315537897600) :
    Calls Tryd.prog 17 #[.int .i64 t] w fun e w' => (∃ y mo d h mi s : Nat, e = .returned (.tuple #[.string (strN (textN y mo d h mi s)), .int .i64 0]) ∧ OkD y mo d h mi s ∧ secN y mo d h mi s = T) ∧ Below w.heap.size w w' := by
  have HF : Hid _ := rfld_good T t w ht h9
  clear ht h9
  go_enter Tryd.func17, Tryd.ntmps17
  go_wp2_with fail
  refine Calls.mono HF.out ?_
  rintro _ w1 ⟨⟨y, mo, d, h, mi, s, rfl, hok, hsec⟩, hb1⟩
  have HOK : Hid (OkD y mo d h mi s ∧ secN y mo d h mi s = T) := ⟨hok, hsec⟩
  have HZ : Hid (Blk (w1.alloc (.cells #[.int .i64 0, .int .i64 0, .int .i64 0, .int .i64 0, .int .i64 0, .int .i64 0] 28)) w1.heap.size 28 .i64 [0, 0, 0, 0, 0, 0]) := Blk.new w1 _ .i64 [0, 0, 0, 0, 0, 0]
  have HST : Hid _ := agg_store HZ.out dateT rfl (m := [y, mo, d, h, mi, s]) rfl
  have HE : Hid (Below w.heap.size w ((w1.alloc (.cells #[.int .i64 0, .int .i64 0, .int .i64 0, .int .i64 0, .int .i64 0, .int .i64 0] 28)).setRow w1.heap.size (encL .i64 [y, mo, d, h, mi, s]))) := hb1.trans ((below_row (below_new w1 _) (Nat.le_refl _) _).mono hb1.size)
  have HG : Hid _ := HZ.out.setRow [y, mo, d, h, mi, s]
  have hyb : y ≤ 9999 := hok.2.1
  have hmob : mo ≤ 9999 := by have := hok.2.2.2.1; omega
  have hdb : d ≤ 9999 := by have := hok.2.2.2.2.2.1; have := (len_bound y mo).2; omega
  have hhb : h ≤ 9999 := by have := hok.2.2.2.2.2.2.1; omega
  have hmib : mi ≤ 9999 := by have := hok.2.2.2.2.2.2.2.1; omega
  have hsb : s ≤ 9999 := by have := hok.2.2.2.2.2.2.2.2; omega
  clear hb1 HF hok hsec
  rw [show dateV y mo d h mi s = .agg (encL .i64 [y, mo, d, h, mi, s]) from rfl]
  obtain ⟨ya, hya⟩ : ∃ ya, ya = y / 100 := ⟨_, rfl⟩
  obtain ⟨yb, hyb'⟩ : ∃ yb, yb = y % 100 := ⟨_, rfl⟩
  have hyai : (y : Int) / 100 = (ya : Int) := by omega
  have hybi : (y : Int) % 100 = (yb : Int) := by omega
  have hyaw : IntKind.i64.wrap (ya : Int) = (ya : Int) := by rw [IntKind.wrap_i64]; omega
  have hybt : (y : Int).tmod 100 = (yb : Int) := by rw [Int.tmod_eq_emod_of_nonneg (by omega)]; exact hybi
  have hyab : ya ≤ 9999 := by omega
  have hybb : yb ≤ 9999 := by omega
  have HTX : Hid (textN y mo d h mi s = twoN ya ++ twoN yb ++ [45] ++ twoN mo ++ [45] ++ twoN d ++ [84] ++ twoN h ++ [58] ++ twoN mi ++ [58] ++ twoN s ++ [90]) := by unfold Hid textN; rw [hya, hyb']
  have HC0 : Hid (∀ W, Calls Tryd.prog 35 #[.int .i64 (ya : Nat)] W fun e w' => e = .returned (.string (strN (twoN ya))) ∧ Below W.heap.size W w') := fun W => rtwo_any ya W hyab
  obtain ⟨X0, hX0⟩ : ∃ X, strN (twoN ya) = X := ⟨_, rfl⟩
  have z0 : X0.size = 2 := by rw [← hX0]; exact two_size ya
  rw [hX0] at HC0
  have HC1 : Hid (∀ W, Calls Tryd.prog 35 #[.int .i64 (yb : Nat)] W fun e w' => e = .returned (.string (strN (twoN yb))) ∧ Below W.heap.size W w') := fun W => rtwo_any yb W hybb
  obtain ⟨X1, hX1⟩ : ∃ X, strN (twoN yb) = X := ⟨_, rfl⟩
  have z1 : X1.size = 2 := by rw [← hX1]; exact two_size yb
  rw [hX1] at HC1
  have HC2 : Hid (∀ W, Calls Tryd.prog 35 #[.int .i64 (mo : Nat)] W fun e w' => e = .returned (.string (strN (twoN mo))) ∧ Below W.heap.size W w') := fun W => rtwo_any mo W hmob
  obtain ⟨X2, hX2⟩ : ∃ X, strN (twoN mo) = X := ⟨_, rfl⟩
  have z2 : X2.size = 2 := by rw [← hX2]; exact two_size mo
  rw [hX2] at HC2
  have HC3 : Hid (∀ W, Calls Tryd.prog 35 #[.int .i64 (d : Nat)] W fun e w' => e = .returned (.string (strN (twoN d))) ∧ Below W.heap.size W w') := fun W => rtwo_any d W hdb
  obtain ⟨X3, hX3⟩ : ∃ X, strN (twoN d) = X := ⟨_, rfl⟩
  have z3 : X3.size = 2 := by rw [← hX3]; exact two_size d
  rw [hX3] at HC3
  have HC4 : Hid (∀ W, Calls Tryd.prog 35 #[.int .i64 (h : Nat)] W fun e w' => e = .returned (.string (strN (twoN h))) ∧ Below W.heap.size W w') := fun W => rtwo_any h W hhb
  obtain ⟨X4, hX4⟩ : ∃ X, strN (twoN h) = X := ⟨_, rfl⟩
  have z4 : X4.size = 2 := by rw [← hX4]; exact two_size h
  rw [hX4] at HC4
  have HC5 : Hid (∀ W, Calls Tryd.prog 35 #[.int .i64 (mi : Nat)] W fun e w' => e = .returned (.string (strN (twoN mi))) ∧ Below W.heap.size W w') := fun W => rtwo_any mi W hmib
  obtain ⟨X5, hX5⟩ : ∃ X, strN (twoN mi) = X := ⟨_, rfl⟩
  have z5 : X5.size = 2 := by rw [← hX5]; exact two_size mi
  rw [hX5] at HC5
  have HC6 : Hid (∀ W, Calls Tryd.prog 35 #[.int .i64 (s : Nat)] W fun e w' => e = .returned (.string (strN (twoN s))) ∧ Below W.heap.size W w') := fun W => rtwo_any s W hsb
  obtain ⟨X6, hX6⟩ : ∃ X, strN (twoN s) = X := ⟨_, rfl⟩
  have z6 : X6.size = 2 := by rw [← hX6]; exact two_size s
  rw [hX6] at HC6
  obtain ⟨C1, hC1⟩ : ∃ C, X0 ++ X1 = C := ⟨_, rfl⟩
  obtain ⟨f1, q1⟩ := add_fact X0 X1 C1 2 2 z0 z1 (by decide) hC1
  obtain ⟨C2, hC2⟩ : ∃ C, C1 ++ (ByteArray.mk #[45]) = C := ⟨_, rfl⟩
  obtain ⟨f2, q2⟩ := add_fact C1 (ByteArray.mk #[45]) C2 4 1 q1 rfl (by decide) hC2
  obtain ⟨C3, hC3⟩ : ∃ C, C2 ++ X2 = C := ⟨_, rfl⟩
  obtain ⟨f3, q3⟩ := add_fact C2 X2 C3 5 2 q2 z2 (by decide) hC3
  obtain ⟨C4, hC4⟩ : ∃ C, C3 ++ (ByteArray.mk #[45]) = C := ⟨_, rfl⟩
  obtain ⟨f4, q4⟩ := add_fact C3 (ByteArray.mk #[45]) C4 7 1 q3 rfl (by decide) hC4
  obtain ⟨C5, hC5⟩ : ∃ C, C4 ++ X3 = C := ⟨_, rfl⟩
  obtain ⟨f5, q5⟩ := add_fact C4 X3 C5 8 2 q4 z3 (by decide) hC5
  obtain ⟨C6, hC6⟩ : ∃ C, C5 ++ (ByteArray.mk #[84]) = C := ⟨_, rfl⟩
  obtain ⟨f6, q6⟩ := add_fact C5 (ByteArray.mk #[84]) C6 10 1 q5 rfl (by decide) hC6
  obtain ⟨C7, hC7⟩ : ∃ C, C6 ++ X4 = C := ⟨_, rfl⟩
  obtain ⟨f7, q7⟩ := add_fact C6 X4 C7 11 2 q6 z4 (by decide) hC7
  obtain ⟨C8, hC8⟩ : ∃ C, C7 ++ (ByteArray.mk #[58]) = C := ⟨_, rfl⟩
  obtain ⟨f8, q8⟩ := add_fact C7 (ByteArray.mk #[58]) C8 13 1 q7 rfl (by decide) hC8
  obtain ⟨C9, hC9⟩ : ∃ C, C8 ++ X5 = C := ⟨_, rfl⟩
  obtain ⟨f9, q9⟩ := add_fact C8 X5 C9 14 2 q8 z5 (by decide) hC9
  obtain ⟨C10, hC10⟩ : ∃ C, C9 ++ (ByteArray.mk #[58]) = C := ⟨_, rfl⟩
  obtain ⟨f10, q10⟩ := add_fact C9 (ByteArray.mk #[58]) C10 16 1 q9 rfl (by decide) hC10
  obtain ⟨C11, hC11⟩ : ∃ C, C10 ++ X6 = C := ⟨_, rfl⟩
  obtain ⟨f11, q11⟩ := add_fact C10 X6 C11 17 2 q10 z6 (by decide) hC11
  obtain ⟨C12, hC12⟩ : ∃ C, C11 ++ (ByteArray.mk #[90]) = C := ⟨_, rfl⟩
  obtain ⟨f12, q12⟩ := add_fact C11 (ByteArray.mk #[90]) C12 19 1 q11 rfl (by decide) hC12
  have HFIN : Hid (strN (textN y mo d h mi s) = C12) := by
    unfold Hid
    rw [HTX.out, strN_append, strN_append, strN_append, strN_append, strN_append, strN_append, strN_append, strN_append, strN_append, strN_append, strN_append, strN_append, hX0, hX1, hX2, hX3, hX4, hX5, hX6,
      show strN [45] = ByteArray.mk #[45] from rfl, show strN [84] = ByteArray.mk #[84] from rfl, show strN [58] = ByteArray.mk #[58] from rfl, show strN [90] = ByteArray.mk #[90] from rfl, hC1, hC2, hC3, hC4, hC5, hC6, hC7, hC8, hC9, hC10, hC11, hC12]
  clear hX0 hX1 hX2 hX3 hX4 hX5 hX6 hC1 hC2 hC3 hC4 hC5 hC6 hC7 hC8 hC9 hC10 hC11 hC12 z0 z1 z2 z3 z4 z5 z6 q1 q2 q3 q4 q5 q6 q7 q8 q9 q10 q11 q12 hya hyb' HTX
  go_wp2_with (refine store_op rfl 28 _ _ rfl ⟨w1.heap.size, 0, none⟩ rfl _ rfl HST.out ?_)
  generalize ((w1.alloc (.cells #[.int .i64 0, .int .i64 0, .int .i64 0, .int .i64 0, .int .i64 0, .int .i64 0] 28)).setRow w1.heap.size (encL .i64 [y, mo, d, h, mi, s])) = v0 at *
  generalize w1.heap.size = gd at *
  have hH0 : Blk v0 gd 28 .i64 [y, mo, d, h, mi, s] ∧ Below w.heap.size w v0 := ⟨HG.out, HE.out⟩
  clear HG HE HST HZ
  refine wp_region_held_drew (S := fun w' => Blk w' gd 28 .i64 [y, mo, d, h, mi, s] ∧ Below w.heap.size w w') (by kernel_rfl) ⟨hH0.1.below ((Below.refl _ _).drew), hH0.2.drew⟩ (fun hHeld => ?_)
  clear hH0
  refine held_take 0 (some 14) (.pointer (some ⟨gd, 0, none⟩)) rfl rfl (by kernel_rfl) (by kernel_rfl) (by kernel_rfl) (fun _ _ _ h => h) rfl (fun w' hS => ?_) hHeld ?_
  · clear hS; go_simp
  try simp only [Act.put, List.setIfInBounds_toArray, List.set_cons_zero, List.set_cons_succ]
  refine held_take 1 (some 15) (.int .i64 (y : Nat)) rfl rfl (by kernel_rfl) (by kernel_rfl) (by kernel_rfl) (fun _ _ _ h => h) rfl (fun w' hS => ?_) hHeld ?_
  · have hc : w'.cell? ⟨gd, 0, none⟩ = some (.int .i64 (y : Nat)) := hS.1.cell 0 (by simp); clear hS; go_simp
  try simp only [Act.put, List.setIfInBounds_toArray, List.set_cons_zero, List.set_cons_succ]
  refine held_take 2 (some 16) (.int .i64 (ya : Nat)) rfl rfl (by kernel_rfl) (by kernel_rfl) (by kernel_rfl) (fun _ _ _ h => h) rfl (fun w' hS => ?_) hHeld ?_
  · clear hS; go_simp
  try simp only [Act.put, List.setIfInBounds_toArray, List.set_cons_zero, List.set_cons_succ]
  refine held_take 4 (some 18) (.pointer (some ⟨gd, 0, none⟩)) rfl rfl (by kernel_rfl) (by kernel_rfl) (by kernel_rfl) (fun _ _ _ h => h) rfl (fun w' hS => ?_) hHeld ?_
  · clear hS; go_simp
  try simp only [Act.put, List.setIfInBounds_toArray, List.set_cons_zero, List.set_cons_succ]
  refine held_take 5 (some 19) (.int .i64 (y : Nat)) rfl rfl (by kernel_rfl) (by kernel_rfl) (by kernel_rfl) (fun _ _ _ h => h) rfl (fun w' hS => ?_) hHeld ?_
  · have hc : w'.cell? ⟨gd, 0, none⟩ = some (.int .i64 (y : Nat)) := hS.1.cell 0 (by simp); clear hS; go_simp
  try simp only [Act.put, List.setIfInBounds_toArray, List.set_cons_zero, List.set_cons_succ]
  refine held_take 6 (some 20) (.int .i64 (yb : Nat)) rfl rfl (by kernel_rfl) (by kernel_rfl) (by kernel_rfl) (fun _ _ _ h => h) rfl (fun w' hS => ?_) hHeld ?_
  · clear hS; go_simp
  try simp only [Act.put, List.setIfInBounds_toArray, List.set_cons_zero, List.set_cons_succ]
  refine held_take 10 (some 24) (.pointer (some ⟨gd, 1, none⟩)) rfl rfl (by kernel_rfl) (by kernel_rfl) (by kernel_rfl) (fun _ _ _ h => h) rfl (fun w' hS => ?_) hHeld ?_
  · clear hS; go_simp
  try simp only [Act.put, List.setIfInBounds_toArray, List.set_cons_zero, List.set_cons_succ]
  refine held_take 11 (some 25) (.int .i64 (mo : Nat)) rfl rfl (by kernel_rfl) (by kernel_rfl) (by kernel_rfl) (fun _ _ _ h => h) rfl (fun w' hS => ?_) hHeld ?_
  · have hc : w'.cell? ⟨gd, 1, none⟩ = some (.int .i64 (mo : Nat)) := hS.1.cell 1 (by simp); clear hS; go_simp
  try simp only [Act.put, List.setIfInBounds_toArray, List.set_cons_zero, List.set_cons_succ]
  refine held_take 15 (some 29) (.pointer (some ⟨gd, 2, none⟩)) rfl rfl (by kernel_rfl) (by kernel_rfl) (by kernel_rfl) (fun _ _ _ h => h) rfl (fun w' hS => ?_) hHeld ?_
  · clear hS; go_simp
  try simp only [Act.put, List.setIfInBounds_toArray, List.set_cons_zero, List.set_cons_succ]
  refine held_take 16 (some 30) (.int .i64 (d : Nat)) rfl rfl (by kernel_rfl) (by kernel_rfl) (by kernel_rfl) (fun _ _ _ h => h) rfl (fun w' hS => ?_) hHeld ?_
  · have hc : w'.cell? ⟨gd, 2, none⟩ = some (.int .i64 (d : Nat)) := hS.1.cell 2 (by simp); clear hS; go_simp
  try simp only [Act.put, List.setIfInBounds_toArray, List.set_cons_zero, List.set_cons_succ]
  refine held_take 20 (some 34) (.pointer (some ⟨gd, 3, none⟩)) rfl rfl (by kernel_rfl) (by kernel_rfl) (by kernel_rfl) (fun _ _ _ h => h) rfl (fun w' hS => ?_) hHeld ?_
  · clear hS; go_simp
  try simp only [Act.put, List.setIfInBounds_toArray, List.set_cons_zero, List.set_cons_succ]
  refine held_take 21 (some 35) (.int .i64 (h : Nat)) rfl rfl (by kernel_rfl) (by kernel_rfl) (by kernel_rfl) (fun _ _ _ h => h) rfl (fun w' hS => ?_) hHeld ?_
  · have hc : w'.cell? ⟨gd, 3, none⟩ = some (.int .i64 (h : Nat)) := hS.1.cell 3 (by simp); clear hS; go_simp
  try simp only [Act.put, List.setIfInBounds_toArray, List.set_cons_zero, List.set_cons_succ]
  refine held_take 25 (some 39) (.pointer (some ⟨gd, 4, none⟩)) rfl rfl (by kernel_rfl) (by kernel_rfl) (by kernel_rfl) (fun _ _ _ h => h) rfl (fun w' hS => ?_) hHeld ?_
  · clear hS; go_simp
  try simp only [Act.put, List.setIfInBounds_toArray, List.set_cons_zero, List.set_cons_succ]
  refine held_take 26 (some 40) (.int .i64 (mi : Nat)) rfl rfl (by kernel_rfl) (by kernel_rfl) (by kernel_rfl) (fun _ _ _ h => h) rfl (fun w' hS => ?_) hHeld ?_
  · have hc : w'.cell? ⟨gd, 4, none⟩ = some (.int .i64 (mi : Nat)) := hS.1.cell 4 (by simp); clear hS; go_simp
  try simp only [Act.put, List.setIfInBounds_toArray, List.set_cons_zero, List.set_cons_succ]
  refine held_take 30 (some 44) (.pointer (some ⟨gd, 5, none⟩)) rfl rfl (by kernel_rfl) (by kernel_rfl) (by kernel_rfl) (fun _ _ _ h => h) rfl (fun w' hS => ?_) hHeld ?_
  · clear hS; go_simp
  try simp only [Act.put, List.setIfInBounds_toArray, List.set_cons_zero, List.set_cons_succ]
  refine held_take 31 (some 45) (.int .i64 (s : Nat)) rfl rfl (by kernel_rfl) (by kernel_rfl) (by kernel_rfl) (fun _ _ _ h => h) rfl (fun w' hS => ?_) hHeld ?_
  · have hc : w'.cell? ⟨gd, 5, none⟩ = some (.int .i64 (s : Nat)) := hS.1.cell 5 (by simp); clear hS; go_simp
  try simp only [Act.put, List.setIfInBounds_toArray, List.set_cons_zero, List.set_cons_succ]
  refine held_one (i := 3) (by kernel_rfl) rfl rfl (fun K hK => ?_)
  go_simp
  refine Calls.mono (HC0.out _) ?_
  rintro _ v1 ⟨rfl, hb1⟩
  dsimp only
  have hH1 : Blk v1 gd 28 .i64 [y, mo, d, h, mi, s] ∧ Below w.heap.size w v1 := ⟨hHeld.1.below hb1, hHeld.2.trans (hb1.mono hHeld.2.size)⟩
  refine hK.out _ _ hH1 ?_
  clear hK K hb1 HC0
  try simp only [Act.put, List.setIfInBounds_toArray, List.set_cons_zero, List.set_cons_succ]
  refine held_one (i := 7) (by kernel_rfl) rfl rfl (fun K hK => ?_)
  go_simp
  refine Calls.mono (HC1.out _) ?_
  rintro _ v2 ⟨rfl, hb2⟩
  dsimp only
  have hH2 : Blk v2 gd 28 .i64 [y, mo, d, h, mi, s] ∧ Below w.heap.size w v2 := ⟨hH1.1.below hb2, hH1.2.trans (hb2.mono hH1.2.size)⟩
  refine hK.out _ _ hH2 ?_
  clear hK K hb2 HC1
  try simp only [Act.put, List.setIfInBounds_toArray, List.set_cons_zero, List.set_cons_succ]
  refine held_take 8 (some 22) (.string C1) rfl rfl (by kernel_rfl) (by kernel_rfl) (by kernel_rfl) (fun _ _ _ h => h) rfl (fun w' hS => ?_) hH2 ?_
  · clear hS; go_simp
  try simp only [Act.put, List.setIfInBounds_toArray, List.set_cons_zero, List.set_cons_succ]
  refine held_take 9 (some 23) (.string C2) rfl rfl (by kernel_rfl) (by kernel_rfl) (by kernel_rfl) (fun _ _ _ h => h) rfl (fun w' hS => ?_) hH2 ?_
  · clear hS; go_simp
  try simp only [Act.put, List.setIfInBounds_toArray, List.set_cons_zero, List.set_cons_succ]
  refine held_one (i := 12) (by kernel_rfl) rfl rfl (fun K hK => ?_)
  go_simp
  refine Calls.mono (HC2.out _) ?_
  rintro _ v3 ⟨rfl, hb3⟩
  dsimp only
  have hH3 : Blk v3 gd 28 .i64 [y, mo, d, h, mi, s] ∧ Below w.heap.size w v3 := ⟨hH2.1.below hb3, hH2.2.trans (hb3.mono hH2.2.size)⟩
  refine hK.out _ _ hH3 ?_
  clear hK K hb3 HC2
  try simp only [Act.put, List.setIfInBounds_toArray, List.set_cons_zero, List.set_cons_succ]
  refine held_take 13 (some 27) (.string C3) rfl rfl (by kernel_rfl) (by kernel_rfl) (by kernel_rfl) (fun _ _ _ h => h) rfl (fun w' hS => ?_) hH3 ?_
  · clear hS; go_simp
  try simp only [Act.put, List.setIfInBounds_toArray, List.set_cons_zero, List.set_cons_succ]
  refine held_take 14 (some 28) (.string C4) rfl rfl (by kernel_rfl) (by kernel_rfl) (by kernel_rfl) (fun _ _ _ h => h) rfl (fun w' hS => ?_) hH3 ?_
  · clear hS; go_simp
  try simp only [Act.put, List.setIfInBounds_toArray, List.set_cons_zero, List.set_cons_succ]
  refine held_one (i := 17) (by kernel_rfl) rfl rfl (fun K hK => ?_)
  go_simp
  refine Calls.mono (HC3.out _) ?_
  rintro _ v4 ⟨rfl, hb4⟩
  dsimp only
  have hH4 : Blk v4 gd 28 .i64 [y, mo, d, h, mi, s] ∧ Below w.heap.size w v4 := ⟨hH3.1.below hb4, hH3.2.trans (hb4.mono hH3.2.size)⟩
  refine hK.out _ _ hH4 ?_
  clear hK K hb4 HC3
  try simp only [Act.put, List.setIfInBounds_toArray, List.set_cons_zero, List.set_cons_succ]
  refine held_take 18 (some 32) (.string C5) rfl rfl (by kernel_rfl) (by kernel_rfl) (by kernel_rfl) (fun _ _ _ h => h) rfl (fun w' hS => ?_) hH4 ?_
  · clear hS; go_simp
  try simp only [Act.put, List.setIfInBounds_toArray, List.set_cons_zero, List.set_cons_succ]
  refine held_take 19 (some 33) (.string C6) rfl rfl (by kernel_rfl) (by kernel_rfl) (by kernel_rfl) (fun _ _ _ h => h) rfl (fun w' hS => ?_) hH4 ?_
  · clear hS; go_simp
  try simp only [Act.put, List.setIfInBounds_toArray, List.set_cons_zero, List.set_cons_succ]
  refine held_one (i := 22) (by kernel_rfl) rfl rfl (fun K hK => ?_)
  go_simp
  refine Calls.mono (HC4.out _) ?_
  rintro _ v5 ⟨rfl, hb5⟩
  dsimp only
  have hH5 : Blk v5 gd 28 .i64 [y, mo, d, h, mi, s] ∧ Below w.heap.size w v5 := ⟨hH4.1.below hb5, hH4.2.trans (hb5.mono hH4.2.size)⟩
  refine hK.out _ _ hH5 ?_
  clear hK K hb5 HC4
  try simp only [Act.put, List.setIfInBounds_toArray, List.set_cons_zero, List.set_cons_succ]
  refine held_take 23 (some 37) (.string C7) rfl rfl (by kernel_rfl) (by kernel_rfl) (by kernel_rfl) (fun _ _ _ h => h) rfl (fun w' hS => ?_) hH5 ?_
  · clear hS; go_simp
  try simp only [Act.put, List.setIfInBounds_toArray, List.set_cons_zero, List.set_cons_succ]
  refine held_take 24 (some 38) (.string C8) rfl rfl (by kernel_rfl) (by kernel_rfl) (by kernel_rfl) (fun _ _ _ h => h) rfl (fun w' hS => ?_) hH5 ?_
  · clear hS; go_simp
  try simp only [Act.put, List.setIfInBounds_toArray, List.set_cons_zero, List.set_cons_succ]
  refine held_one (i := 27) (by kernel_rfl) rfl rfl (fun K hK => ?_)
  go_simp
  refine Calls.mono (HC5.out _) ?_
  rintro _ v6 ⟨rfl, hb6⟩
  dsimp only
  have hH6 : Blk v6 gd 28 .i64 [y, mo, d, h, mi, s] ∧ Below w.heap.size w v6 := ⟨hH5.1.below hb6, hH5.2.trans (hb6.mono hH5.2.size)⟩
  refine hK.out _ _ hH6 ?_
  clear hK K hb6 HC5
  try simp only [Act.put, List.setIfInBounds_toArray, List.set_cons_zero, List.set_cons_succ]
  refine held_take 28 (some 42) (.string C9) rfl rfl (by kernel_rfl) (by kernel_rfl) (by kernel_rfl) (fun _ _ _ h => h) rfl (fun w' hS => ?_) hH6 ?_
  · clear hS; go_simp
  try simp only [Act.put, List.setIfInBounds_toArray, List.set_cons_zero, List.set_cons_succ]
  refine held_take 29 (some 43) (.string C10) rfl rfl (by kernel_rfl) (by kernel_rfl) (by kernel_rfl) (fun _ _ _ h => h) rfl (fun w' hS => ?_) hH6 ?_
  · clear hS; go_simp
  try simp only [Act.put, List.setIfInBounds_toArray, List.set_cons_zero, List.set_cons_succ]
  refine held_one (i := 32) (by kernel_rfl) rfl rfl (fun K hK => ?_)
  go_simp
  refine Calls.mono (HC6.out _) ?_
  rintro _ v7 ⟨rfl, hb7⟩
  dsimp only
  have hH7 : Blk v7 gd 28 .i64 [y, mo, d, h, mi, s] ∧ Below w.heap.size w v7 := ⟨hH6.1.below hb7, hH6.2.trans (hb7.mono hH6.2.size)⟩
  refine hK.out _ _ hH7 ?_
  clear hK K hb7 HC6
  try simp only [Act.put, List.setIfInBounds_toArray, List.set_cons_zero, List.set_cons_succ]
  refine held_take 33 (some 47) (.string C11) rfl rfl (by kernel_rfl) (by kernel_rfl) (by kernel_rfl) (fun _ _ _ h => h) rfl (fun w' hS => ?_) hH7 ?_
  · clear hS; go_simp
  try simp only [Act.put, List.setIfInBounds_toArray, List.set_cons_zero, List.set_cons_succ]
  refine held_take 34 (some 48) (.string C12) rfl rfl (by kernel_rfl) (by kernel_rfl) (by kernel_rfl) (fun _ _ _ h => h) rfl (fun w' hS => ?_) hH7 ?_
  · clear hS; go_simp
  try simp only [Act.put, List.setIfInBounds_toArray, List.set_cons_zero, List.set_cons_succ]
  refine held_take 35 (some 2) (.string C12) rfl rfl (by kernel_rfl) (by kernel_rfl) (by kernel_rfl) (fun _ _ _ h => h) rfl (fun w' hS => ?_) hH7 ?_
  · clear hS; go_simp
  try simp only [Act.put, List.setIfInBounds_toArray, List.set_cons_zero, List.set_cons_succ]
  refine held_take 36 (some 3) (.int .i64 0) rfl rfl (by kernel_rfl) (by kernel_rfl) (by kernel_rfl) (fun _ _ _ h => h) rfl (fun w' hS => ?_) hH7 ?_
  · clear hS; go_simp
  try simp only [Act.put, List.setIfInBounds_toArray, List.set_cons_zero, List.set_cons_succ]
  refine wpAnyH_done (by kernel_rfl) ?_ _
  have hfin := hH7.2
  clear hH1 hH2 hH3 hH4 hH5 hH6 hH7 hHeld
  go_wp2_with fail
  go_ret2
  exact ⟨⟨y, mo, d, h, mi, s, by rw [HFIN.out]; rfl, HOK.out⟩, hfin⟩
end Go.Proofs.YtfgdfdjoidpejaaDoor
