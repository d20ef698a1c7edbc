/-
  That a text is UTF-8 by the library's steps and has no sign below 32 and no 127, just where the document's Clean says so.
-/
import Derived.Test.YtbfgkogmojnilaaDoorLabelClean
import Derived.Lib.ValidU
import Derived.Lib.TrimUEq
namespace Go.Proofs.YtbfgkogmojnilaaDoor
open Go.ChangeShapes Go.WideShapes Go.ChangeAt Go.RowKit
set_option linter.unusedVariables false
set_option linter.unusedSimpArgs false
def decM (l : List Nat) : Nat × Nat := Lib.decodeN l.length (l.getD 0 0) (l.getD 1 0) (l.getD 2 0) (l.getD 3 0)
def validM : Nat → List Nat → Bool
  | 0, _ => true
  | n + 1, l => if l = [] then true else if (decM l).1 = 65533 ∧ (decM l).2 = 1 then false else validM n (l.drop (decM l).2)
theorem getD_map (l : List UInt8) (i : Nat) : (l.getD i 0).toNat = (l.map UInt8.toNat).getD i 0 := by
  rw [List.getD_eq_getElem?_getD, List.getD_eq_getElem?_getD, List.getElem?_map]
  cases l[i]? <;> rfl
theorem dec_map (l : List UInt8) : Lib.decodeL l = decM (l.map UInt8.toNat) := by
  rw [Lib.decodeL_N]
  unfold decM
  rw [List.length_map, getD_map, getD_map, getD_map, getD_map]
theorem valid_map : ∀ (n : Nat) (l : List UInt8), Lib.validGoD n l = validM n (l.map UInt8.toNat)
  | 0, _ => rfl
  | n + 1, l => by
    rw [Lib.validGoD, validM, dec_map, valid_map n, List.map_drop]
    by_cases h : l = []
    · subst h; rfl
    · rw [if_neg h, if_neg (show ¬ (l.map UInt8.toNat = []) from by simpa using h)]
theorem valid_txt (S : ByteArray) : Lib.validD S.data.toList = validM (txt S).length (txt S) := by
  unfold Lib.validD
  rw [valid_map]
  unfold txt
  rw [List.length_map]
/-- Signs that are shown. -/
def shownN : List Nat → Bool
  | [] => true
  | c :: l => decide (32 ≤ c) && c != 127 && shownN l
theorem shown_high {c : Nat} (l : List Nat) (h : 128 ≤ c) : shownN (c :: l) = shownN l := by
  rw [shownN, decide_eq_true (by omega), bne_iff_ne.2 (by omega)]
  simp
theorem valid_step {n : Nat} {l : List Nat} (h : l ≠ []) : validM (n + 1) l = if (decM l).1 = 65533 ∧ (decM l).2 = 1 then false else validM n (l.drop (decM l).2) := by
  rw [validM, if_neg h]
theorem valid_bad {n : Nat} {l : List Nat} (h : l ≠ []) (hd : decM l = (65533, 1)) : validM (n + 1) l = false := by
  rw [valid_step h, hd, if_pos ⟨rfl, rfl⟩]
theorem valid_good {n : Nat} {l : List Nat} (h : l ≠ []) {v k : Nat} (hd : decM l = (v, k)) (hk : k ≠ 1 ∨ v ≠ 65533) : validM (n + 1) l = validM n (l.drop k) := by
  rw [valid_step h, hd, if_neg (by simp only []; omega)]
theorem lead1 {b : Nat} (h : b < 128) : leadN b = some (1, b, 0) := by unfold leadN; rw [if_pos h]
theorem lead2 {b : Nat} (h : 192 ≤ b ∧ b < 224) : leadN b = some (2, b - 192, 128) := by unfold leadN; rw [if_neg (by omega), if_pos h]
theorem lead3 {b : Nat} (h : 224 ≤ b ∧ b < 240) : leadN b = some (3, b - 224, 2048) := by unfold leadN; rw [if_neg (by omega), if_neg (by omega), if_pos h]
theorem lead4 {b : Nat} (h : 240 ≤ b ∧ b < 248) : leadN b = some (4, b - 240, 65536) := by unfold leadN; rw [if_neg (by omega), if_neg (by omega), if_neg (by omega), if_pos h]
theorem lead0 {b : Nat} (h : (128 ≤ b ∧ b < 192) ∨ 248 ≤ b) : leadN b = none := by unfold leadN; rw [if_neg (by omega), if_neg (by omega), if_neg (by omega), if_neg (by omega)]
theorem clean_step (f b : Nat) (l : List Nat) {n r least : Nat} (h : leadN b = some (n, r, least)) (hb : 128 ≤ b) : cleanF (f + 1) (b :: l) = (match contN (n - 1) r l with
      | none => false
      | some q => if badR q least then false else cleanF f ((b :: l).drop n)) := by
  rw [cleanF, h]
  simp only []
  rw [if_neg (by omega)]
  cases contN (n - 1) r l <;> rfl
theorem clean_valid : ∀ (f : Nat) (l : List Nat), l.length ≤ f → (∀ c ∈ l, c < 256) → cleanF f l = (validM f l && shownN l)
  | 0, [], _, _ => rfl
  | 0, _ :: _, h, _ => by simp at h
  | f + 1, [], _, _ => by rw [cleanF, validM, if_pos rfl, shownN]; rfl
  | f + 1, b :: l, hl, hb => by
    have hb0 := hb b (by simp)
    have hbl : ∀ c ∈ l, c < 256 := fun c hc => hb c (by simp [hc])
    have hl' : l.length ≤ f := by simpa using hl
    by_cases h1 : b < 128
    · have hd : decM (b :: l) = (b, 1) := by unfold decM Lib.decodeN; rw [show (b :: l).getD 0 0 = b from rfl, if_pos h1]
      rw [valid_good (by simp) hd (by omega), List.drop_one, List.tail_cons, cleanF, lead1 h1]
      have e0 : contN (1 - 1) b l = some b := by show contN 0 b l = _; rw [contN]
      simp only [e0]
      rw [shownN, List.drop_one, List.tail_cons, clean_valid f l hl' hbl]
      by_cases h2 : b < 32 ∨ b = 127
      · rw [if_pos h2]
        rcases h2 with h2 | h2
        · rw [decide_eq_false (by omega)]; simp
        · subst h2; simp
      · rw [if_neg h2, if_neg (by rw [bad_iff]; omega), decide_eq_true (by omega), bne_iff_ne.2 (by omega)]
        simp
    · have hsh : shownN (b :: l) = shownN l := shown_high l (by omega)
      by_cases h2 : 192 ≤ b ∧ b < 224
      · rw [clean_step f b l (lead2 h2) (by omega)]
        cases l with
        | nil =>
          have hd : decM [b] = (65533, 1) := by
            unfold decM Lib.decodeN
            simp only [List.length_cons, List.length_nil, List.getD_cons_zero]
            rw [if_neg h1, if_neg (by omega), if_neg (by omega), if_neg (by omega)]
          rw [valid_bad (by simp) hd]
          rfl
        | cons c l =>
          have hc := hbl c (by simp)
          by_cases h3 : 128 ≤ c ∧ c < 192
          · have e1 : contN (2 - 1) (b - 192) (c :: l) = some ((b - 192) * 64 + (c - 128)) := by show contN 1 _ _ = _; rw [contN, if_pos h3, contN]
            rw [e1]
            simp only []
            have hv : b % 32 * 64 + c % 64 = (b - 192) * 64 + (c - 128) := by omega
            by_cases h4 : (b - 192) * 64 + (c - 128) < 128
            · have hd : decM (b :: c :: l) = (65533, 1) := by
                unfold decM Lib.decodeN
                simp only [List.length_cons, List.getD_cons_zero, List.getD_cons_succ]
                rw [if_neg h1, if_pos (by omega), if_neg (by omega)]
              rw [valid_bad (by simp) hd, if_pos ((bad_iff _ _).2 (.inl h4))]
              rfl
            · have hd : decM (b :: c :: l) = (b % 32 * 64 + c % 64, 2) := by
                unfold decM Lib.decodeN
                simp only [List.length_cons, List.getD_cons_zero, List.getD_cons_succ]
                rw [if_neg h1, if_pos (by omega), if_pos (by omega)]
              rw [valid_good (by simp) hd (by omega), if_neg (by rw [bad_iff]; omega), hsh, shown_high l h3.1]
              exact clean_valid f l (by simp at hl'; omega) (fun x hx => hbl x (by simp [hx]))
          · have hd : decM (b :: c :: l) = (65533, 1) := by
              unfold decM Lib.decodeN
              simp only [List.length_cons, List.getD_cons_zero, List.getD_cons_succ]
              rw [if_neg h1, if_neg (by omega), if_neg (by omega), if_neg (by omega)]
            have e1 : contN (2 - 1) (b - 192) (c :: l) = none := by show contN 1 _ _ = _; rw [contN, if_neg h3]
            rw [valid_bad (by simp) hd, e1]
            rfl
      · by_cases h3 : 224 ≤ b ∧ b < 240
        · rw [clean_step f b l (lead3 h3) (by omega)]
          have hbad : ∀ m : List Nat, (¬ (1 < (b :: m).length ∧ m.getD 0 0 / 64 = 2) ∨ ¬ (2 < (b :: m).length ∧ m.getD 1 0 / 64 = 2)) → decM (b :: m) = (65533, 1) := by
            intro m hm
            unfold decM Lib.decodeN
            simp only [List.getD_cons_zero, List.getD_cons_succ]
            rw [if_neg h1, if_neg (by omega), if_neg (by omega), if_neg (by omega)]
          match l, hl', hbl, hsh with
          | [], _, _, _ =>
            rw [valid_bad (by simp) (hbad [] (by simp))]
            rfl
          | [c], _, hbl, _ =>
            rw [valid_bad (by simp) (hbad [c] (by simp))]
            have e1 : contN (3 - 1) (b - 224) [c] = none := by show contN 2 _ _ = _; rw [contN]; split <;> rfl
            rw [e1]
            rfl
          | c :: d :: l, hl', hbl, hsh =>
            have hc := hbl c (by simp)
            have hdb := hbl d (by simp)
            by_cases h4 : (128 ≤ c ∧ c < 192) ∧ (128 ≤ d ∧ d < 192)
            · have e1 : contN (3 - 1) (b - 224) (c :: d :: l) = some (((b - 224) * 64 + (c - 128)) * 64 + (d - 128)) := by show contN 2 _ _ = _; rw [contN, if_pos h4.1, contN, if_pos h4.2, contN]
              rw [e1]
              simp only []
              by_cases h5 : badR (((b - 224) * 64 + (c - 128)) * 64 + (d - 128)) 2048 = true
              · have h5' := (bad_iff _ _).1 h5
                have hd : decM (b :: c :: d :: l) = (65533, 1) := by
                  unfold decM Lib.decodeN
                  simp only [List.length_cons, List.getD_cons_zero, List.getD_cons_succ]
                  rw [if_neg h1, if_neg (by omega), if_pos (by omega), if_neg (by omega)]
                rw [valid_bad (by simp) hd, if_pos h5]
                rfl
              · have h5' : ¬ _ := fun h => h5 ((bad_iff _ _).2 h)
                have hd : decM (b :: c :: d :: l) = (b % 16 * 4096 + c % 64 * 64 + d % 64, 3) := by
                  unfold decM Lib.decodeN
                  simp only [List.length_cons, List.getD_cons_zero, List.getD_cons_succ]
                  rw [if_neg h1, if_neg (by omega), if_pos (by omega), if_pos (by omega)]
                rw [valid_good (by simp) hd (by omega), if_neg h5, hsh, shown_high _ h4.1.1, shown_high _ h4.2.1]
                exact clean_valid f l (by simp at hl'; omega) (fun x hx => hbl x (by simp [hx]))
            · rw [valid_bad (by simp) (hbad (c :: d :: l) (by simp; omega))]
              have e1 : contN (3 - 1) (b - 224) (c :: d :: l) = none := by
                show contN 2 _ _ = _
                rw [contN]
                split
                · rw [contN, if_neg (by omega)]
                · rfl
              rw [e1]
              rfl
        · by_cases h4 : 240 ≤ b ∧ b < 248
          · rw [clean_step f b l (lead4 h4) (by omega)]
            have hbad : ∀ m : List Nat, (¬ (1 < (b :: m).length ∧ m.getD 0 0 / 64 = 2) ∨ ¬ (2 < (b :: m).length ∧ m.getD 1 0 / 64 = 2) ∨ ¬ (3 < (b :: m).length ∧ m.getD 2 0 / 64 = 2)) → decM (b :: m) = (65533, 1) := by
              intro m hm
              unfold decM Lib.decodeN
              simp only [List.getD_cons_zero, List.getD_cons_succ]
              rw [if_neg h1, if_neg (by omega), if_neg (by omega), if_neg (by omega)]
            match l, hl', hbl, hsh with
            | [], _, _, _ =>
              rw [valid_bad (by simp) (hbad [] (by simp))]
              rfl
            | [c], _, hbl, _ =>
              rw [valid_bad (by simp) (hbad [c] (by simp))]
              have e1 : contN (4 - 1) (b - 240) [c] = none := by show contN 3 _ _ = _; rw [contN]; split <;> rfl
              rw [e1]
              rfl
            | [c, d], _, hbl, _ =>
              rw [valid_bad (by simp) (hbad [c, d] (by simp))]
              have e1 : contN (4 - 1) (b - 240) [c, d] = none := by
                show contN 3 _ _ = _
                rw [contN]
                split
                · rw [contN]; split <;> rfl
                · rfl
              rw [e1]
              rfl
            | c :: d :: e :: l, hl', hbl, hsh =>
              have hc := hbl c (by simp)
              have hdb := hbl d (by simp)
              have heb := hbl e (by simp)
              by_cases h5 : (128 ≤ c ∧ c < 192) ∧ (128 ≤ d ∧ d < 192) ∧ (128 ≤ e ∧ e < 192)
              · have e1 : contN (4 - 1) (b - 240) (c :: d :: e :: l) = some ((((b - 240) * 64 + (c - 128)) * 64 + (d - 128)) * 64 + (e - 128)) := by show contN 3 _ _ = _; rw [contN, if_pos h5.1, contN, if_pos h5.2.1, contN, if_pos h5.2.2, contN]
                rw [e1]
                simp only []
                by_cases h6 : badR ((((b - 240) * 64 + (c - 128)) * 64 + (d - 128)) * 64 + (e - 128)) 65536 = true
                · have h6' := (bad_iff _ _).1 h6
                  have hd : decM (b :: c :: d :: e :: l) = (65533, 1) := by
                    unfold decM Lib.decodeN
                    simp only [List.length_cons, List.getD_cons_zero, List.getD_cons_succ]
                    rw [if_neg h1, if_neg (by omega), if_neg (by omega), if_pos (by omega), if_neg (by omega)]
                  rw [valid_bad (by simp) hd, if_pos h6]
                  rfl
                · have h6' : ¬ _ := fun h => h6 ((bad_iff _ _).2 h)
                  have hd : decM (b :: c :: d :: e :: l) = (b % 8 * 262144 + c % 64 * 4096 + d % 64 * 64 + e % 64, 4) := by
                    unfold decM Lib.decodeN
                    simp only [List.length_cons, List.getD_cons_zero, List.getD_cons_succ]
                    rw [if_neg h1, if_neg (by omega), if_neg (by omega), if_pos (by omega), if_pos (by omega)]
                  rw [valid_good (by simp) hd (by omega), if_neg h6, hsh, shown_high _ h5.1.1, shown_high _ h5.2.1.1, shown_high _ h5.2.2.1]
                  exact clean_valid f l (by simp at hl'; omega) (fun x hx => hbl x (by simp [hx]))
              · rw [valid_bad (by simp) (hbad (c :: d :: e :: l) (by simp; omega))]
                have e1 : contN (4 - 1) (b - 240) (c :: d :: e :: l) = none := by
                  show contN 3 _ _ = _
                  rw [contN]
                  split
                  · rw [contN]
                    split
                    · rw [contN, if_neg (by omega)]
                    · rfl
                  · rfl
                rw [e1]
                rfl
          · have hd : decM (b :: l) = (65533, 1) := by
              unfold decM Lib.decodeN
              simp only [List.getD_cons_zero]
              rw [if_neg h1, if_neg (by omega), if_neg (by omega), if_neg (by omega)]
            rw [valid_bad (by simp) hd, cleanF, lead0 (by omega)]
            rfl
theorem clean_txt (S : ByteArray) : cleanN (txt S) = (Lib.validD S.data.toList && shownN (txt S)) := by
  unfold cleanN
  rw [clean_valid _ _ (Nat.le_refl _) (txt_lt S), valid_txt]
end Go.Proofs.YtbfgkogmojnilaaDoor
