/-
  Fields as lists of numbers: what is written, what is read of them, the first thing that is wrong. (Plain.)
-/
import Derived.Test.YtngojkleehgbaaaBackN
import Derived.Test.YtngojkleehgbaaaTexts
namespace Go.Proofs.Ytngojkleehgbaaa
open Go.ChangeShapes Go.WideShapes Go.ChangeAt Go.RowKit
set_option linter.unusedVariables false
set_option linter.unusedSimpArgs false
def toI (xs : List Nat) : List Int := xs.map fun (n : Nat) => (n : Int)
theorem toI_len (xs : List Nat) : (toI xs).length = xs.length := by simp [toI]
theorem toI_app (xs ys : List Nat) : toI (xs ++ ys) = toI xs ++ toI ys := by simp [toI]
theorem toI_getD (xs : List Nat) (i : Nat) : (toI xs).getD i 0 = (xs.getD i 0 : Nat) := by
  unfold toI
  rw [List.getD_eq_getElem?_getD, List.getD_eq_getElem?_getD, List.getElem?_map]
  cases xs[i]? <;> rfl
/-- All bytes. -/
def Byt (xs : List Nat) : Prop := ∀ c ∈ xs, c < 256
theorem Byt.app {xs ys : List Nat} (h : Byt xs) (k : Byt ys) : Byt (xs ++ ys) := fun c hc => by rcases List.mem_append.1 hc with hc | hc; exact h c hc; exact k c hc
theorem Byt.take {xs : List Nat} (h : Byt xs) (n : Nat) : Byt (xs.take n) := fun c hc => h c (List.mem_of_mem_take hc)
theorem Byt.drop {xs : List Nat} (h : Byt xs) (n : Nat) : Byt (xs.drop n) := fun c hc => h c (List.mem_of_mem_drop hc)
theorem Byt.nil : Byt [] := fun c hc => by simp at hc
theorem Byt.at {xs : List Nat} (h : Byt xs) (i : Nat) : xs.getD i 0 < 256 := by
  rw [List.getD_eq_getElem?_getD]
  by_cases hi : i < xs.length
  · rw [List.getElem?_eq_getElem hi]; exact h _ (List.getElem_mem hi)
  · rw [List.getElem?_eq_none (by omega)]; decide
theorem Byt.toI {xs : List Nat} (h : Byt xs) (i : Nat) : 0 ≤ (toI xs).getD i 0 ∧ (toI xs).getD i 0 ≤ 255 := by
  have := h.at i
  rw [toI_getD]; omega
theorem Byt.txt (s : ByteArray) : Byt (txt s) := txt_lt s
/-- A number's bytes. -/
def pkN (n : Nat) : List Nat := (pk 9 (n : Int)).map Int.toNat
theorem pk_of (n : Nat) (hn : n ≤ 18446744073709551615) : ∀ c ∈ pk 9 (n : Int), 0 ≤ c ∧ c ≤ 255 := pk_bytes 9 n (by omega) (by omega)
theorem toI_pkN (n : Nat) (hn : n ≤ 18446744073709551615) : toI (pkN n) = pk 9 (n : Int) := by
  unfold toI pkN
  rw [List.map_map, List.map_congr_left (g := id) (fun c hc => by have := pk_of n hn c hc; simp; omega), List.map_id]
theorem pkN_len (n : Nat) : 1 ≤ (pkN n).length ∧ (pkN n).length ≤ 10 := by
  unfold pkN; rw [List.length_map]; exact ⟨pk_pos 9 n, pk_length 9 n⟩
theorem pkN_byt (n : Nat) (hn : n ≤ 18446744073709551615) : Byt (pkN n) := fun c hc => by
  unfold pkN at hc
  obtain ⟨x, hx, rfl⟩ := List.mem_map.1 hc
  have := pk_of n hn x hx
  omega
def zigN (a : Int) : Nat := (zigV a).toNat
theorem zigN_le (a : Int) (a0 : -9223372036854775808 ≤ a) (a1 : a ≤ 9223372036854775807) : zigN a ≤ 18446744073709551615 ∧ ((zigN a : Nat) : Int) = zigV a := by
  have := zigV_bounds a a0 a1
  unfold zigN; omega
/-- A field: of what kind, and its values. -/
abbrev Fld := Int × Nat × Int × ByteArray × List Nat
def fNum (x : Fld) : List Nat := pkN x.2.1
def fInt (x : Fld) : List Nat := pkN (zigN x.2.2.1)
def flagN (b : Bool) : List Nat := [if b then 1 else 0]
def textN (s : ByteArray) : List Nat := pkN s.size ++ txt s
/-- A Reader: what is left, and what is wrong. -/
abbrev RSt := List Nat × Int
def unV (xs : List Nat) : Nat := (upV (toI xs)).toNat
def unU (xs : List Nat) : Nat := (upU (toI xs)).toNat
def unE (xs : List Nat) : Int := upE (toI xs)
theorem lead_top (xs : List Int) : lead xs ≤ xs.length := lead_le xs
theorem unU_le (xs : List Nat) : unU xs ≤ xs.length ∧ upU (toI xs) = (unU xs : Nat) := by
  have h := lead_le (toI xs)
  have hl := toI_len xs
  unfold unU upU
  split
  · rename_i he
    have : lead (toI xs) ≠ (toI xs).length := by
      intro e
      unfold upE at he
      rw [if_pos e] at he
      split at he <;> simp at he
    omega
  · simp
theorem unE_is (xs : List Nat) : unE xs = 0 ∨ unE xs = 2 ∨ unE xs = 3 := by
  unfold unE upE; split; simp; split; simp; split <;> simp
theorem unV_bad (xs : List Nat) (h : unE xs ≠ 0) : unV xs = 0 ∧ unU xs = 0 := by
  unfold unE at h
  unfold unV unU upV upU
  rw [if_neg h, if_neg h]; exact ⟨rfl, rfl⟩
theorem unV_le (xs : List Nat) (hb : Byt xs) : unV xs ≤ 18446744073709551615 ∧ upV (toI xs) = (unV xs : Nat) := by
  have hd : ∀ j, 0 ≤ (fun j => (toI xs).getD j 0 % 128) j ∧ (fun j => (toI xs).getD j 0 % 128) j ≤ 127 := fun j => by have := hb.toI j; simp only []; omega
  by_cases he : upE (toI xs) = 0
  · have h1 : ¬ 10 ≤ lead (toI xs) := fun h => by unfold upE at he; rw [if_pos h] at he; simp at he
    have h2 : lead (toI xs) ≠ (toI xs).length := fun h => by unfold upE at he; rw [if_neg h1, if_pos h] at he; simp at he
    have h3 : ¬ ((lead (toI xs) = 9 ∧ 1 < (toI xs).getD 9 0) ∨ (0 < lead (toI xs) ∧ (toI xs).getD (lead (toI xs)) 0 = 0)) := fun h => by unfold upE at he; rw [if_neg h1, if_neg h2, if_pos h] at he; simp at he
    have hf := lv_fits (toI xs) hb.toI (lead (toI xs)) 0 (Nat.zero_le _) (by
      by_cases h9 : lead (toI xs) = 9
      · refine .inr ⟨h9, ?_⟩
        have : ¬ 1 < (toI xs).getD 9 0 := fun h => h3 (.inl ⟨h9, h⟩)
        omega
      · exact .inl (by omega))
    have h0 := (lvF_bound _ hd (lead (toI xs) + 1) 0).1
    have e : upV (toI xs) = lvF (fun j => (toI xs).getD j 0 % 128) 0 (lead (toI xs) + 1) := by unfold upV; rw [if_pos he]
    rw [Nat.sub_zero] at hf
    unfold unV
    rw [e]
    omega
  · have e : upV (toI xs) = 0 := by unfold upV; rw [if_neg he]
    unfold unV; rw [e]; decide
/-- A number that was written is read. -/
theorem un_pk (n : Nat) (hn : n ≤ 18446744073709551615) (ys : List Nat) : unV (pkN n ++ ys) = n ∧ unU (pkN n ++ ys) = (pkN n).length ∧ unE (pkN n ++ ys) = 0 := by
  obtain ⟨h1, h2, h3⟩ := up_pk n (toI ys) (by omega) (by omega)
  unfold unV unU unE
  rw [toI_app, toI_pkN n hn, h1, h2, h3]
  have : (pkN n).length = (pk 9 (n : Int)).length := by unfold pkN; rw [List.length_map]
  simp [this]
theorem pk_cut (f : Nat) : ∀ (n : Int) (k : Nat), k < (pk f n).length → lead ((pk f n).take k) = k := by
  induction f with
  | zero => intro n k hk; simp [pk] at hk; subst hk; rfl
  | succ f ih =>
    intro n k hk
    rw [pk] at hk ⊢
    by_cases hn : n < 128
    · rw [if_pos hn] at hk ⊢
      simp at hk; subst hk; rfl
    · rw [if_neg hn] at hk ⊢
      cases k with
      | zero => rfl
      | succ k =>
        rw [List.take_succ_cons, lead, if_pos (by omega), ih (n / 128) k (by simpa using hk)]
/-- A part of a number's bytes is too short. -/
theorem un_cut (n : Nat) (hn : n ≤ 18446744073709551615) (k : Nat) (hk : k < (pkN n).length) : unE ((pkN n).take k) = 3 := by
  have hl : (pkN n).length = (pk 9 (n : Int)).length := by unfold pkN; rw [List.length_map]
  have e : toI ((pkN n).take k) = (pk 9 (n : Int)).take k := by
    rw [← toI_pkN n hn]; unfold toI; rw [List.map_take]
  have h1 := pk_cut 9 n k (by omega)
  have h2 := pk_length 9 (n : Int)
  unfold unE
  rw [e]
  exact (up_short _ (by omega) (by rw [h1, List.length_take]; omega)).1
def numS (s : RSt) : Nat × RSt := if s.2 = 0 then (unV s.1, s.1.drop (unU s.1), unE s.1) else (0, s)
def intS (s : RSt) : Int × RSt := (zagV (numS s).1, (numS s).2)
def countS (most : Int) (s : RSt) : Nat × RSt := if (numS s).2.2 = 0 ∧ (most < 0 ∨ most < (numS s).1) then (0, (numS s).2.1, 17) else numS s
def takeS (k : Nat) (s : RSt) : List Nat × RSt := if s.2 = 0 then if s.1.length < k then ([], s.1, 3) else (s.1.take k, s.1.drop k, 0) else ([], s)
def textS (s : RSt) : List Nat × RSt := takeS (countS 16384 s).1 (countS 16384 s).2
def flagS (s : RSt) : Bool × RSt := ((takeS 1 s).1 = [1], (takeS 1 s).2.1, if 1 < (takeS 1 s).1.getD 0 0 then 2 else (takeS 1 s).2.2)
def zeroD : List Nat := List.replicate 32 0
def digestS (s : RSt) : List Nat × RSt := (if s.2 = 0 ∧ 32 ≤ s.1.length then s.1.take 32 else zeroD, (takeS 32 s).2)
def endS (s : RSt) : RSt := if s.1 ≠ [] ∧ s.2 = 0 then (s.1, 2) else s
def OkS (s : RSt) : Prop := Byt s.1
theorem numS_ok {s : RSt} (h : OkS s) : OkS (numS s).2 ∧ (numS s).1 ≤ 18446744073709551615 := by
  unfold numS; split
  · exact ⟨Byt.drop h _, (unV_le s.1 h).1⟩
  · exact ⟨h, Nat.zero_le _⟩
theorem numS_bad {s : RSt} (h : (numS s).2.2 ≠ 0) : (numS s).1 = 0 := by
  unfold numS at h ⊢
  split
  · rename_i he; rw [if_pos he] at h; exact (unV_bad s.1 h).1
  · rfl
theorem countS_ok {most : Int} {s : RSt} (h : OkS s) : OkS (countS most s).2 ∧ ((countS most s).1 = 0 ∨ ((countS most s).1 : Int) ≤ most) := by
  have h0 := (numS_ok h).1
  have hb := numS_bad (s := s)
  unfold countS; split
  · exact ⟨h0, .inl rfl⟩
  · rename_i hc
    refine ⟨h0, ?_⟩
    by_cases he : (numS s).2.2 = 0
    · exact .inr (by have : ¬ (most < 0 ∨ most < (numS s).1) := fun h => hc ⟨he, h⟩; omega)
    · exact .inl (hb he)
theorem takeS_ok {k : Nat} {s : RSt} (h : OkS s) : OkS (takeS k s).2 ∧ Byt (takeS k s).1 := by
  unfold takeS; split
  · split
    · exact ⟨h, Byt.nil⟩
    · exact ⟨Byt.drop h _, Byt.take h _⟩
  · exact ⟨h, Byt.nil⟩
theorem digestS_ok {s : RSt} (h : OkS s) : OkS (digestS s).2 ∧ Byt (digestS s).1 ∧ (digestS s).1.length = 32 := by
  refine ⟨(takeS_ok (k := 32) h).1, ?_, ?_⟩
  · unfold digestS; simp only []; split
    · exact Byt.take h _
    · intro c hc; rw [List.eq_of_mem_replicate hc]; decide
  · unfold digestS; simp only []; split
    · rw [List.length_take]; omega
    · rfl
/-- What is wrong stays. -/
theorem stay {s : RSt} (h : s.2 ≠ 0) : numS s = (0, s) ∧ (∀ m, countS m s = (0, s)) ∧ (∀ k, takeS k s = ([], s)) ∧ textS s = ([], s) ∧ flagS s = (false, s) ∧ digestS s = (zeroD, s) ∧ endS s = s := by
  have h1 : numS s = (0, s) := by unfold numS; rw [if_neg h]
  have h2 : ∀ m, countS m s = (0, s) := fun m => by unfold countS; rw [h1, if_neg (fun hc => h hc.1)]
  have h3 : ∀ k, takeS k s = ([], s) := fun k => by unfold takeS; rw [if_neg h]
  refine ⟨h1, h2, h3, by unfold textS; rw [h2, h3], ?_, ?_, by unfold endS; rw [if_neg (fun hc => h hc.2)]⟩
  · unfold flagS; rw [h3]; simp
  · unfold digestS; rw [h3, if_neg (fun hc => h hc.1)]
theorem num_read (n : Nat) (hn : n ≤ 18446744073709551615) (ys : List Nat) : numS (pkN n ++ ys, 0) = (n, ys, 0) := by
  obtain ⟨h1, h2, h3⟩ := un_pk n hn ys
  unfold numS
  rw [if_pos rfl, h1, h2, h3, List.drop_left]
theorem int_read (a : Int) (a0 : -9223372036854775808 ≤ a) (a1 : a ≤ 9223372036854775807) (ys : List Nat) : intS (pkN (zigN a) ++ ys, 0) = (a, ys, 0) := by
  obtain ⟨h1, h2⟩ := zigN_le a a0 a1
  unfold intS
  rw [num_read _ h1, h2, zag_zig]
theorem count_read (n : Nat) (hn : n ≤ 18446744073709551615) (most : Int) (hm : (n : Int) ≤ most) (ys : List Nat) : countS most (pkN n ++ ys, 0) = (n, ys, 0) := by
  unfold countS
  rw [num_read n hn, if_neg (by simp only []; omega)]
theorem take_read (xs ys : List Nat) : takeS xs.length (xs ++ ys, 0) = (xs, ys, 0) := by
  unfold takeS
  rw [if_pos rfl, if_neg (by simp), List.take_left, List.drop_left]
theorem text_read (s : ByteArray) (hs : s.size ≤ 16384) (ys : List Nat) : textS (textN s ++ ys, 0) = (txt s, ys, 0) := by
  unfold textS textN
  rw [List.append_assoc, count_read s.size (by omega) 16384 (by omega)]
  have := take_read (txt s) ys
  rw [txt_length] at this
  exact this
theorem flag_read (b : Bool) (ys : List Nat) : flagS (flagN b ++ ys, 0) = (b, ys, 0) := by
  unfold flagS flagN
  have := take_read [if b then 1 else 0] ys
  rw [show [if b then 1 else 0].length = 1 from rfl] at this
  rw [this]
  cases b <;> rfl
theorem digest_read (d : List Nat) (hd : d.length = 32) (ys : List Nat) : digestS (d ++ ys, 0) = (d, ys, 0) := by
  unfold digestS
  have := take_read d ys
  rw [hd] at this
  rw [this, if_pos ⟨rfl, by simp [hd]⟩]
  simp only []
  rw [← hd, List.take_left]
end Go.Proofs.Ytngojkleehgbaaa
