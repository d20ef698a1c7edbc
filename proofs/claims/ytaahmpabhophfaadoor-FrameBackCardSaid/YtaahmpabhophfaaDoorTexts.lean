/-
  Texts as lists of numbers; texts put together, cut, compared; bytes as a text. (Beside layer 4's texts, for the later layers.)
-/
import Derived.Test.YtaahmpabhophfaaDoorWords
namespace Go.Proofs.YtaahmpabhophfaaDoor
open Go.ChangeShapes Go.WideShapes Go.ChangeAt Go.RowKit
set_option linter.unusedVariables false
set_option linter.unusedSimpArgs false
/-- A text's bytes as numbers, and back. -/
def txt (s : ByteArray) : List Nat := s.data.toList.map UInt8.toNat
def strN (l : List Nat) : ByteArray := ⟨(l.map UInt8.ofNat).toArray⟩
theorem txt_length (s : ByteArray) : (txt s).length = s.size := by unfold txt; rw [List.length_map, Array.length_toList]; rfl
theorem txt_lt (s : ByteArray) : ∀ c ∈ txt s, c < 256 := fun c hc => by
  obtain ⟨x, _, rfl⟩ := List.mem_map.1 hc
  exact x.toNat_lt
theorem strN_size (l : List Nat) : (strN l).size = l.length := by
  show (l.map UInt8.ofNat).toArray.size = l.length
  simp
theorem strN_append (l m : List Nat) : strN (l ++ m) = strN l ++ strN m := by
  apply ByteArray.ext
  simp [strN, ByteArray.data_append]
theorem txt_strN (l : List Nat) (h : ∀ c ∈ l, c < 256) : txt (strN l) = l := by
  unfold txt strN
  rw [List.map_map]
  have : ∀ c ∈ l, (UInt8.toNat ∘ UInt8.ofNat) c = c := fun c hc => by
    have := h c hc
    simp [UInt8.toNat_ofNat]
    omega
  rw [List.map_congr_left this]
  simp
theorem strN_txt (s : ByteArray) : strN (txt s) = s := by
  apply ByteArray.ext
  show ((s.data.toList.map UInt8.toNat).map UInt8.ofNat).toArray = s.data
  rw [List.map_map, List.map_congr_left (g := id) (fun x _ => by simp)]
  simp
theorem get_txt (s : ByteArray) (i : Nat) (h : i < s.size) : (s[i]'h).toNat = (txt s).getD i 0 := by
  have hl : i < s.data.size := h
  have e : (txt s)[i]? = some (s.data[i]).toNat := by
    unfold txt
    rw [List.getElem?_map, Array.getElem?_toList, Array.getElem?_eq_getElem hl]
    rfl
  rw [List.getD_eq_getElem?_getD, e]
  rfl
theorem str_add (l m : List Nat) (h : l.length + m.length ≤ 9223372036854775807) (W : World) : (Op.stringOp .add (strN l) (strN m)).run Tryd.prog W = .ok (.string (strN (l ++ m))) W := by
  rw [run_string_add_sum W _ _ (by rw [strN_size, strN_size]; exact h), strN_append]
theorem str_one (s : ByteArray) (k : Nat) (kd : IntKind) (h : k + 1 ≤ s.size) (W : World) : (Instr.slice 9 (.string s) (some (.int kd (k : Nat))) (some (.int kd ((k : Int) + 1))) none).run Tryd.prog W = .ok (.string (s.extract k (k + 1))) W := by
  rw [run_slice_string W _ s kd kd (k : Nat) ((k : Int) + 1) Tryd.underlying9 (by omega) (by omega) (by omega), Int.toNat_natCast, show ((k : Int) + 1).toNat = k + 1 by omega]
theorem split_at (t : List Nat) (i : Nat) (h : i < t.length) : t = t.take i ++ t.getD i 0 :: t.drop (i + 1) := by
  rw [List.getD_eq_getElem?_getD, List.getElem?_eq_getElem h, Option.getD_some]
  rw [List.getElem_cons_drop, List.take_append_drop]
theorem take_snoc (t : List Nat) (i : Nat) (h : i < t.length) : t.take (i + 1) = t.take i ++ [t.getD i 0] := by
  rw [List.take_succ_eq_append_getElem h, List.getD_eq_getElem?_getD, List.getElem?_eq_getElem h, Option.getD_some]
theorem toList_txt (s : ByteArray) : s.toList.map UInt8.toNat = txt s := by
  unfold txt
  rw [Go.ByteArray.toList_eq]
theorem map_inj : ∀ (l m : List UInt8), l.map UInt8.toNat = m.map UInt8.toNat → l = m
  | [], [], _ => rfl
  | [], _ :: _, h => by simp at h
  | _ :: _, [], h => by simp at h
  | x :: l, y :: m, h => by
    simp only [List.map_cons, List.cons.injEq] at h
    rw [UInt8.toNat_inj.1 h.1, map_inj l m h.2]
/-- Two texts are alike where their numbers are. -/
theorem str_eq (s t : ByteArray) : (s.toList == t.toList) = decide (txt s = txt t) := by
  by_cases h : txt s = txt t
  · rw [← toList_txt, ← toList_txt] at h
    rw [map_inj _ _ h, decide_eq_true (by rw [← toList_txt, ← toList_txt, map_inj _ _ h])]
    simp
  · rw [decide_eq_false h, beq_eq_false_iff_ne]
    intro e
    exact h (by rw [← toList_txt, ← toList_txt, e])
theorem less_iff : ∀ (l m : List UInt8), Op.bytesLess l m = decide (l.map UInt8.toNat < m.map UInt8.toNat)
  | [], [] => by simp [Op.bytesLess]
  | [], y :: m => by simp [Op.bytesLess]
  | x :: l, [] => by simp [Op.bytesLess]
  | x :: l, y :: m => by
    have ih := less_iff l m
    rw [List.map_cons, List.map_cons, Op.bytesLess, ih]
    by_cases h1 : x < y
    · have h2 : x.toNat < y.toNat := UInt8.lt_iff_toNat_lt.1 h1
      rw [decide_eq_true h1, decide_eq_true (List.cons_lt_cons_iff.2 (.inl h2))]
      rfl
    · have h2 : ¬ x.toNat < y.toNat := fun h => h1 (UInt8.lt_iff_toNat_lt.2 h)
      rw [decide_eq_false h1, Bool.false_or]
      by_cases h3 : x = y
      · subst h3
        rw [beq_self_eq_true, Bool.true_and]
        by_cases h4 : l.map UInt8.toNat < m.map UInt8.toNat
        · rw [decide_eq_true h4, decide_eq_true (List.cons_lt_cons_iff.2 (.inr ⟨rfl, h4⟩))]
        · rw [decide_eq_false h4, decide_eq_false]
          intro h
          rcases List.cons_lt_cons_iff.1 h with h | h
          · exact h2 h
          · exact h4 h.2
      · rw [beq_eq_false_iff_ne.2 h3, Bool.false_and, decide_eq_false]
        intro h
        rcases List.cons_lt_cons_iff.1 h with h | h
        · exact h2 h
        · exact h3 (UInt8.toNat_inj.1 h.1)
/-- One text is below another where its numbers are. -/
theorem str_less (s t : ByteArray) : Op.bytesLess s.toList t.toList = decide (txt s < txt t) := by rw [less_iff, toList_txt, toList_txt]
theorem strOf_nat (xs : List Nat) : strOfNums (xs.map fun (n : Nat) => (n : Int)) = strN xs := by
  unfold strOfNums strN
  rw [List.map_map]
  rfl
/-- Bytes at a place as a text. -/
theorem conv_row {w : World} {b off len : Nat} {xs : List Nat} (h : RowL .u8 w (some ⟨b, off, none⟩) len xs) (cap : Nat) :
    Sem.run Tryd.prog (convert 22 9 (Value.slice (some ⟨b, off, none⟩) len cap)) w = .ok (.string (strN xs)) w := by
  rw [← strOf_nat]
  refine run_convert_bytes_arg w 22 5 Tryd.underlying22 Tryd.underlying5 b off len cap _ (by rw [List.length_map]; exact h.1) (fun i hi => ?_) 9 Tryd.underlying9
  obtain ⟨b', off', e, -, hc⟩ := h.at i hi
  cases e
  rw [hc i hi]
  have : i < xs.length := by rw [h.1]; exact hi
  simp [List.getD, this]
theorem conv_any {w : World} {a : Option Addr} {len : Nat} {xs : List Nat} (h : RowL .u8 w a len xs) (hn : a = none → len = 0) (cap : Nat) :
    Sem.run Tryd.prog (convert 22 9 (Value.slice a len cap)) w = .ok (.string (strN xs)) w := by
  cases a with
  | none =>
    have h0 := hn rfl
    subst h0
    rw [run_convert_bytes_nil w 22 5 Tryd.underlying22 Tryd.underlying5 0 cap 9 Tryd.underlying9, List.eq_nil_of_length_eq_zero h.1]
    rfl
  | some ad =>
    rcases h.2 with h0 | ⟨b, off, e, -, hc⟩
    · subst h0
      rw [List.eq_nil_of_length_eq_zero h.1]
      have hl := run_loadCells_list (P := Tryd.prog) w ad [] (fun j v hj => by simp at hj)
      rw [run_convert_bytes_string w 22 9 5 (some ad) 0 cap Tryd.underlying22 Tryd.underlying5 Tryd.underlying9, run_bytesToString w ad 0 cap [] hl]
      rfl
    · cases e
      exact conv_row h cap
end Go.Proofs.YtaahmpabhophfaaDoor
