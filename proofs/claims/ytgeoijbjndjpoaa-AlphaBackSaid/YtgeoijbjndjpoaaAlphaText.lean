/-
  Texts as lists of numbers: two that are alike, one below another.
-/
import Derived.Test.YtgeoijbjndjpoaaAlphaRef
namespace Go.Proofs.Ytgeoijbjndjpoaa
set_option linter.unusedVariables false
set_option linter.unusedSimpArgs false
theorem toList_txt (s : ByteArray) : s.toList.map UInt8.toNat = txt s := by
  unfold txt
  rw [Go.ByteArray.toList_eq]
theorem map_inj : ∀ (l m : List UInt8), l.map UInt8.toNat = m.map UInt8.toNat → l = m
  | [], [], _ => rfl
  | [], _ :: _, h => by simp at h
  | _ :: _, [], h => by simp at h
  | x :: l, y :: m, h => by
    simp only [List.map_cons, List.cons.injEq] at h
    rw [UInt8.toNat_inj.1 h.1, map_inj l m h.2]
/-- Two texts are alike where their numbers are. -/
theorem str_eq (s t : ByteArray) : (s.toList == t.toList) = decide (txt s = txt t) := by
  by_cases h : txt s = txt t
  · rw [← toList_txt, ← toList_txt] at h
    rw [map_inj _ _ h, decide_eq_true (by rw [← toList_txt, ← toList_txt, map_inj _ _ h])]
    simp
  · rw [decide_eq_false h, beq_eq_false_iff_ne]
    intro e
    exact h (by rw [← toList_txt, ← toList_txt, e])
theorem less_iff : ∀ (l m : List UInt8), Op.bytesLess l m = decide (l.map UInt8.toNat < m.map UInt8.toNat)
  | [], [] => by simp [Op.bytesLess]
  | [], y :: m => by simp [Op.bytesLess]
  | x :: l, [] => by simp [Op.bytesLess]
  | x :: l, y :: m => by
    have ih := less_iff l m
    rw [List.map_cons, List.map_cons, Op.bytesLess, ih]
    by_cases h1 : x < y
    · have h2 : x.toNat < y.toNat := UInt8.lt_iff_toNat_lt.1 h1
      rw [decide_eq_true h1, decide_eq_true (List.cons_lt_cons_iff.2 (.inl h2))]
      rfl
    · have h2 : ¬ x.toNat < y.toNat := fun h => h1 (UInt8.lt_iff_toNat_lt.2 h)
      rw [decide_eq_false h1, Bool.false_or]
      by_cases h3 : x = y
      · subst h3
        rw [beq_self_eq_true, Bool.true_and]
        by_cases h4 : l.map UInt8.toNat < m.map UInt8.toNat
        · rw [decide_eq_true h4, decide_eq_true (List.cons_lt_cons_iff.2 (.inr ⟨rfl, h4⟩))]
        · rw [decide_eq_false h4, decide_eq_false]
          intro h
          rcases List.cons_lt_cons_iff.1 h with h | h
          · exact h2 h
          · exact h4 h.2
      · rw [beq_eq_false_iff_ne.2 h3, Bool.false_and, decide_eq_false]
        intro h
        rcases List.cons_lt_cons_iff.1 h with h | h
        · exact h2 h
        · exact h3 (UInt8.toNat_inj.1 h.1)
/-- One text is below another where its numbers are. -/
theorem str_less (s t : ByteArray) : Op.bytesLess s.toList t.toList = decide (txt s < txt t) := by rw [less_iff, toList_txt, toList_txt]
end Go.Proofs.Ytgeoijbjndjpoaa
