/-
  A text cut at a sign: what strings.Split tells, as lists; Parse of the document by its parts.
-/
import Derived.Test.YtbfgkogmojnilaaDoorTagBackN
import Derived.Lib.SplitLaws
import Derived.Lib.IndexMore
namespace Go.Proofs.YtbfgkogmojnilaaDoor
open Go.ChangeShapes Go.WideShapes Go.ChangeAt Go.RowKit
set_option linter.unusedVariables false
set_option linter.unusedSimpArgs false
def cutN (q : Nat) : List Nat → List Nat → List (List Nat)
  | [], cur => [cur]
  | c :: l, cur => if c = q then cur :: cutN q l [] else cutN q l (cur ++ [c])
theorem cut_none (q : Nat) : ∀ (l cur : List Nat), (∀ x ∈ l, x ≠ q) → cutN q l cur = [cur ++ l]
  | [], cur, _ => by rw [cutN, List.append_nil]
  | c :: l, cur, h => by
    rw [cutN, if_neg (h c (by simp)), cut_none q l _ (fun x hx => h x (by simp [hx])), List.append_assoc]
    rfl
theorem cut_some (q : Nat) : ∀ (a b cur : List Nat), (∀ x ∈ a, x ≠ q) → cutN q (a ++ q :: b) cur = (cur ++ a) :: cutN q b []
  | [], b, cur, _ => by rw [List.nil_append, cutN, if_pos rfl, List.append_nil]
  | c :: a, b, cur, h => by
    rw [List.cons_append, cutN, if_neg (h c (by simp)), cut_some q a b _ (fun x hx => h x (by simp [hx])), List.append_assoc]
    rfl
theorem occ_oneq (q : UInt8) (s : List UInt8) (i : Nat) : Lib.occAt s [q] i = true ↔ s[i]? = some q := by
  unfold Lib.occAt
  cases h : s.drop i with
  | nil =>
    have : s.length ≤ i := List.drop_eq_nil_iff.1 h
    simp [List.isPrefixOf, List.getElem?_eq_none this]
  | cons x l =>
    have : s[i]? = some x := by
      have := congrArg (·[0]?) h
      simpa using this
    rw [this]
    simp [List.isPrefixOf]
    exact eq_comm
theorem no_sign (q : UInt8) {s : List UInt8} {i : Nat} (hi : i ≤ s.length) (h : Lib.NoOcc s [q] i) : ∀ c ∈ (s.take i).map UInt8.toNat, c ≠ q.toNat := by
  intro c hc e
  obtain ⟨x, hx, rfl⟩ := List.mem_map.1 hc
  obtain ⟨j, hj, rfl⟩ := List.getElem_of_mem hx
  rw [List.length_take] at hj
  have h1 := h j (by omega)
  have : Lib.occAt s [q] j = true := (occ_oneq q s j).2 (by
    rw [List.getElem?_eq_getElem (by omega)]
    rw [List.getElem_take] at e
    congr 1
    exact UInt8.toNat_inj.1 e)
  rw [this] at h1
  cases h1
def piecesQ (q : UInt8) (s : List UInt8) : List (List UInt8) := Lib.splitK [q] 0 (Lib.count s [q]) s
theorem pieces_cut (q : UInt8) : ∀ (n : Nat) (s : List UInt8), s.length ≤ n → (piecesQ q s).map (fun t => t.map UInt8.toNat) = cutN q.toNat (s.map UInt8.toNat) []
  | n, s, hn => by
    rcases Lib.index_spec s [q] with ⟨h1, h2⟩ | ⟨i, h1, h2, h3, h4⟩
    · have e : piecesQ q s = [s] := by unfold piecesQ; rw [Lib.count_miss h1, Lib.splitK]
      rw [e, cut_none _ _ _ (by
        have := no_sign q (Nat.le_refl s.length) (fun j hj => h2 j (by omega))
        rwa [List.take_length] at this)]
      simp
    · have hs : s[i]? = some q := (occ_oneq q s i).1 h3
      have hi : i < s.length := (List.getElem?_eq_some_iff.1 hs).1
      have e : piecesQ q s = s.take i :: piecesQ q (s.drop (i + 1)) := by
        unfold piecesQ
        rw [Lib.count_hit (by simp) h1, show ([q] : List UInt8).length = 1 from rfl, Nat.add_comm 1, Lib.splitK, h1, if_neg (by rw [beq_iff_eq]; omega), Int.toNat_natCast]
        rfl
      have es : s = s.take i ++ q :: s.drop (i + 1) := by
        have : s[i] = q := by rw [List.getElem?_eq_getElem hi] at hs; exact Option.some.inj hs
        rw [← this, List.getElem_cons_drop, List.take_append_drop]
      have em : s.map UInt8.toNat = (s.take i).map UInt8.toNat ++ q.toNat :: (s.drop (i + 1)).map UInt8.toNat := by
        conv => lhs; rw [es]
        rw [List.map_append, List.map_cons]
      rw [em, cut_some _ _ _ _ (no_sign q h2 h4), e, List.map_cons, List.nil_append]
      cases n with
      | zero => omega
      | succ n => rw [pieces_cut q n (s.drop (i + 1)) (by rw [List.length_drop]; omega)]
theorem split_cut (Q S : ByteArray) (q : UInt8) (hq : Q.data.toList = [q]) : (Lib.splitB Q 0 (Lib.countB S Q) S).map txt = cutN q.toNat (txt S) [] := by
  have h1 := Lib.splitB_data Q 0 (Lib.countB S Q) S
  have h2 := pieces_cut q S.data.toList.length S.data.toList (Nat.le_refl _)
  have h3 : Lib.countB S Q = Lib.count S.data.toList [q] := by unfold Lib.countB; rw [hq]
  unfold piecesQ at h2
  rw [hq, h3] at h1
  rw [← h1, List.map_map] at h2
  rw [h3]
  exact h2
/-- The document's walk over a text's parts. -/
def partsF : List (List Nat) → List (ByteArray × ByteArray) → Option (List (ByteArray × ByteArray))
  | [], out => some out
  | p :: ps, out => match pairO p with | none => none | some t => partsF ps (out ++ [t])
theorem parse_parts : ∀ (l cur : List Nat) (out : List (ByteArray × ByteArray)), parseF l cur out = partsF (cutN 38 l cur) out
  | [], cur, out => by
    rw [parseF, cutN, partsF]
    cases pairO cur <;> rfl
  | c :: l, cur, out => by
    rw [parseF, cutN]
    by_cases hc : c = 38
    · rw [if_pos hc, if_pos hc, partsF]
      cases pairO cur with
      | none => rfl
      | some t => exact parse_parts l [] _
    · rw [if_neg hc, if_neg hc]
      exact parse_parts l _ out
theorem cut_count : ∀ (l cur : List Nat) (k p c : Nat), (cutN 61 l cur).length + c = (eqsN l k p c).2 + 1
  | [], cur, k, p, c => by rw [cutN, eqsN]; simp; omega
  | x :: l, cur, k, p, c => by
    rw [cutN, eqsN]
    by_cases hx : x = 61
    · rw [if_pos hx, if_pos hx, List.length_cons]
      have := cut_count l [] (k + 1) k (c + 1)
      omega
    · rw [if_neg hx, if_neg hx]
      exact cut_count l _ (k + 1) p c
theorem pair_other {l : List Nat} (h : (cutN 61 l []).length ≠ 2) : pairO l = none := by
  refine pair_count fun e => h ?_
  have := cut_count l [] 0 0 0
  omega
theorem cut_two : ∀ (l cur a b : List Nat), cutN 61 l cur = [a, b] → ∃ m, a = cur ++ m ∧ l = m ++ 61 :: b ∧ (∀ x ∈ m, x ≠ 61) ∧ ∀ x ∈ b, x ≠ 61
  | [], cur, a, b, h => by rw [cutN] at h; simp at h
  | x :: l, cur, a, b, h => by
    rw [cutN] at h
    by_cases hx : x = 61
    · rw [if_pos hx] at h
      obtain ⟨rfl, h2⟩ := List.cons.inj h
      refine ⟨[], by simp, ?_, by simp, ?_⟩
      · have : ∀ (l cur b : List Nat), cutN 61 l cur = [b] → b = cur ++ l ∧ ∀ x ∈ l, x ≠ 61 := by
          intro l
          induction l with
          | nil => intro cur b h; rw [cutN] at h; simp at h; simp [h]
          | cons y l ih =>
            intro cur b h
            rw [cutN] at h
            by_cases hy : y = 61
            · rw [if_pos hy] at h
              have h3 : ∀ l cur, 1 ≤ (cutN 61 l cur).length := by
                intro l
                induction l with
                | nil => intro cur; rw [cutN]; simp
                | cons z l ih => intro cur; rw [cutN]; split <;> simp [ih]
              have h4 := h3 l []
              have h5 := congrArg List.length h
              rw [List.length_cons, List.length_cons, List.length_nil] at h5
              omega
            · rw [if_neg hy] at h
              obtain ⟨h4, h5⟩ := ih _ _ h
              refine ⟨by rw [h4]; simp, fun x hx => ?_⟩
              rcases List.mem_cons.1 hx with rfl | hx
              · exact hy
              · exact h5 x hx
        obtain ⟨h3, -⟩ := this l [] b h2
        rw [h3, hx]
        rfl
      · have : ∀ (l cur b : List Nat), (∀ x ∈ cur, x ≠ 61) → ∀ t ∈ cutN 61 l cur, ∀ x ∈ t, x ≠ 61 := by
          intro l
          induction l with
          | nil => intro cur b hc t ht; rw [cutN, List.mem_singleton] at ht; rw [ht]; exact hc
          | cons y l ih =>
            intro cur b hc t ht
            rw [cutN] at ht
            split at ht
            · rcases List.mem_cons.1 ht with rfl | ht
              · exact hc
              · exact ih [] b (by simp) t ht
            · rename_i hy
              refine ih _ b ?_ t ht
              intro x hx
              rcases List.mem_append.1 hx with hx | hx
              · exact hc x hx
              · rw [List.mem_singleton.1 hx]; exact hy
        exact this l [] b (by simp) b (by rw [h2]; simp)
    · rw [if_neg hx] at h
      obtain ⟨m, h1, h2, h3, h4⟩ := cut_two l _ a b h
      refine ⟨x :: m, by rw [h1]; simp, by rw [h2]; rfl, ?_, h4⟩
      intro y hy
      rcases List.mem_cons.1 hy with rfl | hy
      · exact hx
      · exact h3 y hy
theorem pair_two {l a b : List Nat} (h : cutN 61 l [] = [a, b]) : pairO l = match unescN a, unescN b with | some x, some y => some (strN x, strN y) | _, _ => none := by
  obtain ⟨m, h1, h2, h3, h4⟩ := cut_two l [] a b h
  rw [List.nil_append] at h1
  subst h1
  have e : eqsN l 0 0 0 = (a.length, 1) := by
    rw [h2, show a ++ 61 :: b = a ++ [61] ++ b by simp]
    exact eqs_pair a b h3 h4
  unfold pairO
  rw [e, if_pos rfl, h2]
  simp only []
  rw [List.take_left, show a.length + 1 = (a ++ [61]).length by simp, show a ++ 61 :: b = a ++ [61] ++ b by simp, List.drop_left]
  cases unescN a <;> cases unescN b <;> rfl
end Go.Proofs.YtbfgkogmojnilaaDoor
