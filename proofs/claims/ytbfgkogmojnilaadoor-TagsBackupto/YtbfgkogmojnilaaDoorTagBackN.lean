/-
  Tags as text and back: plain mathematics.
-/
import Derived.Test.YtbfgkogmojnilaaDoorTagParse
namespace Go.Proofs.YtbfgkogmojnilaaDoor
set_option linter.unusedVariables false
set_option linter.unusedSimpArgs false
theorem eqs_app : ∀ (l m : List Nat) (k p c : Nat), (∀ x ∈ l, x ≠ 61) → eqsN (l ++ m) k p c = eqsN m (k + l.length) p c
  | [], m, k, p, c, _ => by simp
  | x :: l, m, k, p, c, h => by
    rw [List.cons_append, eqsN, if_neg (h x (by simp)), eqs_app l m (k + 1) p c (fun y hy => h y (by simp [hy])), List.length_cons, show k + 1 + l.length = k + (l.length + 1) by omega]
theorem eqs_none (l : List Nat) (k p c : Nat) (h : ∀ x ∈ l, x ≠ 61) : eqsN l k p c = (p, c) := by
  have := eqs_app l [] k p c h
  rw [List.append_nil, eqsN] at this
  exact this
theorem eqs_pair (l m : List Nat) (hl : ∀ x ∈ l, x ≠ 61) (hm : ∀ x ∈ m, x ≠ 61) : eqsN (l ++ [61] ++ m) 0 0 0 = (l.length, 1) := by
  rw [List.append_assoc, eqs_app l _ 0 0 0 hl, List.singleton_append, eqsN, if_pos rfl, eqs_none m _ _ _ hm, Nat.zero_add]
theorem esc_no (s : ByteArray) : (∀ x ∈ escN (txt s), x ≠ 61) ∧ (∀ x ∈ escN (txt s), x ≠ 38) :=
  ⟨fun x hx => (esc_letters (txt s) (txt_lt s) x hx).2.1, fun x hx => (esc_letters (txt s) (txt_lt s) x hx).2.2.1⟩
/-- A tag's text is read as it. -/
theorem pair_back (t : ByteArray × ByteArray) : pairO (pairT t) = some t := by
  have e := eqs_pair (escN (txt t.1)) (escN (txt t.2)) (esc_no t.1).1 (esc_no t.2).1
  have e1 : (eqsN (pairT t) 0 0 0).1 = (escN (txt t.1)).length := by unfold pairT; rw [e]
  have e2 : (eqsN (pairT t) 0 0 0).2 = 1 := by unfold pairT; rw [e]
  rw [pair_some (a := txt t.1) (b := txt t.2) e2]
  · rw [strN_txt, strN_txt]
  · rw [e1]
    unfold pairT
    rw [List.append_assoc, List.take_left]
    exact unesc_esc _ (txt_lt t.1)
  · rw [e1]
    unfold pairT
    rw [List.drop_left' (by simp)]
    exact unesc_esc _ (txt_lt t.2)
theorem pairT_no (t : ByteArray × ByteArray) : ∀ x ∈ pairT t, x ≠ 38 := by
  intro x hx
  unfold pairT at hx
  rcases List.mem_append.1 hx with hx | hx
  · rcases List.mem_append.1 hx with hx | hx
    · exact (esc_no t.1).2 x hx
    · rw [List.mem_singleton] at hx; omega
  · exact (esc_no t.2).2 x hx
theorem parse_run : ∀ (l m cur : List Nat) (out : List (ByteArray × ByteArray)), (∀ x ∈ l, x ≠ 38) → parseF (l ++ m) cur out = parseF m (cur ++ l) out
  | [], m, cur, out, _ => by simp
  | x :: l, m, cur, out, h => by
    rw [List.cons_append, parseF, if_neg (h x (by simp)), parse_run l m _ out (fun y hy => h y (by simp [hy]))]
    simp
theorem parse_join : ∀ (ts : List (ByteArray × ByteArray)) (out : List (ByteArray × ByteArray)), ts ≠ [] → parseF (joinT ts) [] out = some (out ++ ts)
  | [], out, h => absurd rfl h
  | [t], out, _ => by
    rw [joinT]
    have := parse_run (pairT t) [] [] out (pairT_no t)
    rw [List.append_nil] at this
    rw [this, List.nil_append, parseF, pair_back]
    rfl
  | t :: u :: ts, out, _ => by
    rw [joinT, List.append_assoc, parse_run (pairT t) _ [] out (pairT_no t), List.nil_append, List.singleton_append, parseF, if_pos rfl, pair_back]
    simp only []
    rw [parse_join (u :: ts) _ (by simp)]
    simp
/-- What is written is read as it was. -/
theorem parse_text {ts : List (ByteArray × ByteArray)} (h : soundB ts = true) : parseB (joinT ts) = .ok ts := by
  cases ts with
  | nil => rfl
  | cons t ts =>
    have hne : joinT (t :: ts) ≠ [] := by
      intro e
      have hp : ∀ r, pairT t ++ r ≠ [] := by
        intro r e
        have := congrArg List.length e
        unfold pairT at this
        simp at this
      cases ts with
      | nil => rw [joinT] at e; exact hp [] (by rw [List.append_nil]; exact e)
      | cons u ts => rw [joinT, List.append_assoc] at e; exact hp _ e
    unfold parseB
    rw [if_neg hne, parse_join (t :: ts) [] (by simp)]
    simp only [List.nil_append]
    rw [h]
    rfl
theorem eqs_split : ∀ (l : List Nat) (k p c : Nat), (eqsN l k p c).2 = c + 1 → ∃ a b, l = a ++ [61] ++ b ∧ (eqsN l k p c).1 = k + a.length ∧ (∀ x ∈ a, x ≠ 61) ∧ ∀ x ∈ b, x ≠ 61
  | [], k, p, c, h => by simp [eqsN] at h
  | x :: l, k, p, c, h => by
    rw [eqsN] at h ⊢
    by_cases hx : x = 61
    · rw [if_pos hx] at h ⊢
      have e := eqs_same l (k + 1) k (c + 1) h
      refine ⟨[], l, by rw [hx]; rfl, by rw [e]; rfl, by simp, fun y hy e61 => ?_⟩
      have : ∀ (l : List Nat) (k p c : Nat), y ∈ l → c + 1 ≤ (eqsN l k p c).2 := by
        intro l
        induction l with
        | nil => intro k p c hy; cases hy
        | cons z l ih =>
          intro k p c hy
          rw [eqsN]
          rcases List.mem_cons.1 hy with rfl | hy
          · rw [if_pos e61]; exact eqs_ge _ _ _ _
          · split
            · have := ih (k + 1) k (c + 1) hy; omega
            · exact ih (k + 1) p c hy
      have := this l (k + 1) k (c + 1) hy
      omega
    · rw [if_neg hx] at h ⊢
      obtain ⟨a, b, h1, h2, h3, h4⟩ := eqs_split l (k + 1) p c h
      refine ⟨x :: a, b, by rw [h1]; rfl, by rw [h2]; simp; omega, fun y hy => ?_, h4⟩
      rcases List.mem_cons.1 hy with rfl | hy
      · exact hx
      · exact h3 y hy
/-- A part that is read as a tag is its text. -/
theorem pair_text {part : List Nat} {t : ByteArray × ByteArray} (h : pairO part = some t) : pairT t = part := by
  unfold pairO at h
  split at h
  · rename_i hc
    obtain ⟨a, b, h1, h2, -, -⟩ := eqs_split part 0 0 0 hc
    rw [h2, Nat.zero_add] at h
    cases ha : unescN (part.take a.length) with
    | none => rw [ha] at h; cases h
    | some x =>
      cases hb : unescN (part.drop (a.length + 1)) with
      | none => rw [ha, hb] at h; cases h
      | some y =>
        rw [ha, hb] at h
        simp only [Option.some.injEq] at h
        have e1 : part.take a.length = a := by rw [h1, List.append_assoc, List.take_left]
        have e2 : part.drop (a.length + 1) = b := by rw [h1, List.drop_left' (by simp)]
        rw [e1] at ha
        rw [e2] at hb
        obtain ⟨q1, q2⟩ := esc_unesc _ _ _ (Nat.le_refl _) ha
        obtain ⟨r1, r2⟩ := esc_unesc _ _ _ (Nat.le_refl _) hb
        rw [← h]
        unfold pairT
        simp only []
        rw [txt_strN x q2, txt_strN y r2, q1, r1, h1]
  · cases h
theorem join_app (ts : List (ByteArray × ByteArray)) (t : ByteArray × ByteArray) (h : ts ≠ []) : joinT (ts ++ [t]) = joinT ts ++ [38] ++ pairT t := by rw [join_snoc, if_neg h]
/-- What was read so far, and what is left. -/
def soFar (out : List (ByteArray × ByteArray)) (cur : List Nat) : List Nat := if out = [] then cur else joinT out ++ [38] ++ cur
theorem soFar_pair {out : List (ByteArray × ByteArray)} {cur : List Nat} {t : ByteArray × ByteArray} (h : pairO cur = some t) : joinT (out ++ [t]) = soFar out cur := by
  unfold soFar
  rw [join_snoc, pair_text h]
theorem parse_back : ∀ (l cur : List Nat) (out res : List (ByteArray × ByteArray)), parseF l cur out = some res → joinT res = soFar out cur ++ l ∧ res ≠ []
  | [], cur, out, res, h => by
    rw [parseF] at h
    cases hp : pairO cur with
    | none => rw [hp] at h; cases h
    | some t =>
      rw [hp] at h
      simp at h
      rw [← h, soFar_pair hp, List.append_nil]
      exact ⟨rfl, by simp⟩
  | c :: l, cur, out, res, h => by
    rw [parseF] at h
    by_cases hc : c = 38
    · rw [if_pos hc] at h
      cases hp : pairO cur with
      | none => rw [hp] at h; cases h
      | some t =>
        rw [hp] at h
        obtain ⟨q1, q2⟩ := parse_back l [] _ res h
        refine ⟨?_, q2⟩
        rw [q1]
        unfold soFar
        rw [if_neg (by simp), List.append_nil, soFar_pair hp]
        unfold soFar
        rw [hc]
        split <;> simp
    · rw [if_neg hc] at h
      obtain ⟨q1, q2⟩ := parse_back l (cur ++ [c]) out res h
      refine ⟨?_, q2⟩
      rw [q1]
      unfold soFar
      split <;> simp
/-- What is read is written so. -/
theorem text_parse {s : List Nat} {ts : List (ByteArray × ByteArray)} (h : parseB s = .ok ts) : soundB ts = true ∧ joinT ts = s := by
  unfold parseB at h
  split at h
  · rename_i hs
    cases h
    exact ⟨rfl, by rw [hs]; rfl⟩
  · cases hp : parseF s [] [] with
    | none => rw [hp] at h; cases h
    | some out =>
      rw [hp] at h
      simp only [] at h
      split at h
      · rename_i hso
        cases h
        obtain ⟨q1, -⟩ := parse_back s [] [] ts hp
        exact ⟨hso, by rw [q1]; rfl⟩
      · cases h
end Go.Proofs.YtbfgkogmojnilaaDoor
