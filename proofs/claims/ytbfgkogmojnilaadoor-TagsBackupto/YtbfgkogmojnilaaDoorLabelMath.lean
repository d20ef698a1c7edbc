/-
  Layer 6's plain mathematics: signs that stand for others, the least text above, groups, names: as functions of lists of numbers.
-/
import Derived.Test.YtbfgkogmojnilaaDoorRows
namespace Go.Proofs.YtbfgkogmojnilaaDoor
set_option linter.unusedVariables false
set_option linter.unusedSimpArgs false
def lowN (b : Nat) : Bool := (decide (97 ≤ b) && decide (b ≤ 122)) || (decide (48 ≤ b) && decide (b ≤ 57))
def plainN (b : Nat) : Bool := lowN b || (decide (65 ≤ b) && decide (b ≤ 90)) || b == 45 || b == 46 || b == 95 || b == 47
def hexU : List Nat := [48, 49, 50, 51, 52, 53, 54, 55, 56, 57, 65, 66, 67, 68, 69, 70]
def digU (b : Nat) : Option Nat := if 48 ≤ b ∧ b ≤ 57 then some (b - 48) else if 65 ≤ b ∧ b ≤ 70 then some (b - 55) else none
def escN : List Nat → List Nat
  | [] => []
  | c :: l => if plainN c then c :: escN l else 37 :: hexU.getD (c / 16) 0 :: hexU.getD (c % 16) 0 :: escN l
def unescN : List Nat → Option (List Nat)
  | [] => some []
  | [c] => if plainN c then some [c] else none
  | [c, x] => if plainN c then (unescN [x]).map (c :: ·) else none
  | c :: x :: y :: r => if plainN c then (unescN (x :: y :: r)).map (c :: ·) else if c = 37 then (match digU x, digU y with
    | some a, some b => if plainN (a * 16 + b) then none else (unescN r).map ((a * 16 + b) :: ·)
    | _, _ => none) else none
theorem unesc_plain {c : Nat} (l : List Nat) (h : plainN c = true) : unescN (c :: l) = (unescN l).map (c :: ·) := by
  match l with
  | [] => simp [unescN, h]
  | [x] => conv => lhs; rw [unescN, if_pos h]
  | x :: y :: r => conv => lhs; rw [unescN, if_pos h]
theorem unesc_other {c : Nat} (l : List Nat) (h : ¬ plainN c = true) (h' : c ≠ 37 ∨ l.length < 2) : unescN (c :: l) = none := by
  match l, h' with
  | [], _ => rw [unescN, if_neg h]
  | [x], _ => rw [unescN, if_neg h]
  | x :: y :: r, h' =>
    rw [unescN, if_neg h, if_neg]
    rcases h' with h' | h'
    · exact h'
    · simp at h'
      omega
theorem dig_hex : ∀ i : Fin 16, digU (hexU.getD i.val 0) = some i.val := by decide +kernel
theorem hex_dig {b a : Nat} (h : digU b = some a) : a < 16 ∧ hexU.getD a 0 = b := by
  unfold digU at h
  split at h
  · rename_i hb
    simp at h
    subst h
    obtain ⟨h1, h2⟩ := hb
    obtain ⟨j, rfl⟩ : ∃ j, b = 48 + j := ⟨b - 48, by omega⟩
    have : ∀ j : Fin 10, hexU.getD (48 + j.val - 48) 0 = 48 + j.val := by decide
    exact ⟨by omega, this ⟨j, by omega⟩⟩
  · split at h
    · rename_i hb
      simp at h
      subst h
      obtain ⟨h1, h2⟩ := hb
      obtain ⟨j, rfl⟩ : ∃ j, b = 65 + j := ⟨b - 65, by omega⟩
      have : ∀ j : Fin 6, hexU.getD (65 + j.val - 55) 0 = 65 + j.val := by decide
      exact ⟨by omega, this ⟨j, by omega⟩⟩
    · cases h
theorem plain37 : plainN 37 = false := by decide
theorem unesc_three (x y : Nat) (r : List Nat) : unescN (37 :: x :: y :: r) = (match digU x, digU y with
    | some a, some b => if plainN (a * 16 + b) then none else (unescN r).map ((a * 16 + b) :: ·)
    | _, _ => none) := by
  rw [unescN, if_neg (by rw [plain37]; simp), if_pos rfl]
theorem esc_app : ∀ l m : List Nat, escN (l ++ m) = escN l ++ escN m
  | [], m => rfl
  | c :: l, m => by
    rw [List.cons_append, escN, escN, esc_app l m]
    split <;> simp
theorem esc_len : ∀ l : List Nat, (escN l).length ≤ 3 * l.length
  | [] => by simp [escN]
  | c :: l => by
    have := esc_len l
    rw [escN]
    split <;> simp <;> omega
theorem unesc_esc : ∀ l : List Nat, (∀ c ∈ l, c < 256) → unescN (escN l) = some l
  | [], _ => rfl
  | c :: l, h => by
    have hc := h c (by simp)
    have ih := unesc_esc l (fun x hx => h x (by simp [hx]))
    rw [escN]
    split
    · rename_i hp
      rw [unesc_plain _ hp, ih]
      rfl
    · rename_i hp
      have h1 := dig_hex ⟨c / 16, by omega⟩
      have h2 := dig_hex ⟨c % 16, by omega⟩
      simp only [] at h1 h2
      rw [unesc_three, h1, h2, ih]
      simp only []
      rw [show c / 16 * 16 + c % 16 = c by omega, if_neg hp]
      rfl
theorem esc_unesc : ∀ (n : Nat) (s l : List Nat), s.length ≤ n → unescN s = some l → escN l = s ∧ ∀ c ∈ l, c < 256
  | n, [], l, _, h => by
    simp [unescN] at h
    subst h
    exact ⟨rfl, by simp⟩
  | 0, c :: s, l, hn, h => by simp at hn
  | n + 1, c :: s, l, hn, h => by
    by_cases hp : plainN c = true
    · rw [unesc_plain _ hp] at h
      cases hr : unescN s with
      | none => rw [hr] at h; simp at h
      | some r =>
        rw [hr] at h
        simp at h
        subst h
        obtain ⟨h1, h2⟩ := esc_unesc n s r (by simpa using hn) hr
        refine ⟨by rw [escN, if_pos hp, h1], fun x hx => ?_⟩
        rcases List.mem_cons.1 hx with rfl | hx
        · have := hp
          unfold plainN lowN at this
          simp at this
          omega
        · exact h2 x hx
    · by_cases h37 : c = 37 ∧ 2 ≤ s.length
      · obtain ⟨rfl, h2l⟩ := h37
        match s, h, h2l, hn with
        | x :: y :: r, h, _, hn =>
          rw [unesc_three] at h
          cases hx : digU x with
          | none => rw [hx] at h; simp at h
          | some a =>
            cases hy : digU y with
            | none => rw [hx, hy] at h; simp at h
            | some b =>
              rw [hx, hy] at h
              simp only [] at h
              split at h
              · cases h
              · rename_i hq
                cases hr : unescN r with
                | none => rw [hr] at h; simp at h
                | some q =>
                  rw [hr] at h
                  simp at h
                  subst h
                  obtain ⟨a1, a2⟩ := hex_dig hx
                  obtain ⟨b1, b2⟩ := hex_dig hy
                  obtain ⟨h1, h2⟩ := esc_unesc n r q (by simp at hn; omega) hr
                  refine ⟨?_, fun z hz => ?_⟩
                  · rw [escN, if_neg hq, show (a * 16 + b) / 16 = a by omega, show (a * 16 + b) % 16 = b by omega, a2, b2, h1]
                  · rcases List.mem_cons.1 hz with rfl | hz
                    · omega
                    · exact h2 z hz
      · rw [unesc_other _ hp (by omega)] at h
        cases h
theorem hexU_range (k : Nat) (h : k < 16) : 48 ≤ hexU.getD k 0 ∧ hexU.getD k 0 ≤ 70 ∧ hexU.getD k 0 ≠ 61 := by
  have : ∀ k : Fin 16, 48 ≤ hexU.getD k.val 0 ∧ hexU.getD k.val 0 ≤ 70 ∧ hexU.getD k.val 0 ≠ 61 := by decide
  exact this ⟨k, h⟩
theorem plain_range {c : Nat} (h : plainN c = true) : 32 < c ∧ c ≠ 61 ∧ c ≠ 38 ∧ c ≤ 126 := by
  unfold plainN lowN at h
  simp at h
  omega
/-- No blank, = or & is left. -/
theorem esc_letters : ∀ l : List Nat, (∀ c ∈ l, c < 256) → ∀ x ∈ escN l, 32 < x ∧ x ≠ 61 ∧ x ≠ 38 ∧ x ≤ 126
  | [], _, x, hx => by cases hx
  | c :: l, h, x, hx => by
    have hc := h c (by simp)
    have ih := esc_letters l (fun x hx => h x (by simp [hx])) x
    rw [escN] at hx
    split at hx
    · rename_i hp
      rcases List.mem_cons.1 hx with rfl | hx
      · exact plain_range hp
      · exact ih hx
    · have h1 := hexU_range (c / 16) (by omega)
      have h2 := hexU_range (c % 16) (by omega)
      simp only [List.mem_cons] at hx
      rcases hx with rfl | rfl | rfl | hx
      · decide
      · omega
      · omega
      · exact ih hx
/-! The least text above. -/
def nextF (l : List Nat) : Nat → Option (List Nat)
  | 0 => none
  | n + 1 => if l.getD n 0 = 255 then nextF l n else some (l.take n ++ [l.getD n 0 + 1])
def nextN (l : List Nat) : Option (List Nat) := nextF l l.length
/-- One text begins with another one. -/
def begN (l p : List Nat) : Bool := decide (p.length ≤ l.length) && decide (l.take p.length = p)
theorem beg_iff (l p : List Nat) : begN l p = true ↔ ∃ r, l = p ++ r := by
  unfold begN
  rw [Bool.and_eq_true, decide_eq_true_iff, decide_eq_true_iff]
  constructor
  · rintro ⟨h1, h2⟩
    refine ⟨l.drop p.length, ?_⟩
    conv => rhs; lhs; rw [← h2]
    rw [List.take_append_drop]
  · rintro ⟨r, rfl⟩
    simp
theorem next_parts (l : List Nat) : ∀ n, n ≤ l.length → (nextF l n = none ∧ ∀ j, j < n → l.getD j 0 = 255) ∨ (∃ k, k < n ∧ l.getD k 0 ≠ 255 ∧ nextF l n = some (l.take k ++ [l.getD k 0 + 1]) ∧ ∀ j, k < j → j < n → l.getD j 0 = 255)
  | 0, _ => .inl ⟨rfl, fun j hj => by omega⟩
  | n + 1, h => by
    rw [nextF]
    by_cases hc : l.getD n 0 = 255
    · rw [if_pos hc]
      rcases next_parts l n (by omega) with ⟨h1, h2⟩ | ⟨k, h1, h2, h3, h4⟩
      · exact .inl ⟨h1, fun j hj => by rcases Nat.lt_or_ge j n with h' | h'; exact h2 j h'; rw [show j = n by omega]; exact hc⟩
      · exact .inr ⟨k, by omega, h2, h3, fun j hj hn => by rcases Nat.lt_or_ge j n with h' | h'; exact h4 j hj h'; rw [show j = n by omega]; exact hc⟩
    · rw [if_neg hc]
      exact .inr ⟨n, by omega, hc, rfl, fun j hj hn => by omega⟩
theorem lt_app (u a b : List Nat) : u ++ a < u ++ b ↔ a < b := by
  induction u with
  | nil => exact Iff.rfl
  | cons x u ih => rw [List.cons_append, List.cons_append, List.cons_lt_cons_iff]; simp [ih]
theorem cons_lt (x y : Nat) (a b : List Nat) : x :: a < y :: b ↔ x < y ∨ x = y ∧ a < b := List.cons_lt_cons_iff
/-- Texts of 255 alone: what is not below begins with them. -/
theorem top_begins : ∀ (k : Nat) (t : List Nat), (∀ c ∈ t, c < 256) → ¬ t < List.replicate k 255 → ∃ r, t = List.replicate k 255 ++ r
  | 0, t, _, _ => ⟨t, rfl⟩
  | k + 1, [], _, h => absurd (by simp [List.replicate_succ]) h
  | k + 1, x :: t, hb, h => by
    have hx := hb x (by simp)
    rw [List.replicate_succ, cons_lt] at h
    have hx2 : x = 255 := by omega
    obtain ⟨r, hr⟩ := top_begins k t (fun c hc => hb c (by simp [hc])) (fun h' => h (.inr ⟨hx2, h'⟩))
    exact ⟨r, by rw [List.replicate_succ, hx2, hr]; rfl⟩
theorem begins_not_lt (p r : List Nat) : ¬ p ++ r < p := by
  induction p with
  | nil => simp
  | cons x p ih =>
    rw [List.cons_append, cons_lt]
    rintro (h | ⟨-, h⟩)
    · omega
    · exact ih h
/-- Between u c 255.. and u (c + 1): just what begins with the former. -/
theorem between : ∀ (u : List Nat) (c k : Nat) (t : List Nat), (∀ x ∈ t, x < 256) → ((∃ r, t = u ++ c :: List.replicate k 255 ++ r) ↔ ¬ t < u ++ c :: List.replicate k 255 ∧ t < u ++ [c + 1])
  | [], c, k, t, hb => by
    constructor
    · rintro ⟨r, rfl⟩
      refine ⟨begins_not_lt _ r, ?_⟩
      rw [List.nil_append, List.nil_append, List.cons_append, cons_lt]
      exact .inl (by omega)
    · rintro ⟨h1, h2⟩
      cases t with
      | nil => exact absurd (by simp) h1
      | cons x t =>
        rw [List.nil_append, cons_lt] at h1 h2
        have hx : x = c := by
          rcases h2 with h2 | ⟨h2, h3⟩
          · by_cases h : x < c
            · exact absurd (.inl h) h1
            · omega
          · exact absurd h3 (by simp)
        obtain ⟨r, hr⟩ := top_begins k t (fun y hy => hb y (by simp [hy])) (fun h' => h1 (.inr ⟨hx, h'⟩))
        exact ⟨r, by rw [hx, hr]; rfl⟩
  | y :: u, c, k, t, hb => by
    cases t with
    | nil =>
      constructor
      · rintro ⟨r, h⟩; simp at h
      · rintro ⟨h, -⟩; exact absurd (by simp) h
    | cons x t =>
      have ih := between u c k t (fun z hz => hb z (by simp [hz]))
      simp only [List.cons_append, cons_lt, List.cons.injEq]
      constructor
      · rintro ⟨r, rfl, h⟩
        obtain ⟨h1, h2⟩ := ih.1 ⟨r, h⟩
        exact ⟨by rintro (h | ⟨-, h⟩); omega; exact h1 h, .inr ⟨rfl, h2⟩⟩
      · rintro ⟨h1, h2⟩
        have hx : x = y := by
          rcases h2 with h2 | ⟨h2, -⟩
          · exact absurd (.inl h2) h1
          · exact h2
        have h3 : ¬ t < u ++ c :: List.replicate k 255 := fun h => h1 (.inr ⟨hx, h⟩)
        have h4 : t < u ++ [c + 1] := by
          rcases h2 with h2 | ⟨-, h2⟩
          · omega
          · exact h2
        obtain ⟨r, hr⟩ := ih.2 ⟨h3, h4⟩
        exact ⟨r, hx, hr⟩
theorem tail_top (l : List Nat) (k : Nat) (hk : k < l.length) (h : ∀ j, k < j → j < l.length → l.getD j 0 = 255) : l = l.take k ++ l.getD k 0 :: List.replicate (l.length - (k + 1)) 255 := by
  have h1 : l.drop (k + 1) = List.replicate (l.length - (k + 1)) 255 := by
    apply List.eq_replicate_iff.2
    refine ⟨by simp, fun b hb => ?_⟩
    obtain ⟨i, hi, rfl⟩ := List.getElem_of_mem hb
    rw [List.getElem_drop]
    have hi' : i < l.length - (k + 1) := by simpa using hi
    have := h (k + 1 + i) (by omega) (by omega)
    rw [List.getD_eq_getElem?_getD, List.getElem?_eq_getElem (by omega)] at this
    simpa using this
  have h2 : l.getD k 0 = l[k] := by rw [List.getD_eq_getElem?_getD, List.getElem?_eq_getElem hk]; rfl
  rw [h2, ← h1, List.getElem_cons_drop, List.take_append_drop]
theorem all_top (l : List Nat) (h : ∀ j, j < l.length → l.getD j 0 = 255) : l = List.replicate l.length 255 := by
  apply List.eq_replicate_iff.2
  refine ⟨rfl, fun b hb => ?_⟩
  obtain ⟨i, hi, rfl⟩ := List.getElem_of_mem hb
  have := h i hi
  rw [List.getD_eq_getElem?_getD, List.getElem?_eq_getElem hi] at this
  simpa using this
/-- What Next promises. -/
theorem next_some {s n t : List Nat} (h : nextN s = some n) (ht : ∀ x ∈ t, x < 256) : s < n ∧ (begN t s = true ↔ ¬ t < s ∧ t < n) := by
  rcases next_parts s s.length (Nat.le_refl _) with ⟨h1, -⟩ | ⟨k, h1, h2, h3, h4⟩
  · unfold nextN at h
    rw [h1] at h
    cases h
  · unfold nextN at h
    rw [h3] at h
    simp at h
    have hs := tail_top s k h1 h4
    have hb := between (s.take k) (s.getD k 0) (s.length - (k + 1)) t ht
    rw [← hs] at hb
    rw [← h]
    refine ⟨?_, ?_⟩
    · conv => lhs; rw [hs]
      have : s.getD k 0 = s[k]?.getD 0 := List.getD_eq_getElem?_getD
      rw [this]
      refine (lt_app _ _ _).2 ?_
      rw [cons_lt]
      exact .inl (by omega)
    · rw [beg_iff, hb, List.getD_eq_getElem?_getD]
theorem next_none {s t : List Nat} (h : nextN s = none) (ht : ∀ x ∈ t, x < 256) : begN t s = true ∨ t < s := by
  rcases next_parts s s.length (Nat.le_refl _) with ⟨h1, h2⟩ | ⟨k, h1, h2, h3, h4⟩
  · by_cases hlt : t < s
    · exact .inr hlt
    · refine .inl ?_
      rw [beg_iff]
      have hs := all_top s h2
      rw [hs] at hlt ⊢
      exact top_begins _ t ht hlt
  · unfold nextN at h
    rw [h3] at h
    cases h
/-! Groups. -/
theorem take_app_le {a b : List Nat} {n : Nat} (h : a.length ≤ n) : (a ++ b).take n = a ++ b.take (n - a.length) := by
  rw [List.take_append, List.take_of_length_le h]
def groupF (key mark : List Nat) : Nat → Nat → Option (List Nat)
  | 0, _ => none
  | n + 1, i => if begN (key.drop i) mark then some (key.take i ++ mark) else groupF key mark n (i + 1)
def groupN (key pre mark : List Nat) : Option (List Nat) := if mark = [] ∨ ¬ begN key pre = true then none else groupF key mark (key.length - pre.length) pre.length
theorem group_some (key mark : List Nat) : ∀ (n i : Nat) (g : List Nat), groupF key mark n i = some g → ∃ j, i ≤ j ∧ j < i + n ∧ begN (key.drop j) mark = true ∧ g = key.take j ++ mark ∧ ∀ k, i ≤ k → k < j → ¬ begN (key.drop k) mark = true
  | 0, i, g, h => by cases h
  | n + 1, i, g, h => by
    rw [groupF] at h
    by_cases hb : begN (key.drop i) mark = true
    · rw [if_pos hb] at h
      simp at h
      exact ⟨i, Nat.le_refl _, by omega, hb, h.symm, fun k h1 h2 => by omega⟩
    · rw [if_neg hb] at h
      obtain ⟨j, h1, h2, h3, h4, h5⟩ := group_some key mark n (i + 1) g h
      refine ⟨j, by omega, by omega, h3, h4, fun k hk1 hk2 => ?_⟩
      by_cases e : k = i
      · rw [e]; exact hb
      · exact h5 k (by omega) hk2
theorem group_find (key mark : List Nat) : ∀ (n i j : Nat), i ≤ j → j < i + n → begN (key.drop j) mark = true → (∀ k, i ≤ k → k < j → ¬ begN (key.drop k) mark = true) → groupF key mark n i = some (key.take j ++ mark)
  | 0, i, j, h1, h2, _, _ => by omega
  | n + 1, i, j, h1, h2, h3, h4 => by
    rw [groupF]
    by_cases e : i = j
    · rw [e, if_pos h3]
    · rw [if_neg (h4 i (Nat.le_refl _) (by omega))]
      exact group_find key mark n (i + 1) j (by omega) (by omega) h3 (fun k hk1 hk2 => h4 k (by omega) hk2)
/-- What Group promises. -/
theorem group_parts {key pre mark g : List Nat} (h : groupN key pre mark = some g) :
    begN key g = true ∧ begN g pre = true ∧ pre.length + mark.length ≤ g.length ∧ g.drop (g.length - mark.length) = mark ∧ groupN g pre mark = some g := by
  unfold groupN at h
  split at h
  · cases h
  · rename_i hc
    have hm : mark ≠ [] := fun e => hc (.inl e)
    have hp : begN key pre = true := Classical.byContradiction fun e => hc (.inr e)
    obtain ⟨j, h1, h2, h3, h4, h5⟩ := group_some key mark _ _ g h
    obtain ⟨r, hr⟩ := (beg_iff _ _).1 hp
    obtain ⟨q, hq⟩ := (beg_iff _ _).1 h3
    have hlen : pre.length ≤ key.length := by rw [hr]; simp
    have hj : j ≤ key.length := by omega
    have htl : (key.take j).length = j := by simp; omega
    have hkey : key = g ++ q := by
      rw [h4, List.append_assoc, ← hq, List.take_append_drop]
    have hgl : g.length = j + mark.length := by rw [h4, List.length_append, htl]
    have hpre : begN g pre = true := by
      rw [beg_iff]
      have ht : key.take j = pre ++ r.take (j - pre.length) := by
        rw [hr, take_app_le h1]
      exact ⟨r.take (j - pre.length) ++ mark, by rw [h4, ht, List.append_assoc]⟩
    refine ⟨(beg_iff _ _).2 ⟨q, hkey⟩, hpre, by omega, ?_, ?_⟩
    · rw [hgl, show j + mark.length - mark.length = j by omega, h4, List.drop_left' htl]
    · unfold groupN
      rw [if_neg (by intro e; rcases e with e | e; exact hm e; exact e hpre)]
      have hdrop : g.drop j = mark := by rw [h4, List.drop_left' htl]
      have htake : g.take j = key.take j := by rw [h4, List.take_left' htl]
      have hml : 0 < mark.length := List.length_pos_iff.2 hm
      rw [group_find g mark (g.length - pre.length) pre.length j h1 (by omega) (by rw [hdrop, beg_iff]; exact ⟨[], by simp⟩) ?_, htake, ← h4]
      intro k hk1 hk2 hb
      refine h5 k hk1 hk2 ?_
      obtain ⟨r', hr'⟩ := (beg_iff _ _).1 hb
      rw [beg_iff]
      refine ⟨r' ++ q, ?_⟩
      rw [hkey, List.drop_append_of_le_length (by omega), hr', List.append_assoc]
end Go.Proofs.YtbfgkogmojnilaaDoor
