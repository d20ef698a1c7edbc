/-
  What was packed, with anything behind it, is unpacked as it was; what was put as eight bytes is the number again: plain facts on lists of bytes; and an append of a whole slice of bytes.
-/
import Derived.Test.YtngojkleehgbaaaPackN
import Derived.Test.YtngojkleehgbaaaUnpackN
import Derived.Test.YtngojkleehgbaaaPutGet
import Derived.Test.YtngojkleehgbaaaZigZag
import Derived.Laws.AppendOwnNone
namespace Go.Proofs.Ytngojkleehgbaaa
open Go.ChangeShapes Go.WideShapes Go.ChangeAt Go.RowKit
set_option linter.unusedVariables false
theorem lvF_shift (d : Nat → Int) (c : Nat) : ∀ i, lvF d (i + 1) c = lvF (fun j => d (j + 1)) i c := by
  induction c with
  | zero => intro i; rfl
  | succ c ih => intro i; rw [lvF, lvF, ih (i + 1)]
theorem pk_spec (f : Nat) : ∀ (n : Int) (ys : List Int), 0 ≤ n → n < 2 * 128 ^ f →
    lead (pk f n ++ ys) + 1 = (pk f n).length ∧ lvF (fun j => (pk f n ++ ys).getD j 0 % 128) 0 (pk f n).length = n ∧
    ((pk f n ++ ys).getD (lead (pk f n ++ ys)) 0 = 0 → n = 0) ∧ (lead (pk f n ++ ys) = f → (pk f n ++ ys).getD f 0 ≤ 1) := by
  induction f with
  | zero =>
    intro n ys h0 h1
    have h1' : n < 2 := by simpa using h1
    have e : pk 0 n = [n] := rfl
    rw [e]
    have hl : lead ([n] ++ ys) = 0 := by show lead (n :: ys) = 0; rw [lead, if_neg (by omega)]
    rw [hl]
    refine ⟨rfl, ?_, ?_, ?_⟩
    · simp [lvF]; omega
    · intro h; simpa using h
    · intro _; simp; omega
  | succ f ih =>
    intro n ys h0 h1
    by_cases hlt : n < 128
    · rw [pk_low _ n hlt]
      have hl : lead ([n] ++ ys) = 0 := by show lead (n :: ys) = 0; rw [lead, if_neg (by omega)]
      rw [hl]
      refine ⟨rfl, ?_, ?_, ?_⟩
      · simp [lvF]; omega
      · intro h; simpa using h
      · intro h; omega
    · rw [pk_high f n hlt]
      obtain ⟨i1, i2, i3, i4⟩ := ih (n / 128) ys (by omega) (pow_step n f h1)
      have hl : lead ((n % 128 + 128) :: pk f (n / 128) ++ ys) = lead (pk f (n / 128) ++ ys) + 1 := by
        show lead ((n % 128 + 128) :: (pk f (n / 128) ++ ys)) = _
        rw [lead, if_pos (by omega)]
      rw [hl]
      refine ⟨by simp; omega, ?_, ?_, ?_⟩
      · rw [List.length_cons, lvF, lvF_shift]
        have e : (fun j => ((n % 128 + 128) :: pk f (n / 128) ++ ys).getD (j + 1) 0 % 128) = (fun j => (pk f (n / 128) ++ ys).getD j 0 % 128) := by
          funext j; simp
        rw [e, i2]
        simp
        omega
      · intro h
        have : (pk f (n / 128) ++ ys).getD (lead (pk f (n / 128) ++ ys)) 0 = 0 := by simpa using h
        have := i3 this
        omega
      · intro h
        have := i4 (by omega)
        simpa using this
theorem pk_pos (f : Nat) (n : Int) : 1 ≤ (pk f n).length := by
  cases f with
  | zero => simp [pk]
  | succ f => rw [pk]; split <;> simp
theorem pk_bytes (f : Nat) : ∀ n : Int, 0 ≤ n → n < 2 * 128 ^ f → ∀ c ∈ pk f n, 0 ≤ c ∧ c ≤ 255 := by
  induction f with
  | zero => intro n h0 h1 c hc; simp [pk] at hc h1; omega
  | succ f ih =>
    intro n h0 h1 c hc
    rw [pk] at hc
    split at hc
    · simp at hc; omega
    · rcases List.mem_cons.1 hc with h | h
      · omega
      · exact ih (n / 128) (by omega) (pow_step n f h1) c h
/-- What Unpack answers behind Pack. -/
theorem up_pk (n : Int) (ys : List Int) (h0 : 0 ≤ n) (hn : n ≤ 18446744073709551615) :
    upE (pk 9 n ++ ys) = 0 ∧ upV (pk 9 n ++ ys) = n ∧ upU (pk 9 n ++ ys) = ((pk 9 n).length : Int) := by
  obtain ⟨h1, h2, h3, h4⟩ := pk_spec 9 n ys h0 (by omega)
  have hlen := pk_length 9 n
  have hll : (pk 9 n ++ ys).length = (pk 9 n).length + ys.length := by simp
  have := up_ok (pk 9 n ++ ys) (by omega) (by omega) (by
    rintro (⟨a1, a2⟩ | ⟨a1, a2⟩)
    · have := h4 a1; omega
    · have hz := h3 a2
      subst hz
      have : pk 9 0 = [0] := rfl
      rw [this] at h1 a1
      have h1' : lead ([0] ++ ys) + 1 = 1 := h1
      omega)
  rw [h1, h2] at this
  exact this
theorem val_snoc (l : List Int) (x : Int) : val (l ++ [x]) = val l * 256 + x := by unfold val; rw [List.foldl_append]; rfl
theorem val_be (s : Nat) : ∀ n : Int, 0 ≤ n → n < 256 ^ s → val (be n s) = n := by
  induction s with
  | zero => intro n h0 h1; simp [be, val] at *; omega
  | succ s ih =>
    intro n h0 h1
    rw [Int.pow_succ] at h1
    rw [be, val_snoc, ih (n / 256) (by omega) (by omega)]
    omega
theorem be_bytes (s : Nat) : ∀ n : Int, ∀ c ∈ be n s, 0 ≤ c ∧ c ≤ 255 := by
  induction s with
  | zero => intro n c hc; simp [be] at hc
  | succ s ih =>
    intro n c hc
    rw [be] at hc
    rcases List.mem_append.1 hc with h | h
    · exact ih _ c h
    · simp at h; omega
theorem getD_bytes {l : List Int} (h : ∀ c ∈ l, 0 ≤ c ∧ c ≤ 255) (i : Nat) : 0 ≤ l.getD i 0 ∧ l.getD i 0 ≤ 255 := by
  by_cases hi : i < l.length
  · rw [List.getD_eq_getElem?_getD, List.getElem?_eq_getElem hi]
    exact h _ (List.getElem_mem hi)
  · rw [List.getD_eq_getElem?_getD, List.getElem?_eq_none (by omega)]; simp
theorem Made.row {w : World} {a : Option Addr} {len : Nat} {xs : List Int} (h : Made w a len xs) (hm : len ≤ maxLen) (hb : ∀ c ∈ xs, 0 ≤ c ∧ c ≤ 255) : Row w a len xs := by
  obtain ⟨h1, h2⟩ := h
  refine ⟨h1, hm, getD_bytes hb, ?_⟩
  rcases h2 with ⟨_, h2⟩ | h2
  · exact .inl h2
  · exact .inr h2
theorem put8 (n : Int) (h0 : 0 ≤ n) (hn : n ≤ 18446744073709551615) : putL n 8 = be n 8 ∧ putErr n 8 = 0 ∧ getV (be n 8) = n ∧ getErr (be n 8) = 0 := by
  have hp : n < 256 ^ (8 : Int).toNat := by show n < 256 ^ 8; omega
  have hl := be_length n 8
  refine ⟨?_, ?_, ?_, ?_⟩
  · unfold putL; rw [if_pos ⟨by decide, by decide, hp⟩]; rfl
  · unfold putErr; rw [if_neg (by decide), if_pos hp]
  · unfold getV; rw [if_pos (by omega), val_be 8 n h0 (by omega)]
  · unfold getErr; rw [if_pos (by omega)]
theorem append_row (w : World) {ops : Array Oper} {rest : List Oper} {o : Oper} {a : Act} {Q : Exit → Act → World → Prop} (hgd : o.guard = none) (s x : Operand)
    (ho : o.op = .call { callee := .builtin .append, args := #[s, x], argTypes := #[41, 41] })
    (base : Nat) (v : Value) (xs ys : List Int) (hs : a.eval s = v) (hown : OwnB w base v xs) (ax : Option Addr) (m c : Nat) (hx : a.eval x = .slice ax m c)
    (hm : ys.length = m) (hnil : ax = none → m = 0 ∧ c = 0) (hcell : ∀ ad, ax = some ad → ∀ j, j < m → w.cell? (ad.add j) = some (.int .u8 (ys.getD j 0)))
    (hl : xs.length + m ≤ 140737488355328) (hb : base ≤ w.heap.size)
    (h : ∀ v' w', OwnB w' base v' (xs ++ ys) → Below base w w' → wpList Try.prog ops Q rest (a.put o.dst v') w') :
    wpList Try.prog ops Q (o :: rest) a w := by
  obtain ⟨i0, hi, hz0, hz1, hz2⟩ := info_parts info_u8
  cases ax with
  | none =>
    obtain ⟨rfl, rfl⟩ := hnil rfl
    have hys : ys = [] := List.eq_nil_of_length_eq_zero hm
    subst hys
    refine wpList_append_own_none hgd s x 41 ho base 5 i0 1 Try.underlying41 hi v xs.length (xs.map (Value.int .u8)) hs hown hx ?_
    exact h v w (by rw [List.append_nil]; exact hown) (Below.refl _ _)
  | some ad =>
    refine wpList_append_own _ hgd s x 41 ho base 5 i0 (.int .u8 0) 1 1 Try.underlying41 hi hz0 hz1 hz2 rfl (by decide) v xs.length (xs.map (Value.int .u8)) hs hown ad m c (ys.map (Value.int .u8)) hx (by simp; omega) ?_ ?_ ?_ ?_ hb ?_
    · intro j u hj
      have hj' : j < ys.length := by have := (List.getElem?_eq_some_iff.1 hj).1; simpa using this
      rw [hcell ad rfl j (by omega)]
      rw [List.getElem?_map, List.getElem?_eq_getElem hj'] at hj
      simp at hj
      rw [← hj]
      simp [hj']
    · intro u hu
      obtain ⟨z, _, rfl⟩ := List.mem_map.1 hu
      rfl
    · unfold maxLen; omega
    · omega
    · intro v' w' h1 h2 _
      refine h v' w' ?_ ?_
      · unfold OwnB
        have e : (xs ++ ys).length = xs.length + m := by simp; omega
        rw [e, List.map_append]
        exact h1
      · exact Below.grown (Below.refl _ _) h2 hb (fun k hk => (hown.lt k hk).1)
end Go.Proofs.Ytngojkleehgbaaa
