/-
  What the program and the document both answer, as letters.
-/
import Derived.Test.YtfgdfdjoidpejaaDoorWhenAwake
namespace Go.Proofs.YtfgdfdjoidpejaaDoor
open Go.ChangeShapes Go.WideShapes Go.ChangeAt Go.RowKit
set_option linter.unusedVariables false
set_option linter.unusedSimpArgs false
theorem date_some (T : Nat) (h9 : T < 315537897600) : ∃ y mo d h mi s : Nat, OkD y mo d h mi s ∧ secN y mo d h mi s = T := by
  obtain ⟨j, -, hj1, hj2⟩ := year_some (T / 86400) 9999 (by rw [last_day]; omega)
  have hm : T / 86400 - dbk j < dmk (j + 1) 12 := by
    rw [dmk_year]
    rw [dbk] at hj2
    omega
  obtain ⟨i, -, hi1, hi2⟩ := month_some (j + 1) (T / 86400 - dbk j) 12 hm
  exact ⟨_, _, _, _, _, _, date_of hj1 hj2 h9 hi1 hi2⟩
theorem time_cases (t : Int) : (t < -62135596800 ∨ 253402300799 < t) ∨ ∃ T : Nat, t + 62135596800 = (T : Int) ∧ T < 315537897600 := by
  by_cases h : t < -62135596800 ∨ 253402300799 < t
  · exact .inl h
  · exact .inr ⟨(t + 62135596800).toNat, by omega, by omega⟩
theorem fld_at {T : Nat} {y mo d h mi s : Nat} (hk : OkD y mo d h mi s) (hs : secN y mo d h mi s = T) (t : Int) (ht : t + 62135596800 = (T : Int)) (h9 : T < 315537897600) (W : World) (hW : Tab W) :
    Calls Tryd.prog 11 #[.int .i64 t] W fun e w' => e = .returned (.tuple #[dateV y mo d h mi s, .int .i64 0]) ∧ Below W.heap.size W w' :=
  (fld_good T t W hW ht h9).mono fun e w' ⟨⟨a, b, c, d', e', f, h1, h2, h3⟩, h4⟩ => by
    obtain ⟨rfl, rfl, rfl, rfl, rfl, rfl⟩ := sec_one h2 hk (by rw [h3, hs])
    exact ⟨h1, h4⟩
theorem text_at {T : Nat} {y mo d h mi s : Nat} (hk : OkD y mo d h mi s) (hs : secN y mo d h mi s = T) (t : Int) (ht : t + 62135596800 = (T : Int)) (h9 : T < 315537897600) (W : World) (hW : Tab W) :
    Calls Tryd.prog 16 #[.int .i64 t] W fun e w' => e = .returned (.tuple #[.string (strN (textN y mo d h mi s)), .int .i64 0]) ∧ Below W.heap.size W w' :=
  (ptext_good T t W hW ht h9).mono fun e w' ⟨⟨a, b, c, d', e', f, h1, h2, h3⟩, h4⟩ => by
    obtain ⟨rfl, rfl, rfl, rfl, rfl, rfl⟩ := sec_one h2 hk (by rw [h3, hs])
    exact ⟨h1, h4⟩
theorem same_below {P : Program} {f : FuncId} {a : Array Value} {W : World} {v : Value} (h : Calls P f a W fun e w' => e = .returned v ∧ w' = W) : Calls P f a W fun e w' => e = .returned v ∧ Below W.heap.size W w' :=
  h.mono fun e w' ⟨h1, h2⟩ => ⟨h1, by rw [h2]; exact Below.refl _ _⟩
theorem text_both (t : Int) : ∃ (X : ByteArray) (E : Int),
    (∀ W, Tab W → Calls Tryd.prog 16 #[.int .i64 t] W fun e w' => e = .returned (.tuple #[.string X, .int .i64 E]) ∧ Below W.heap.size W w') ∧
    (∀ W, Calls Tryd.prog 17 #[.int .i64 t] W fun e w' => e = .returned (.tuple #[.string X, .int .i64 E]) ∧ Below W.heap.size W w') := by
  rcases time_cases t with hb | ⟨T, ht, h9⟩
  · exact ⟨_, _, fun W _ => ptext_bad t W hb, fun W => rtext_bad t W hb⟩
  · obtain ⟨y, mo, d, h, mi, s, hk, hs⟩ := date_some T h9
    exact ⟨_, _, fun W hW => text_at hk hs t ht h9 W hW, fun W => (rtext_good T t W ht h9).mono fun e w' ⟨⟨a, b, c, d', e', f, h1, h2, h3⟩, h4⟩ => by
      obtain ⟨rfl, rfl, rfl, rfl, rfl, rfl⟩ := sec_one h2 hk (by rw [h3, hs])
      exact ⟨h1, h4⟩⟩
theorem fld_both (t : Int) : ∃ (y mo d h mi s : Nat) (E : Int),
    (∀ W, Tab W → Calls Tryd.prog 11 #[.int .i64 t] W fun e w' => e = .returned (.tuple #[dateV y mo d h mi s, .int .i64 E]) ∧ Below W.heap.size W w') ∧
    (∀ W, Calls Tryd.prog 12 #[.int .i64 t] W fun e w' => e = .returned (.tuple #[dateV y mo d h mi s, .int .i64 E]) ∧ Below W.heap.size W w') := by
  rcases time_cases t with hb | ⟨T, ht, h9⟩
  · exact ⟨0, 0, 0, 0, 0, 0, 4, fun W _ => fld_bad t W hb, fun W => rfld_bad t W hb⟩
  · obtain ⟨y, mo, d, h, mi, s, hk, hs⟩ := date_some T h9
    exact ⟨y, mo, d, h, mi, s, 0, fun W hW => fld_at hk hs t ht h9 W hW, fun W => (rfld_good T t W ht h9).mono fun e w' ⟨⟨a, b, c, d', e', f, h1, h2, h3⟩, h4⟩ => by
      obtain ⟨rfl, rfl, rfl, rfl, rfl, rfl⟩ := sec_one h2 hk (by rw [h3, hs])
      exact ⟨h1, h4⟩⟩
theorem week_both (t : Int) (t0 : -9223372036854775808 ≤ t) (t1 : t ≤ 9223372036854775807) : ∃ A E : Int,
    (∀ W, Calls Tryd.prog 13 #[.int .i64 t] W fun e w' => e = .returned (.tuple #[.int .i64 A, .int .i64 E]) ∧ w' = W) ∧
    (∀ W, Calls Tryd.prog 14 #[.int .i64 t] W fun e w' => e = .returned (.tuple #[.int .i64 A, .int .i64 E]) ∧ w' = W) := by
  rcases time_cases t with hb | ⟨T, ht, h9⟩
  · exact ⟨_, _, fun W => week_bad t W hb, fun W => by have := rweek_any t W t0 t1; rw [if_neg (by omega)] at this; exact this⟩
  · exact ⟨_, _, fun W => week_good T t W ht h9, fun W => by have := rweek_any t W t0 t1; rw [if_pos (by omega)] at this; exact this⟩
theorem sec_both (y mo d h mi s : Int) : ∃ A E : Int,
    (∀ W, Tab W → Calls Tryd.prog 9 #[dateV y mo d h mi s] W fun e w' => e = .returned (.tuple #[.int .i64 A, .int .i64 E]) ∧ Below W.heap.size W w') ∧
    (∀ W, Calls Tryd.prog 10 #[dateV y mo d h mi s] W fun e w' => e = .returned (.tuple #[.int .i64 A, .int .i64 E]) ∧ Below W.heap.size W w') := by
  by_cases hk : OkI y mo d h mi s
  · obtain ⟨Y, MO, D, H, MI, S, rfl, rfl, rfl, rfl, rfl, rfl, hk⟩ := hk
    exact ⟨_, _, fun W hW => sec_good Y MO D H MI S W hW hk, fun W => rsec_good Y MO D H MI S W hk⟩
  · exact ⟨_, _, fun W hW => sec_bad y mo d h mi s W hW hk, fun W => rsec_bad y mo d h mi s W hk⟩
theorem parseR_one (l : List Nat) : ∃ A E : Int, ∀ v, ParseR l v → v = .tuple #[.int .i64 A, .int .i64 E] := by
  by_cases hP : PForm l
  · obtain ⟨y, mo, d, h, mi, s, ha⟩ := six_list l
    by_cases hk : OkD y mo d h mi s
    · refine ⟨(secN y mo d h mi s : Int) - 62135596800, 0, fun v hv => ?_⟩
      rcases hv with ⟨h1, -⟩ | ⟨-, a, b, c, e, f, g, h4, h5⟩
      · exact absurd hP h1
      · rw [ha] at h4
        simp only [List.cons.injEq, and_true] at h4
        obtain ⟨rfl, rfl, rfl, rfl, rfl, rfl⟩ := h4
        rcases h5 with ⟨-, h5⟩ | ⟨h5, -⟩
        · exact h5
        · exact absurd hk h5
    · refine ⟨0, 4, fun v hv => ?_⟩
      rcases hv with ⟨h1, -⟩ | ⟨-, a, b, c, e, f, g, h4, h5⟩
      · exact absurd hP h1
      · rw [ha] at h4
        simp only [List.cons.injEq, and_true] at h4
        obtain ⟨rfl, rfl, rfl, rfl, rfl, rfl⟩ := h4
        rcases h5 with ⟨h5, -⟩ | ⟨-, h5⟩
        · exact absurd h5 hk
        · exact h5
  · refine ⟨0, 5, fun v hv => ?_⟩
    rcases hv with ⟨-, h1⟩ | ⟨h1, -⟩
    · exact h1
    · exact absurd h1 hP
theorem parse_both (S : ByteArray) (hs : S.size ≤ 9223372036854775807) : ∃ A E : Int,
    (∀ W, Tab W → Calls Tryd.prog 18 #[.string S] W fun e w' => e = .returned (.tuple #[.int .i64 A, .int .i64 E]) ∧ Below W.heap.size W w') ∧
    (∀ W, Calls Tryd.prog 19 #[.string S] W fun e w' => e = .returned (.tuple #[.int .i64 A, .int .i64 E]) ∧ Below W.heap.size W w') := by
  obtain ⟨A, E, h⟩ := parseR_one (txt S)
  exact ⟨A, E, fun W hW => (pparse_any S W hW hs).mono fun e w' ⟨⟨v, h1, h2⟩, h3⟩ => ⟨by rw [h1, h v h2], h3⟩, fun W => (rparse_any S W hs).mono fun e w' ⟨⟨v, h1, h2⟩, h3⟩ => ⟨by rw [h1, h v h2], h3⟩⟩
theorem store_date {w w1 : World} {t : TypeId} (ht : AggT t 6) (y mo d h mi s : Nat) (hb : Below w.heap.size w w1) :
    (storeVar t ⟨w1.heap.size, 0, none⟩ (.agg (encL .i64 [y, mo, d, h, mi, s]))).run Tryd.prog (w1.alloc (.cells #[.int .i64 0, .int .i64 0, .int .i64 0, .int .i64 0, .int .i64 0, .int .i64 0] t)) = .ok () ((w1.alloc (.cells #[.int .i64 0, .int .i64 0, .int .i64 0, .int .i64 0, .int .i64 0, .int .i64 0] t)).setRow w1.heap.size (encL .i64 [y, mo, d, h, mi, s])) ∧
    Blk ((w1.alloc (.cells #[.int .i64 0, .int .i64 0, .int .i64 0, .int .i64 0, .int .i64 0, .int .i64 0] t)).setRow w1.heap.size (encL .i64 [y, mo, d, h, mi, s])) w1.heap.size t .i64 [y, mo, d, h, mi, s] ∧
    Below w.heap.size w ((w1.alloc (.cells #[.int .i64 0, .int .i64 0, .int .i64 0, .int .i64 0, .int .i64 0, .int .i64 0] t)).setRow w1.heap.size (encL .i64 [y, mo, d, h, mi, s])) := by
  have HZ := Blk.new w1 t .i64 [0, 0, 0, 0, 0, 0]
  exact ⟨agg_store HZ ht rfl (m := [y, mo, d, h, mi, s]) rfl, HZ.setRow _, hb.trans ((below_row (below_new w1 _) (Nat.le_refl _) _).mono hb.size)⟩
theorem text_small {y mo d h mi s : Nat} : ∀ c ∈ textN y mo d h mi s, c < 256 := by
  intro c hc
  unfold textN twoN at hc
  simp only [List.mem_append, List.mem_cons, List.not_mem_nil, or_false, List.cons_append, List.nil_append] at hc
  omega
end Go.Proofs.YtfgdfdjoidpejaaDoor
