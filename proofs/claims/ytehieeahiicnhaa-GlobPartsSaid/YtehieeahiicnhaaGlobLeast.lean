/-
  The document's Sound, Least, Plain.
-/
import Derived.Test.YtehieeahiicnhaaGlobPieces
namespace Go.Proofs.Ytehieeahiicnhaa
open Go.ChangeShapes Go.WideShapes Go.ChangeAt Go.RowKit
set_option linter.unusedVariables false
set_option linter.unusedSimpArgs false
theorem rsound_any (S : ByteArray) (w : World) (hs : S.size ≤ 9223372036854775806) :
    Calls Try.prog 12 #[.string S] w fun e w' => e = .returned (.bool (soundN (txt S))) ∧ Below w.heap.size w w' := by
  have HP : Hid _ := rpieces_any S w hs
  go_enter Try.func12, Try.ntmps12
  go_wp2_with fail
  refine Calls.mono HP.out ?_
  rintro _ w1 ⟨⟨a, ps, cap, ok, rfl, h1, h2, h3, h4⟩, hb⟩
  have HB : Hid (Below w.heap.size w w1) := hb
  have HOK : Hid (ok = soundN (txt S)) := h3
  clear HP h1 h2 h3 h4 hb
  generalize ps.length = n
  go_wp2_with fail
  go_ret
  exact ⟨by rw [← HOK.out]; rfl, HB.out⟩
/-- What Least answers. -/
def leastR (p : List Nat) : Value := if soundN p then .tuple #[.int .i64 (leastN ((piecesN p).getD []) : Nat), .int .i64 0] else .tuple #[.int .i64 0, .int .i64 2]
theorem least_snoc (l : List (Nat × Nat)) (p : Nat × Nat) : leastN (l ++ [p]) = leastN l + (if p.1 = 2 then 0 else 1) := by
  induction l with
  | nil => rw [List.nil_append, leastN, leastN]; split <;> rfl
  | cons q l ih => rw [List.cons_append, leastN, leastN, ih]; split <;> omega
theorem takeP_snoc (l : List (Nat × Nat)) (i : Nat) (h : i < l.length) : l.take (i + 1) = l.take i ++ [l.getD i (0, 0)] := by
  rw [List.take_succ_eq_append_getElem h, List.getD_eq_getElem?_getD, List.getElem?_eq_getElem h, Option.getD_some]
theorem least_le : ∀ l : List (Nat × Nat), leastN l ≤ l.length
  | [] => Nat.le_refl _
  | p :: l => by have := least_le l; rw [leastN, List.length_cons]; split <;> omega
/-- A piece is one of three kinds. -/
theorem pieces_kinds : ∀ (n : Nat) (p : List Nat) (l : List (Nat × Nat)), p.length ≤ n → piecesN p = some l → ∀ q ∈ l, q.1 ≤ 2
  | n, [], l, _, h => by simp [piecesN] at h; subst h; simp
  | 0, c :: p, l, hn, _ => by simp at hn
  | n + 1, c :: p, l, hn, h => by
    have hn' : p.length ≤ n := by simpa using hn
    have step : ∀ (k : Nat × Nat) (r : List Nat), k.1 ≤ 2 → r.length ≤ n → (piecesN r).map (k :: ·) = some l → ∀ q ∈ l, q.1 ≤ 2 := by
      intro k r hk hr hm
      cases hp : piecesN r with
      | none => rw [hp] at hm; simp at hm
      | some m =>
        rw [hp] at hm
        simp at hm
        subst hm
        intro q hq
        rcases List.mem_cons.1 hq with rfl | hq
        · exact hk
        · exact pieces_kinds n r m hr hp q hq
    by_cases h1 : c = 42
    · rw [h1, pieces_star] at h; exact step (2, 0) p (Nat.le_refl _) hn' h
    · by_cases h2 : c = 63
      · rw [h2, pieces_any] at h; exact step (1, 0) p (by decide) hn' h
      · by_cases h3 : c = 92
        · cases p with
          | nil => rw [h3, pieces_end] at h; cases h
          | cons d r => rw [h3, pieces_back] at h; exact step (0, d) r (Nat.zero_le _) (by simp at hn'; omega) h
        · rw [pieces_byte _ h1 h2 h3] at h; exact step (0, c) p (Nat.zero_le _) hn' h
set_option maxHeartbeats 4000000 in
theorem rleast_any (S : ByteArray) (w : World) (hs : S.size ≤ 9223372036854775806) :
    Calls Try.prog 14 #[.string S] w fun e w' => e = .returned (leastR (txt S)) ∧ Below w.heap.size w w' := by
  have HP : Hid _ := rpieces_any S w hs
  go_enter Try.func14, Try.ntmps14
  go_wp2_with fail
  refine Calls.mono HP.out ?_
  rintro _ w1 ⟨⟨a, ps, cap, ok, rfl, h1, h2, h3, h4⟩, hb⟩
  have HB : Hid (Below w.heap.size w w1) := hb
  have HOK : Hid (ok = soundN (txt S)) := h3
  have HROW : Hid (RowG w1 a ps) := h1
  obtain ⟨n, hn⟩ : ∃ n, n = ps.length := ⟨_, rfl⟩
  have HN : Hid (n = ps.length) := hn
  have hnb : n ≤ 200 := by omega
  rw [← hn]
  clear HP h1 h2 h3 hb hn
  cases ok with
  | false =>
    have HR : Hid (leastR (txt S) = .tuple #[.int .i64 0, .int .i64 2]) := by unfold Hid leastR; rw [← HOK.out]; rfl
    go_wp2_with fail
    go_ret2
    exact ⟨by rw [HR.out]; rfl, HB.out⟩
  | true =>
    have hps := h4 HOK.out.symm
    have HK : Hid (∀ q ∈ ps, q.1 ≤ 2) := pieces_kinds _ _ _ (Nat.le_refl _) hps
    have HR : Hid (leastR (txt S) = .tuple #[.int .i64 (leastN ps : Nat), .int .i64 0]) := by unfold Hid leastR; rw [← HOK.out, hps]; rfl
    clear h4 hps
    go_wp2_with fail
    go_loop [6, 7] (fun nv ix => ∃ i m : Nat, i ≤ n ∧ ix = .int .i64 i ∧ nv = .int .i64 m ∧ m = leastN (ps.take i)) (fun _ ix => n - (intOf ix).toNat)
    case atStart => exact ⟨0, 0, Nat.zero_le _, rfl, rfl, rfl⟩
    case round =>
      obtain ⟨i, m, hi, rfl, rfl, hm⟩ := hrel
      have HM : Hid (m = leastN (ps.take i)) := hm
      have hmb : m ≤ 200 := by
        have := least_le (ps.take i)
        rw [List.length_take] at this
        omega
      clear hm
      by_cases hlt : i < n
      · have hii : (i : Int) < (n : Int) := by omega
        have hil : i < ps.length := by rw [← HN.out]; exact hlt
        have hrow := HROW.out
        rcases hrow with h0 | ⟨g, ha, hglt, hc⟩
        · omega
        · subst ha
          have hc0 := (hc i hil).1
          have HSN : Hid (leastN (ps.take (i + 1)) = m + (if (ps.getD i (0, 0)).1 = 2 then 0 else 1)) := by unfold Hid; rw [takeP_snoc ps i hil, least_snoc, HM.out]
          have hk2 : (ps.getD i (0, 0)).1 ≤ 2 := HK.out _ (by rw [List.getD_eq_getElem?_getD, List.getElem?_eq_getElem hil]; exact List.getElem_mem hil)
          generalize (ps.getD i (0, 0)).1 = k at *
          have hoff : (0 + i * 2 : Nat) = 2 * i := by omega
          have hoff2 : (i * 2 : Nat) = 2 * i := by omega
          clear hc HM
          by_cases hk : k = 2
          · have hkl : ¬ (k : Int) < 2 := by omega
            have HS2 : Hid (leastN (ps.take (i + 1)) = m) := by unfold Hid; rw [HSN.out, if_pos hk]; rfl
            clear hk HSN
            go_wp2_with fail
            go_round
            case rel => exact ⟨i + 1, m, by omega, by go_num, rfl, HS2.out.symm⟩
            case measure => simp [intOf]; omega
          · have hkl : (k : Int) < 2 := by omega
            have HS2 : Hid (leastN (ps.take (i + 1)) = m + 1) := by unfold Hid; rw [HSN.out, if_neg hk]
            clear hk HSN
            go_wp2_with fail
            go_round
            case rel => exact ⟨i + 1, m + 1, by omega, by go_num, by go_num, HS2.out.symm⟩
            case measure => simp [intOf]; omega
      · have hii : ¬ (i : Int) < (n : Int) := by omega
        have HM2 : Hid (leastN ps = m) := by unfold Hid; rw [HM.out, show i = ps.length by rw [← HN.out]; omega, List.take_length]
        go_wp2_with fail
        go_ret2
        exact ⟨by rw [HR.out, HM2.out]; rfl, HB.out⟩
end Go.Proofs.Ytehieeahiicnhaa
