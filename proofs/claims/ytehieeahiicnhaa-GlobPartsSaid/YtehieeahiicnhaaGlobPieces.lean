/-
  A pattern's pieces in memory; the document's pieces, Sound, Least, Plain.
-/
import Derived.Test.YtehieeahiicnhaaGlobRef
namespace Go.Proofs.Ytehieeahiicnhaa
open Go.ChangeShapes Go.WideShapes Go.ChangeAt Go.RowKit
set_option linter.unusedVariables false
set_option linter.unusedSimpArgs false
def encP (p : Nat × Nat) : List Value := [.int .i64 (p.1 : Nat), .int .u8 (p.2 : Nat)]
def encPs (ps : List (Nat × Nat)) : List Value := ps.flatMap encP
theorem encPs_length (ps : List (Nat × Nat)) : (encPs ps).length = ps.length * 2 := by
  unfold encPs
  induction ps with
  | nil => rfl
  | cons p ps ih => rw [List.flatMap_cons, List.length_append, ih, List.length_cons]; show 2 + _ = _; omega
theorem encPs_app (ps qs : List (Nat × Nat)) : encPs (ps ++ qs) = encPs ps ++ encPs qs := by unfold encPs; rw [List.flatMap_append]
theorem encPs_what : ∀ (ps : List (Nat × Nat)) (i : Nat), i < ps.length → (encPs ps)[2 * i]? = some (.int .i64 ((ps.getD i (0, 0)).1 : Nat)) ∧ (encPs ps)[2 * i + 1]? = some (.int .u8 ((ps.getD i (0, 0)).2 : Nat))
  | [], i, h => by simp at h
  | p :: ps, 0, _ => ⟨rfl, rfl⟩
  | p :: ps, i + 1, h => by
    have ih := encPs_what ps i (by simpa using h)
    have e : encPs (p :: ps) = .int .i64 (p.1 : Nat) :: .int .u8 (p.2 : Nat) :: encPs ps := rfl
    rw [e, show 2 * (i + 1) = 2 * i + 1 + 1 by omega, List.getElem?_cons_succ, List.getElem?_cons_succ, List.getElem?_cons_succ, List.getElem?_cons_succ]
    exact ih
theorem pieceT : (Try.prog.info? 43).map (fun i => (i.zero, i.size, i.bytes)) = some (some (.agg #[.int .i64 0, .int .u8 0]), 2, 16) := by kernel_rfl
def OwnG (w : World) (base : Nat) (v : Value) (ps : List (Nat × Nat)) : Prop := w.ownsRow base 43 2 v ps.length (encPs ps)
/-- Pieces in memory: at an address where there are any. -/
def RowG (w : World) (a : Option Addr) (ps : List (Nat × Nat)) : Prop := ps.length = 0 ∨ ∃ g, a = some ⟨g, 0, none⟩ ∧ g < w.heap.size ∧ ∀ i, i < ps.length → w.cell? ⟨g, 2 * i, none⟩ = some (.int .i64 ((ps.getD i (0, 0)).1 : Nat)) ∧ w.cell? ⟨g, 2 * i + 1, none⟩ = some (.int .u8 ((ps.getD i (0, 0)).2 : Nat))
theorem RowG.below {w w' : World} {a : Option Addr} {ps : List (Nat × Nat)} (h : RowG w a ps) (hb : Below w.heap.size w w') : RowG w' a ps := by
  rcases h with h | ⟨g, ha, hlt, hc⟩
  · exact .inl h
  · exact .inr ⟨g, ha, Nat.lt_of_lt_of_le hlt hb.size, fun i hi => ⟨(hb.cell (p := ⟨g, 2 * i, none⟩) hlt).trans (hc i hi).1, (hb.cell (p := ⟨g, 2 * i + 1, none⟩) hlt).trans (hc i hi).2⟩⟩
theorem OwnG.row {w : World} {base : Nat} {v : Value} {ps : List (Nat × Nat)} (h : OwnG w base v ps) : ∃ a cap, v = .slice a ps.length cap ∧ RowG w a ps ∧ ps.length ≤ cap := by
  have h0 := h
  obtain ⟨h1, ⟨rfl, h2⟩ | ⟨g, cap, cur, rfl, hg, hbk, hn, hmm, hs, ht⟩⟩ := h
  · exact ⟨none, 0, by rw [h2], .inl h2, by omega⟩
  · refine ⟨some ⟨g, 0, none⟩, cap, rfl, .inr ⟨g, rfl, (h0.lt g rfl).2, fun i hi => ?_⟩, hn⟩
    obtain ⟨e1, e2⟩ := encPs_what ps i hi
    have hl := encPs_length ps
    have c1 := World.ownsRow.cellAt h0 (2 * i) (by omega)
    have c2 := World.ownsRow.cellAt h0 (2 * i + 1) (by omega)
    exact ⟨c1.trans e1, c2.trans e2⟩
theorem append_piece (w : World) {ops : Array Oper} {rest : List Oper} {o : Oper} {a : Act} {Q : Exit → Act → World → Prop} (hgd : o.guard = none) (sl x : Operand)
    (ho : o.op = .call { callee := .builtin .append, args := #[sl, x], argTypes := #[38, 38] })
    (base : Nat) (v : Value) (ps : List (Nat × Nat)) (hs : a.eval sl = v) (hown : OwnG w base v ps) (p : Nat × Nat) (N : Nat) (hx : a.eval x = .slice (some ⟨N, 0, none⟩) 1 1) (hN : N = w.heap.size)
    (C0 C1 : Value) (h0 : C0 = .int .i64 (p.1 : Nat)) (h1 : C1 = .int .u8 (p.2 : Nat)) (hl : ps.length ≤ 1048576) (hb : base ≤ w.heap.size)
    (h : ∀ v' w', OwnG w' base v' (ps ++ [p]) → Below base w w' → wpList Try.prog ops Q rest (a.put o.dst v') w') :
    wpList Try.prog ops Q (o :: rest) a (w.alloc (.cells #[C0, C1] 43)) := by
  subst hN h0 h1
  obtain ⟨i0, hi, hz0, hz1, hz2⟩ := info_parts pieceT
  refine wpList_append_own _ hgd sl x 38 ho base 43 i0 (.agg #[.int .i64 0, .int .u8 0]) 2 16 Try.underlying38 hi hz0 hz1 hz2 rfl (by decide) v ps.length (encPs ps) hs (hown.alloc _) ⟨w.heap.size, 0, none⟩ 1 1 (encP p) hx rfl ?_ ?_ (by unfold maxLen; omega) (by omega) (by simp; omega) ?_
  · intro j u hj
    match j, hj with
    | 0, hj => simp [encP] at hj; subst hj; simp [Addr.add, go_sem]
    | 1, hj => simp [encP] at hj; subst hj; simp [Addr.add, go_sem]
    | j + 2, hj => simp [encP] at hj
  · intro u hu
    simp [encP] at hu
    rcases hu with rfl | rfl <;> rfl
  · intro v' w' h1 h2 _
    refine h v' w' ?_ ?_
    · unfold OwnG
      rw [encPs_app, List.length_append]
      have e : encPs [p] = encP p := by unfold encPs; simp
      rw [e]
      exact h1
    · refine Below.grown (w := w.alloc (.cells #[.int .i64 (p.1 : Nat), .int .u8 (p.2 : Nat)] 43)) ((Below.refl _ _).alloc hb _) h2 (by simp; omega) ?_
      intro j hj
      exact (hown.lt j hj).1
theorem OwnG.empty (w : World) : OwnG (w.alloc (.cells #[] 43)) w.heap.size (.slice (some ⟨w.heap.size, 0, none⟩) 0 0) [] :=
  World.ownsRow_lit w #[] 0 (Nat.le_refl _) (by decide) rfl
/-- What pieces answers. -/
def PiecesR (p : List Nat) (e : Ending) (w' : World) : Prop := ∃ (a : Option Addr) (ps : List (Nat × Nat)) (cap : Nat) (ok : Bool), e = .returned (.tuple #[.slice a ps.length cap, .bool ok]) ∧ RowG w' a ps ∧ ps.length ≤ 200 ∧ ok = soundN p ∧ (soundN p = true → piecesN p = some ps)
theorem sound_long {p : List Nat} (h : 200 < p.length) : soundN p = false := by unfold soundN; rw [decide_eq_false (by omega)]; rfl
set_option maxHeartbeats 4000000 in
theorem rpieces_any (S : ByteArray) (w : World) (hs : S.size ≤ 9223372036854775806) :
    Calls Try.prog 21 #[.string S] w fun e w' => PiecesR (txt S) e w' ∧ Below w.heap.size w w' := by
  have HTL : Hid ((txt S).length = S.size) := txt_length S
  by_cases h2 : 200 < S.size
  · have i2 : (200 : Int) < (S.size : Int) := by omega
    have HS : Hid (soundN (txt S) = false) := sound_long (by rw [HTL.out]; exact h2)
    clear h2
    go_enter Try.func21, Try.ntmps21
    go_wp2
    go_ret2
    exact ⟨⟨_, [], _, false, rfl, .inl rfl, by simp, HS.out.symm, fun h => by rw [HS.out] at h; cases h⟩, below_new w _⟩
  · have i2 : ¬ (200 : Int) < (S.size : Int) := by omega
    have h2' : S.size ≤ 200 := by omega
    have HSN : Hid (soundN (txt S) = (piecesN (txt S)).isSome) := by unfold Hid soundN; rw [HTL.out, decide_eq_true h2']; rfl
    clear h2
    go_enter Try.func21, Try.ntmps21
    go_wp2
    go_loopw [4, 5] (fun ov ix wr => ∃ (wz : World) (i : Nat) (v0 : Value) (ps : List (Nat × Nat)), wz = wr ∧ ov = v0 ∧ ix = .int .i64 i ∧ i ≤ S.size ∧ ps.length ≤ i ∧ OwnG wz w.heap.size v0 ps ∧ piecesN (txt S) = (piecesN ((txt S).drop i)).map (ps ++ ·) ∧ Below w.heap.size w wz) (fun _ ix _ => S.size - (intOf ix).toNat)
    case atStart => exact ⟨_, 0, _, [], rfl, rfl, rfl, Nat.zero_le _, by simp, OwnG.empty w, by rw [List.drop_zero]; cases piecesN (txt S) <;> simp, below_new w _⟩
    case round =>
      obtain ⟨wr, i, ov, ps, hwr, hov, rfl, hi, hpl, hown, hpn, hbe⟩ := hrel
      subst hwr
      replace hov := hov.symm
      subst hov
      have HPN : Hid (piecesN (txt S) = (piecesN ((txt S).drop i)).map (ps ++ ·)) := hpn
      have HBE : Hid (Below w.heap.size w wr) := hbe
      have HOWN : Hid (OwnG wr w.heap.size ov ps) := hown
      have HPL : Hid (ps.length ≤ i) := hpl
      have hsz := hbe.size
      clear hpn hbe hown hpl
      by_cases hlt : i < S.size
      · have hii : (i : Int) < (S.size : Int) := by omega
        have HG : Hid ((S[i]'hlt).toNat = (txt S).getD i 0) := get_txt S i hlt
        have HDC : Hid ((txt S).drop i = (txt S).getD i 0 :: (txt S).drop (i + 1)) := drop_cons _ _ (by rw [HTL.out]; exact hlt)
        obtain ⟨x, hx⟩ : ∃ x, x = (txt S).getD i 0 := ⟨_, rfl⟩
        rw [← hx] at HG HDC
        have hxs : ((S[i]'hlt).toNat : Int) = (x : Int) := by rw [HG.out]
        have hxb : x < 256 := by rw [← HG.out]; exact (S[i]'hlt).toNat_lt
        clear hx
        by_cases h1 : x = 42
        · have c1 : ((x : Int) == 42) = true := by rw [h1]; rfl
          have HP2 : Hid (piecesN (txt S) = (piecesN ((txt S).drop (i + 1))).map ((ps ++ [(2, 0)]) ++ ·)) := by
            unfold Hid
            rw [HPN.out, HDC.out, h1, pieces_star]
            cases piecesN ((txt S).drop (i + 1)) <;> simp
          clear h1 HPN HDC
          go_wp2_with (at_builtin; (refine append_piece wr rfl _ _ rfl w.heap.size ov ps rfl HOWN.out (2, 0) wr.heap.size rfl rfl _ _ rfl rfl (by have := HPL.out; omega) hsz ?_; intro v5 w5 hown5 hb5))
          go_roundw
          case rel => exact ⟨w5, i + 1, v5, ps ++ [(2, 0)], rfl, rfl, by go_num, by omega, by rw [List.length_append]; have := HPL.out; simp; omega, hown5, HP2.out, HBE.out.trans hb5⟩
          case measure => simp [intOf]; omega
        · have c1 : ((x : Int) == 42) = false := by rw [beq_eq_false_iff_ne]; omega
          by_cases h2 : x = 63
          · have c2 : ((x : Int) == 63) = true := by rw [h2]; rfl
            have HP2 : Hid (piecesN (txt S) = (piecesN ((txt S).drop (i + 1))).map ((ps ++ [(1, 0)]) ++ ·)) := by
              unfold Hid
              rw [HPN.out, HDC.out, h2, pieces_any]
              cases piecesN ((txt S).drop (i + 1)) <;> simp
            clear h1 h2 HPN HDC
            go_wp2_with (at_builtin; (refine append_piece wr rfl _ _ rfl w.heap.size ov ps rfl HOWN.out (1, 0) wr.heap.size rfl rfl _ _ rfl rfl (by have := HPL.out; omega) hsz ?_; intro v5 w5 hown5 hb5))
            go_roundw
            case rel => exact ⟨w5, i + 1, v5, ps ++ [(1, 0)], rfl, rfl, by go_num, by omega, by rw [List.length_append]; have := HPL.out; simp; omega, hown5, HP2.out, HBE.out.trans hb5⟩
            case measure => simp [intOf]; omega
          · have c2 : ((x : Int) == 63) = false := by rw [beq_eq_false_iff_ne]; omega
            by_cases h3 : x = 92
            · have c3 : ((x : Int) == 92) = true := by rw [h3]; rfl
              by_cases h4 : i + 1 = S.size
              · have c4 : ((i : Int) == (S.size : Int) - 1) = true := by rw [beq_iff_eq]; omega
                have HP2 : Hid (soundN (txt S) = false) := by
                  unfold Hid
                  rw [HSN.out, HPN.out, HDC.out, h3, h4, ← HTL.out, List.drop_length, pieces_end]
                  rfl
                obtain ⟨a, cap, hv, hrow, -⟩ := OwnG.row HOWN.out
                have HROW : Hid (RowG wr a ps) := hrow
                subst hv
                clear h1 h2 h3 h4 HPN HDC HOWN hrow
                go_wp2
                go_ret2
                exact ⟨⟨a, ps, cap, false, rfl, HROW.out, by have := HPL.out; omega, HP2.out.symm, fun h => by rw [HP2.out] at h; cases h⟩, HBE.out⟩
              · have c4 : ((i : Int) == (S.size : Int) - 1) = false := by rw [beq_eq_false_iff_ne]; omega
                have hlt1 : i + 1 < S.size := by omega
                have hii1 : (i : Int) + 1 < (S.size : Int) := by omega
                have hn1 : ((i : Int) + 1).toNat = i + 1 := by omega
                have HG1 : Hid ((S[i + 1]'hlt1).toNat = (txt S).getD (i + 1) 0) := get_txt S (i + 1) hlt1
                have HDC1 : Hid ((txt S).drop (i + 1) = (txt S).getD (i + 1) 0 :: (txt S).drop (i + 2)) := drop_cons _ _ (by rw [HTL.out]; exact hlt1)
                obtain ⟨y, hy⟩ : ∃ y, y = (txt S).getD (i + 1) 0 := ⟨_, rfl⟩
                rw [← hy] at HG1 HDC1
                have hys : ((S[i + 1]'hlt1).toNat : Int) = (y : Int) := by rw [HG1.out]
                have HP2 : Hid (piecesN (txt S) = (piecesN ((txt S).drop (i + 2))).map ((ps ++ [(0, y)]) ++ ·)) := by
                  unfold Hid
                  rw [HPN.out, HDC.out, h3, HDC1.out, pieces_back]
                  cases piecesN ((txt S).drop (i + 2)) <;> simp
                clear h1 h2 h3 h4 hy HPN HDC HDC1
                go_wp2_with (at_builtin; (refine append_piece wr rfl _ _ rfl w.heap.size ov ps rfl HOWN.out (0, y) wr.heap.size rfl rfl _ _ rfl rfl (by have := HPL.out; omega) hsz ?_; intro v5 w5 hown5 hb5))
                go_roundw
                case rel => exact ⟨w5, i + 2, v5, ps ++ [(0, y)], rfl, rfl, by go_num, by omega, by rw [List.length_append]; have := HPL.out; simp; omega, hown5, HP2.out, HBE.out.trans hb5⟩
                case measure => simp [intOf]; omega
            · have c3 : ((x : Int) == 92) = false := by rw [beq_eq_false_iff_ne]; omega
              have HP2 : Hid (piecesN (txt S) = (piecesN ((txt S).drop (i + 1))).map ((ps ++ [(0, x)]) ++ ·)) := by
                unfold Hid
                rw [HPN.out, HDC.out, pieces_byte _ h1 h2 h3]
                cases piecesN ((txt S).drop (i + 1)) <;> simp
              clear h1 h2 h3 HPN HDC
              go_wp2_with (at_builtin; (refine append_piece wr rfl _ _ rfl w.heap.size ov ps rfl HOWN.out (0, x) wr.heap.size rfl rfl _ _ rfl rfl (by have := HPL.out; omega) hsz ?_; intro v5 w5 hown5 hb5))
              go_roundw
              case rel => exact ⟨w5, i + 1, v5, ps ++ [(0, x)], rfl, rfl, by go_num, by omega, by rw [List.length_append]; have := HPL.out; simp; omega, hown5, HP2.out, HBE.out.trans hb5⟩
              case measure => simp [intOf]; omega
      · have hii : ¬ (i : Int) < (S.size : Int) := by omega
        have HP2 : Hid (piecesN (txt S) = some ps) := by
          unfold Hid
          rw [HPN.out, show i = S.size by omega, ← HTL.out, List.drop_length]
          simp [piecesN]
        have HS2 : Hid (soundN (txt S) = true) := by unfold Hid; rw [HSN.out, HP2.out]; rfl
        obtain ⟨a, cap, hv, hrow, -⟩ := OwnG.row HOWN.out
        have HROW : Hid (RowG wr a ps) := hrow
        subst hv
        clear HOWN hrow
        go_wp2
        go_ret2
        exact ⟨⟨a, ps, cap, true, rfl, HROW.out, by have := HPL.out; omega, HS2.out.symm, fun _ => HP2.out⟩, HBE.out⟩
end Go.Proofs.Ytehieeahiicnhaa
