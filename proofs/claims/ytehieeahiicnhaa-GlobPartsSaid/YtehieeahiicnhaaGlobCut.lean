/-
  The program's pieces in memory, and its cut: a pattern in pieces.
-/
import Derived.Test.YtehieeahiicnhaaGlobPlain
import Derived.Test.YtehieeahiicnhaaFits
namespace Go.Proofs.Ytehieeahiicnhaa
open Go.ChangeShapes Go.WideShapes Go.ChangeAt Go.RowKit
set_option linter.unusedVariables false
set_option linter.unusedSimpArgs false
theorem pieceQ : (Try.prog.info? 45).map (fun i => (i.zero, i.size, i.bytes)) = some (some (.agg #[.int .i64 0, .int .u8 0]), 2, 16) := by kernel_rfl
def OwnQ (w : World) (base : Nat) (v : Value) (ps : List (Nat × Nat)) : Prop := w.ownsRow base 45 2 v ps.length (encPs ps)
theorem OwnQ.row {w : World} {base g n cap : Nat} {ps : List (Nat × Nat)} (h : OwnQ w base (.slice (some ⟨g, 0, none⟩) n cap) ps) : RowG w (some ⟨g, 0, none⟩) ps := by
  by_cases h0 : ps.length = 0
  · exact .inl h0
  · refine .inr ⟨g, rfl, (h.lt g rfl).2, fun i hi => ?_⟩
    obtain ⟨e1, e2⟩ := encPs_what ps i hi
    have hl := encPs_length ps
    obtain ⟨h1, ⟨hx, h2⟩ | ⟨g', cap', cur, hx, hg, hbk, hn, hmm, hs, ht⟩⟩ := id h
    · cases hx
    · cases hx
      exact ⟨(World.ownsRow.cellAt h (2 * i) (by omega)).trans e1, (World.ownsRow.cellAt h (2 * i + 1) (by omega)).trans e2⟩
theorem make_piece (w : World) {ops : Array Oper} {rest : List Oper} {o : Oper} {a : Act} {Q : Exit → Act → World → Prop} (hgd : o.guard = none) (l c : Operand)
    (ho : o.op = Op.makeSlice 34 l c) (kl kc : IntKind) (C : Int) (n : Nat) (hl : a.eval l = .int kl 0) (hc : a.eval c = .int kc C) (hC : C = (n : Int)) (hb : n ≤ 1048576)
    (h : ∀ w', OwnQ w' w.heap.size (.slice (some ⟨w.heap.size, 0, none⟩) 0 n) [] → Below w.heap.size w w' → wpList Try.prog ops Q rest (a.put o.dst (.slice (some ⟨w.heap.size, 0, none⟩) 0 n)) w') :
    wpList Try.prog ops Q (o :: rest) a w := by
  obtain ⟨i0, hi, hz0, hz1, hz2⟩ := info_parts pieceQ
  refine wpList_make_own w hgd l c 34 ho w.heap.size 45 i0 (.agg #[.int .i64 0, .int .u8 0]) 2 Try.underlying34 hi hz0 hz1 kl kc C n hl hc hC (by rw [hz2]; omega) (by unfold maxLen; omega) (Nat.le_refl _) ?_
  intro w' h1 h2
  refine h w' h1 (Below.grown (Below.refl _ _) h2 (Nat.le_refl _) ?_)
  intro j hj
  cases hj
theorem fit_piece (w : World) {ops : Array Oper} {rest : List Oper} {o : Oper} {a : Act} {Q : Exit → Act → World → Prop} (hgd : o.guard = none) (sl x : Operand)
    (ho : o.op = .call { callee := .builtin .append, args := #[sl, x], argTypes := #[34, 34] })
    (base g n cap : Nat) (ps : List (Nat × Nat)) (hs : a.eval sl = .slice (some ⟨g, 0, none⟩) n cap) (hn : ps.length = n) (hown : OwnQ w base (.slice (some ⟨g, 0, none⟩) n cap) ps) (p : Nat × Nat) (N : Nat) (hx : a.eval x = .slice (some ⟨N, 0, none⟩) 1 1) (hN : N = w.heap.size)
    (C0 C1 : Value) (h0 : C0 = .int .i64 (p.1 : Nat)) (h1 : C1 = .int .u8 (p.2 : Nat)) (hl : n + 1 ≤ cap) (hb : base ≤ w.heap.size)
    (h : ∀ w', OwnQ w' base (.slice (some ⟨g, 0, none⟩) (n + 1) cap) (ps ++ [p]) → Below base w w' → wpList Try.prog ops Q rest (a.put o.dst (.slice (some ⟨g, 0, none⟩) (n + 1) cap)) w') :
    wpList Try.prog ops Q (o :: rest) a (w.alloc (.cells #[C0, C1] 45)) := by
  subst hN h0 h1 hn
  obtain ⟨i0, hi, hz0, hz1, hz2⟩ := info_parts pieceQ
  refine wpList_append_fits _ hgd sl x 34 ho base 45 i0 2 Try.underlying34 hi hz1 g ps.length cap (encPs ps) hs (hown.alloc _) ⟨w.heap.size, 0, none⟩ 1 1 (encP p) hx rfl ?_ ?_ hl ?_
  · intro j u hj
    match j, hj with
    | 0, hj => simp [encP] at hj; subst hj; simp [Addr.add, go_sem]
    | 1, hj => simp [encP] at hj; subst hj; simp [Addr.add, go_sem]
    | j + 2, hj => simp [encP] at hj
  · intro u hu
    simp [encP] at hu
    rcases hu with rfl | rfl <;> rfl
  · intro w' h1 h2
    refine h w' ?_ ?_
    · unfold OwnQ
      rw [encPs_app, List.length_append]
      have e : encPs [p] = encP p := by unfold encPs; simp
      rw [e]
      exact h1
    · refine Below.grown (w := w.alloc (.cells #[.int .i64 (p.1 : Nat), .int .u8 (p.2 : Nat)] 45)) ((Below.refl _ _).alloc hb _) h2 (by simp; omega) ?_
      intro j hj
      exact (hown.lt j hj).1
/-- What cut answers. -/
def CutR (p : List Nat) (e : Ending) (w' : World) : Prop := (soundN p = false ∧ e = .returned (.tuple #[.slice none 0 0, .bool false])) ∨
  (soundN p = true ∧ ∃ (g n cap : Nat) (ps : List (Nat × Nat)), e = .returned (.tuple #[.slice (some ⟨g, 0, none⟩) n cap, .bool true]) ∧ n = ps.length ∧ n ≤ 200 ∧ n ≤ cap ∧ cap ≤ 200 ∧ RowG w' (some ⟨g, 0, none⟩) ps ∧ piecesN p = some ps)
set_option maxHeartbeats 4000000 in
theorem cut_any (S : ByteArray) (w : World) (hs : S.size ≤ 9223372036854775806) :
    Calls Try.prog 19 #[.string S] w fun e w' => CutR (txt S) e w' ∧ Below w.heap.size w w' := by
  have HTL : Hid ((txt S).length = S.size) := txt_length S
  by_cases h2 : 200 < S.size
  · have i2 : (200 : Int) < (S.size : Int) := by omega
    have HS : Hid (soundN (txt S) = false) := sound_long (by rw [HTL.out]; exact h2)
    clear h2
    go_enter Try.func19, Try.ntmps19
    go_wp2
    go_ret2
    exact ⟨.inl ⟨HS.out, rfl⟩, Below.refl _ _⟩
  · have i2 : ¬ (200 : Int) < (S.size : Int) := by omega
    have h2' : S.size ≤ 200 := by omega
    have HSN : Hid (soundN (txt S) = (piecesN (txt S)).isSome) := by unfold Hid soundN; rw [HTL.out, decide_eq_true h2']; rfl
    clear h2
    go_enter Try.func19, Try.ntmps19
    go_wp2_with (refine make_piece w rfl _ _ rfl .i64 .i64 (S.size : Int) S.size rfl rfl rfl (by omega) ?_; intro w0 hown0 hb0)
    have HO0 : Hid (OwnQ w0 w.heap.size (.slice (some ⟨w.heap.size, 0, none⟩) 0 S.size) []) := hown0
    have HB0 : Hid (Below w.heap.size w w0) := hb0
    clear hown0 hb0
    go_loopw [4, 5] (fun ov ix wr => ∃ (wz : World) (i n : Nat) (ps : List (Nat × Nat)), wz = wr ∧ ov = .slice (some ⟨w.heap.size, 0, none⟩) n S.size ∧ ix = .int .i64 i ∧ i ≤ S.size ∧ ps.length = n ∧ n ≤ i ∧ OwnQ wz w.heap.size (.slice (some ⟨w.heap.size, 0, none⟩) n S.size) ps ∧ piecesN (txt S) = (piecesN ((txt S).drop i)).map (ps ++ ·) ∧ Below w.heap.size w wz) (fun _ ix _ => S.size - (intOf ix).toNat)
    case atStart => exact ⟨_, 0, 0, [], rfl, rfl, rfl, Nat.zero_le _, rfl, Nat.le_refl _, HO0.out, by rw [List.drop_zero]; cases piecesN (txt S) <;> simp, HB0.out⟩
    case round =>
      clear HO0 HB0
      obtain ⟨wr, i, n, ps, hwr, rfl, rfl, hi, hpn0, hni, hown, hpn, hbe⟩ := hrel
      subst hwr
      have HPN : Hid (piecesN (txt S) = (piecesN ((txt S).drop i)).map (ps ++ ·)) := hpn
      have HBE : Hid (Below w.heap.size w wr) := hbe
      have HOWN : Hid (OwnQ wr w.heap.size (.slice (some ⟨w.heap.size, 0, none⟩) n S.size) ps) := hown
      have HPL : Hid (ps.length = n) := hpn0
      have hsz := hbe.size
      clear hpn hbe hown hpn0
      by_cases hlt : i < S.size
      · have hii : (i : Int) < (S.size : Int) := by omega
        have hroom : n + 1 ≤ S.size := by omega
        have HG : Hid ((S[i]'hlt).toNat = (txt S).getD i 0) := get_txt S i hlt
        have HDC : Hid ((txt S).drop i = (txt S).getD i 0 :: (txt S).drop (i + 1)) := drop_cons _ _ (by rw [HTL.out]; exact hlt)
        obtain ⟨x, hx⟩ : ∃ x, x = (txt S).getD i 0 := ⟨_, rfl⟩
        rw [← hx] at HG HDC
        have hxs : ((S[i]'hlt).toNat : Int) = (x : Int) := by rw [HG.out]
        have hxb : x < 256 := by rw [← HG.out]; exact (S[i]'hlt).toNat_lt
        clear hx
        by_cases h1 : x = 42
        · have c1 : ((x : Int) == 42) = true := by rw [h1]; rfl
          have HP2 : Hid (piecesN (txt S) = (piecesN ((txt S).drop (i + 1))).map ((ps ++ [(2, 0)]) ++ ·)) := by
            unfold Hid
            rw [HPN.out, HDC.out, h1, pieces_star]
            cases piecesN ((txt S).drop (i + 1)) <;> simp
          clear h1 HPN HDC
          go_wp2_with (at_builtin; (refine fit_piece wr rfl _ _ rfl w.heap.size w.heap.size n S.size ps rfl HPL.out HOWN.out (2, 0) wr.heap.size rfl rfl _ _ rfl rfl hroom hsz ?_; intro w5 hown5 hb5))
          go_roundw
          case rel => exact ⟨w5, i + 1, n + 1, ps ++ [(2, 0)], rfl, rfl, by go_num, by omega, by rw [List.length_append, HPL.out]; rfl, by omega, hown5, HP2.out, HBE.out.trans hb5⟩
          case measure => simp [intOf]; omega
        · have c1 : ((x : Int) == 42) = false := by rw [beq_eq_false_iff_ne]; omega
          by_cases h2 : x = 63
          · have c2 : ((x : Int) == 63) = true := by rw [h2]; rfl
            have HP2 : Hid (piecesN (txt S) = (piecesN ((txt S).drop (i + 1))).map ((ps ++ [(1, 0)]) ++ ·)) := by
              unfold Hid
              rw [HPN.out, HDC.out, h2, pieces_any]
              cases piecesN ((txt S).drop (i + 1)) <;> simp
            clear h1 h2 HPN HDC
            go_wp2_with (at_builtin; (refine fit_piece wr rfl _ _ rfl w.heap.size w.heap.size n S.size ps rfl HPL.out HOWN.out (1, 0) wr.heap.size rfl rfl _ _ rfl rfl hroom hsz ?_; intro w5 hown5 hb5))
            go_roundw
            case rel => exact ⟨w5, i + 1, n + 1, ps ++ [(1, 0)], rfl, rfl, by go_num, by omega, by rw [List.length_append, HPL.out]; rfl, by omega, hown5, HP2.out, HBE.out.trans hb5⟩
            case measure => simp [intOf]; omega
          · have c2 : ((x : Int) == 63) = false := by rw [beq_eq_false_iff_ne]; omega
            by_cases h3 : x = 92
            · have c3 : ((x : Int) == 92) = true := by rw [h3]; rfl
              by_cases h4 : i + 1 = S.size
              · have c4 : ((i : Int) + 1 == (S.size : Int)) = true := by rw [beq_iff_eq]; omega
                have HP2 : Hid (soundN (txt S) = false) := by
                  unfold Hid
                  rw [HSN.out, HPN.out, HDC.out, h3, h4, ← HTL.out, List.drop_length, pieces_end]
                  rfl
                clear h1 h2 h3 h4 HPN HDC HOWN
                go_wp2
                go_ret2
                exact ⟨.inl ⟨HP2.out, rfl⟩, HBE.out⟩
              · have c4 : ((i : Int) + 1 == (S.size : Int)) = false := by rw [beq_eq_false_iff_ne]; omega
                have hlt1 : i + 1 < S.size := by omega
                have hii1 : (i : Int) + 1 < (S.size : Int) := by omega
                have hn1 : ((i : Int) + 1).toNat = i + 1 := by omega
                have HG1 : Hid ((S[i + 1]'hlt1).toNat = (txt S).getD (i + 1) 0) := get_txt S (i + 1) hlt1
                have HDC1 : Hid ((txt S).drop (i + 1) = (txt S).getD (i + 1) 0 :: (txt S).drop (i + 2)) := drop_cons _ _ (by rw [HTL.out]; exact hlt1)
                obtain ⟨y, hy⟩ : ∃ y, y = (txt S).getD (i + 1) 0 := ⟨_, rfl⟩
                rw [← hy] at HG1 HDC1
                have hys : ((S[i + 1]'hlt1).toNat : Int) = (y : Int) := by rw [HG1.out]
                have HP2 : Hid (piecesN (txt S) = (piecesN ((txt S).drop (i + 2))).map ((ps ++ [(0, y)]) ++ ·)) := by
                  unfold Hid
                  rw [HPN.out, HDC.out, h3, HDC1.out, pieces_back]
                  cases piecesN ((txt S).drop (i + 2)) <;> simp
                clear h1 h2 h3 h4 hy HPN HDC HDC1
                go_wp2_with (at_builtin; (refine fit_piece wr rfl _ _ rfl w.heap.size w.heap.size n S.size ps rfl HPL.out HOWN.out (0, y) wr.heap.size rfl rfl _ _ rfl rfl hroom hsz ?_; intro w5 hown5 hb5))
                go_roundw
                case rel => exact ⟨w5, i + 2, n + 1, ps ++ [(0, y)], rfl, rfl, by go_num, by omega, by rw [List.length_append, HPL.out]; rfl, by omega, hown5, HP2.out, HBE.out.trans hb5⟩
                case measure => simp [intOf]; omega
            · have c3 : ((x : Int) == 92) = false := by rw [beq_eq_false_iff_ne]; omega
              have HP2 : Hid (piecesN (txt S) = (piecesN ((txt S).drop (i + 1))).map ((ps ++ [(0, x)]) ++ ·)) := by
                unfold Hid
                rw [HPN.out, HDC.out, pieces_byte _ h1 h2 h3]
                cases piecesN ((txt S).drop (i + 1)) <;> simp
              clear h1 h2 h3 HPN HDC
              go_wp2_with (at_builtin; (refine fit_piece wr rfl _ _ rfl w.heap.size w.heap.size n S.size ps rfl HPL.out HOWN.out (0, x) wr.heap.size rfl rfl _ _ rfl rfl hroom hsz ?_; intro w5 hown5 hb5))
              go_roundw
              case rel => exact ⟨w5, i + 1, n + 1, ps ++ [(0, x)], rfl, rfl, by go_num, by omega, by rw [List.length_append, HPL.out]; rfl, by omega, hown5, HP2.out, HBE.out.trans hb5⟩
              case measure => simp [intOf]; omega
      · have hii : ¬ (i : Int) < (S.size : Int) := by omega
        have HP2 : Hid (piecesN (txt S) = some ps) := by
          unfold Hid
          rw [HPN.out, show i = S.size by omega, ← HTL.out, List.drop_length]
          simp [piecesN]
        have HS2 : Hid (soundN (txt S) = true) := by unfold Hid; rw [HSN.out, HP2.out]; rfl
        have HROW : Hid (RowG wr (some ⟨w.heap.size, 0, none⟩) ps) := HOWN.out.row
        clear HOWN
        go_wp2
        go_ret2
        exact ⟨.inr ⟨HS2.out, _, n, S.size, ps, rfl, HPL.out.symm, by omega, by omega, h2', HROW.out, HP2.out⟩, HBE.out⟩
end Go.Proofs.Ytehieeahiicnhaa
