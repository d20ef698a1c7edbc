/-
  The document's Match.
-/
import Derived.Test.YtehieeahiicnhaaGlobBool
import Derived.BigRegion
namespace Go.Proofs.Ytehieeahiicnhaa
open Go.ChangeShapes Go.WideShapes Go.ChangeAt Go.RowKit
set_option linter.unusedVariables false
set_option linter.unusedSimpArgs false
theorem make_tab (w : World) {ops : Array Oper} {rest : List Oper} {o : Oper} {a : Act} {Q : Exit → Act → World → Prop} (hg : o.guard = none) (l c : Operand) (ho : o.op = Op.makeSlice 41 l c)
    (n : Nat) (hl : a.eval l = .int .i64 (n : Int)) (hc : a.eval c = .int .i64 (n : Int)) (hb : n ≤ 281474976710656)
    (h : ∀ w', BlkB w' w.heap.size (List.replicate n false) → Below w.heap.size w w' → (∀ g t, BlkB w g t → BlkB w' g t) → wpList Try.prog ops Q rest (a.put o.dst (.slice (some ⟨w.heap.size, 0, none⟩) n n)) w') :
    wpList Try.prog ops Q (o :: rest) a w := by
  obtain ⟨i0, hi, hz0, hz1, hz2⟩ := info_parts boolT
  refine wpList_make_row w hg l c 41 ho 4 i0 (.bool false) Try.underlying41 hi hz0 hz1 rfl .i64 .i64 n hl hc (by rw [hz2]; omega) (by omega) ?_
  exact h _ (BlkB.new w n) (below_new w _) (fun g t hb => hb.alloc _)
/-- What Match answers. -/
def matchR (p s : List Nat) : Value := if soundN p then .tuple #[.bool (matchP ((piecesN p).getD []) s), .int .i64 0] else .tuple #[.bool false, .int .i64 2]
set_option maxRecDepth 100000 in
set_option maxHeartbeats 8000000 in
theorem rmatch_any (P S : ByteArray) (w : World) (hp : P.size ≤ 9223372036854775806) (hs : S.size ≤ 140737488355328) :
    Calls Try.prog 10 #[.string P, .string S] w fun e w' => e = .returned (matchR (txt P) (txt S)) ∧ Below w.heap.size w w' := by
  have HP : Hid _ := rpieces_any P w hp
  have HTL : Hid ((txt S).length = S.size) := txt_length S
  go_enter Try.func10, Try.ntmps10
  go_wp2_with fail
  refine Calls.mono HP.out ?_
  rintro _ w1 ⟨⟨a, ps, cap, ok, rfl, h1, h2, h3, h4⟩, hb⟩
  have HB : Hid (Below w.heap.size w w1) := hb
  have HOK : Hid (ok = soundN (txt P)) := h3
  have HROW : Hid (RowG w1 a ps) := h1
  obtain ⟨n, hn⟩ : ∃ n, n = ps.length := ⟨_, rfl⟩
  have HN : Hid (n = ps.length) := hn
  have hnb : n ≤ 200 := by omega
  rw [← hn]
  clear HP h1 h2 h3 hb hn hp
  cases ok with
  | false =>
    have HR : Hid (matchR (txt P) (txt S) = .tuple #[.bool false, .int .i64 2]) := by unfold Hid matchR; rw [← HOK.out]; rfl
    go_wp2_with fail
    go_ret2
    exact ⟨by rw [HR.out]; rfl, HB.out⟩
  | true =>
    have hps := h4 HOK.out.symm
    have HK : Hid (∀ q ∈ ps, q.1 ≤ 2) := pieces_kinds _ _ _ (Nat.le_refl _) hps
    have HR : Hid (matchR (txt P) (txt S) = .tuple #[.bool (matchP ps (txt S)), .int .i64 0]) := by unfold Hid matchR; rw [← HOK.out, hps]; rfl
    clear h4 hps HOK
    obtain ⟨M, hM⟩ : ∃ M, M = S.size + 1 := ⟨_, rfl⟩
    have hMi : (S.size : Int) + 1 = (M : Int) := by omega
    have HM : Hid (M = S.size + 1) := hM
    have hMb : M ≤ 140737488355329 := by omega
    have hSM : S.size < M := by omega
    have hSMi : (S.size : Int) < (M : Int) := by omega
    clear hM
    go_wp2_with (refine make_tab w1 rfl _ _ rfl M rfl rfl (by omega) ?_; intro w2 hB2 hb2 _; have hc2 := hB2.cell S.size (by rw [List.length_replicate]; exact hSM); have hf2 := hB2.frozen S.size; generalize (List.replicate M false).getD S.size false = x0 at hc2; have HBB2 : Hid (BlkB w2 w1.heap.size (List.replicate M false)) := hB2; have HBW2 : Hid (Below w1.heap.size w1 w2) := hb2; clear hB2 hb2)
    have HT0 : Hid (BlkB (w2.setCell ⟨w1.heap.size, S.size, none⟩ (.bool true)) w1.heap.size (tabM (ps.drop n) (txt S))) := by
      unfold Hid
      rw [HN.out, List.drop_length, tabM_nil, HTL.out, ← HM.out]
      exact HBB2.out.set S.size true
    have HBW : Hid (Below w1.heap.size w1 (w2.setCell ⟨w1.heap.size, S.size, none⟩ (.bool true))) := Below.setCell HBW2.out (Nat.le_refl _) _
    generalize w2.setCell ⟨w1.heap.size, S.size, none⟩ (.bool true) = w3 at *
    clear HBB2 HBW2 hc2 hf2
    go_loopw [8, 9] (fun rv kx wr => ∃ (wz : World) (g j : Nat), wz = wr ∧ rv = .slice (some ⟨g, 0, none⟩) M M ∧ kx = .int .i64 ((j : Int) - 1) ∧ j ≤ n ∧ w1.heap.size ≤ g ∧ BlkB wz g (tabM (ps.drop j) (txt S)) ∧ Below w1.heap.size w1 wz) (fun _ kx _ => (intOf kx + 1).toNat)
    case atStart => exact ⟨_, w1.heap.size, n, rfl, rfl, rfl, Nat.le_refl _, Nat.le_refl _, HT0.out, HBW.out⟩
    case round =>
      clear HT0 HBW
      obtain ⟨wr, g, j, hwr, rfl, rfl, hj, hgb, htab, hbe⟩ := hrel
      subst hwr
      have HTB : Hid (BlkB wr g (tabM (ps.drop j) (txt S))) := htab
      have HBE : Hid (Below w1.heap.size w1 wr) := hbe
      have hglt := htab.lt
      clear htab hbe
      by_cases h0 : j = 0
      · have hji : ¬ (0 : Int) ≤ (j : Int) - 1 := by omega
        have hM0 : 0 < M := by omega
        have hM0i : (0 : Int) < (M : Int) := by omega
        have hcl := HTB.out.cell 0 (by rw [tabM_length]; omega)
        rw [tabM_get _ _ 0 (Nat.zero_le _), h0, List.drop_zero, List.drop_zero] at hcl
        clear h0
        go_wp2_with fail
        go_ret2
        exact ⟨by rw [HR.out]; rfl, HB.out.trans (HBE.out.mono HB.out.size)⟩
      · have hji : (0 : Int) ≤ (j : Int) - 1 := by omega
        obtain ⟨k, hk⟩ : ∃ k, j = k + 1 := ⟨j - 1, by omega⟩
        have hki : (j : Int) - 1 = (k : Int) := by omega
        have hkn : k < ps.length := by rw [← HN.out]; omega
        have hknn : (k : Int) < (n : Int) := by omega
        rcases HROW.out with hr0 | ⟨gp, ha, hgp, hcp⟩
        · omega
        · subst ha
          have HC0 : Hid (w1.cell? ⟨gp, 2 * k, none⟩ = some (.int .i64 ((ps.getD k (0, 0)).1 : Nat))) := (hcp k hkn).1
          have HC1 : Hid (w1.cell? ⟨gp, 2 * k + 1, none⟩ = some (.int .u8 ((ps.getD k (0, 0)).2 : Nat))) := (hcp k hkn).2
          have HDP : Hid (ps.drop k = ps.getD k (0, 0) :: ps.drop (k + 1)) := dropP_cons ps k hkn
          rw [hk] at HTB
          obtain ⟨kd, hkd⟩ : ∃ kd, kd = (ps.getD k (0, 0)).1 := ⟨_, rfl⟩
          obtain ⟨cb, hcb⟩ : ∃ cb, cb = (ps.getD k (0, 0)).2 := ⟨_, rfl⟩
          rw [show ps.getD k (0, 0) = (kd, cb) by rw [hkd, hcb]] at HDP HC0 HC1
          have hoff : (0 + k * 2 : Nat) = 2 * k := by omega
          have hoff2 : (k * 2 : Nat) = 2 * k := by omega
          clear hcp hkd hcb h0
          go_wp2_with (refine make_tab wr rfl _ _ rfl M rfl rfl (by omega) ?_; intro w4 hB4 hb4 hk4; have HBB4 : Hid (BlkB w4 wr.heap.size (List.replicate M false)) := hB4; have HBW4 : Hid (Below w1.heap.size w1 w4) := HBE.out.trans (hb4.mono HBE.out.size); have HTB4 : Hid (BlkB w4 g (tabM (ps.drop (k + 1)) (txt S))) := hk4 _ _ HTB.out; clear hB4 hb4 hk4)
          go_loopw [11] (fun ix wr2 => ∃ (wz : World) (q : Nat), wz = wr2 ∧ ix = .int .i64 ((q : Int) - 1) ∧ q ≤ M ∧ BlkB wz g (tabM (ps.drop (k + 1)) (txt S)) ∧ BlkB wz wr.heap.size (tabQ (ps.drop k) (txt S) q) ∧ Below w1.heap.size w1 wz) (fun ix _ => (intOf ix + 1).toNat)
          case atStart =>
            refine ⟨_, M, rfl, ?_, Nat.le_refl _, HTB4.out, ?_, HBW4.out⟩
            · congr 1
              omega
            · rw [HM.out, ← HTL.out, tabQ_none, HTL.out, ← HM.out]
              exact HBB4.out
          case round =>
            clear HBB4 HBW4 HTB4 HTB HBE
            obtain ⟨wz, q, hwz, rfl, hq, htm, htq, hbz⟩ := hrel
            subst hwz
            have HTM : Hid (BlkB wz g (tabM (ps.drop (k + 1)) (txt S))) := htm
            have HTQ : Hid (BlkB wz wr.heap.size (tabQ (ps.drop k) (txt S) q)) := htq
            have HBZ : Hid (Below w1.heap.size w1 wz) := hbz
            have hcw := (hbz.cell (p := ⟨gp, 2 * k, none⟩) hgp).trans HC0.out
            have hcc := (hbz.cell (p := ⟨gp, 2 * k + 1, none⟩) hgp).trans HC1.out
            clear htm htq hbz
            by_cases hq0 : q = 0
            · have hqi : ¬ (0 : Int) ≤ (q : Int) - 1 := by omega
              have HT2 : Hid (BlkB wz wr.heap.size (tabM (ps.drop k) (txt S))) := by unfold Hid; rw [← tabQ_all, ← hq0]; exact HTQ.out
              have hsz : w1.heap.size ≤ wr.heap.size := by omega
              clear hq0
              go_wp2_with fail
              go_roundw
              case rel => exact ⟨wz, wr.heap.size, k, rfl, rfl, rfl, by omega, hsz, HT2.out, HBZ.out⟩
              case measure => simp [intOf]; omega
            · obtain ⟨i, hi⟩ : ∃ i, q = i + 1 := ⟨q - 1, by omega⟩
              have hqp : (0 : Int) ≤ (q : Int) - 1 := by omega
              have hqi : (q : Int) - 1 = (i : Int) := by omega
              have his : i ≤ S.size := by have := HM.out; omega
              have hiM : i < M := by omega
              have hiMi : (i : Int) < (M : Int) := by omega
              have hrc := HTM.out.cell i (by rw [tabM_length, HTL.out]; omega)
              rw [tabM_get _ _ i (by rw [HTL.out]; exact his)] at hrc
              have hoc := HTQ.out.cell i (by rw [tabQ_length, HTL.out]; omega)
              have hof := HTQ.out.frozen i
              generalize (tabQ (ps.drop k) (txt S) q).getD i false = o0 at hoc
              have HST : Hid (∀ v, v = matchP (ps.drop k) ((txt S).drop i) → BlkB (wz.setCell ⟨wr.heap.size, i, none⟩ (.bool v)) g (tabM (ps.drop (k + 1)) (txt S)) ∧ BlkB (wz.setCell ⟨wr.heap.size, i, none⟩ (.bool v)) wr.heap.size (tabQ (ps.drop k) (txt S) i) ∧ Below w1.heap.size w1 (wz.setCell ⟨wr.heap.size, i, none⟩ (.bool v))) := by
                intro v hv
                refine ⟨HTM.out.other (by omega) _ _, ?_, Below.setCell HBZ.out (by show w1.heap.size ≤ wr.heap.size; omega) _⟩
                rw [tabQ_step _ _ i (by rw [HTL.out]; exact his), ← hv, ← hi]
                exact HTQ.out.set i v
              by_cases h2 : kd = 2
              · have hk2 : ((kd : Int) == 2) = true := by rw [h2]; rfl
                by_cases hlt : i < S.size
                · have hii : (i : Int) < (S.size : Int) := by omega
                  have hnc := HTQ.out.cell (i + 1) (by rw [tabQ_length, HTL.out]; omega)
                  rw [tabQ_get _ _ _ (i + 1) (by rw [HTL.out]; omega), decide_eq_true (by omega), Bool.true_and] at hnc
                  have HV : Hid (matchP (ps.drop k) ((txt S).drop i) = (matchP (ps.drop (k + 1)) ((txt S).drop i) || matchP (ps.drop k) ((txt S).drop (i + 1)))) := by
                    unfold Hid
                    rw [HDP.out]
                    exact match_step_star _ _ _ i h2 (by rw [HTL.out]; exact hlt)
                  generalize matchP (ps.drop (k + 1)) ((txt S).drop i) = r at *
                  generalize matchP (ps.drop k) ((txt S).drop (i + 1)) = r2 at *
                  have hi1M : (i : Int) + 1 < (M : Int) := by have := HM.out; omega
                  have hi1n : ((i : Int) + 1).toNat = i + 1 := by omega
                  cases r with
                  | true =>
                    obtain ⟨s1, s2, s3⟩ := HST.out true (by rw [HV.out]; rfl)
                    have HS1 : Hid _ := s1
                    have HS2 : Hid _ := s2
                    have HS3 : Hid _ := s3
                    clear s1 s2 s3 HST HV HTM HTQ HBZ
                    go_wp2_with fail
                    go_roundw
                    case rel => exact ⟨_, i, rfl, rfl, by omega, HS1.out, HS2.out, HS3.out⟩
                    case measure => simp [intOf]; omega
                  | false =>
                    cases r2 with
                    | true =>
                      obtain ⟨s1, s2, s3⟩ := HST.out true (by rw [HV.out]; rfl)
                      have HS1 : Hid _ := s1
                      have HS2 : Hid _ := s2
                      have HS3 : Hid _ := s3
                      clear s1 s2 s3 HST HV HTM HTQ HBZ
                      go_wp2_with fail
                      go_roundw
                      case rel => exact ⟨_, i, rfl, rfl, by omega, HS1.out, HS2.out, HS3.out⟩
                      case measure => simp [intOf]; omega
                    | false =>
                      obtain ⟨s1, s2, s3⟩ := HST.out false (by rw [HV.out]; rfl)
                      have HS1 : Hid _ := s1
                      have HS2 : Hid _ := s2
                      have HS3 : Hid _ := s3
                      clear s1 s2 s3 HST HV HTM HTQ HBZ
                      go_wp2_with fail
                      go_roundw
                      case rel => exact ⟨_, i, rfl, rfl, by omega, HS1.out, HS2.out, HS3.out⟩
                      case measure => simp [intOf]; omega
                · have hii : ¬ (i : Int) < (S.size : Int) := by omega
                  have HV : Hid (matchP (ps.drop k) ((txt S).drop i) = matchP (ps.drop (k + 1)) ((txt S).drop i)) := by
                    unfold Hid
                    rw [HDP.out, show i = (txt S).length by rw [HTL.out]; omega]
                    exact match_step_end _ _ _ h2
                  generalize matchP (ps.drop (k + 1)) ((txt S).drop i) = r at *
                  cases r with
                  | true =>
                    obtain ⟨s1, s2, s3⟩ := HST.out true (by rw [HV.out])
                    have HS1 : Hid _ := s1
                    have HS2 : Hid _ := s2
                    have HS3 : Hid _ := s3
                    clear s1 s2 s3 HST HV HTM HTQ HBZ
                    go_wp2_with fail
                    go_roundw
                    case rel => exact ⟨_, i, rfl, rfl, by omega, HS1.out, HS2.out, HS3.out⟩
                    case measure => simp [intOf]; omega
                  | false =>
                    obtain ⟨s1, s2, s3⟩ := HST.out false (by rw [HV.out])
                    have HS1 : Hid _ := s1
                    have HS2 : Hid _ := s2
                    have HS3 : Hid _ := s3
                    clear s1 s2 s3 HST HV HTM HTQ HBZ
                    go_wp2_with fail
                    go_roundw
                    case rel => exact ⟨_, i, rfl, rfl, by omega, HS1.out, HS2.out, HS3.out⟩
                    case measure => simp [intOf]; omega
              · have hk2 : ((kd : Int) == 2) = false := by rw [beq_eq_false_iff_ne]; omega
                by_cases hlt : i < S.size
                · have hii : (i : Int) < (S.size : Int) := by omega
                  have hrn := HTM.out.cell (i + 1) (by rw [tabM_length, HTL.out]; omega)
                  rw [tabM_get _ _ (i + 1) (by rw [HTL.out]; omega)] at hrn
                  have HG : Hid ((S[i]'hlt).toNat = (txt S).getD i 0) := get_txt S i hlt
                  have HV : Hid (matchP (ps.drop k) ((txt S).drop i) = (matchP (ps.drop (k + 1)) ((txt S).drop (i + 1)) && (kd == 1 || cb == (S[i]'hlt).toNat))) := by
                    unfold Hid
                    rw [HDP.out, HG.out]
                    exact match_step_one _ _ _ i h2 (by rw [HTL.out]; exact hlt)
                  generalize matchP (ps.drop (k + 1)) ((txt S).drop (i + 1)) = r at *
                  have hi1M : (i : Int) + 1 < (M : Int) := by have := HM.out; omega
                  have hi1n : ((i : Int) + 1).toNat = i + 1 := by omega
                  cases r with
                  | false =>
                    obtain ⟨s1, s2, s3⟩ := HST.out false (by rw [HV.out]; rfl)
                    have HS1 : Hid _ := s1
                    have HS2 : Hid _ := s2
                    have HS3 : Hid _ := s3
                    clear s1 s2 s3 HST HV HTM HTQ HBZ
                    go_wp2_with fail
                    go_region
                    go_wp2_with fail
                    go_roundw
                    case rel => exact ⟨_, i, rfl, rfl, by omega, HS1.out, HS2.out, Below.drew HS3.out⟩
                    case measure => simp [intOf]; omega
                  | true =>
                    by_cases h1 : kd = 1
                    · have hk1 : ((kd : Int) == 1) = true := by rw [h1]; rfl
                      obtain ⟨s1, s2, s3⟩ := HST.out true (by rw [HV.out, h1]; rfl)
                      have HS1 : Hid _ := s1
                      have HS2 : Hid _ := s2
                      have HS3 : Hid _ := s3
                      clear s1 s2 s3 HST HV HTM HTQ HBZ
                      go_wp2_with fail
                      go_region
                      go_wp2_with fail
                      go_roundw
                      case rel => exact ⟨_, i, rfl, rfl, by omega, HS1.out, HS2.out, Below.drew HS3.out⟩
                      case measure => simp [intOf]; omega
                    · have hk1 : ((kd : Int) == 1) = false := by rw [beq_eq_false_iff_ne]; omega
                      by_cases hbc : cb = (S[i]'hlt).toNat
                      · have hbi : ((cb : Int) == ((S[i]'hlt).toNat : Int)) = true := by rw [hbc]; simp
                        obtain ⟨s1, s2, s3⟩ := HST.out true (by rw [HV.out, beq_iff_eq.2 hbc]; simp)
                        have HS1 : Hid _ := s1
                        have HS2 : Hid _ := s2
                        have HS3 : Hid _ := s3
                        clear s1 s2 s3 HST HV HTM HTQ HBZ
                        go_wp2_with fail
                        go_region
                        go_wp2_with fail
                        go_roundw
                        case rel => exact ⟨_, i, rfl, rfl, by omega, HS1.out, HS2.out, Below.drew HS3.out⟩
                        case measure => simp [intOf]; omega
                      · have hbi : ((cb : Int) == ((S[i]'hlt).toNat : Int)) = false := by rw [beq_eq_false_iff_ne]; omega
                        obtain ⟨s1, s2, s3⟩ := HST.out false (by rw [HV.out, beq_eq_false_iff_ne.2 hbc, beq_eq_false_iff_ne.2 h1]; rfl)
                        have HS1 : Hid _ := s1
                        have HS2 : Hid _ := s2
                        have HS3 : Hid _ := s3
                        clear s1 s2 s3 HST HV HTM HTQ HBZ
                        go_wp2_with fail
                        go_region
                        go_wp2_with fail
                        go_roundw
                        case rel => exact ⟨_, i, rfl, rfl, by omega, HS1.out, HS2.out, Below.drew HS3.out⟩
                        case measure => simp [intOf]; omega
                · have hii : ¬ (i : Int) < (S.size : Int) := by omega
                  have HV : Hid (matchP (ps.drop k) ((txt S).drop i) = false) := by
                    unfold Hid
                    rw [HDP.out, show i = (txt S).length by rw [HTL.out]; omega]
                    exact match_step_no _ _ _ h2
                  have HT2 : Hid (BlkB wz wr.heap.size (tabQ (ps.drop k) (txt S) i)) := by
                    unfold Hid
                    have e : tabQ (ps.drop k) (txt S) i = tabQ (ps.drop k) (txt S) q := by
                      rw [tabQ_step _ _ i (by rw [HTL.out]; exact his), HV.out, ← hi]
                      rw [hi, show i = (txt S).length by rw [HTL.out]; omega, tabQ_none]
                      apply List.ext_getElem?
                      intro z
                      rw [List.getElem?_set]
                      split
                      · rename_i hz
                        rw [← hz, List.getElem?_replicate, List.length_replicate]
                      · rfl
                    rw [e]
                    exact HTQ.out
                  clear HST
                  go_wp2_with fail
                  go_roundw
                  case rel => exact ⟨wz, i, rfl, rfl, by omega, HTM.out, HT2.out, HBZ.out⟩
                  case measure => simp [intOf]; omega
end Go.Proofs.Ytehieeahiicnhaa
