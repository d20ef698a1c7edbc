/-
  The document's Unbase, as a plain function of lists.
-/
import Derived.Test.YtgeoijbjndjpoaaAlphaBase
import Derived.Handy
namespace Go.Proofs.Ytgeoijbjndjpoaa
open Go.ChangeShapes Go.WideShapes Go.ChangeAt Go.RowKit
set_option linter.unusedVariables false
set_option linter.unusedSimpArgs false
theorem baseS_txt : txt (ByteArray.mk #[97, 98, 99, 100, 101, 102, 103, 104, 105, 106, 107, 108, 109, 110, 111, 112, 113, 114, 115, 116, 117, 118, 119, 120, 121, 122, 50, 51, 52, 53, 54, 55]) = baseD := by decide +kernel
theorem spread5_snoc : ∀ (l : List Nat) (c : Nat), spread5 (l ++ [c]) = spread5 l ++ to5 c
  | [], c => by simp [spread5]
  | x :: l, c => by rw [List.cons_append, spread5, spread5, spread5_snoc l c, List.append_assoc]
theorem places_snoc : ∀ (s l : List Nat) (x k : Nat), placesN s = some l → placeN baseD x = some k → placesN (s ++ [x]) = some (l ++ [k])
  | [], l, x, k, h, hx => by simp [placesN] at h; subst h; simp [placesN, hx]
  | y :: s, l, x, k, h, hx => by
    rw [placesN] at h
    rw [List.cons_append, placesN]
    cases hy : placeN baseD y with
    | none => rw [hy] at h; simp at h
    | some a =>
      cases hr : placesN s with
      | none => rw [hy, hr] at h; simp at h
      | some r =>
        rw [hy, hr] at h
        simp at h
        subst h
        rw [places_snoc s r x k hr hx]
        rfl
theorem places_bad : ∀ (s r : List Nat) (x : Nat), placeN baseD x = none → placesN (s ++ x :: r) = none
  | [], r, x, hx => by simp [placesN, hx]
  | y :: s, r, x, hx => by
    rw [List.cons_append, placesN, places_bad s r x hx]
    cases placeN baseD y <;> rfl
theorem grp8_snoc : ∀ (k : Nat) (l : List Nat) (a b c d e f g h : Nat), l.length = 8 * k → grp8 (l ++ [a, b, c, d, e, f, g, h]) = grp8 l ++ [128 * a + 64 * b + 32 * c + 16 * d + 8 * e + 4 * f + 2 * g + h]
  | 0, l, a, b, c, d, e, f, g, h, hl => by
    have : l = [] := List.eq_nil_of_length_eq_zero (by omega)
    subst this
    rfl
  | k + 1, l, a, b, c, d, e, f, g, h, hl => by
    match l, hl with
    | p :: q :: r :: s :: t :: u :: v :: x :: l, hl =>
      simp only [List.cons_append, grp8]
      rw [grp8_snoc k l a b c d e f g h (by simp at hl; omega)]
theorem take_eight (t : List Nat) (i : Nat) (h : i + 7 < t.length) : t.take (i + 8) = t.take i ++ [t.getD i 0, t.getD (i + 1) 0, t.getD (i + 2) 0, t.getD (i + 3) 0, t.getD (i + 4) 0, t.getD (i + 5) 0, t.getD (i + 6) 0, t.getD (i + 7) 0] := by
  rw [show i + 8 = i + 6 + 2 from rfl, take_two t (i + 6) (by omega), show i + 6 = i + 4 + 2 from rfl, take_two t (i + 4) (by omega), show i + 4 = i + 2 + 2 from rfl, take_two t (i + 2) (by omega), take_two t i (by omega), List.append_assoc, List.append_assoc, List.append_assoc]
  rfl
theorem blk_row (w : World) (l : List Nat) (t : TypeId) : RowL .i64 (w.alloc (.cells (encL .i64 l) t)) (some ⟨w.heap.size, 0, none⟩) l.length l := (Blk.new w t .i64 l).row
set_option maxRecDepth 100000 in
set_option maxHeartbeats 16000000 in
theorem runbase_any (S : ByteArray) (w : World) (hs : S.size ≤ 2000000) :
    Calls Try.prog 15 #[.string S] w fun e w' => Below w.heap.size w w' ∧ UnR (unbaseN (txt S)) e w' := by
  have HTL : Hid ((txt S).length = S.size) := txt_length S
  have HO : Hid (OwnL 3 .i64 (w.alloc (.cells #[] 3)) w.heap.size (.slice (some ⟨w.heap.size, 0, none⟩) 0 0) []) := OwnL.empty _ _ w _ (Nat.le_refl _)
  have HPL : Hid (∀ (b : Nat) (W : World), b < 256 → Calls Try.prog 23 #[.string (ByteArray.mk #[97, 98, 99, 100, 101, 102, 103, 104, 105, 106, 107, 108, 109, 110, 111, 112, 113, 114, 115, 116, 117, 118, 119, 120, 121, 122, 50, 51, 52, 53, 54, 55]), .int .u8 (b : Nat)] W fun e w' => e = .returned (.int .i64 (plZ (placeN baseD b))) ∧ w' = W) := fun b W hb => by
    have := rplace_any (ByteArray.mk #[97, 98, 99, 100, 101, 102, 103, 104, 105, 106, 107, 108, 109, 110, 111, 112, 113, 114, 115, 116, 117, 118, 119, 120, 121, 122, 50, 51, 52, 53, 54, 55]) b W hb (by decide)
    rw [baseS_txt] at this
    exact this
  go_enter Try.func15, Try.ntmps15
  go_wp2_with fail
  go_loopw [4, 5] (fun v ix wr => ∃ (wz : World) (i : Nat) (ls : List Nat), wz = wr ∧ i ≤ S.size ∧ ix = .int .i64 i ∧ placesN ((txt S).take i) = some ls ∧ ls.length = i ∧ OwnL 3 .i64 wz w.heap.size v (spread5 ls) ∧ Below w.heap.size w wz) (fun _ ix _ => S.size - (intOf ix).toNat)
  case atStart => exact ⟨_, 0, [], rfl, Nat.zero_le _, rfl, rfl, rfl, HO.out, below_new w _⟩
  case round =>
    clear HO
    obtain ⟨wr, i, ls, hwr, hi, rfl, hpl, hll, hown, hbe⟩ := hrel
    subst hwr
    have HBE : Hid (Below w.heap.size w wr) := hbe
    have HPS : Hid (placesN ((txt S).take i) = some ls) := hpl
    obtain ⟨av, cv, hv, hrow, hnv⟩ := own_form hown
    have hL : (spread5 ls).length = 5 * i := by rw [spread5_length, hll]
    rw [hL] at hv hrow hnv
    subst hv
    obtain ⟨L, hLL⟩ : ∃ L, L = 5 * i := ⟨_, rfl⟩
    rw [← hLL] at hown hrow hL ⊢
    have HOWN : Hid (OwnL 3 .i64 wr w.heap.size (.slice av L cv) (spread5 ls)) := hown
    have HROW : Hid (RowL .i64 wr av L (spread5 ls)) := hrow
    have HL : Hid ((spread5 ls).length = L ∧ ls.length = i ∧ L = 5 * i) := ⟨hL, hll, hLL⟩
    have hLb : L ≤ 10000000 := by omega
    clear hpl hll hown hbe hrow hnv hL hLL
    by_cases hlt : i < S.size
    · have hii : (i : Int) < (S.size : Int) := by omega
      have HG : Hid ((S[i]'hlt).toNat = (txt S).getD i 0) := get_txt S i hlt
      have hlb : (S[i]'hlt).toNat < 256 := (S[i]'hlt).toNat_lt
      have HTS : Hid ((txt S).take (i + 1) = (txt S).take i ++ [(txt S).getD i 0]) := take_snoc _ i (by rw [HTL.out]; exact hlt)
      have HSW : Hid (txt S = (txt S).take i ++ (txt S).getD i 0 :: (txt S).drop (i + 1)) := split_at _ _ (by rw [HTL.out]; exact hlt)
      clear HROW
      go_wp2_with fail
      refine Calls.mono (HPL.out _ _ hlb) ?_
      rintro e w' ⟨rfl, hw'⟩
      rw [hw', HG.out]
      clear HG hlb hw' w'
      cases hk : placeN baseD ((txt S).getD i 0) with
      | none =>
        rw [show plZ none = -1 from rfl]
        have HF : Hid (unbaseN (txt S) = none) := by
          unfold Hid unbaseN
          rw [HSW.out, places_bad _ _ _ hk]
        clear hk
        go_wp2_with fail
        go_ret2
        refine ⟨HBE.out, ?_⟩
        rw [HF.out]
        exact rfl
      | some k =>
        have hkb : k < 32 := (place_get hk).1
        rw [show plZ (some k) = (k : Int) from rfl]
        have hk0 : ¬ (k : Int) < 0 := by omega
        have HP2 : Hid (placesN ((txt S).take (i + 1)) = some (ls ++ [k])) := by unfold Hid; rw [HTS.out]; exact places_snoc _ _ _ _ HPS.out hk
        clear hk
        obtain ⟨e0, h0⟩ : ∃ e, e = k / 16 % 2 := ⟨_, rfl⟩
        obtain ⟨e1, h1⟩ : ∃ e, e = k / 8 % 2 := ⟨_, rfl⟩
        obtain ⟨e2, h2⟩ : ∃ e, e = k / 4 % 2 := ⟨_, rfl⟩
        obtain ⟨e3, h3⟩ : ∃ e, e = k / 2 % 2 := ⟨_, rfl⟩
        obtain ⟨e4, h4⟩ : ∃ e, e = k % 2 := ⟨_, rfl⟩
        have q0 : (k : Int) / 16 = (e0 : Int) := by omega
        obtain ⟨f1, p1⟩ : ∃ f, f = k / 8 := ⟨_, rfl⟩
        obtain ⟨f2, p2⟩ : ∃ f, f = k / 4 := ⟨_, rfl⟩
        obtain ⟨f3, p3⟩ : ∃ f, f = k / 2 := ⟨_, rfl⟩
        have g1 : (k : Int) / 8 = (f1 : Int) := by omega
        have g2 : (k : Int) / 4 = (f2 : Int) := by omega
        have g3 : (k : Int) / 2 = (f3 : Int) := by omega
        have q1 : (f1 : Int) % 2 = (e1 : Int) := by omega
        have q2 : (f2 : Int) % 2 = (e2 : Int) := by omega
        have q3 : (f3 : Int) % 2 = (e3 : Int) := by omega
        have q4 : (k : Int) % 2 = (e4 : Int) := by omega
        have HT5 : Hid (to5 k = [e0, e1, e2, e3, e4]) := by unfold Hid to5; rw [h0, h1, h2, h3, h4]
        clear h0 h1 h2 h3 h4 p1 p2 p3
        have HO5 : Hid (OwnL 3 .i64 (wr.alloc (.cells #[.int .i64 e0, .int .i64 e1, .int .i64 e2, .int .i64 e3, .int .i64 e4] 3)) w.heap.size (.slice av L cv) (spread5 ls)) := HOWN.out.alloc _
        have HR5 : Hid (RowL .i64 (wr.alloc (.cells #[.int .i64 e0, .int .i64 e1, .int .i64 e2, .int .i64 e3, .int .i64 e4] 3)) (some ⟨wr.heap.size, 0, none⟩) 5 [e0, e1, e2, e3, e4]) := blk_row wr [e0, e1, e2, e3, e4] 3
        have hs5 : w.heap.size ≤ (wr.alloc (.cells #[.int .i64 e0, .int .i64 e1, .int .i64 e2, .int .i64 e3, .int .i64 e4] 3)).heap.size := by have := HBE.out.size; simp; omega
        go_wp2_with (at_builtin; (refine append_nums numI _ rfl (.tmp 25) (.tmp 39) rfl w.heap.size (.slice av L cv) (spread5 ls) [e0, e1, e2, e3, e4] rfl HO5.out (some ⟨wr.heap.size, 0, none⟩) 5 5 rfl HR5.out (fun h => by cases h) (by rw [HL.out.1]; omega) (by rw [HL.out.1]; unfold maxLen; omega) hs5 ?_; intro v5 w5 hown5 hb5))
        refine ⟨⟨w5, i + 1, ls ++ [k], rfl, by omega, by go_num, HP2.out, by rw [List.length_append, HL.out.2.1]; rfl, by rw [spread5_snoc, HT5.out]; exact hown5, (Below.alloc HBE.out HBE.out.size _).trans hb5⟩, by simp [intOf]; omega⟩
    · have hie : i = S.size := by omega
      have hii : ¬ (i : Int) < (S.size : Int) := by omega
      have HPA : Hid (placesN (txt S) = some ls) := by
        have := HPS.out
        rw [hie, ← HTL.out, List.take_length] at this
        exact this
      have HLS : Hid (L = 5 * S.size) := by rw [← hie]; exact HL.out.2.2
      have HGB : Hid (∀ b ∈ spread5 ls, b < 2) := spread_bits5 ls
      have HGL : Hid ((spread5 ls).length = L) := HL.out.1
      obtain ⟨r, hr⟩ : ∃ r, r = S.size % 8 := ⟨_, rfl⟩
      have hri : (S.size : Int) % 8 = (r : Int) := by omega
      have HUB : Hid (unbaseN (txt S) = if r = 1 ∨ r = 3 ∨ r = 6 then none else if ((spread5 ls).drop (8 * (L / 8))).all (· == 0) then some (grp8 (spread5 ls)) else none) := by
        unfold Hid unbaseN
        rw [HPA.out]
        simp only []
        rw [HTL.out, ← hr, HGL.out]
      have HR8 : Hid (r = S.size % 8) := hr
      clear hr hie HPS HPA HL HOWN
      generalize spread5 ls = G at *
      by_cases hbad : r = 1 ∨ r = 3 ∨ r = 6
      · have HF : Hid (unbaseN (txt S) = none) := by unfold Hid; rw [HUB.out, if_pos hbad]
        rcases hbad with h | h | h
        · have t1 : ((r : Int) == 1) = true := by rw [h]; rfl
          clear h
          go_wp2_with fail
          go_ret2
          refine ⟨HBE.out, ?_⟩
          rw [HF.out]
          exact rfl
        · have t1 : ((r : Int) == 1) = false := by rw [h]; rfl
          have t3 : ((r : Int) == 3) = true := by rw [h]; rfl
          clear h
          go_wp2_with fail
          go_ret2
          refine ⟨HBE.out, ?_⟩
          rw [HF.out]
          exact rfl
        · have t1 : ((r : Int) == 1) = false := by rw [h]; rfl
          have t3 : ((r : Int) == 3) = false := by rw [h]; rfl
          have t6 : ((r : Int) == 6) = true := by rw [h]; rfl
          clear h
          go_wp2_with fail
          go_ret2
          refine ⟨HBE.out, ?_⟩
          rw [HF.out]
          exact rfl
      · have t1 : ((r : Int) == 1) = false := by rw [beq_eq_false_iff_ne]; omega
        have t3 : ((r : Int) == 3) = false := by rw [beq_eq_false_iff_ne]; omega
        have t6 : ((r : Int) == 6) = false := by rw [beq_eq_false_iff_ne]; omega
        have HUG : Hid (unbaseN (txt S) = if (G.drop (8 * (L / 8))).all (· == 0) then some (grp8 G) else none) := by unfold Hid; rw [HUB.out, if_neg hbad]
        have HO2 : Hid (OwnL 5 .u8 (wr.alloc (.cells #[] 5)) wr.heap.size (.slice (some ⟨wr.heap.size, 0, none⟩) 0 0) []) := OwnL.empty _ _ wr _ (Nat.le_refl _)
        clear hbad HUB
        go_wp2_with fail
        go_loopw [8, 9] (fun v ix wq => ∃ (wz : World) (j A : Nat), wz = wq ∧ A = 8 * j ∧ A ≤ L ∧ ix = .int .i64 (A : Nat) ∧ OwnL 5 .u8 wz wr.heap.size v (grp8 (G.take A)) ∧ (grp8 (G.take A)).length = j ∧ Below wr.heap.size wr wz) (fun _ ix _ => L - (intOf ix).toNat)
        case atStart => exact ⟨_, 0, 0, rfl, rfl, Nat.zero_le _, rfl, HO2.out, rfl, below_new wr _⟩
        case round =>
          clear HO2
          obtain ⟨wq, j, A, hwq, hA, hAL, rfl, hown, hgl, hbe⟩ := hrel
          subst hwq
          have HA : Hid (A = 8 * j) := hA
          have HBQ : Hid (Below wr.heap.size wr wq) := hbe
          obtain ⟨av2, cv2, hv, hrow2, hnv2⟩ := own_form hown
          rw [hgl] at hv hrow2 hnv2
          subst hv
          have HOWN : Hid (OwnL 5 .u8 wq wr.heap.size (.slice av2 j cv2) (grp8 (G.take A))) := hown
          have HR2 : Hid (RowL .u8 wq av2 j (grp8 (G.take A)) ∧ (av2 = none → j = 0 ∧ cv2 = 0)) := ⟨hrow2, hnv2⟩
          have HJ : Hid ((grp8 (G.take A)).length = j) := hgl
          have hjb : j ≤ 10000000 := by omega
          clear hA hown hgl hbe hrow2 hnv2
          by_cases hlt : A + 8 ≤ L
          · have hA8 : (A : Int) + 8 ≤ (L : Int) := by omega
            obtain ⟨b, off, rfl, hbl, hcs⟩ := RowL.at HROW.out 0 (by omega)
            have hcell : ∀ t, t < L → wq.cell? ⟨b, off + t, none⟩ = some (.int .i64 (G.getD t 0 : Nat)) := fun t ht => (HBQ.out.cell (p := ⟨b, off + t, none⟩) hbl).trans (hcs t ht)
            have c0 := hcell A (by omega)
            have c1 := hcell (A + 1) (by omega)
            have c2 := hcell (A + 2) (by omega)
            have c3 := hcell (A + 3) (by omega)
            have c4 := hcell (A + 4) (by omega)
            have c5 := hcell (A + 5) (by omega)
            have c6 := hcell (A + 6) (by omega)
            have c7 := hcell (A + 7) (by omega)
            have hgb : ∀ t, t < L → G.getD t 0 < 2 := fun t ht => HGB.out _ (by
              have : t < G.length := by rw [HGL.out]; exact ht
              rw [List.getD_eq_getElem?_getD, List.getElem?_eq_getElem this]
              exact List.getElem_mem _)
            have b0 := hgb A (by omega)
            have b1 := hgb (A + 1) (by omega)
            have b2 := hgb (A + 2) (by omega)
            have b3 := hgb (A + 3) (by omega)
            have b4 := hgb (A + 4) (by omega)
            have b5 := hgb (A + 5) (by omega)
            have b6 := hgb (A + 6) (by omega)
            have b7 := hgb (A + 7) (by omega)
            have HT8 : Hid (G.take (A + 8) = G.take A ++ [G.getD A 0, G.getD (A + 1) 0, G.getD (A + 2) 0, G.getD (A + 3) 0, G.getD (A + 4) 0, G.getD (A + 5) 0, G.getD (A + 6) 0, G.getD (A + 7) 0]) := take_eight G A (by rw [HGL.out]; omega)
            have HTA : Hid ((G.take A).length = 8 * j) := by unfold Hid; rw [List.length_take, HGL.out]; have := HA.out; omega
            clear hcs hbl hcell hgb
            generalize G.getD A 0 = d0 at *
            generalize G.getD (A + 1) 0 = d1 at *
            generalize G.getD (A + 2) 0 = d2 at *
            generalize G.getD (A + 3) 0 = d3 at *
            generalize G.getD (A + 4) 0 = d4 at *
            generalize G.getD (A + 5) 0 = d5 at *
            generalize G.getD (A + 6) 0 = d6 at *
            generalize G.getD (A + 7) 0 = d7 at *
            have hAb : A ≤ 10000000 := by omega
            obtain ⟨D, hD⟩ : ∃ D, D = 128 * d0 + 64 * d1 + 32 * d2 + 16 * d3 + 8 * d4 + 4 * d5 + 2 * d6 + d7 := ⟨_, rfl⟩
            have HCC : Hid (Value.int .u8 ((((((((d0 : Int) * 2 + (d1 : Int)) * 2 + (d2 : Int)) * 2 + (d3 : Int)) * 2 + (d4 : Int)) * 2 + (d5 : Int)) * 2 + (d6 : Int)) * 2 + (d7 : Int)) = encV .u8 D) := by
              unfold Hid encV
              congr 1
              omega
            have HN8 : Hid (grp8 (G.take (A + 8)) = grp8 (G.take A) ++ [D]) := by unfold Hid; rw [HT8.out, grp8_snoc j _ _ _ _ _ _ _ _ _ HTA.out, hD]
            have hsq := HBQ.out.size
            clear hD
            go_wp2_with fail
            refine wp_loop_rounds 9 ?_
            repeat any_goals (rw [rounds_succ]; go_wp2_with (at_builtin; (refine append_num numB8 wq rfl (.tmp 73) (.tmp 76) rfl wr.heap.size (.slice av2 j cv2) (grp8 (G.take A)) rfl HOWN.out D (.int .u8 ((((((((d0 : Int) * 2 + (d1 : Int)) * 2 + (d2 : Int)) * 2 + (d3 : Int)) * 2 + (d4 : Int)) * 2 + (d5 : Int)) * 2 + (d6 : Int)) * 2 + (d7 : Int))) HCC.out wq.heap.size rfl rfl (by rw [HJ.out]; omega) (by rw [HJ.out]; unfold maxLen; omega) hsq ?_; intro v5 w5 hown5 hb5)))
            refine ⟨⟨w5, j + 1, A + 8, rfl, by have := HA.out; omega, hlt, by go_num, by rw [HN8.out]; exact hown5, by rw [HN8.out, List.length_append, HJ.out]; rfl, HBQ.out.trans hb5⟩, by simp [intOf]; omega⟩
          · have hA8 : ¬ (A : Int) + 8 ≤ (L : Int) := by omega
            have HAE : Hid (A = 8 * (L / 8)) := by unfold Hid; have := HA.out; omega
            have HGE : Hid (grp8 (G.take A) = grp8 G) := by
              unfold Hid
              have h1 := spread8_grp (L / 8) G (by rw [HGL.out]; omega) (by rw [HGL.out]; omega) HGB.out
              have h2 := h1.1
              rw [HAE.out, ← h2, ← List.append_nil (spread8 (grp8 G)), grp8_spread _ [] h1.2.2 (by decide)]
            rw [HGE.out] at HR2 HJ
            clear HOWN HGE
            go_wp2_with fail
            go_loopw [9] (fun ix wz => ∃ (wy : World) (q : Nat), wy = wz ∧ wy = wq ∧ A ≤ q ∧ q ≤ L ∧ ix = .int .i64 (q : Nat) ∧ ∀ t, A ≤ t → t < q → G.getD t 0 = 0) (fun ix _ => L - (intOf ix).toNat)
            case atStart => exact ⟨wq, A, rfl, rfl, Nat.le_refl _, hAL, rfl, fun t h1 h2 => by omega⟩
            case round =>
              obtain ⟨wy, q, hwy, hwq, hq1, hq2, rfl, hz⟩ := hrel
              subst hwy
              subst hwq
              have HZ : Hid (∀ t, A ≤ t → t < q → G.getD t 0 = 0) := hz
              clear hz
              by_cases hlt2 : q < L
              · have hqi : (q : Int) < (L : Int) := by omega
                obtain ⟨b, off, rfl, hbl, hcs⟩ := RowL.at HROW.out 0 (by omega)
                have hc : wy.cell? ⟨b, off + q, none⟩ = some (.int .i64 (G.getD q 0 : Nat)) := (HBQ.out.cell (p := ⟨b, off + q, none⟩) hbl).trans (hcs q hlt2)
                clear hbl hcs
                by_cases hg : G.getD q 0 = 0
                · have HG0 : Hid (G.getD q 0 = 0) := hg
                  rw [hg] at hc
                  clear hg
                  go_wp2_with fail
                  go_roundw
                  case rel =>
                    refine ⟨_, q + 1, rfl, rfl, by omega, by omega, by go_num, fun t h1 h2 => ?_⟩
                    by_cases htq : t = q
                    · rw [htq]; exact HG0.out
                    · exact HZ.out t h1 (by omega)
                  case measure => simp [intOf]; omega
                · have HF : Hid (unbaseN (txt S) = none) := by
                    unfold Hid
                    rw [HUG.out, if_neg]
                    intro h
                    rw [List.all_eq_true] at h
                    have hm : G.getD q 0 ∈ G.drop (8 * (L / 8)) := by
                      have hql : q < G.length := by rw [HGL.out]; exact hlt2
                      rw [← HAE.out, List.getD_eq_getElem?_getD, List.getElem?_eq_getElem hql, Option.getD_some]
                      rw [List.mem_iff_getElem?]
                      exact ⟨q - A, by rw [List.getElem?_drop, show A + (q - A) = q by omega, List.getElem?_eq_getElem hql]⟩
                    exact hg (beq_iff_eq.1 (h _ hm))
                  generalize G.getD q 0 = g at *
                  have hne : ((g : Int) != 0) = true := by simp; omega
                  clear hg
                  go_wp2_with fail
                  go_ret2
                  refine ⟨HBE.out.trans (HBQ.out.mono HBE.out.size), ?_⟩
                  rw [HF.out]
                  exact rfl
              · have hqi : ¬ (q : Int) < (L : Int) := by omega
                have HF : Hid (unbaseN (txt S) = some (grp8 G)) := by
                  unfold Hid
                  rw [HUG.out, if_pos]
                  rw [List.all_eq_true]
                  intro x hx
                  rw [← HAE.out] at hx
                  obtain ⟨n, hn⟩ := List.mem_iff_getElem?.1 hx
                  rw [List.getElem?_drop] at hn
                  have hnl : A + n < L := by
                    have := (List.getElem?_eq_some_iff.1 hn).1
                    rw [HGL.out] at this
                    exact this
                  have := HZ.out (A + n) (by omega) (by omega)
                  rw [List.getD_eq_getElem?_getD, hn, Option.getD_some] at this
                  rw [this]
                  rfl
                go_wp2_with fail
                go_ret2
                refine ⟨HBE.out.trans (HBQ.out.mono HBE.out.size), ?_⟩
                rw [HF.out]
                refine ⟨av2, cv2, ?_, ?_, ?_⟩
                · rw [HJ.out]; rfl
                · rw [HJ.out]; exact HR2.out.1
                · rw [HJ.out]; exact HR2.out.2
end Go.Proofs.Ytgeoijbjndjpoaa
