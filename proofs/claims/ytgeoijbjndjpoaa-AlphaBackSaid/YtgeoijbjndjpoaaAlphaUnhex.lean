/-
  The document's Unhex, as a plain function of lists.
-/
import Derived.Test.YtgeoijbjndjpoaaAlphaRef
namespace Go.Proofs.Ytgeoijbjndjpoaa
open Go.ChangeShapes Go.WideShapes Go.ChangeAt Go.RowKit
set_option linter.unusedVariables false
set_option linter.unusedSimpArgs false
theorem numB8 : NumT 22 5 .u8 1 := ⟨by kernel_rfl, Try.underlying22⟩
theorem unhex_app : ∀ (l ys t : List Nat), unhexN l = some ys → unhexN (l ++ t) = (unhexN t).map (ys ++ ·)
  | [], ys, t, h => by
    simp [unhexN] at h
    subst h
    rw [List.nil_append]
    cases unhexN t <;> simp
  | [x], ys, t, h => by simp [unhexN] at h
  | x :: y :: l, ys, t, h => by
    rw [unhexN] at h
    rw [List.cons_append, List.cons_append, unhexN]
    cases hx : placeN hexD x with
    | none => rw [hx] at h; simp at h
    | some a =>
      cases hy : placeN hexD y with
      | none => rw [hx, hy] at h; simp at h
      | some b =>
        cases hr : unhexN l with
        | none => rw [hx, hy, hr] at h; simp at h
        | some r =>
          rw [hx, hy, hr] at h
          simp at h
          subst h
          rw [unhex_app l r t hr]
          cases unhexN t <;> simp
theorem unhex_odd : ∀ l : List Nat, l.length % 2 = 1 → unhexN l = none
  | [], h => by simp at h
  | [x], h => rfl
  | x :: y :: l, h => by
    rw [unhexN, unhex_odd l (by simp at h; omega)]
    cases placeN hexD x <;> cases placeN hexD y <;> rfl
theorem hexS_txt : txt (ByteArray.mk #[48, 49, 50, 51, 52, 53, 54, 55, 56, 57, 97, 98, 99, 100, 101, 102]) = hexD := by decide +kernel
theorem take_two (t : List Nat) (i : Nat) (h : i + 1 < t.length) : t.take (i + 2) = t.take i ++ [t.getD i 0, t.getD (i + 1) 0] := by
  rw [show i + 2 = i + 1 + 1 from rfl, take_snoc t (i + 1) h, take_snoc t i (by omega), List.append_assoc]
  rfl
theorem split_two (t : List Nat) (i : Nat) (h : i + 1 < t.length) : t = t.take i ++ (t.getD i 0 :: t.getD (i + 1) 0 :: t.drop (i + 2)) := by
  have := (List.take_append_drop (i + 2) t).symm
  rw [take_two t i h, List.append_assoc] at this
  exact this
/-- Bytes that are told, or an error. -/
def UnR (o : Option (List Nat)) (e : Ending) (w' : World) : Prop := match o with
  | some ys => ∃ a c, e = .returned (.tuple #[.slice a ys.length c, .int .i64 0]) ∧ RowL .u8 w' a ys.length ys ∧ (a = none → ys.length = 0 ∧ c = 0)
  | none => e = .returned (.tuple #[.slice none 0 0, .int .i64 5])
theorem own_form {e : TypeId} {k : IntKind} {w : World} {base : Nat} {v : Value} {xs : List Nat} (h : OwnL e k w base v xs) : ∃ a cap, v = .slice a xs.length cap ∧ RowL k w a xs.length xs ∧ (a = none → xs.length = 0 ∧ cap = 0) := by
  have h0 := h
  obtain ⟨h1, ⟨rfl, h2⟩ | ⟨g, cap, cur, rfl, hg, hbk, hn, hmm, hs, ht⟩⟩ := h
  · exact ⟨none, 0, by rw [h2], ⟨rfl, .inl h2⟩, fun _ => ⟨h2, rfl⟩⟩
  · refine ⟨some ⟨g, 0, none⟩, cap, rfl, ⟨rfl, .inr ⟨g, 0, rfl, (h0.lt g rfl).2, fun i hi => ?_⟩⟩, (fun h => by cases h)⟩
    have := World.ownsRow.cellAt h0 i (by omega)
    rw [Nat.zero_add, this]
    simp [encV, hi]
set_option maxHeartbeats 4000000 in
theorem runhex_any (S : ByteArray) (w : World) (hs : S.size ≤ 140737488355328) :
    Calls Try.prog 9 #[.string S] w fun e w' => Below w.heap.size w w' ∧ UnR (unhexN (txt S)) e w' := by
  have HTL : Hid ((txt S).length = S.size) := txt_length S
  by_cases hodd : S.size % 2 = 1
  · have ht : ((S.size : Int) % 2 == 1) = true := by
      have : (S.size : Int) % 2 = 1 := by omega
      rw [this]; rfl
    have HU : Hid (unhexN (txt S) = none) := unhex_odd _ (by rw [txt_length]; exact hodd)
    go_enter Try.func9, Try.ntmps9
    go_wp2
    go_ret2
    refine ⟨below_new w _, ?_⟩
    rw [HU.out]
    exact rfl
  · have ht : ((S.size : Int) % 2 == 1) = false := by
      have : (S.size : Int) % 2 = 0 := by omega
      rw [this]; rfl
    have HO : Hid (OwnL 5 .u8 (w.alloc (.cells #[] 5)) w.heap.size (.slice (some ⟨w.heap.size, 0, none⟩) 0 0) []) := OwnL.empty _ _ w _ (Nat.le_refl _)
    have HE : Hid (S.size % 2 = 0) := by unfold Hid; omega
    clear hodd
    go_enter Try.func9, Try.ntmps9
    go_wp2
    clear ht
    go_loopw [4, 5] (fun v ix wr => ∃ (wz : World) (j : Nat) (ys : List Nat), wz = wr ∧ 2 * j ≤ S.size ∧ ix = .int .i64 ((2 * j : Nat) : Nat) ∧ unhexN ((txt S).take (2 * j)) = some ys ∧ ys.length = j ∧ OwnL 5 .u8 wz w.heap.size v ys ∧ Below w.heap.size w wz) (fun _ ix _ => S.size - (intOf ix).toNat)
    case atStart => exact ⟨_, 0, [], rfl, by omega, rfl, rfl, rfl, HO.out, below_new w _⟩
    case round =>
      obtain ⟨wr, j, ys, hwr, hj, rfl, hu, hyl, hown, hbe⟩ := hrel
      subst hwr
      have HU : Hid (unhexN ((txt S).take (2 * j)) = some ys) := hu
      have HBE : Hid (Below w.heap.size w wr) := hbe
      have HYL : Hid (ys.length = j) := hyl
      obtain ⟨av, cv, rfl, hrow, hcv, hpos⟩ := hown.row
      rw [hyl] at hown hrow
      rw [hyl]
      have HOWN : Hid (OwnL 5 .u8 wr w.heap.size (.slice av j cv) ys) := hown
      obtain ⟨I, hI⟩ : ∃ I, I = 2 * j := ⟨_, rfl⟩
      rw [← hI] at HU ⊢ hj
      have HI : Hid (I = 2 * j) := hI
      clear hu hbe hyl hown hrow hcv hpos hI HO
      by_cases hlt : I + 1 < S.size
      · have hi1 : (I : Int) + 1 < (S.size : Int) := by omega
        have hi0 : (I : Int) < (S.size : Int) := by omega
        have hI0 : I < S.size := by omega
        have hwr : IntKind.i64.wrap ((I : Int) + 1) = (I : Int) + 1 := by rw [IntKind.wrap_i64]; omega
        have hnat : ((I : Int) + 1).toNat = I + 1 := by omega
        have hnn : (0 : Int) ≤ (I : Int) + 1 := by omega
        have HG0 : Hid ((S[I]'hI0).toNat = (txt S).getD I 0) := get_txt S I hI0
        have HG1 : Hid ((S[I + 1]'hlt).toNat = (txt S).getD (I + 1) 0) := get_txt S (I + 1) hlt
        have HPL : Hid (∀ (b : Nat) (W : World), b < 256 → Calls Try.prog 23 #[.string (ByteArray.mk #[48, 49, 50, 51, 52, 53, 54, 55, 56, 57, 97, 98, 99, 100, 101, 102]), .int .u8 (b : Nat)] W fun e w' => e = .returned (.int .i64 (plZ (placeN hexD b))) ∧ w' = W) := fun b W hb => by
          have := rplace_any (ByteArray.mk #[48, 49, 50, 51, 52, 53, 54, 55, 56, 57, 97, 98, 99, 100, 101, 102]) b W hb (by decide)
          rw [hexS_txt] at this
          exact this
        have hl0 : (S[I]'hI0).toNat < 256 := (S[I]'hI0).toNat_lt
        have hl1 : (S[I + 1]'hlt).toNat < 256 := (S[I + 1]'hlt).toNat_lt
        have HS2 : Hid (txt S = (txt S).take I ++ ((txt S).getD I 0 :: (txt S).getD (I + 1) 0 :: (txt S).drop (I + 2))) := split_two _ _ (by rw [HTL.out]; exact hlt)
        have HT2 : Hid ((txt S).take (I + 2) = (txt S).take I ++ [(txt S).getD I 0, (txt S).getD (I + 1) 0]) := take_two _ _ (by rw [HTL.out]; exact hlt)
        generalize (txt S).getD I 0 = x at *
        generalize (txt S).getD (I + 1) 0 = y at *
        cases hx : placeN hexD x with
        | none =>
          have HF : Hid (unhexN (txt S) = none) := by
            unfold Hid
            rw [HS2.out, unhex_app _ ys _ HU.out, unhexN, hx]
            rfl
          have hz0 : plZ (placeN hexD (S[I]'hI0).toNat) = -1 := by rw [HG0.out, hx]; rfl
          clear hx
          go_wp2
          go_quiet ((go_at_call 23; exact Calls.quiet_of_same (HPL.out _ _ (by assumption))))
          go_wp2
          go_ret2
          refine ⟨below_drew HBE.out nq, ?_⟩
          rw [HF.out]
          exact rfl
        | some a =>
          have hz0 : plZ (placeN hexD (S[I]'hI0).toNat) = (a : Int) := by rw [HG0.out, hx]; rfl
          have hab : a < 16 := (place_get hx).1
          have ha0 : ¬ (a : Int) < 0 := by omega
          cases hy : placeN hexD y with
          | none =>
            have HF : Hid (unhexN (txt S) = none) := by
              unfold Hid
              rw [HS2.out, unhex_app _ ys _ HU.out, unhexN, hx, hy]
              rfl
            have hz1 : plZ (placeN hexD (S[I + 1]'hlt).toNat) = -1 := by rw [HG1.out, hy]; rfl
            clear hx hy
            go_wp2
            go_quiet ((go_at_call 23; exact Calls.quiet_of_same (HPL.out _ _ (by assumption))))
            go_wp2
            go_ret2
            refine ⟨below_drew HBE.out nq, ?_⟩
            rw [HF.out]
            exact rfl
          | some b =>
            have hz1 : plZ (placeN hexD (S[I + 1]'hlt).toNat) = (b : Int) := by rw [HG1.out, hy]; rfl
            have hbb : b < 16 := (place_get hy).1
            have hb0 : ¬ (b : Int) < 0 := by omega
            have HN : Hid (unhexN ((txt S).take (I + 2)) = some (ys ++ [a * 16 + b])) := by
              unfold Hid
              rw [HT2.out, unhex_app _ ys _ HU.out, unhexN, hx, hy]
              rfl
            clear hx hy
            obtain ⟨D, hD⟩ : ∃ D, D = a * 16 + b := ⟨_, rfl⟩
            have hDi : (a : Int) * 16 + (b : Int) = (D : Int) := by omega
            have hDb : D < 256 := by omega
            rw [← hD] at HN
            clear hD
            go_wp2
            go_quiet ((go_at_call 23; exact Calls.quiet_of_same (HPL.out _ _ (by assumption))))
            replace HOWN : Hid (OwnL 5 .u8 (wr.drewN nq) w.heap.size (.slice av j cv) ys) := HOWN
            replace HBE : Hid (Below w.heap.size w (wr.drewN nq)) := below_drew HBE.out nq
            generalize wr.drewN nq = wd at *
            have hsd := HBE.out.size
            have hjb : j ≤ 140737488355328 := by have := HI.out; omega
            go_wp2_with (at_builtin; (refine append_num numB8 wd rfl (.tmp 35) (.tmp 41) rfl w.heap.size (.slice av j cv) ys rfl HOWN.out D (.int .u8 (D : Nat)) rfl wd.heap.size rfl rfl (by rw [HYL.out]; have := HI.out; omega) (by rw [HYL.out]; unfold maxLen; omega) hsd ?_; intro v5 w5 hown5 hb5))
            go_roundw
            case rel =>
              refine ⟨w5, j + 1, ys ++ [D], rfl, by have := HI.out; omega, ?_, ?_, by rw [List.length_append, HYL.out]; rfl, hown5, HBE.out.trans hb5⟩
              · have := HI.out
                congr 1
                omega
              · rw [show 2 * (j + 1) = I + 2 by have := HI.out; omega]; exact HN.out
            case measure => simp [intOf]; omega
      · have hie : I = S.size := by have := HI.out; have := HE.out; omega
        have hi1 : ¬ (I : Int) + 1 < (S.size : Int) := by omega
        have HF : Hid (unhexN (txt S) = some ys) := by
          have := HU.out
          rw [hie, ← HTL.out, List.take_length] at this
          exact this
        obtain ⟨a', c', hv', hr', hn'⟩ := own_form HOWN.out
        rw [HYL.out] at hv'
        have HV : Hid (Value.slice av j cv = .slice a' j c') := hv'
        have HR' : Hid (RowL .u8 wr a' ys.length ys ∧ (a' = none → ys.length = 0 ∧ c' = 0)) := ⟨hr', hn'⟩
        clear hie hv' hr' hn'
        go_wp2
        go_ret2
        refine ⟨HBE.out, ?_⟩
        rw [HF.out]
        refine ⟨a', c', ?_, HR'.out.1, HR'.out.2⟩
        rw [HYL.out, ← HV.out]
        rfl
end Go.Proofs.Ytgeoijbjndjpoaa
