/-
  The document's Plain.
-/
import Derived.Test.YtehieeahiicnhaaGlobLeast
namespace Go.Proofs.Ytehieeahiicnhaa
open Go.ChangeShapes Go.WideShapes Go.ChangeAt Go.RowKit
set_option linter.unusedVariables false
set_option linter.unusedSimpArgs false
/-- What Plain answers. -/
def plainO (p : List Nat) : Option (List Nat) := if soundN p then plainP ((piecesN p).getD []) else none
def optR (o : Option (List Nat)) : Value := match o with | some l => .tuple #[.string (strN l), .bool true] | none => .tuple #[.string (strN []), .bool false]
theorem plain_snoc (l : List (Nat × Nat)) (p : Nat × Nat) : plainP (l ++ [p]) = if p.1 = 0 then (plainP l).map (· ++ [p.2]) else none := by
  induction l with
  | nil => rw [List.nil_append, plainP, plainP]; split <;> rfl
  | cons q l ih =>
    rw [List.cons_append, plainP, plainP, ih]
    by_cases h1 : q.1 = 0
    · rw [if_pos h1, if_pos h1]
      by_cases h2 : p.1 = 0
      · rw [if_pos h2, if_pos h2]; cases plainP l <;> simp
      · rw [if_neg h2, if_neg h2]; rfl
    · rw [if_neg h1, if_neg h1]; split <;> rfl
theorem plain_none_app (l m : List (Nat × Nat)) (h : plainP l = none) : plainP (l ++ m) = none := by
  induction l with
  | nil => cases h
  | cons q l ih =>
    rw [plainP] at h
    rw [List.cons_append, plainP]
    by_cases h1 : q.1 = 0
    · rw [if_pos h1] at h ⊢
      cases hp : plainP l with
      | none => rw [ih hp]; rfl
      | some r => rw [hp] at h; cases h
    · rw [if_neg h1]
theorem plain_len : ∀ (l : List (Nat × Nat)) (r : List Nat), plainP l = some r → r.length = l.length
  | [], r, h => by simp [plainP] at h; subst h; rfl
  | p :: l, r, h => by
    rw [plainP] at h
    split at h
    · cases hp : plainP l with
      | none => rw [hp] at h; cases h
      | some m => rw [hp] at h; simp at h; subst h; simp [plain_len l m hp]
    · cases h
set_option maxHeartbeats 4000000 in
theorem rplain_any (S : ByteArray) (w : World) (hs : S.size ≤ 9223372036854775806) :
    Calls Try.prog 16 #[.string S] w fun e w' => e = .returned (optR (plainO (txt S))) ∧ Below w.heap.size w w' := by
  have HP : Hid _ := rpieces_any S w hs
  go_enter Try.func16, Try.ntmps16
  go_wp2_with fail
  refine Calls.mono HP.out ?_
  rintro _ w1 ⟨⟨a, ps, cap, ok, rfl, h1, h2, h3, h4⟩, hb⟩
  have HB : Hid (Below w.heap.size w w1) := hb
  have HOK : Hid (ok = soundN (txt S)) := h3
  have HROW : Hid (RowG w1 a ps) := h1
  have HPO : Hid (plainO (txt S) = if ok then plainP ps else none) := by
    unfold Hid plainO
    rw [HOK.out]
    cases hk : soundN (txt S) with
    | false => rfl
    | true => rw [h4 hk]; rfl
  obtain ⟨n, hn⟩ : ∃ n, n = ps.length := ⟨_, rfl⟩
  have HN : Hid (n = ps.length) := hn
  have hnb : n ≤ 200 := by omega
  rw [← hn]
  clear HP h1 h2 h3 h4 hb hn HOK
  go_wp2_with fail
  go_loopw [6, 7] (fun ov ix wr => ∃ (wz : World) (i : Nat) (acc : List Nat), wz = wr ∧ i ≤ n ∧ ix = .int .i64 i ∧ ov = .string (strN acc) ∧ plainP (ps.take i) = some acc ∧ Below w1.heap.size w1 wz) (fun _ ix _ => n - (intOf ix).toNat)
  case atStart => exact ⟨_, 0, [], rfl, Nat.zero_le _, rfl, rfl, rfl, Below.refl _ _⟩
  case round =>
    obtain ⟨wr, i, acc, hwr, hi, rfl, rfl, hacc, hbe⟩ := hrel
    subst hwr
    have HAC : Hid (plainP (ps.take i) = some acc) := hacc
    have HBE : Hid (Below w1.heap.size w1 wr) := hbe
    have HAL : Hid (acc.length ≤ 200) := by
      unfold Hid
      rw [plain_len _ _ hacc, List.length_take]
      omega
    clear hacc hbe
    by_cases hlt : i < n
    · have hii : (i : Int) < (n : Int) := by omega
      have hil : i < ps.length := by rw [← HN.out]; exact hlt
      have hrow := RowG.below HROW.out HBE.out
      rcases hrow with h0 | ⟨g, ha, hglt, hc⟩
      · omega
      · subst ha
        have hc0 := (hc i hil).1
        have hc1 := (hc i hil).2
        have HSN : Hid (plainP (ps.take (i + 1)) = if (ps.getD i (0, 0)).1 = 0 then some (acc ++ [(ps.getD i (0, 0)).2]) else none) := by
          unfold Hid
          rw [takeP_snoc ps i hil, plain_snoc, HAC.out]
          rfl
        generalize (ps.getD i (0, 0)).1 = k at *
        generalize (ps.getD i (0, 0)).2 = c at *
        have hoff : (0 + i * 2 : Nat) = 2 * i := by omega
        have hoff2 : (i * 2 : Nat) = 2 * i := by omega
        clear hc HAC
        by_cases hk : k = 0
        · have hkl : ((k : Int) != 0) = false := by rw [hk]; rfl
          have HS2 : Hid (plainP (ps.take (i + 1)) = some (acc ++ [c])) := by unfold Hid; rw [HSN.out, if_pos hk]
          have hcv : Sem.run Try.prog (convert 46 9 (Value.slice (some ⟨wr.heap.size, 0, none⟩) 1 1)) (wr.alloc (.cells #[.int .u8 (c : Int)] 5)) = .ok (.string (strN [c])) (wr.alloc (.cells #[.int .u8 (c : Int)] 5)) := conv_row (Blk.new wr 5 .u8 [c]).row 1
          obtain ⟨SO, hSO⟩ : ∃ A, A = strN acc := ⟨_, rfl⟩
          obtain ⟨SB, hSB⟩ : ∃ B, B = strN [c] := ⟨_, rfl⟩
          obtain ⟨C, hC⟩ : ∃ C, SO ++ SB = C := ⟨_, rfl⟩
          have hadd := add_run (A := SO) (B := SB) (C := C) (by rw [hSO, hSB, strN_size, strN_size]; have := HAL.out; simp; omega) hC
          have HC : Hid (C = strN (acc ++ [c])) := by unfold Hid; rw [← hC, hSO, hSB, strN_append]
          rw [← hSB] at hcv
          rw [← hSO]
          have HB2 : Hid (Below w1.heap.size w1 (wr.alloc (.cells #[.int .u8 (c : Int)] 5))) := HBE.out.alloc HBE.out.size _
          clear hk HSN hSO hSB hC
          go_wp2_with fail
          go_roundw
          case rel => exact ⟨_, i + 1, acc ++ [c], rfl, by omega, by go_num, by rw [HC.out], HS2.out, HB2.out⟩
          case measure => simp [intOf]; omega
        · have hkl : ((k : Int) != 0) = true := by rw [bne_iff_ne]; omega
          have HS2 : Hid (plainO (txt S) = none) := by
            unfold Hid
            have : plainP ps = none := by
              have := plain_none_app (ps.take (i + 1)) (ps.drop (i + 1)) (by rw [HSN.out, if_neg hk])
              rwa [List.take_append_drop] at this
            rw [HPO.out, this]
            split <;> rfl
          clear hk HSN
          go_wp2_with fail
          go_ret2
          exact ⟨by rw [HS2.out]; rfl, HB.out.trans (HBE.out.mono HB.out.size)⟩
    · have hii : ¬ (i : Int) < (n : Int) := by omega
      have HAC2 : Hid (plainP ps = some acc) := by unfold Hid; rw [← HAC.out, show i = ps.length by rw [← HN.out]; omega, List.take_length]
      cases ok with
      | false =>
        have HS2 : Hid (plainO (txt S) = none) := by unfold Hid; rw [HPO.out]; rfl
        go_wp2_with fail
        go_ret2
        exact ⟨by rw [HS2.out]; rfl, HB.out.trans (HBE.out.mono HB.out.size)⟩
      | true =>
        have HS2 : Hid (plainO (txt S) = some acc) := by unfold Hid; rw [HPO.out, HAC2.out]; rfl
        go_wp2_with fail
        go_ret2
        exact ⟨by rw [HS2.out]; rfl, HB.out.trans (HBE.out.mono HB.out.size)⟩
end Go.Proofs.Ytehieeahiicnhaa
