/-
  The document's Clean and Key, as plain functions of lists.
-/
import Derived.Test.YtbfgkogmojnilaaDoorLabelRNext
namespace Go.Proofs.YtbfgkogmojnilaaDoor
open Go.ChangeShapes Go.WideShapes Go.ChangeAt Go.RowKit
set_option linter.unusedVariables false
set_option linter.unusedSimpArgs false
/-- What a first byte tells: how many bytes, its own bits, the least sign of so many. -/
def leadN (b : Nat) : Option (Nat × Nat × Nat) := if b < 128 then some (1, b, 0) else if 192 ≤ b ∧ b < 224 then some (2, b - 192, 128) else if 224 ≤ b ∧ b < 240 then some (3, b - 224, 2048) else if 240 ≤ b ∧ b < 248 then some (4, b - 240, 65536) else none
def contN : Nat → Nat → List Nat → Option Nat
  | 0, r, _ => some r
  | _ + 1, _, [] => none
  | k + 1, r, c :: l => if 128 ≤ c ∧ c < 192 then contN k (r * 64 + (c - 128)) l else none
def badR (r least : Nat) : Bool := decide (r < least ∨ 1114111 < r ∨ (55296 ≤ r ∧ r ≤ 57343))
theorem bad_iff (r least : Nat) : badR r least = true ↔ r < least ∨ 1114111 < r ∨ (55296 ≤ r ∧ r ≤ 57343) := decide_eq_true_iff
def cleanF : Nat → List Nat → Bool
  | _, [] => true
  | 0, _ :: _ => false
  | f + 1, b :: l => match leadN b with
    | none => false
    | some (n, r, least) => if b < 32 ∨ b = 127 then false else match contN (n - 1) r l with
      | none => false
      | some q => if badR q least then false else cleanF f ((b :: l).drop n)
def cleanN (l : List Nat) : Bool := cleanF l.length l
theorem cont_app : ∀ (j k r : Nat) (l : List Nat), contN (j + k) r l = (match contN j r l with | none => none | some q => contN k q (l.drop j))
  | 0, k, r, l => by simp [contN]
  | j + 1, k, r, [] => by rw [show j + 1 + k = (j + k) + 1 by omega]; simp [contN]
  | j + 1, k, r, c :: l => by
    rw [show j + 1 + k = (j + k) + 1 by omega, contN, contN]
    split
    · rw [cont_app j k _ l, List.drop_succ_cons]
    · rfl
theorem drop_cons2 (l : List Nat) (i : Nat) (h : i < l.length) : l.drop i = l.getD i 0 :: l.drop (i + 1) := by
  rw [List.drop_eq_getElem_cons h, List.getD_eq_getElem?_getD, List.getElem?_eq_getElem h]
  rfl
set_option maxRecDepth 100000 in
set_option maxHeartbeats 16000000 in
theorem rclean_any (S : ByteArray) (w : World) (hs : S.size ≤ 4611686018427387904) :
    Calls Tryd.prog 25 #[.string S] w fun e w' => e = .returned (.bool (cleanN (txt S))) ∧ w' = w := by
  have HTL : Hid ((txt S).length = S.size) := txt_length S
  go_enter Tryd.func25, Tryd.ntmps25
  go_wp2
  go_loop [3] (fun kv => ∃ k f : Nat, k ≤ S.size ∧ S.size ≤ k + f ∧ kv = .int .i64 k ∧ cleanN (txt S) = cleanF f ((txt S).drop k)) (fun kv => S.size - (intOf kv).toNat)
  case atStart => exact ⟨0, S.size, Nat.zero_le _, by omega, rfl, by unfold cleanN; rw [HTL.out]; rfl⟩
  case round =>
    obtain ⟨k, f, hk, hkf, rfl, hc⟩ := hrel
    have HC : Hid (cleanN (txt S) = cleanF f ((txt S).drop k)) := hc
    clear hc
    by_cases hlt : k < S.size
    · have hki : (k : Int) < (S.size : Int) := by omega
      obtain ⟨f', hf'⟩ : ∃ f', f = f' + 1 := ⟨f - 1, by omega⟩
      have HG : Hid ((S[k]'hlt).toNat = (txt S).getD k 0) := get_txt S k hlt
      have HDC : Hid ((txt S).drop k = (txt S).getD k 0 :: (txt S).drop (k + 1)) := drop_cons2 _ _ (by rw [HTL.out]; exact hlt)
      obtain ⟨b, hb⟩ : ∃ b, b = (txt S).getD k 0 := ⟨_, rfl⟩
      rw [← hb] at HG HDC
      have hbs : ((S[k]'hlt).toNat : Int) = (b : Int) := by rw [HG.out]
      have hbb : b < 256 := by rw [← HG.out]; exact (S[k]'hlt).toNat_lt
      have HST : Hid (cleanN (txt S) = (match leadN b with
          | none => false
          | some (n, r, least) => if b < 32 ∨ b = 127 then false else match contN (n - 1) r ((txt S).drop (k + 1)) with
            | none => false
            | some q => if badR q least then false else cleanF f' ((b :: (txt S).drop (k + 1)).drop n))) := by unfold Hid; rw [HC.out, HDC.out, hf', cleanF]
      have HDD : Hid (b :: (txt S).drop (k + 1) = (txt S).drop k) := HDC.out.symm
      have hkf2 : S.size ≤ k + 1 + f' := by omega
      clear hb HC HDC hf' hkf
      rcases (show b < 128 ∨ (192 ≤ b ∧ b < 224) ∨ (224 ≤ b ∧ b < 240) ∨ (240 ≤ b ∧ b < 248) ∨ (128 ≤ b ∧ b < 192) ∨ 248 ≤ b by omega) with q | q | q | q | q | q
      · have t1 : (b : Int) < 128 := by omega
        have hlead : leadN b = some (1, b, 0) := by unfold leadN; rw [if_pos q]
        rw [hlead] at HST
        have HS2 : Hid (cleanN (txt S) = if b < 32 ∨ b = 127 then false else if badR b 0 then false else cleanF f' ((txt S).drop (k + 1))) := by
          have := HST.out
          simp only [contN] at this
          unfold Hid
          rw [this]
          rfl
        clear HST hlead
        by_cases h32 : b < 32
        · have i32 : (b : Int) < 32 := by omega
          have HR : Hid (cleanN (txt S) = false) := by unfold Hid; rw [HS2.out, if_pos (.inl h32)]
          clear HS2
          go_wp2
          go_ret
          exact ⟨by rw [HR.out]; rfl, rfl⟩
        have i32 : ¬ (b : Int) < 32 := by omega
        by_cases h127 : b = 127
        · have i127 : ((b : Int) == 127) = true := by rw [h127]; rfl
          have HR : Hid (cleanN (txt S) = false) := by unfold Hid; rw [HS2.out, if_pos (.inr h127)]
          clear HS2 h127
          go_wp2
          go_ret
          exact ⟨by rw [HR.out]; rfl, rfl⟩
        have i127 : ((b : Int) == 127) = false := by rw [beq_eq_false_iff_ne]; omega
        have HR : Hid (cleanN (txt S) = cleanF f' ((txt S).drop (k + 1))) := by unfold Hid; rw [HS2.out, if_neg (by omega), if_neg (by rw [bad_iff]; omega)]
        have i2 : ¬ (1114111 : Int) < (b : Int) := by omega
        have i3 : ¬ (55296 : Int) ≤ (b : Int) := by omega
        clear HS2 h127
        go_wp2
        go_loop [6, 8] (fun rv iv => ∃ (j : Int) (r : Nat), 5 ≤ j ∧ r < 128 ∧ rv = .int .i64 r ∧ iv = .int .i64 (j - 4)) (fun _ _ => 0)
        case atStart => exact ⟨5, b, by decide, q, rfl, rfl⟩
        case round =>
          clear i2 i3
          obtain ⟨j, r, hj, hr, rfl, rfl⟩ := hrel
          have i2 : ¬ (1114111 : Int) < (r : Int) := by omega
          have i3 : ¬ (55296 : Int) ≤ (r : Int) := by omega
          have hji : ¬ j - 4 < 1 := by omega
          have hjd : decide (j - 4 < 1) = false := decide_eq_false hji
          go_wp2
          go_round
          case rel => exact ⟨k + 1, f', by omega, by omega, by go_num, HR.out⟩
          case measure => simp [intOf]; omega
      · have t1 : ¬ (b : Int) < 128 := by omega
        have t2 : (192 : Int) ≤ (b : Int) := by omega
        have t3 : (b : Int) < 224 := by omega
        have hlead : leadN b = some (2, b - 192, 128) := by unfold leadN; rw [if_neg (by omega), if_pos q]
        rw [hlead] at HST
        obtain ⟨r0, hr0⟩ : ∃ r0, r0 = b - 192 := ⟨_, rfl⟩
        have hr0i : (b : Int) - 192 = (r0 : Int) := by omega
        have hr0b : r0 < 32 := by omega
        rw [← hr0] at HST
        have HS2 : Hid (cleanN (txt S) = if b < 32 ∨ b = 127 then false else match contN (2 - 1) r0 ((txt S).drop (k + 1)) with
            | none => false
            | some q => if badR q 128 then false else cleanF f' ((b :: (txt S).drop (k + 1)).drop 2)) := HST.out
        clear HST hlead hr0
        by_cases h32 : b < 32
        · have i32 : (b : Int) < 32 := by omega
          have HR : Hid (cleanN (txt S) = false) := by unfold Hid; rw [HS2.out, if_pos (.inl h32)]
          clear HS2
          go_wp2
          go_ret
          exact ⟨by rw [HR.out]; rfl, rfl⟩
        have i32 : ¬ (b : Int) < 32 := by omega
        by_cases h127 : b = 127
        · have i127 : ((b : Int) == 127) = true := by rw [h127]; rfl
          have HR : Hid (cleanN (txt S) = false) := by unfold Hid; rw [HS2.out, if_pos (.inr h127)]
          clear HS2 h127
          go_wp2
          go_ret
          exact ⟨by rw [HR.out]; rfl, rfl⟩
        have i127 : ((b : Int) == 127) = false := by rw [beq_eq_false_iff_ne]; omega
        have HS3 : Hid (cleanN (txt S) = match contN (2 - 1) r0 ((txt S).drop (k + 1)) with
            | none => false
            | some q => if badR q 128 then false else cleanF f' ((b :: (txt S).drop (k + 1)).drop 2)) := by unfold Hid; rw [HS2.out, if_neg (by omega)]
        clear HS2 h127
        go_wp2
        go_loop [6, 8] (fun rv iv => ∃ j r : Nat, j ≤ 1 ∧ k + j < S.size ∧ iv = .int .i64 ((j : Int) + 1) ∧ rv = .int .i64 r ∧ r < 64 ^ (j + 1) ∧ contN j r0 ((txt S).drop (k + 1)) = some r) (fun _ iv => 2 - (intOf iv).toNat)
        case atStart => exact ⟨0, r0, by omega, by omega, rfl, rfl, by omega, rfl⟩
        case round =>
          obtain ⟨j, r, hj, hkj, rfl, rfl, hrb, hct⟩ := hrel
          have HCT : Hid (contN j r0 ((txt S).drop (k + 1)) = some r) := hct
          have HRB : Hid (r < 64 ^ (j + 1)) := hrb
          have hrb2 : r < 16777216 := by
            have : 64 ^ (j + 1) ≤ 64 ^ 4 := Nat.pow_le_pow_right (by decide) (by omega)
            omega
          clear hct hrb
          by_cases hjn : j < 1
          · have hji : (j : Int) + 1 < 2 := by omega
            have HAP : Hid (contN (2 - 1) r0 ((txt S).drop (k + 1)) = contN (1 - j) r ((txt S).drop (k + 1 + j))) := by
              have := cont_app j (1 - j) r0 ((txt S).drop (k + 1))
              rw [HCT.out, List.drop_drop] at this
              unfold Hid
              rw [show 2 - 1 = j + (1 - j) by omega, this]
            obtain ⟨p, hp⟩ : ∃ p, p = k + (j + 1) := ⟨_, rfl⟩
            have hpi : (k : Int) + ((j : Int) + 1) = (p : Int) := by omega
            by_cases hps : p < S.size
            · have hpsi : ¬ (S.size : Int) ≤ (p : Int) := by omega
              have hpsj : (p : Int) < (S.size : Int) := by omega
              obtain ⟨c, hc⟩ : ∃ c, c = (txt S).getD p 0 := ⟨_, rfl⟩
              have hcs : ((S[p]'hps).toNat : Int) = (c : Int) := by rw [get_txt S p hps, hc]
              have hcb : c < 256 := by rw [hc, ← get_txt S p hps]; exact (S[p]'hps).toNat_lt
              have HSTP : Hid (contN (2 - 1) r0 ((txt S).drop (k + 1)) = if 128 ≤ c ∧ c < 192 then contN (1 - j - 1) (r * 64 + (c - 128)) ((txt S).drop (p + 1)) else none) := by
                unfold Hid
                rw [HAP.out, show k + 1 + j = p by omega, drop_cons2 (txt S) p (by rw [HTL.out]; exact hps), ← hc, show 1 - j = 1 - j - 1 + 1 by omega, contN, show 1 - j - 1 + 1 - 1 = 1 - j - 1 by omega]
              have HCTJ : Hid (128 ≤ c ∧ c < 192 → contN (j + 1) r0 ((txt S).drop (k + 1)) = some (r * 64 + (c - 128))) := fun hcc => by
                have := cont_app j 1 r0 ((txt S).drop (k + 1))
                rw [HCT.out, List.drop_drop, show k + 1 + j = p by omega, drop_cons2 (txt S) p (by rw [HTL.out]; exact hps), ← hc] at this
                rw [this]
                simp [contN, hcc]
              clear hc HAP
              by_cases hc1 : c < 128
              · have ic1 : (c : Int) < 128 := by omega
                have HR : Hid (cleanN (txt S) = false) := by unfold Hid; rw [HS3.out, HSTP.out, if_neg (by omega)]
                clear HS3 HSTP HCTJ HCT HRB hp
                go_wp2
                go_ret
                exact ⟨by rw [HR.out]; rfl, rfl⟩
              · have ic1 : ¬ (c : Int) < 128 := by omega
                by_cases hc2 : 192 ≤ c
                · have ic2 : (192 : Int) ≤ (c : Int) := by omega
                  have HR : Hid (cleanN (txt S) = false) := by unfold Hid; rw [HS3.out, HSTP.out, if_neg (by omega)]
                  clear HS3 HSTP HCTJ HCT HRB hp
                  go_wp2
                  go_ret
                  exact ⟨by rw [HR.out]; rfl, rfl⟩
                · have ic2 : ¬ (192 : Int) ≤ (c : Int) := by omega
                  have HC2 : Hid (contN (j + 1) r0 ((txt S).drop (k + 1)) = some (r * 64 + (c - 128))) := HCTJ.out (by omega)
                  obtain ⟨q, hq⟩ : ∃ q, q = r * 64 + (c - 128) := ⟨_, rfl⟩
                  have hqi : (r : Int) * 64 + (c : Int) - 128 = (q : Int) := by omega
                  have HQB : Hid (q < 64 ^ (j + 1 + 1)) := by
                    have := HRB.out
                    unfold Hid
                    rw [Nat.pow_succ]
                    omega
                  rw [← hq] at HC2
                  have HPS : Hid (k + (j + 1) < S.size) := by unfold Hid; omega
                  clear HSTP HCTJ HCT HRB hq hp
                  go_wp2
                  go_round
                  case rel => exact ⟨j + 1, q, by omega, HPS.out, by go_num, rfl, HQB.out, HC2.out⟩
                  case measure => simp [intOf]; omega
            · have hpsi : (S.size : Int) ≤ (p : Int) := by omega
              have HR : Hid (cleanN (txt S) = false) := by
                unfold Hid
                rw [HS3.out, HAP.out, List.drop_of_length_le (by rw [HTL.out]; omega), show 1 - j = 1 - j - 1 + 1 by omega, contN]
              clear HS3 HAP HCT HRB hp
              go_wp2
              go_ret
              exact ⟨by rw [HR.out]; rfl, rfl⟩
          · have hji : ¬ (j : Int) + 1 < 2 := by omega
            have HS4 : Hid (cleanN (txt S) = if badR r 128 then false else cleanF f' ((txt S).drop (k + 2))) := by
              unfold Hid
              rw [HS3.out, show 2 - 1 = j by omega, HCT.out]
              simp only []
              rw [HDD.out, List.drop_drop]
            have hkn : k + 2 ≤ S.size := by omega
            clear HS3 HCT HRB
            by_cases c1 : r < 128
            · have i1 : (r : Int) < 128 := by omega
              have HR : Hid (cleanN (txt S) = false) := by unfold Hid; rw [HS4.out, if_pos ((bad_iff _ _).2 (.inl c1))]
              clear HS4
              go_wp2
              go_ret
              exact ⟨by rw [HR.out]; rfl, rfl⟩
            have i1 : ¬ (r : Int) < 128 := by omega
            by_cases c2 : 1114111 < r
            · have i2 : (1114111 : Int) < (r : Int) := by omega
              have HR : Hid (cleanN (txt S) = false) := by unfold Hid; rw [HS4.out, if_pos ((bad_iff _ _).2 (.inr (.inl c2)))]
              clear HS4
              go_wp2
              go_ret
              exact ⟨by rw [HR.out]; rfl, rfl⟩
            have i2 : ¬ (1114111 : Int) < (r : Int) := by omega
            by_cases c3 : 55296 ≤ r
            · have i3 : (55296 : Int) ≤ (r : Int) := by omega
              by_cases c4 : r ≤ 57343
              · have i4 : (r : Int) ≤ 57343 := by omega
                have HR : Hid (cleanN (txt S) = false) := by unfold Hid; rw [HS4.out, if_pos ((bad_iff _ _).2 (.inr (.inr ⟨c3, c4⟩)))]
                clear HS4
                go_wp2
                go_ret
                exact ⟨by rw [HR.out]; rfl, rfl⟩
              · have i4 : ¬ (r : Int) ≤ 57343 := by omega
                have HR : Hid (cleanN (txt S) = cleanF f' ((txt S).drop (k + 2))) := by unfold Hid; rw [HS4.out, if_neg (by rw [bad_iff]; omega)]
                clear HS4
                go_wp2
                go_round
                case rel => exact ⟨k + 2, f', by omega, by omega, by go_num, HR.out⟩
                case measure => simp [intOf]; omega
            · have i3 : ¬ (55296 : Int) ≤ (r : Int) := by omega
              have HR : Hid (cleanN (txt S) = cleanF f' ((txt S).drop (k + 2))) := by unfold Hid; rw [HS4.out, if_neg (by rw [bad_iff]; omega)]
              clear HS4
              go_wp2
              go_round
              case rel => exact ⟨k + 2, f', by omega, by omega, by go_num, HR.out⟩
              case measure => simp [intOf]; omega
      · have t1 : ¬ (b : Int) < 128 := by omega
        have t2 : (192 : Int) ≤ (b : Int) := by omega
        have t3 : ¬ (b : Int) < 224 := by omega
        have t4 : (224 : Int) ≤ (b : Int) := by omega
        have t5 : (b : Int) < 240 := by omega
        have hlead : leadN b = some (3, b - 224, 2048) := by unfold leadN; rw [if_neg (by omega), if_neg (by omega), if_pos q]
        rw [hlead] at HST
        obtain ⟨r0, hr0⟩ : ∃ r0, r0 = b - 224 := ⟨_, rfl⟩
        have hr0i : (b : Int) - 224 = (r0 : Int) := by omega
        have hr0b : r0 < 16 := by omega
        rw [← hr0] at HST
        have HS2 : Hid (cleanN (txt S) = if b < 32 ∨ b = 127 then false else match contN (3 - 1) r0 ((txt S).drop (k + 1)) with
            | none => false
            | some q => if badR q 2048 then false else cleanF f' ((b :: (txt S).drop (k + 1)).drop 3)) := HST.out
        clear HST hlead hr0
        by_cases h32 : b < 32
        · have i32 : (b : Int) < 32 := by omega
          have HR : Hid (cleanN (txt S) = false) := by unfold Hid; rw [HS2.out, if_pos (.inl h32)]
          clear HS2
          go_wp2
          go_ret
          exact ⟨by rw [HR.out]; rfl, rfl⟩
        have i32 : ¬ (b : Int) < 32 := by omega
        by_cases h127 : b = 127
        · have i127 : ((b : Int) == 127) = true := by rw [h127]; rfl
          have HR : Hid (cleanN (txt S) = false) := by unfold Hid; rw [HS2.out, if_pos (.inr h127)]
          clear HS2 h127
          go_wp2
          go_ret
          exact ⟨by rw [HR.out]; rfl, rfl⟩
        have i127 : ((b : Int) == 127) = false := by rw [beq_eq_false_iff_ne]; omega
        have HS3 : Hid (cleanN (txt S) = match contN (3 - 1) r0 ((txt S).drop (k + 1)) with
            | none => false
            | some q => if badR q 2048 then false else cleanF f' ((b :: (txt S).drop (k + 1)).drop 3)) := by unfold Hid; rw [HS2.out, if_neg (by omega)]
        clear HS2 h127
        go_wp2
        go_loop [6, 8] (fun rv iv => ∃ j r : Nat, j ≤ 2 ∧ k + j < S.size ∧ iv = .int .i64 ((j : Int) + 1) ∧ rv = .int .i64 r ∧ r < 64 ^ (j + 1) ∧ contN j r0 ((txt S).drop (k + 1)) = some r) (fun _ iv => 3 - (intOf iv).toNat)
        case atStart => exact ⟨0, r0, by omega, by omega, rfl, rfl, by omega, rfl⟩
        case round =>
          obtain ⟨j, r, hj, hkj, rfl, rfl, hrb, hct⟩ := hrel
          have HCT : Hid (contN j r0 ((txt S).drop (k + 1)) = some r) := hct
          have HRB : Hid (r < 64 ^ (j + 1)) := hrb
          have hrb2 : r < 16777216 := by
            have : 64 ^ (j + 1) ≤ 64 ^ 4 := Nat.pow_le_pow_right (by decide) (by omega)
            omega
          clear hct hrb
          by_cases hjn : j < 2
          · have hji : (j : Int) + 1 < 3 := by omega
            have HAP : Hid (contN (3 - 1) r0 ((txt S).drop (k + 1)) = contN (2 - j) r ((txt S).drop (k + 1 + j))) := by
              have := cont_app j (2 - j) r0 ((txt S).drop (k + 1))
              rw [HCT.out, List.drop_drop] at this
              unfold Hid
              rw [show 3 - 1 = j + (2 - j) by omega, this]
            obtain ⟨p, hp⟩ : ∃ p, p = k + (j + 1) := ⟨_, rfl⟩
            have hpi : (k : Int) + ((j : Int) + 1) = (p : Int) := by omega
            by_cases hps : p < S.size
            · have hpsi : ¬ (S.size : Int) ≤ (p : Int) := by omega
              have hpsj : (p : Int) < (S.size : Int) := by omega
              obtain ⟨c, hc⟩ : ∃ c, c = (txt S).getD p 0 := ⟨_, rfl⟩
              have hcs : ((S[p]'hps).toNat : Int) = (c : Int) := by rw [get_txt S p hps, hc]
              have hcb : c < 256 := by rw [hc, ← get_txt S p hps]; exact (S[p]'hps).toNat_lt
              have HSTP : Hid (contN (3 - 1) r0 ((txt S).drop (k + 1)) = if 128 ≤ c ∧ c < 192 then contN (2 - j - 1) (r * 64 + (c - 128)) ((txt S).drop (p + 1)) else none) := by
                unfold Hid
                rw [HAP.out, show k + 1 + j = p by omega, drop_cons2 (txt S) p (by rw [HTL.out]; exact hps), ← hc, show 2 - j = 2 - j - 1 + 1 by omega, contN, show 2 - j - 1 + 1 - 1 = 2 - j - 1 by omega]
              have HCTJ : Hid (128 ≤ c ∧ c < 192 → contN (j + 1) r0 ((txt S).drop (k + 1)) = some (r * 64 + (c - 128))) := fun hcc => by
                have := cont_app j 1 r0 ((txt S).drop (k + 1))
                rw [HCT.out, List.drop_drop, show k + 1 + j = p by omega, drop_cons2 (txt S) p (by rw [HTL.out]; exact hps), ← hc] at this
                rw [this]
                simp [contN, hcc]
              clear hc HAP
              by_cases hc1 : c < 128
              · have ic1 : (c : Int) < 128 := by omega
                have HR : Hid (cleanN (txt S) = false) := by unfold Hid; rw [HS3.out, HSTP.out, if_neg (by omega)]
                clear HS3 HSTP HCTJ HCT HRB hp
                go_wp2
                go_ret
                exact ⟨by rw [HR.out]; rfl, rfl⟩
              · have ic1 : ¬ (c : Int) < 128 := by omega
                by_cases hc2 : 192 ≤ c
                · have ic2 : (192 : Int) ≤ (c : Int) := by omega
                  have HR : Hid (cleanN (txt S) = false) := by unfold Hid; rw [HS3.out, HSTP.out, if_neg (by omega)]
                  clear HS3 HSTP HCTJ HCT HRB hp
                  go_wp2
                  go_ret
                  exact ⟨by rw [HR.out]; rfl, rfl⟩
                · have ic2 : ¬ (192 : Int) ≤ (c : Int) := by omega
                  have HC2 : Hid (contN (j + 1) r0 ((txt S).drop (k + 1)) = some (r * 64 + (c - 128))) := HCTJ.out (by omega)
                  obtain ⟨q, hq⟩ : ∃ q, q = r * 64 + (c - 128) := ⟨_, rfl⟩
                  have hqi : (r : Int) * 64 + (c : Int) - 128 = (q : Int) := by omega
                  have HQB : Hid (q < 64 ^ (j + 1 + 1)) := by
                    have := HRB.out
                    unfold Hid
                    rw [Nat.pow_succ]
                    omega
                  rw [← hq] at HC2
                  have HPS : Hid (k + (j + 1) < S.size) := by unfold Hid; omega
                  clear HSTP HCTJ HCT HRB hq hp
                  go_wp2
                  go_round
                  case rel => exact ⟨j + 1, q, by omega, HPS.out, by go_num, rfl, HQB.out, HC2.out⟩
                  case measure => simp [intOf]; omega
            · have hpsi : (S.size : Int) ≤ (p : Int) := by omega
              have HR : Hid (cleanN (txt S) = false) := by
                unfold Hid
                rw [HS3.out, HAP.out, List.drop_of_length_le (by rw [HTL.out]; omega), show 2 - j = 2 - j - 1 + 1 by omega, contN]
              clear HS3 HAP HCT HRB hp
              go_wp2
              go_ret
              exact ⟨by rw [HR.out]; rfl, rfl⟩
          · have hji : ¬ (j : Int) + 1 < 3 := by omega
            have HS4 : Hid (cleanN (txt S) = if badR r 2048 then false else cleanF f' ((txt S).drop (k + 3))) := by
              unfold Hid
              rw [HS3.out, show 3 - 1 = j by omega, HCT.out]
              simp only []
              rw [HDD.out, List.drop_drop]
            have hkn : k + 3 ≤ S.size := by omega
            clear HS3 HCT HRB
            by_cases c1 : r < 2048
            · have i1 : (r : Int) < 2048 := by omega
              have HR : Hid (cleanN (txt S) = false) := by unfold Hid; rw [HS4.out, if_pos ((bad_iff _ _).2 (.inl c1))]
              clear HS4
              go_wp2
              go_ret
              exact ⟨by rw [HR.out]; rfl, rfl⟩
            have i1 : ¬ (r : Int) < 2048 := by omega
            by_cases c2 : 1114111 < r
            · have i2 : (1114111 : Int) < (r : Int) := by omega
              have HR : Hid (cleanN (txt S) = false) := by unfold Hid; rw [HS4.out, if_pos ((bad_iff _ _).2 (.inr (.inl c2)))]
              clear HS4
              go_wp2
              go_ret
              exact ⟨by rw [HR.out]; rfl, rfl⟩
            have i2 : ¬ (1114111 : Int) < (r : Int) := by omega
            by_cases c3 : 55296 ≤ r
            · have i3 : (55296 : Int) ≤ (r : Int) := by omega
              by_cases c4 : r ≤ 57343
              · have i4 : (r : Int) ≤ 57343 := by omega
                have HR : Hid (cleanN (txt S) = false) := by unfold Hid; rw [HS4.out, if_pos ((bad_iff _ _).2 (.inr (.inr ⟨c3, c4⟩)))]
                clear HS4
                go_wp2
                go_ret
                exact ⟨by rw [HR.out]; rfl, rfl⟩
              · have i4 : ¬ (r : Int) ≤ 57343 := by omega
                have HR : Hid (cleanN (txt S) = cleanF f' ((txt S).drop (k + 3))) := by unfold Hid; rw [HS4.out, if_neg (by rw [bad_iff]; omega)]
                clear HS4
                go_wp2
                go_round
                case rel => exact ⟨k + 3, f', by omega, by omega, by go_num, HR.out⟩
                case measure => simp [intOf]; omega
            · have i3 : ¬ (55296 : Int) ≤ (r : Int) := by omega
              have HR : Hid (cleanN (txt S) = cleanF f' ((txt S).drop (k + 3))) := by unfold Hid; rw [HS4.out, if_neg (by rw [bad_iff]; omega)]
              clear HS4
              go_wp2
              go_round
              case rel => exact ⟨k + 3, f', by omega, by omega, by go_num, HR.out⟩
              case measure => simp [intOf]; omega
      · have t1 : ¬ (b : Int) < 128 := by omega
        have t2 : (192 : Int) ≤ (b : Int) := by omega
        have t3 : ¬ (b : Int) < 224 := by omega
        have t4 : (224 : Int) ≤ (b : Int) := by omega
        have t5 : ¬ (b : Int) < 240 := by omega
        have t6 : (240 : Int) ≤ (b : Int) := by omega
        have t7 : (b : Int) < 248 := by omega
        have hlead : leadN b = some (4, b - 240, 65536) := by unfold leadN; rw [if_neg (by omega), if_neg (by omega), if_neg (by omega), if_pos q]
        rw [hlead] at HST
        obtain ⟨r0, hr0⟩ : ∃ r0, r0 = b - 240 := ⟨_, rfl⟩
        have hr0i : (b : Int) - 240 = (r0 : Int) := by omega
        have hr0b : r0 < 8 := by omega
        rw [← hr0] at HST
        have HS2 : Hid (cleanN (txt S) = if b < 32 ∨ b = 127 then false else match contN (4 - 1) r0 ((txt S).drop (k + 1)) with
            | none => false
            | some q => if badR q 65536 then false else cleanF f' ((b :: (txt S).drop (k + 1)).drop 4)) := HST.out
        clear HST hlead hr0
        by_cases h32 : b < 32
        · have i32 : (b : Int) < 32 := by omega
          have HR : Hid (cleanN (txt S) = false) := by unfold Hid; rw [HS2.out, if_pos (.inl h32)]
          clear HS2
          go_wp2
          go_ret
          exact ⟨by rw [HR.out]; rfl, rfl⟩
        have i32 : ¬ (b : Int) < 32 := by omega
        by_cases h127 : b = 127
        · have i127 : ((b : Int) == 127) = true := by rw [h127]; rfl
          have HR : Hid (cleanN (txt S) = false) := by unfold Hid; rw [HS2.out, if_pos (.inr h127)]
          clear HS2 h127
          go_wp2
          go_ret
          exact ⟨by rw [HR.out]; rfl, rfl⟩
        have i127 : ((b : Int) == 127) = false := by rw [beq_eq_false_iff_ne]; omega
        have HS3 : Hid (cleanN (txt S) = match contN (4 - 1) r0 ((txt S).drop (k + 1)) with
            | none => false
            | some q => if badR q 65536 then false else cleanF f' ((b :: (txt S).drop (k + 1)).drop 4)) := by unfold Hid; rw [HS2.out, if_neg (by omega)]
        clear HS2 h127
        go_wp2
        go_loop [6, 8] (fun rv iv => ∃ j r : Nat, j ≤ 3 ∧ k + j < S.size ∧ iv = .int .i64 ((j : Int) + 1) ∧ rv = .int .i64 r ∧ r < 64 ^ (j + 1) ∧ contN j r0 ((txt S).drop (k + 1)) = some r) (fun _ iv => 4 - (intOf iv).toNat)
        case atStart => exact ⟨0, r0, by omega, by omega, rfl, rfl, by omega, rfl⟩
        case round =>
          obtain ⟨j, r, hj, hkj, rfl, rfl, hrb, hct⟩ := hrel
          have HCT : Hid (contN j r0 ((txt S).drop (k + 1)) = some r) := hct
          have HRB : Hid (r < 64 ^ (j + 1)) := hrb
          have hrb2 : r < 16777216 := by
            have : 64 ^ (j + 1) ≤ 64 ^ 4 := Nat.pow_le_pow_right (by decide) (by omega)
            omega
          clear hct hrb
          by_cases hjn : j < 3
          · have hji : (j : Int) + 1 < 4 := by omega
            have HAP : Hid (contN (4 - 1) r0 ((txt S).drop (k + 1)) = contN (3 - j) r ((txt S).drop (k + 1 + j))) := by
              have := cont_app j (3 - j) r0 ((txt S).drop (k + 1))
              rw [HCT.out, List.drop_drop] at this
              unfold Hid
              rw [show 4 - 1 = j + (3 - j) by omega, this]
            obtain ⟨p, hp⟩ : ∃ p, p = k + (j + 1) := ⟨_, rfl⟩
            have hpi : (k : Int) + ((j : Int) + 1) = (p : Int) := by omega
            by_cases hps : p < S.size
            · have hpsi : ¬ (S.size : Int) ≤ (p : Int) := by omega
              have hpsj : (p : Int) < (S.size : Int) := by omega
              obtain ⟨c, hc⟩ : ∃ c, c = (txt S).getD p 0 := ⟨_, rfl⟩
              have hcs : ((S[p]'hps).toNat : Int) = (c : Int) := by rw [get_txt S p hps, hc]
              have hcb : c < 256 := by rw [hc, ← get_txt S p hps]; exact (S[p]'hps).toNat_lt
              have HSTP : Hid (contN (4 - 1) r0 ((txt S).drop (k + 1)) = if 128 ≤ c ∧ c < 192 then contN (3 - j - 1) (r * 64 + (c - 128)) ((txt S).drop (p + 1)) else none) := by
                unfold Hid
                rw [HAP.out, show k + 1 + j = p by omega, drop_cons2 (txt S) p (by rw [HTL.out]; exact hps), ← hc, show 3 - j = 3 - j - 1 + 1 by omega, contN, show 3 - j - 1 + 1 - 1 = 3 - j - 1 by omega]
              have HCTJ : Hid (128 ≤ c ∧ c < 192 → contN (j + 1) r0 ((txt S).drop (k + 1)) = some (r * 64 + (c - 128))) := fun hcc => by
                have := cont_app j 1 r0 ((txt S).drop (k + 1))
                rw [HCT.out, List.drop_drop, show k + 1 + j = p by omega, drop_cons2 (txt S) p (by rw [HTL.out]; exact hps), ← hc] at this
                rw [this]
                simp [contN, hcc]
              clear hc HAP
              by_cases hc1 : c < 128
              · have ic1 : (c : Int) < 128 := by omega
                have HR : Hid (cleanN (txt S) = false) := by unfold Hid; rw [HS3.out, HSTP.out, if_neg (by omega)]
                clear HS3 HSTP HCTJ HCT HRB hp
                go_wp2
                go_ret
                exact ⟨by rw [HR.out]; rfl, rfl⟩
              · have ic1 : ¬ (c : Int) < 128 := by omega
                by_cases hc2 : 192 ≤ c
                · have ic2 : (192 : Int) ≤ (c : Int) := by omega
                  have HR : Hid (cleanN (txt S) = false) := by unfold Hid; rw [HS3.out, HSTP.out, if_neg (by omega)]
                  clear HS3 HSTP HCTJ HCT HRB hp
                  go_wp2
                  go_ret
                  exact ⟨by rw [HR.out]; rfl, rfl⟩
                · have ic2 : ¬ (192 : Int) ≤ (c : Int) := by omega
                  have HC2 : Hid (contN (j + 1) r0 ((txt S).drop (k + 1)) = some (r * 64 + (c - 128))) := HCTJ.out (by omega)
                  obtain ⟨q, hq⟩ : ∃ q, q = r * 64 + (c - 128) := ⟨_, rfl⟩
                  have hqi : (r : Int) * 64 + (c : Int) - 128 = (q : Int) := by omega
                  have HQB : Hid (q < 64 ^ (j + 1 + 1)) := by
                    have := HRB.out
                    unfold Hid
                    rw [Nat.pow_succ]
                    omega
                  rw [← hq] at HC2
                  have HPS : Hid (k + (j + 1) < S.size) := by unfold Hid; omega
                  clear HSTP HCTJ HCT HRB hq hp
                  go_wp2
                  go_round
                  case rel => exact ⟨j + 1, q, by omega, HPS.out, by go_num, rfl, HQB.out, HC2.out⟩
                  case measure => simp [intOf]; omega
            · have hpsi : (S.size : Int) ≤ (p : Int) := by omega
              have HR : Hid (cleanN (txt S) = false) := by
                unfold Hid
                rw [HS3.out, HAP.out, List.drop_of_length_le (by rw [HTL.out]; omega), show 3 - j = 3 - j - 1 + 1 by omega, contN]
              clear HS3 HAP HCT HRB hp
              go_wp2
              go_ret
              exact ⟨by rw [HR.out]; rfl, rfl⟩
          · have hji : ¬ (j : Int) + 1 < 4 := by omega
            have HS4 : Hid (cleanN (txt S) = if badR r 65536 then false else cleanF f' ((txt S).drop (k + 4))) := by
              unfold Hid
              rw [HS3.out, show 4 - 1 = j by omega, HCT.out]
              simp only []
              rw [HDD.out, List.drop_drop]
            have hkn : k + 4 ≤ S.size := by omega
            clear HS3 HCT HRB
            by_cases c1 : r < 65536
            · have i1 : (r : Int) < 65536 := by omega
              have HR : Hid (cleanN (txt S) = false) := by unfold Hid; rw [HS4.out, if_pos ((bad_iff _ _).2 (.inl c1))]
              clear HS4
              go_wp2
              go_ret
              exact ⟨by rw [HR.out]; rfl, rfl⟩
            have i1 : ¬ (r : Int) < 65536 := by omega
            by_cases c2 : 1114111 < r
            · have i2 : (1114111 : Int) < (r : Int) := by omega
              have HR : Hid (cleanN (txt S) = false) := by unfold Hid; rw [HS4.out, if_pos ((bad_iff _ _).2 (.inr (.inl c2)))]
              clear HS4
              go_wp2
              go_ret
              exact ⟨by rw [HR.out]; rfl, rfl⟩
            have i2 : ¬ (1114111 : Int) < (r : Int) := by omega
            by_cases c3 : 55296 ≤ r
            · have i3 : (55296 : Int) ≤ (r : Int) := by omega
              by_cases c4 : r ≤ 57343
              · have i4 : (r : Int) ≤ 57343 := by omega
                have HR : Hid (cleanN (txt S) = false) := by unfold Hid; rw [HS4.out, if_pos ((bad_iff _ _).2 (.inr (.inr ⟨c3, c4⟩)))]
                clear HS4
                go_wp2
                go_ret
                exact ⟨by rw [HR.out]; rfl, rfl⟩
              · have i4 : ¬ (r : Int) ≤ 57343 := by omega
                have HR : Hid (cleanN (txt S) = cleanF f' ((txt S).drop (k + 4))) := by unfold Hid; rw [HS4.out, if_neg (by rw [bad_iff]; omega)]
                clear HS4
                go_wp2
                go_round
                case rel => exact ⟨k + 4, f', by omega, by omega, by go_num, HR.out⟩
                case measure => simp [intOf]; omega
            · have i3 : ¬ (55296 : Int) ≤ (r : Int) := by omega
              have HR : Hid (cleanN (txt S) = cleanF f' ((txt S).drop (k + 4))) := by unfold Hid; rw [HS4.out, if_neg (by rw [bad_iff]; omega)]
              clear HS4
              go_wp2
              go_round
              case rel => exact ⟨k + 4, f', by omega, by omega, by go_num, HR.out⟩
              case measure => simp [intOf]; omega
      · have t1 : ¬ (b : Int) < 128 := by omega
        have t2 : ¬ (192 : Int) ≤ (b : Int) := by omega
        have t4 : ¬ (224 : Int) ≤ (b : Int) := by omega
        have t6 : ¬ (240 : Int) ≤ (b : Int) := by omega
        have hlead : leadN b = none := by unfold leadN; rw [if_neg (by omega), if_neg (by omega), if_neg (by omega), if_neg (by omega)]
        rw [hlead] at HST
        have HR : Hid (cleanN (txt S) = false) := HST.out
        clear HST hlead
        go_wp2
        go_ret
        exact ⟨by rw [HR.out]; rfl, rfl⟩
      · have t1 : ¬ (b : Int) < 128 := by omega
        have t2 : (192 : Int) ≤ (b : Int) := by omega
        have t3 : ¬ (b : Int) < 224 := by omega
        have t4 : (224 : Int) ≤ (b : Int) := by omega
        have t5 : ¬ (b : Int) < 240 := by omega
        have t6 : (240 : Int) ≤ (b : Int) := by omega
        have t7 : ¬ (b : Int) < 248 := by omega
        have hlead : leadN b = none := by unfold leadN; rw [if_neg (by omega), if_neg (by omega), if_neg (by omega), if_neg (by omega)]
        rw [hlead] at HST
        have HR : Hid (cleanN (txt S) = false) := HST.out
        clear HST hlead
        go_wp2
        go_ret
        exact ⟨by rw [HR.out]; rfl, rfl⟩
    · have hki : ¬ (k : Int) < (S.size : Int) := by omega
      have HR : Hid (cleanN (txt S) = true) := by
        unfold Hid
        rw [HC.out, show k = S.size by omega, ← HTL.out, List.drop_length]
        cases f <;> rfl
      go_wp2
      go_ret
      exact ⟨by rw [HR.out]; rfl, rfl⟩
def keyN (l : List Nat) : Bool := decide (1 ≤ l.length) && decide (l.length ≤ 200) && cleanN l
end Go.Proofs.YtbfgkogmojnilaaDoor
