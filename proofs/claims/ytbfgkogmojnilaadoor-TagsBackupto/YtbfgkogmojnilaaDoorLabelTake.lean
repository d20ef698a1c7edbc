/-
  The program's take and Unescape: strings.IndexByte over the model's own entry; the byte that a text begins with, escaped or not; the whole text.
-/
import Derived.Test.YtbfgkogmojnilaaDoorLabelChars
import Derived.Test.YtbfgkogmojnilaaDoorLabelEsc
import Derived.Test.YtbfgkogmojnilaaDoorFits
import Derived.Lib.Bytealg
namespace Go.Proofs.YtbfgkogmojnilaaDoor
open Go.ChangeShapes Go.WideShapes Go.ChangeAt Go.RowKit
set_option linter.unusedVariables false
set_option linter.unusedSimpArgs false
theorem find_run (S : ByteArray) (b : Nat) (w : World) : (callFunc 90 #[.string S, .int .u8 (b : Nat)]).run Tryd.prog w = .ok (.value (.int .i64 (Lib.indexByte S.data.toList (b : Int).toNat.toUInt8))) w := by
  rw [run_callFunc_extern (e := Extern.BytealgIndexByte.indexByte) Tryd.func90 (by kernel_rfl) (by kernel_rfl) (by kernel_rfl) (by kernel_rfl), Lib.run_indexByteString]
  rfl
theorem sfind_any (S : ByteArray) (b : Nat) (w : World) :
    Calls Tryd.prog 86 #[.string S, .int .u8 (b : Nat)] w fun e w' => e = .returned (.int .i64 (Lib.indexByte S.data.toList (b : Int).toNat.toUInt8)) ∧ w' = w := by
  have hf := find_run S b
  generalize Lib.indexByte S.data.toList (b : Int).toNat.toUInt8 = z at *
  go_enter Tryd.func86, Tryd.ntmps86
  go_wp2
  go_ret
  exact ⟨rfl, rfl⟩
theorem find_any (S : ByteArray) (b : Nat) (w : World) :
    Calls Tryd.prog 82 #[.string S, .int .u8 (b : Nat)] w fun e w' => e = .returned (.int .i64 (Lib.indexByte S.data.toList (b : Int).toNat.toUInt8)) ∧ w' = w := by
  have HF := sfind_any S b w
  generalize Lib.indexByte S.data.toList (b : Int).toNat.toUInt8 = z at *
  go_enter Tryd.func82, Tryd.ntmps82
  go_wp2_with fail
  refine Calls.mono HF ?_
  rintro e w' ⟨rfl, hw'⟩
  subst hw'
  go_wp2_with fail
  go_ret
  exact ⟨rfl, rfl⟩
theorem hex_find : ∀ b : Fin 256, Lib.indexByte [48, 49, 50, 51, 52, 53, 54, 55, 56, 57, 65, 66, 67, 68, 69, 70] ((b.val : Nat) : Int).toNat.toUInt8 = digZ (digU b.val) := by decide +kernel
theorem hfind_any (b : Nat) (w : World) (hb : b < 256) :
    Calls Tryd.prog 82 #[.string (ByteArray.mk #[48, 49, 50, 51, 52, 53, 54, 55, 56, 57, 65, 66, 67, 68, 69, 70]), .int .u8 (b : Nat)] w fun e w' => e = .returned (.int .i64 (digZ (digU b))) ∧ w' = w := by
  have h := find_any (ByteArray.mk #[48, 49, 50, 51, 52, 53, 54, 55, 56, 57, 65, 66, 67, 68, 69, 70]) b w
  have e := hex_find ⟨b, hb⟩
  simp only [] at e
  rw [show (ByteArray.mk #[48, 49, 50, 51, 52, 53, 54, 55, 56, 57, 65, 66, 67, 68, 69, 70]).data.toList = [48, 49, 50, 51, 52, 53, 54, 55, 56, 57, 65, 66, 67, 68, 69, 70] from rfl, e] at h
  exact h
/-- The byte that a text begins with, and how many it takes there. -/
def takeN : List Nat → Nat × Nat
  | [] => (0, 0)
  | [c] => if plainN c then (c, 1) else (0, 0)
  | [c, _] => if plainN c then (c, 1) else (0, 0)
  | c :: x :: y :: _ => if plainN c then (c, 1) else if c = 37 then (match digU x with
    | none => (0, 0)
    | some a => match digU y with
      | none => (0, 0)
      | some b => if plainN (a * 16 + b) then (0, 0) else (a * 16 + b, 3)) else (0, 0)
theorem take_plain {c : Nat} (l : List Nat) (h : plainN c = true) : takeN (c :: l) = (c, 1) := by
  match l with
  | [] => simp [takeN, h]
  | [x] => simp [takeN, h]
  | x :: y :: r => rw [takeN, if_pos h]
theorem take_other {c : Nat} (l : List Nat) (h : ¬ plainN c = true) (h' : c ≠ 37 ∨ l.length < 2) : takeN (c :: l) = (0, 0) := by
  match l, h' with
  | [], _ => rw [takeN, if_neg h]
  | [x], _ => rw [takeN, if_neg h]
  | x :: y :: r, h' =>
    rw [takeN, if_neg h, if_neg]
    rcases h' with h' | h'
    · exact h'
    · simp at h'
      omega
def take3 (x y : Nat) : Nat × Nat := match digU x with
  | none => (0, 0)
  | some a => match digU y with
    | none => (0, 0)
    | some b => if plainN (a * 16 + b) then (0, 0) else (a * 16 + b, 3)
theorem take_three (x y : Nat) (r : List Nat) : takeN (37 :: x :: y :: r) = take3 x y := by
  unfold take3
  rw [takeN, if_neg (by rw [plain37]; simp), if_pos rfl]
/-- A text is read byte by byte. -/
theorem take_step : ∀ (l : List Nat), l ≠ [] → (∀ c ∈ l, c < 256) → ((takeN l = (0, 0) ∧ unescN l = none) ∨ (∃ c k, takeN l = (c, k + 1) ∧ c < 256 ∧ k + 1 ≤ l.length ∧ unescN l = (unescN (l.drop (k + 1))).map (c :: ·)))
  | [], h, _ => absurd rfl h
  | c :: l, _, hb => by
    by_cases hp : plainN c = true
    · right
      exact ⟨c, 0, take_plain l hp, hb c (by simp), by simp, by rw [unesc_plain l hp]; rfl⟩
    · by_cases h : c = 37 ∧ 2 ≤ l.length
      · obtain ⟨rfl, h2⟩ := h
        match l, h2 with
        | x :: y :: r, _ =>
          rw [take_three, unesc_3]
          unfold unesc3 take3
          cases hx : digU x with
          | none => exact .inl ⟨rfl, rfl⟩
          | some a =>
            cases hy : digU y with
            | none => exact .inl ⟨rfl, rfl⟩
            | some b =>
              simp only []
              by_cases hq : plainN (a * 16 + b) = true
              · rw [if_pos hq, if_pos hq]
                exact .inl ⟨rfl, rfl⟩
              · rw [if_neg hq, if_neg hq]
                have ha := (hex_dig hx).1
                have hb' := (hex_dig hy).1
                exact .inr ⟨a * 16 + b, 2, rfl, by omega, by simp, rfl⟩
      · left
        exact ⟨take_other l hp (by omega), unesc_other l hp (by omega)⟩
def takeV (p : Nat × Nat) : Value := .tuple #[.int .u8 (p.1 : Nat), .int .i64 (p.2 : Nat)]
theorem or_hex (a b : Nat) (ha : a < 16) (hb : b < 16) : bits .or .i64 ((a : Int) * 16) (b : Int) = ((a * 16 + b : Nat) : Int) := by
  have : ∀ a b : Fin 16, bits .or .i64 ((a.val : Int) * 16) (b.val : Int) = ((a.val * 16 + b.val : Nat) : Int) := by decide +kernel
  exact this ⟨a, ha⟩ ⟨b, hb⟩
set_option maxHeartbeats 4000000 in
theorem take_any (S : ByteArray) (w : World) (h0 : 0 < S.size) (hs : S.size ≤ 9223372036854775806) :
    Calls Tryd.prog 68 #[.string S] w fun e w' => e = .returned (takeV (takeN (txt S))) ∧ ∃ n, w' = w.drewN n := by
  have HTL : Hid ((txt S).length = S.size) := txt_length S
  have h0i : (0 : Int) < (S.size : Int) := by omega
  have HG : Hid ((S[0]'h0).toNat = (txt S).getD 0 0) := get_txt S 0 h0
  have HDC : Hid (txt S = (txt S).getD 0 0 :: (txt S).drop 1) := by
    have := drop_cons (txt S) 0 (by rw [HTL.out]; exact h0)
    rw [List.drop_zero] at this
    exact this
  obtain ⟨x, hx⟩ : ∃ x, x = (txt S).getD 0 0 := ⟨_, rfl⟩
  rw [← hx] at HG HDC
  have hxs : ((S[0]'h0).toNat : Int) = (x : Int) := by rw [HG.out]
  have hxb : x < 256 := by rw [← HG.out]; exact (S[0]'h0).toNat_lt
  have HPL : Hid _ := plain_any x w hxb
  clear hx
  by_cases hp : plainN x = true
  · have HR : Hid (takeN (txt S) = (x, 1)) := by unfold Hid; rw [HDC.out]; exact take_plain _ hp
    rw [hp] at HPL
    clear hp HDC
    go_enter Tryd.func68, Tryd.ntmps68
    go_wp2_with fail
    refine Calls.mono HPL.out ?_
    rintro _ w' ⟨rfl, hw⟩
    replace hw := hw.symm
    subst hw
    clear HPL
    go_wp2_with fail
    go_ret2
    exact ⟨by rw [HR.out]; rfl, 0, rfl⟩
  · have hpf : plainN x = false := by simpa using hp
    rw [hpf] at HPL
    by_cases hgood : x = 37 ∧ 3 ≤ S.size
    · obtain ⟨h37, h3⟩ := hgood
      have h37b : ((x : Int) != 37) = false := by rw [h37]; rfl
      have h3i : ¬ (S.size : Int) < 3 := by omega
      have h1 : 1 < S.size := by omega
      have h2 : 2 < S.size := by omega
      have h1i : (1 : Int) < (S.size : Int) := by omega
      have h2i : (2 : Int) < (S.size : Int) := by omega
      have HG1 : Hid ((S[1]'h1).toNat = (txt S).getD 1 0) := get_txt S 1 h1
      have HG2 : Hid ((S[2]'h2).toNat = (txt S).getD 2 0) := get_txt S 2 h2
      have HD3 : Hid (txt S = 37 :: (txt S).getD 1 0 :: (txt S).getD 2 0 :: (txt S).drop 3) := by
        unfold Hid
        conv => lhs; rw [HDC.out, h37, drop_cons (txt S) 1 (by rw [HTL.out]; exact h1), drop_cons (txt S) (1 + 1) (by rw [HTL.out]; exact h2)]
      obtain ⟨y, hy⟩ : ∃ y, y = (txt S).getD 1 0 := ⟨_, rfl⟩
      obtain ⟨v, hv⟩ : ∃ v, v = (txt S).getD 2 0 := ⟨_, rfl⟩
      rw [← hy] at HG1 HD3
      rw [← hv] at HG2 HD3
      have hys : ((S[1]'h1).toNat : Int) = (y : Int) := by rw [HG1.out]
      have hvs : ((S[2]'h2).toNat : Int) = (v : Int) := by rw [HG2.out]
      have hyb : y < 256 := by rw [← HG1.out]; exact (S[1]'h1).toNat_lt
      have hvb : v < 256 := by rw [← HG2.out]; exact (S[2]'h2).toNat_lt
      have HT3 : Hid (takeN (txt S) = take3 y v) := by unfold Hid; rw [HD3.out]; exact take_three _ _ _
      have HDG : Hid (∀ (b : Nat) (W : World), b < 256 → Calls Tryd.prog 82 #[.string (ByteArray.mk #[48, 49, 50, 51, 52, 53, 54, 55, 56, 57, 65, 66, 67, 68, 69, 70]), .int .u8 (b : Nat)] W fun e w' => e = .returned (.int .i64 (digZ (digU b))) ∧ w' = W) := fun b W hb => hfind_any b W hb
      clear hy hv h37 HDC HD3 hp hpf h3
      cases hdy : digU y with
      | none =>
        have hzy : digZ (digU y) = -1 := by rw [hdy]; rfl
        have HR : Hid (takeN (txt S) = (0, 0)) := by unfold Hid; rw [HT3.out]; unfold take3; rw [hdy]
        clear HT3 hdy
        obtain ⟨dv, hdv⟩ : ∃ dv, digZ (digU v) = dv := ⟨_, rfl⟩
        go_enter Tryd.func68, Tryd.ntmps68
        go_wp2_with fail
        refine Calls.mono HPL.out ?_
        rintro _ w' ⟨rfl, hw⟩
        replace hw := hw.symm
        subst hw
        clear HPL
        go_wp2_with fail
        go_quiet ((go_at_call 82; exact Calls.quiet_of_same (HDG.out _ _ (by assumption))))
        generalize hwd : w.drewN nq = wd at *
        go_wp2_with fail
        go_ret2
        exact ⟨by rw [HR.out]; rfl, nq, hwd.symm⟩
      | some a =>
        have hzy : digZ (digU y) = (a : Int) := by rw [hdy]; rfl
        have hab : a < 16 := (hex_dig hdy).1
        have ha0 : ¬ (a : Int) < 0 := by omega
        cases hdv : digU v with
        | none =>
          have hzv : digZ (digU v) = -1 := by rw [hdv]; rfl
          have HR : Hid (takeN (txt S) = (0, 0)) := by unfold Hid; rw [HT3.out]; unfold take3; rw [hdy]; simp only []; rw [hdv]
          clear HT3 hdy hdv
          go_enter Tryd.func68, Tryd.ntmps68
          go_wp2_with fail
          refine Calls.mono HPL.out ?_
          rintro _ w' ⟨rfl, hw⟩
          replace hw := hw.symm
          subst hw
          clear HPL
          go_wp2_with fail
          go_quiet ((go_at_call 82; exact Calls.quiet_of_same (HDG.out _ _ (by assumption))))
          generalize hwd : w.drewN nq = wd at *
          go_wp2_with fail
          go_ret2
          exact ⟨by rw [HR.out]; rfl, nq, hwd.symm⟩
        | some b =>
          have hzv : digZ (digU v) = (b : Int) := by rw [hdv]; rfl
          have hbb : b < 16 := (hex_dig hdv).1
          have hb0 : ¬ (b : Int) < 0 := by omega
          have HUC : Hid (takeN (txt S) = if plainN (a * 16 + b) then (0, 0) else (a * 16 + b, 3)) := by unfold Hid; rw [HT3.out]; unfold take3; rw [hdy]; simp only []; rw [hdv]
          obtain ⟨c, hc⟩ : ∃ c, c = a * 16 + b := ⟨_, rfl⟩
          have hcb : c < 256 := by omega
          have hor := or_hex a b hab hbb
          rw [← hc] at HUC hor
          have hcm : (c : Int) % 256 = (c : Int) := by omega
          have HPC : Hid (∀ W, Calls Tryd.prog 38 #[.int .u8 (c : Nat)] W fun e w' => e = .returned (.bool (plainN c)) ∧ w' = W) := fun W => plain_any c W hcb
          clear hc hdv hdy HT3
          go_enter Tryd.func68, Tryd.ntmps68
          go_wp2_with fail
          refine Calls.mono HPL.out ?_
          rintro _ w' ⟨rfl, hw⟩
          replace hw := hw.symm
          subst hw
          clear HPL
          go_wp2_with fail
          go_quiet ((go_at_call 82; exact Calls.quiet_of_same (HDG.out _ _ (by assumption))))
          generalize hwd : w.drewN nq = wd at *
          clear HDG
          go_wp2_with fail
          refine Calls.mono (HPC.out wd) ?_
          rintro _ w' ⟨rfl, hw⟩
          replace hw := hw.symm
          subst hw
          clear HPC
          cases hpc : plainN c with
          | true =>
            have HR : Hid (takeN (txt S) = (0, 0)) := by unfold Hid; rw [HUC.out, hpc, if_pos rfl]
            clear hpc HUC
            go_wp2_with fail
            go_ret2
            exact ⟨by rw [HR.out]; rfl, nq, hwd.symm⟩
          | false =>
            have HR : Hid (takeN (txt S) = (c, 3)) := by unfold Hid; rw [HUC.out, hpc]; rfl
            clear hpc HUC
            go_wp2_with fail
            go_ret2
            exact ⟨by rw [HR.out]; rfl, nq, hwd.symm⟩
    · have HR : Hid (takeN (txt S) = (0, 0)) := by
        unfold Hid
        rw [HDC.out]
        exact take_other _ hp (by rw [List.length_drop, HTL.out]; omega)
      clear HDC hp hpf
      by_cases h37 : x = 37
      · have h37b : ((x : Int) != 37) = false := by rw [h37]; rfl
        have h3i : (S.size : Int) < 3 := by omega
        clear hgood h37
        go_enter Tryd.func68, Tryd.ntmps68
        go_wp2_with fail
        refine Calls.mono HPL.out ?_
        rintro _ w' ⟨rfl, hw⟩
        replace hw := hw.symm
        subst hw
        clear HPL
        go_wp2_with fail
        go_ret2
        exact ⟨by rw [HR.out]; rfl, 0, rfl⟩
      · have h37b : ((x : Int) != 37) = true := by rw [bne_iff_ne]; omega
        clear hgood h37
        go_enter Tryd.func68, Tryd.ntmps68
        go_wp2_with fail
        refine Calls.mono HPL.out ?_
        rintro _ w' ⟨rfl, hw⟩
        replace hw := hw.symm
        subst hw
        clear HPL
        go_wp2_with fail
        go_ret2
        exact ⟨by rw [HR.out]; rfl, 0, rfl⟩
end Go.Proofs.YtbfgkogmojnilaaDoor
