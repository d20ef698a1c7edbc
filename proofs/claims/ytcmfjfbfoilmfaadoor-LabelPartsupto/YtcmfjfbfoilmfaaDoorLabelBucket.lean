/-
  The document's 'four' and Bucket, as plain functions of lists.
-/
import Derived.Test.YtcmfjfbfoilmfaaDoorLabelRNext
namespace Go.Proofs.YtcmfjfbfoilmfaaDoor
open Go.ChangeShapes Go.WideShapes Go.ChangeAt Go.RowKit
set_option linter.unusedVariables false
set_option linter.unusedSimpArgs false
def fourF : List Nat → Nat → Nat → Bool
  | [], p, d => p == 3 && decide (0 < d)
  | c :: l, p, d => if c = 46 then (if d = 0 then false else fourF l (p + 1) 0) else if c < 48 ∨ 57 < c ∨ 3 < d + 1 then false else fourF l p (d + 1)
def fourN (l : List Nat) : Bool := fourF l 0 0
theorem drop_cons' (l : List Nat) (i : Nat) (h : i < l.length) : l.drop i = l.getD i 0 :: l.drop (i + 1) := by
  rw [List.drop_eq_getElem_cons h, List.getD_eq_getElem?_getD, List.getElem?_eq_getElem h]
  rfl
set_option maxHeartbeats 4000000 in
theorem rfour_any (S : ByteArray) (w : World) (hs : S.size ≤ 9223372036854775806) :
    Calls Tryd.prog 26 #[.string S] w fun e w' => e = .returned (.bool (fourN (txt S))) ∧ w' = w := by
  have HTL : Hid ((txt S).length = S.size) := txt_length S
  go_enter Tryd.func26, Tryd.ntmps26
  go_wp2
  go_loop [3, 4, 5] (fun pv dv ix => ∃ i p d : Nat, i ≤ S.size ∧ p ≤ i ∧ d ≤ 3 ∧ ix = .int .i64 i ∧ pv = .int .i64 p ∧ dv = .int .i64 d ∧ fourN (txt S) = fourF ((txt S).drop i) p d) (fun _ _ ix => S.size - (intOf ix).toNat)
  case atStart => exact ⟨0, 0, 0, Nat.zero_le _, Nat.le_refl _, by decide, rfl, rfl, rfl, rfl⟩
  case round =>
    obtain ⟨i, p, d, hi, hpi, hd3, rfl, rfl, rfl, hf⟩ := hrel
    have HF : Hid (fourN (txt S) = fourF ((txt S).drop i) p d) := hf
    clear hf
    by_cases hlt : i < S.size
    · have hii : (i : Int) < (S.size : Int) := by omega
      have HG : Hid ((S[i]'hlt).toNat = (txt S).getD i 0) := get_txt S i hlt
      have HDC : Hid ((txt S).drop i = (txt S).getD i 0 :: (txt S).drop (i + 1)) := drop_cons' _ _ (by rw [HTL.out]; exact hlt)
      obtain ⟨x, hx⟩ : ∃ x, x = (txt S).getD i 0 := ⟨_, rfl⟩
      rw [← hx] at HG HDC
      have hxs : ((S[i]'hlt).toNat : Int) = (x : Int) := by rw [HG.out]
      have hxb : x < 256 := by rw [← HG.out]; exact (S[i]'hlt).toNat_lt
      have HST : Hid (fourN (txt S) = if x = 46 then (if d = 0 then false else fourF ((txt S).drop (i + 1)) (p + 1) 0) else if x < 48 ∨ 57 < x ∨ 3 < d + 1 then false else fourF ((txt S).drop (i + 1)) p (d + 1)) := by unfold Hid; rw [HF.out, HDC.out, fourF]
      clear hx HF HDC
      by_cases hp : x = 46
      · have hpb : ((x : Int) == 46) = true := by rw [hp]; rfl
        by_cases hd : d = 0
        · have hdb : ((d : Int) == 0) = true := by rw [hd]; rfl
          have HR : Hid (fourN (txt S) = false) := by unfold Hid; rw [HST.out, if_pos hp, if_pos hd]
          clear HST hp hd
          go_wp2
          go_ret
          exact ⟨by rw [HR.out]; rfl, rfl⟩
        · have hdb : ((d : Int) == 0) = false := by rw [beq_eq_false_iff_ne]; omega
          have HR : Hid (fourN (txt S) = fourF ((txt S).drop (i + 1)) (p + 1) 0) := by unfold Hid; rw [HST.out, if_pos hp, if_neg hd]
          clear HST hp hd
          go_wp2
          go_round
          case rel => exact ⟨i + 1, p + 1, 0, by omega, by omega, by decide, by go_num, by go_num, rfl, HR.out⟩
          case measure => simp [intOf]; omega
      · have hpb : ((x : Int) == 46) = false := by rw [beq_eq_false_iff_ne]; omega
        by_cases h1 : x < 48
        · have i1 : (x : Int) < 48 := by omega
          have HR : Hid (fourN (txt S) = false) := by unfold Hid; rw [HST.out, if_neg hp, if_pos (.inl h1)]
          clear HST hp
          go_wp2
          go_ret
          exact ⟨by rw [HR.out]; rfl, rfl⟩
        · have i1 : ¬ (x : Int) < 48 := by omega
          by_cases h2 : 57 < x
          · have i2 : (57 : Int) < (x : Int) := by omega
            have HR : Hid (fourN (txt S) = false) := by unfold Hid; rw [HST.out, if_neg hp, if_pos (.inr (.inl h2))]
            clear HST hp
            go_wp2
            go_ret
            exact ⟨by rw [HR.out]; rfl, rfl⟩
          · have i2 : ¬ (57 : Int) < (x : Int) := by omega
            by_cases h3 : 3 < d + 1
            · have i3 : (3 : Int) < (d : Int) + 1 := by omega
              have HR : Hid (fourN (txt S) = false) := by unfold Hid; rw [HST.out, if_neg hp, if_pos (.inr (.inr h3))]
              clear HST hp
              go_wp2
              go_ret
              exact ⟨by rw [HR.out]; rfl, rfl⟩
            · have i3 : ¬ (3 : Int) < (d : Int) + 1 := by omega
              have HR : Hid (fourN (txt S) = fourF ((txt S).drop (i + 1)) p (d + 1)) := by unfold Hid; rw [HST.out, if_neg hp, if_neg (by omega)]
              clear HST hp
              go_wp2
              go_round
              case rel => exact ⟨i + 1, p, d + 1, by omega, by omega, by omega, by go_num, rfl, by go_num, HR.out⟩
              case measure => simp [intOf]; omega
    · have hii : ¬ (i : Int) < (S.size : Int) := by omega
      have HR : Hid (fourN (txt S) = (p == 3 && decide (0 < d))) := by unfold Hid; rw [HF.out, show i = S.size by omega, ← HTL.out, List.drop_length]; rfl
      by_cases hp : p = 3
      · have hpb : ((p : Int) == 3) = true := by rw [hp]; rfl
        have HR2 : Hid (fourN (txt S) = decide (0 < d)) := by unfold Hid; rw [HR.out, hp]; rfl
        by_cases hd : 0 < d
        · have hdi : (0 : Int) < (d : Int) := by omega
          have HR3 : Hid (fourN (txt S) = true) := by unfold Hid; rw [HR2.out, decide_eq_true hd]
          clear HR HR2 hp
          go_wp2
          go_ret
          exact ⟨by rw [HR3.out]; rfl, rfl⟩
        · have hdi : ¬ (0 : Int) < (d : Int) := by omega
          have hdd : decide ((0 : Int) < (d : Int)) = false := decide_eq_false hdi
          have hdn : decide (0 < d) = false := decide_eq_false hd
          have HR3 : Hid (fourN (txt S) = false) := by unfold Hid; rw [HR2.out, hdn]
          clear HR HR2 hp
          go_wp2
          go_ret
          exact ⟨by rw [HR3.out]; rfl, rfl⟩
      · have hpb : ((p : Int) == 3) = false := by rw [beq_eq_false_iff_ne]; omega
        have HR3 : Hid (fourN (txt S) = false) := by unfold Hid; rw [HR.out, beq_eq_false_iff_ne.2 hp]; rfl
        clear HR hp
        go_wp2
        go_ret
        exact ⟨by rw [HR3.out]; rfl, rfl⟩
/-- A bucket's name. -/
def letB (c : Nat) : Bool := lowN c || c == 45 || c == 46
def pairB (a c : Nat) : Bool := lowN c || lowN a || (c == 45 && a == 45)
def okB (l : List Nat) (i : Nat) : Bool := letB (l.getD i 0) && (i == 0 || pairB (l.getD (i - 1) 0) (l.getD i 0))
def bodyB (l : List Nat) : Prop := ∀ i, i < l.length → okB l i = true
def BucketP (l : List Nat) : Prop := 3 ≤ l.length ∧ l.length ≤ 63 ∧ lowN (l.getD 0 0) = true ∧ lowN (l.getD (l.length - 1) 0) = true ∧ fourN l = false ∧ bodyB l
def BucketR (l : List Nat) (e : Ending) : Prop := ∃ r : Bool, e = .returned (.bool r) ∧ (r = true ↔ BucketP l)
set_option maxRecDepth 100000 in
set_option maxHeartbeats 16000000 in
theorem rbucket_any (S : ByteArray) (w : World) (hs : S.size ≤ 9223372036854775806) :
    Calls Tryd.prog 11 #[.string S] w fun e w' => BucketR (txt S) e ∧ w' = w := by
  have HTL : Hid ((txt S).length = S.size) := txt_length S
  by_cases h3 : S.size < 3
  · have i3 : (S.size : Int) < 3 := by omega
    go_enter Tryd.func11, Tryd.ntmps11
    have HR : Hid (¬ BucketP (txt S)) := fun h => by have := h.1; rw [HTL.out] at this; omega
    try clear h45
    try clear h46
    try clear hy45
    try clear hlx
    try clear hlx'
    try clear hly
    try clear hly'
    try clear HNO
    try clear HYES
    try clear HO
    go_wp2_with fail
    go_ret
    exact ⟨⟨false, rfl, ⟨(fun h => nomatch h), fun h => absurd h HR.out⟩⟩, rfl⟩
  have i3 : ¬ (S.size : Int) < 3 := by omega
  by_cases h63 : 63 < S.size
  · have i63 : (63 : Int) < (S.size : Int) := by omega
    go_enter Tryd.func11, Tryd.ntmps11
    have HR : Hid (¬ BucketP (txt S)) := fun h => by have := h.2.1; rw [HTL.out] at this; omega
    try clear h45
    try clear h46
    try clear hy45
    try clear hlx
    try clear hlx'
    try clear hly
    try clear hly'
    try clear HNO
    try clear HYES
    try clear HO
    go_wp2_with fail
    go_ret
    exact ⟨⟨false, rfl, ⟨(fun h => nomatch h), fun h => absurd h HR.out⟩⟩, rfl⟩
  have i63 : ¬ (63 : Int) < (S.size : Int) := by omega
  have hz : 0 < S.size := by omega
  obtain ⟨f, hf⟩ : ∃ f, f = (txt S).getD 0 0 := ⟨_, rfl⟩
  have hfs : ((S[0]'hz).toNat : Int) = (f : Int) := by rw [get_txt S 0 hz, hf]
  have hfb : f < 256 := by rw [hf, ← get_txt S 0 hz]; exact (S[0]'hz).toNat_lt
  have HF : Hid (f = (txt S).getD 0 0) := hf
  obtain ⟨n, hn⟩ : ∃ n, n = S.size - 1 := ⟨_, rfl⟩
  have hni : (S.size : Int) - 1 = (n : Int) := by omega
  have hns : n < S.size := by omega
  have hnsi : (n : Int) < (S.size : Int) := by omega
  obtain ⟨g, hg⟩ : ∃ g, g = (txt S).getD n 0 := ⟨_, rfl⟩
  have hgs : ((S[n]'hns).toNat : Int) = (g : Int) := by rw [get_txt S n hns, hg]
  have hgb : g < 256 := by rw [hg, ← get_txt S n hns]; exact (S[n]'hns).toNat_lt
  have HGN : Hid (g = (txt S).getD ((txt S).length - 1) 0) := by unfold Hid; rw [hg, hn, HTL.out]
  have HLF : Hid _ := rlow_any f w hfb
  have HLG : Hid _ := rlow_any g w hgb
  have HFO : Hid _ := rfour_any S w hs
  clear hf hn hg
  by_cases hlf : lowN f = true
  case neg =>
    have hlf' : lowN f = false := by simpa using hlf
    rw [hlf'] at HLF
    go_enter Tryd.func11, Tryd.ntmps11
    have HR : Hid (¬ BucketP (txt S)) := fun h => hlf (by rw [HF.out]; exact h.2.2.1)
    try clear h45
    try clear h46
    try clear hy45
    try clear hlx
    try clear hlx'
    try clear hly
    try clear hly'
    try clear HNO
    try clear HYES
    try clear HO
    go_wp2_with fail
    refine Calls.mono (HLF.out) ?_
    rintro _ w' ⟨rfl, hw⟩
    replace hw := hw.symm
    subst hw
    go_wp2_with fail
    go_ret
    exact ⟨⟨false, rfl, ⟨(fun h => nomatch h), fun h => absurd h HR.out⟩⟩, rfl⟩
  case pos =>
  by_cases hlg : lowN g = true
  case neg =>
    have hlg' : lowN g = false := by simpa using hlg
    rw [hlg'] at HLG
    rw [hlf] at HLF
    go_enter Tryd.func11, Tryd.ntmps11
    have HR : Hid (¬ BucketP (txt S)) := fun h => hlg (by rw [HGN.out]; exact h.2.2.2.1)
    try clear h45
    try clear h46
    try clear hy45
    try clear hlx
    try clear hlx'
    try clear hly
    try clear hly'
    try clear HNO
    try clear HYES
    try clear HO
    go_wp2_with fail
    refine Calls.mono (HLF.out) ?_
    rintro _ w' ⟨rfl, hw⟩
    replace hw := hw.symm
    subst hw
    go_wp2_with fail
    refine Calls.mono (HLG.out) ?_
    rintro _ w' ⟨rfl, hw⟩
    replace hw := hw.symm
    subst hw
    go_wp2_with fail
    go_ret
    exact ⟨⟨false, rfl, ⟨(fun h => nomatch h), fun h => absurd h HR.out⟩⟩, rfl⟩
  case pos =>
  by_cases h4 : fourN (txt S) = true
  case pos =>
    rw [h4] at HFO
    rw [hlf] at HLF
    rw [hlg] at HLG
    go_enter Tryd.func11, Tryd.ntmps11
    have HR : Hid (¬ BucketP (txt S)) := fun h => by have := h.2.2.2.2.1; rw [h4] at this; cases this
    try clear h45
    try clear h46
    try clear hy45
    try clear hlx
    try clear hlx'
    try clear hly
    try clear hly'
    try clear HNO
    try clear HYES
    try clear HO
    go_wp2_with fail
    refine Calls.mono (HLF.out) ?_
    rintro _ w' ⟨rfl, hw⟩
    replace hw := hw.symm
    subst hw
    go_wp2_with fail
    refine Calls.mono (HLG.out) ?_
    rintro _ w' ⟨rfl, hw⟩
    replace hw := hw.symm
    subst hw
    go_wp2_with fail
    refine Calls.mono (HFO.out) ?_
    rintro _ w' ⟨rfl, hw⟩
    replace hw := hw.symm
    subst hw
    go_wp2_with fail
    go_ret
    exact ⟨⟨false, rfl, ⟨(fun h => nomatch h), fun h => absurd h HR.out⟩⟩, rfl⟩
  case neg =>
  have h4' : fourN (txt S) = false := by simpa using h4
  have HPRE : Hid (bodyB (txt S) → BucketP (txt S)) := fun hb => ⟨by rw [HTL.out]; omega, by rw [HTL.out]; omega, by rw [← HF.out]; exact hlf, by rw [← HGN.out]; exact hlg, h4', hb⟩
  rw [h4'] at HFO
  rw [hlf] at HLF
  rw [hlg] at HLG
  clear hlf hlg h4 h4' HF HGN
  go_enter Tryd.func11, Tryd.ntmps11
  go_wp2_with fail
  refine Calls.mono HLF.out ?_
  rintro _ w' ⟨rfl, hw⟩
  replace hw := hw.symm
  subst hw
  go_wp2_with fail
  refine Calls.mono HLG.out ?_
  rintro _ w' ⟨rfl, hw⟩
  replace hw := hw.symm
  subst hw
  go_wp2_with fail
  refine Calls.mono HFO.out ?_
  rintro _ w' ⟨rfl, hw⟩
  replace hw := hw.symm
  subst hw
  clear HLF HLG HFO
  go_wp2_with fail
  go_loop [3] (fun ix => ∃ i : Nat, i ≤ S.size ∧ ix = .int .i64 i ∧ ∀ j, j < i → okB (txt S) j = true) (fun ix => S.size - (intOf ix).toNat)
  case atStart => exact ⟨0, Nat.zero_le _, rfl, fun j hj => by omega⟩
  case round =>
    obtain ⟨i, hi, rfl, hok⟩ := hrel
    have HOK : Hid (∀ j, j < i → okB (txt S) j = true) := hok
    clear hok
    by_cases hlt : i < S.size
    · have hii : (i : Int) < (S.size : Int) := by omega
      obtain ⟨x, hx⟩ : ∃ x, x = (txt S).getD i 0 := ⟨_, rfl⟩
      have hxs : ((S[i]'hlt).toNat : Int) = (x : Int) := by rw [get_txt S i hlt, hx]
      have hxb : x < 256 := by rw [hx, ← get_txt S i hlt]; exact (S[i]'hlt).toNat_lt
      have HX : Hid (x = (txt S).getD i 0) := hx
      have HYES : Hid (okB (txt S) i = true → ∀ j, j < i + 1 → okB (txt S) j = true) := fun h j hj => by
        by_cases e : j = i
        · rw [e]; exact h
        · exact HOK.out j (by omega)
      have HNO : Hid (¬ okB (txt S) i = true → ¬ BucketP (txt S)) := fun h hb => h (hb.2.2.2.2.2 i (by rw [HTL.out]; exact hlt))
      have HLX : Hid _ := rlow_any x w hxb
      clear hx HOK
      by_cases hi0 : i = 0
      · have hi0i : ¬ (0 : Int) < (i : Int) := by omega
        have HO : Hid (okB (txt S) i = letB x) := by unfold Hid okB; rw [← HX.out, hi0]; simp
        clear hi0
        by_cases hlx : lowN x = true
        · rw [hlx] at HLX
          have HO2 : Hid (∀ j, j < i + 1 → okB (txt S) j = true) := HYES.out (by rw [HO.out]; unfold letB; rw [hlx]; rfl)
          try clear h45
          try clear h46
          try clear hy45
          try clear hlx
          try clear hlx'
          try clear hly
          try clear hly'
          try clear HNO
          try clear HYES
          try clear HO
          go_wp2_with fail
          refine Calls.mono (HLX.out) ?_
          rintro _ w' ⟨rfl, hw⟩
          replace hw := hw.symm
          subst hw
          go_wp2_with fail
          go_round
          case rel => exact ⟨i + 1, by omega, by go_num, HO2.out⟩
          case measure => simp [intOf]; omega
        · have hlx' : lowN x = false := by simpa using hlx
          rw [hlx'] at HLX
          by_cases h45 : x = 45
          · have e45 : ((x : Int) != 45) = false := by rw [h45]; rfl
            have HO2 : Hid (∀ j, j < i + 1 → okB (txt S) j = true) := HYES.out (by rw [HO.out, h45]; rfl)
            try clear h45
            try clear h46
            try clear hy45
            try clear hlx
            try clear hlx'
            try clear hly
            try clear hly'
            try clear HNO
            try clear HYES
            try clear HO
            go_wp2_with fail
            refine Calls.mono (HLX.out) ?_
            rintro _ w' ⟨rfl, hw⟩
            replace hw := hw.symm
            subst hw
            go_wp2_with fail
            go_round
            case rel => exact ⟨i + 1, by omega, by go_num, HO2.out⟩
            case measure => simp [intOf]; omega
          · have e45 : ((x : Int) != 45) = true := by rw [bne_iff_ne]; omega
            by_cases h46 : x = 46
            · have e46 : ((x : Int) != 46) = false := by rw [h46]; rfl
              have HO2 : Hid (∀ j, j < i + 1 → okB (txt S) j = true) := HYES.out (by rw [HO.out, h46]; rfl)
              try clear h45
              try clear h46
              try clear hy45
              try clear hlx
              try clear hlx'
              try clear hly
              try clear hly'
              try clear HNO
              try clear HYES
              try clear HO
              go_wp2_with fail
              refine Calls.mono (HLX.out) ?_
              rintro _ w' ⟨rfl, hw⟩
              replace hw := hw.symm
              subst hw
              go_wp2_with fail
              go_round
              case rel => exact ⟨i + 1, by omega, by go_num, HO2.out⟩
              case measure => simp [intOf]; omega
            · have e46 : ((x : Int) != 46) = true := by rw [bne_iff_ne]; omega
              have HR : Hid (¬ BucketP (txt S)) := HNO.out (by rw [HO.out]; unfold letB; rw [hlx', beq_eq_false_iff_ne.2 h45, beq_eq_false_iff_ne.2 h46]; simp)
              try clear h45
              try clear h46
              try clear hy45
              try clear hlx
              try clear hlx'
              try clear hly
              try clear hly'
              try clear HNO
              try clear HYES
              try clear HO
              go_wp2_with fail
              refine Calls.mono (HLX.out) ?_
              rintro _ w' ⟨rfl, hw⟩
              replace hw := hw.symm
              subst hw
              go_wp2_with fail
              go_ret
              exact ⟨⟨false, rfl, ⟨(fun h => nomatch h), fun h => absurd h HR.out⟩⟩, rfl⟩
      · have hi0i : (0 : Int) < (i : Int) := by omega
        obtain ⟨k, hk⟩ : ∃ k, k = i - 1 := ⟨_, rfl⟩
        have hki : (i : Int) - 1 = (k : Int) := by omega
        have hks : k < S.size := by omega
        have hksi : (k : Int) < (S.size : Int) := by omega
        obtain ⟨y, hy⟩ : ∃ y, y = (txt S).getD k 0 := ⟨_, rfl⟩
        have hys : ((S[k]'hks).toNat : Int) = (y : Int) := by rw [get_txt S k hks, hy]
        have hyb : y < 256 := by rw [hy, ← get_txt S k hks]; exact (S[k]'hks).toNat_lt
        have HLY : Hid _ := rlow_any y w hyb
        have HO : Hid (okB (txt S) i = (letB x && pairB y x)) := by unfold Hid okB; rw [← HX.out, ← hk, ← hy, beq_eq_false_iff_ne.2 hi0]; simp
        clear hi0 hk hy
        by_cases hlx : lowN x = true
        · rw [hlx] at HLX
          have HO2 : Hid (∀ j, j < i + 1 → okB (txt S) j = true) := HYES.out (by rw [HO.out]; unfold letB pairB; rw [hlx]; rfl)
          try clear h45
          try clear h46
          try clear hy45
          try clear hlx
          try clear hlx'
          try clear hly
          try clear hly'
          try clear HNO
          try clear HYES
          try clear HO
          go_wp2_with fail
          refine Calls.mono (HLX.out) ?_
          rintro _ w' ⟨rfl, hw⟩
          replace hw := hw.symm
          subst hw
          go_wp2_with fail
          refine Calls.mono (HLX.out) ?_
          rintro _ w' ⟨rfl, hw⟩
          replace hw := hw.symm
          subst hw
          go_wp2_with fail
          go_round
          case rel => exact ⟨i + 1, by omega, by go_num, HO2.out⟩
          case measure => simp [intOf]; omega
        · have hlx' : lowN x = false := by simpa using hlx
          rw [hlx'] at HLX
          by_cases h45 : x = 45
          · have e45 : ((x : Int) != 45) = false := by rw [h45]; rfl
            have e45' : ((x : Int) == 45) = true := by rw [h45]; rfl
            by_cases hly : lowN y = true
            · rw [hly] at HLY
              have HO2 : Hid (∀ j, j < i + 1 → okB (txt S) j = true) := HYES.out (by rw [HO.out]; unfold letB pairB; rw [hlx', hly, h45]; rfl)
              try clear h45
              try clear h46
              try clear hy45
              try clear hlx
              try clear hlx'
              try clear hly
              try clear hly'
              try clear HNO
              try clear HYES
              try clear HO
              go_wp2_with fail
              refine Calls.mono (HLX.out) ?_
              rintro _ w' ⟨rfl, hw⟩
              replace hw := hw.symm
              subst hw
              go_wp2_with fail
              refine Calls.mono (HLX.out) ?_
              rintro _ w' ⟨rfl, hw⟩
              replace hw := hw.symm
              subst hw
              go_wp2_with fail
              refine Calls.mono (HLY.out) ?_
              rintro _ w' ⟨rfl, hw⟩
              replace hw := hw.symm
              subst hw
              go_wp2_with fail
              go_round
              case rel => exact ⟨i + 1, by omega, by go_num, HO2.out⟩
              case measure => simp [intOf]; omega
            · have hly' : lowN y = false := by simpa using hly
              rw [hly'] at HLY
              by_cases hy45 : y = 45
              · have y45 : ((y : Int) == 45) = true := by rw [hy45]; rfl
                have HO2 : Hid (∀ j, j < i + 1 → okB (txt S) j = true) := HYES.out (by rw [HO.out]; unfold letB pairB; rw [hlx', hly', h45, hy45]; rfl)
                try clear h45
                try clear h46
                try clear hy45
                try clear hlx
                try clear hlx'
                try clear hly
                try clear hly'
                try clear HNO
                try clear HYES
                try clear HO
                go_wp2_with fail
                refine Calls.mono (HLX.out) ?_
                rintro _ w' ⟨rfl, hw⟩
                replace hw := hw.symm
                subst hw
                go_wp2_with fail
                refine Calls.mono (HLX.out) ?_
                rintro _ w' ⟨rfl, hw⟩
                replace hw := hw.symm
                subst hw
                go_wp2_with fail
                refine Calls.mono (HLY.out) ?_
                rintro _ w' ⟨rfl, hw⟩
                replace hw := hw.symm
                subst hw
                go_wp2_with fail
                go_round
                case rel => exact ⟨i + 1, by omega, by go_num, HO2.out⟩
                case measure => simp [intOf]; omega
              · have y45 : ((y : Int) == 45) = false := by rw [beq_eq_false_iff_ne]; omega
                have HR : Hid (¬ BucketP (txt S)) := HNO.out (by rw [HO.out]; unfold letB pairB; rw [hlx', hly', beq_eq_false_iff_ne.2 hy45]; simp)
                try clear h45
                try clear h46
                try clear hy45
                try clear hlx
                try clear hlx'
                try clear hly
                try clear hly'
                try clear HNO
                try clear HYES
                try clear HO
                go_wp2_with fail
                refine Calls.mono (HLX.out) ?_
                rintro _ w' ⟨rfl, hw⟩
                replace hw := hw.symm
                subst hw
                go_wp2_with fail
                refine Calls.mono (HLX.out) ?_
                rintro _ w' ⟨rfl, hw⟩
                replace hw := hw.symm
                subst hw
                go_wp2_with fail
                refine Calls.mono (HLY.out) ?_
                rintro _ w' ⟨rfl, hw⟩
                replace hw := hw.symm
                subst hw
                go_wp2_with fail
                go_ret
                exact ⟨⟨false, rfl, ⟨(fun h => nomatch h), fun h => absurd h HR.out⟩⟩, rfl⟩
          · have e45 : ((x : Int) != 45) = true := by rw [bne_iff_ne]; omega
            have e45' : ((x : Int) == 45) = false := by rw [beq_eq_false_iff_ne]; omega
            by_cases h46 : x = 46
            · have e46 : ((x : Int) != 46) = false := by rw [h46]; rfl
              by_cases hly : lowN y = true
              · rw [hly] at HLY
                have HO2 : Hid (∀ j, j < i + 1 → okB (txt S) j = true) := HYES.out (by rw [HO.out]; unfold letB pairB; rw [hlx', hly, h46]; rfl)
                try clear h45
                try clear h46
                try clear hy45
                try clear hlx
                try clear hlx'
                try clear hly
                try clear hly'
                try clear HNO
                try clear HYES
                try clear HO
                go_wp2_with fail
                refine Calls.mono (HLX.out) ?_
                rintro _ w' ⟨rfl, hw⟩
                replace hw := hw.symm
                subst hw
                go_wp2_with fail
                refine Calls.mono (HLX.out) ?_
                rintro _ w' ⟨rfl, hw⟩
                replace hw := hw.symm
                subst hw
                go_wp2_with fail
                refine Calls.mono (HLY.out) ?_
                rintro _ w' ⟨rfl, hw⟩
                replace hw := hw.symm
                subst hw
                go_wp2_with fail
                go_round
                case rel => exact ⟨i + 1, by omega, by go_num, HO2.out⟩
                case measure => simp [intOf]; omega
              · have hly' : lowN y = false := by simpa using hly
                rw [hly'] at HLY
                have HR : Hid (¬ BucketP (txt S)) := HNO.out (by rw [HO.out]; unfold letB pairB; rw [hlx', hly', beq_eq_false_iff_ne.2 h45]; simp)
                try clear h45
                try clear h46
                try clear hy45
                try clear hlx
                try clear hlx'
                try clear hly
                try clear hly'
                try clear HNO
                try clear HYES
                try clear HO
                go_wp2_with fail
                refine Calls.mono (HLX.out) ?_
                rintro _ w' ⟨rfl, hw⟩
                replace hw := hw.symm
                subst hw
                go_wp2_with fail
                refine Calls.mono (HLX.out) ?_
                rintro _ w' ⟨rfl, hw⟩
                replace hw := hw.symm
                subst hw
                go_wp2_with fail
                refine Calls.mono (HLY.out) ?_
                rintro _ w' ⟨rfl, hw⟩
                replace hw := hw.symm
                subst hw
                go_wp2_with fail
                go_ret
                exact ⟨⟨false, rfl, ⟨(fun h => nomatch h), fun h => absurd h HR.out⟩⟩, rfl⟩
            · have e46 : ((x : Int) != 46) = true := by rw [bne_iff_ne]; omega
              have HR : Hid (¬ BucketP (txt S)) := HNO.out (by rw [HO.out]; unfold letB; rw [hlx', beq_eq_false_iff_ne.2 h45, beq_eq_false_iff_ne.2 h46]; simp)
              try clear h45
              try clear h46
              try clear hy45
              try clear hlx
              try clear hlx'
              try clear hly
              try clear hly'
              try clear HNO
              try clear HYES
              try clear HO
              go_wp2_with fail
              refine Calls.mono (HLX.out) ?_
              rintro _ w' ⟨rfl, hw⟩
              replace hw := hw.symm
              subst hw
              go_wp2_with fail
              go_ret
              exact ⟨⟨false, rfl, ⟨(fun h => nomatch h), fun h => absurd h HR.out⟩⟩, rfl⟩
    · have hii : ¬ (i : Int) < (S.size : Int) := by omega
      have HR : Hid (BucketP (txt S)) := HPRE.out (fun j hj => HOK.out j (by rw [HTL.out] at hj; omega))
      go_wp2_with fail
      go_ret
      exact ⟨⟨true, rfl, ⟨fun _ => HR.out, fun _ => rfl⟩⟩, rfl⟩
end Go.Proofs.YtcmfjfbfoilmfaaDoor
