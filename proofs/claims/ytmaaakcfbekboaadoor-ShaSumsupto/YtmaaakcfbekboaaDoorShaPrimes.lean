/-
  'primes' of the document's answer at 64: the first 64 primes; the roots of them are the known words.
-/
import Derived.Test.YtmaaakcfbekboaaDoorShaRoot
import Derived.Test.YtmaaakcfbekboaaDoorOwn
namespace Go.Proofs.YtmaaakcfbekboaaDoor
open Go.ChangeShapes Go.WideShapes Go.ChangeAt Go.RowKit
set_option linter.unusedVariables false
set_option linter.unusedSimpArgs false
/-- Those that were found ahead of a number divide it not. -/
def noDiv (n : Nat) (l : List Nat) : Bool := l.all fun p => n % p != 0
/-- What was found ahead of m + 2. -/
def prN : Nat → List Nat
  | 0 => []
  | m + 1 => if noDiv (m + 2) (prN m) then prN m ++ [m + 2] else prN m
theorem pr_last : (prN 310).length = 64 := by decide +kernel
theorem pr_ahead : (prN 309).length = 63 := by decide +kernel
theorem pr_grows (m n : Nat) (h : m ≤ n) : (prN m).length ≤ (prN n).length := by
  induction n with
  | zero => rw [show m = 0 by omega]; exact Nat.le_refl _
  | succ n ih =>
    by_cases he : m = n + 1
    · rw [he]; exact Nat.le_refl _
    · refine Nat.le_trans (ih (by omega)) ?_
      rw [prN]
      split
      · simp
      · exact Nat.le_refl _
theorem pr_lt (m : Nat) (h : (prN m).length < 64) : m < 310 := by
  apply Nat.lt_of_not_le
  intro hm
  have := pr_grows 310 m hm
  rw [pr_last] at this
  omega
theorem pr_ge (m : Nat) (h : ¬ (prN m).length < 64) : 310 ≤ m := by
  apply Nat.le_of_not_lt
  intro hm
  have := pr_grows m 309 (by omega)
  rw [pr_ahead] at this
  omega
theorem pr_range (m : Nat) : ∀ p ∈ prN m, 2 ≤ p ∧ p < m + 2 := by
  induction m with
  | zero => intro p hp; simp [prN] at hp
  | succ m ih =>
    intro p hp
    rw [prN] at hp
    split at hp
    · rcases List.mem_append.1 hp with h | h
      · have := ih p h; omega
      · rw [List.mem_singleton] at h; omega
    · have := ih p hp; omega
theorem noDiv_take (n : Nat) (l : List Nat) (i : Nat) (h : i < l.length) : noDiv n (l.take (i + 1)) = (noDiv n (l.take i) && (n % l.getD i 0 != 0)) := by
  unfold noDiv
  rw [List.take_succ_eq_append_getElem h, List.all_append]
  simp [List.getD, h]
def primesN : List Nat := prN 310
def factorsN : List Nat := primesN.map (rootN true)
def startN : List Nat := (primesN.take 8).map (rootN false)
theorem primes_length : primesN.length = 64 := by decide +kernel
theorem factors_are : factorsN = [0x428a2f98, 0x71374491, 0xb5c0fbcf, 0xe9b5dba5, 0x3956c25b, 0x59f111f1, 0x923f82a4, 0xab1c5ed5,
  0xd807aa98, 0x12835b01, 0x243185be, 0x550c7dc3, 0x72be5d74, 0x80deb1fe, 0x9bdc06a7, 0xc19bf174,
  0xe49b69c1, 0xefbe4786, 0x0fc19dc6, 0x240ca1cc, 0x2de92c6f, 0x4a7484aa, 0x5cb0a9dc, 0x76f988da,
  0x983e5152, 0xa831c66d, 0xb00327c8, 0xbf597fc7, 0xc6e00bf3, 0xd5a79147, 0x06ca6351, 0x14292967,
  0x27b70a85, 0x2e1b2138, 0x4d2c6dfc, 0x53380d13, 0x650a7354, 0x766a0abb, 0x81c2c92e, 0x92722c85,
  0xa2bfe8a1, 0xa81a664b, 0xc24b8b70, 0xc76c51a3, 0xd192e819, 0xd6990624, 0xf40e3585, 0x106aa070,
  0x19a4c116, 0x1e376c08, 0x2748774c, 0x34b0bcb5, 0x391c0cb3, 0x4ed8aa4a, 0x5b9cca4f, 0x682e6ff3,
  0x748f82ee, 0x78a5636f, 0x84c87814, 0x8cc70208, 0x90befffa, 0xa4506ceb, 0xbef9a3f7, 0xc67178f2] := by decide +kernel
theorem start_is : startN = [0x6a09e667, 0xbb67ae85, 0x3c6ef372, 0xa54ff53a, 0x510e527f, 0x9b05688c, 0x1f83d9ab, 0x5be0cd19] := by decide +kernel
theorem mod_ne (n p : Nat) : (((n : Int) % (p : Int)) != 0) = (n % p != 0) := by
  rw [← Int.natCast_emod]
  generalize n % p = r
  by_cases h : r = 0
  · subst h; rfl
  · have h1 : ((r : Int) != 0) = true := by simp; omega
    have h2 : (r != 0) = true := by simp; omega
    rw [h1, h2]
theorem numT64 : NumT 39 44 .u64 8 := ⟨by kernel_rfl, Tryd.underlying39⟩
set_option maxHeartbeats 4000000 in
theorem primes_any (w : World) :
    Calls Tryd.prog 15 #[.int .i64 64] w fun e w' => ∃ g cap, e = .returned (.slice (some ⟨g, 0, none⟩) 64 cap) ∧ RowL .u64 w' (some ⟨g, 0, none⟩) 64 primesN ∧ Below w.heap.size w w' := by
  have HO : Hid (OwnL 44 .u64 (w.alloc (.cells #[] 44)) w.heap.size (.slice (some ⟨w.heap.size, 0, none⟩) 0 0) []) := OwnL.empty _ _ w _ (Nat.le_refl _)
  go_enter Tryd.func15, Tryd.ntmps15
  go_wp2
  go_loopw [3, 4] (fun v nv wr => ∃ (wz : World) (m : Nat), wz = wr ∧ m ≤ 310 ∧ nv = .int .u64 ((m : Int) + 2) ∧ OwnL 44 .u64 wz w.heap.size v (prN m) ∧ Below w.heap.size w wz) (fun _ nv _ => 312 - (intOf nv).toNat)
  case atStart => exact ⟨_, 0, rfl, by omega, rfl, HO.out, below_new w _⟩
  case round =>
    obtain ⟨wr, m, hwr, hm, rfl, hown, hbe⟩ := hrel
    subst hwr
    have HOWN : Hid (OwnL 44 .u64 wr w.heap.size u3 (prN m)) := hown
    have HBE : Hid (Below w.heap.size w wr) := hbe
    clear hbe HO
    obtain ⟨ax, cap, hv, hrow, hcap, hpos⟩ := hown.row
    have HROW : Hid (RowL .u64 wr ax (prN m).length (prN m)) := hrow
    have HPOS : Hid (∀ g o, ax = some ⟨g, o, none⟩ → w.heap.size ≤ g ∧ o = 0) := hpos
    subst hv
    have HM : Hid (∀ p ∈ prN m, 2 ≤ p ∧ p < m + 2) := pr_range m
    have HNX : Hid (prN (m + 1) = if noDiv (m + 2) (prN m) then prN m ++ [m + 2] else prN m) := rfl
    have HLT : Hid ((prN m).length < 64 → m < 310) := pr_lt m
    have HGE : Hid (¬ (prN m).length < 64 → 310 ≤ m) := pr_ge m
    have hlm : (prN m).length ≤ 64 := by
      have := pr_grows m 310 hm
      rw [pr_last] at this
      exact this
    have HPM : Hid (m = 310 → prN m = primesN) := fun h => by rw [h]; rfl
    clear hrow hown hpos
    generalize prN m = L at *
    obtain ⟨ln, hln⟩ : ∃ ln, ln = L.length := ⟨_, rfl⟩
    have HLN : Hid (L.length = ln) := hln.symm
    rw [← hln] at HROW HOWN hlm hcap HLT HGE ⊢
    clear hln
    by_cases hlt : ln < 64
    · have hm310 := HLT.out hlt
      obtain ⟨n, hn⟩ : ∃ n : Nat, n = m + 2 := ⟨_, rfl⟩
      have hni : (m : Int) + 2 = (n : Int) := by omega
      rw [hni]
      have HN : Hid (n = m + 2) := hn
      rw [← hn] at HM HNX
      have hn64 : n < 400 := by omega
      have hn2 : 2 ≤ n := by omega
      clear hn hni
      go_wp2
      go_loop [5, 6] (fun pv ix => ∃ i : Nat, i ≤ ln ∧ ix = .int .i64 i ∧ pv = .bool (noDiv n (L.take i))) (fun _ ix => ln - (intOf ix).toNat)
      case atStart => exact ⟨0, Nat.zero_le _, rfl, rfl⟩
      case round =>
        obtain ⟨i, hi, rfl, rfl⟩ := hrel
        by_cases hil : i < ln
        · obtain ⟨b, off, hae, hbb, hcs⟩ := RowL.at HROW.out i hil
          subst hae
          have hc := hcs i hil
          clear hcs hbb
          have HT : Hid (noDiv n (L.take (i + 1)) = (noDiv n (L.take i) && (n % L.getD i 0 != 0))) := noDiv_take n L i (by have := HLN.out; omega)
          have hp2 : 2 ≤ L.getD i 0 ∧ L.getD i 0 < n := by
            have : L.getD i 0 ∈ L := by
              rw [List.getD_eq_getElem?_getD, List.getElem?_eq_getElem (by have := HLN.out; omega : i < L.length)]
              exact List.getElem_mem _
            exact HM.out _ this
          generalize L.getD i 0 = p at *
          have hii : (i : Int) < (ln : Int) := by omega
          obtain ⟨hp2, hpn⟩ := hp2
          have hp0 : ((p : Int) == 0) = false := by simp; omega
          cases hnd : noDiv n (L.take i) with
          | false =>
            have HT2 : Hid (noDiv n (L.take (i + 1)) = false) := by unfold Hid; rw [HT.out, hnd]; rfl
            clear hnd HT
            go_wp2
            go_round
            case rel => exact ⟨i + 1, by omega, by go_num, by rw [HT2.out]⟩
            case measure => simp [intOf]; omega
          | true =>
            have HT2 : Hid (noDiv n (L.take (i + 1)) = (n % p != 0)) := by unfold Hid; rw [HT.out, hnd]; rfl
            clear hnd HT
            go_wp2
            go_round
            case rel => exact ⟨i + 1, by omega, by go_num, by rw [HT2.out, mod_ne]⟩
            case measure => simp [intOf]; omega
        · have hil2 : i = ln := by omega
          subst hil2
          have e : L.take i = L := by rw [← HLN.out, List.take_length]
          rw [e]
          cases hnd : noDiv n L with
          | false =>
            have HNX2 : Hid (prN (m + 1) = L) := by unfold Hid; rw [HNX.out, hnd]; rfl
            clear hnd HNX
            go_wp2
            go_roundw
            case rel => exact ⟨wr, m + 1, rfl, by omega, by have := HN.out; go_num, by rw [HNX2.out]; exact HOWN.out, HBE.out⟩
            case measure => have := HN.out; simp [intOf]; omega
          | true =>
            have HNX2 : Hid (prN (m + 1) = L ++ [n]) := by unfold Hid; rw [HNX.out, hnd]; rfl
            clear hnd HNX
            have hbs := HBE.out.size
            go_wp2_with (at_builtin; (refine append_num numT64 wr rfl (.tmp 31) (.tmp 33) rfl w.heap.size (.slice ax i cap) L rfl HOWN.out n (.int .u64 (n : Nat)) rfl wr.heap.size rfl rfl (by have := HLN.out; omega) (by have := HLN.out; unfold maxLen; omega) hbs ?_; intro v2 w2 hown2 hb2))
            go_roundw
            case rel => exact ⟨w2, m + 1, rfl, by omega, by have := HN.out; go_num, by rw [HNX2.out]; exact hown2, HBE.out.trans hb2⟩
            case measure => have := HN.out; simp [intOf]; omega
    · have hm310 : m = 310 := by have := HGE.out hlt; omega
      have hln64 : ln = 64 := by omega
      subst hln64
      obtain ⟨b, off, hae, hbb, hcs⟩ := RowL.at HROW.out 0 (by decide)
      subst hae
      obtain ⟨hg, rfl⟩ := HPOS.out b off rfl
      have HPL : Hid (L = primesN) := HPM.out hm310
      clear HPM
      go_wp2
      go_ret
      exact ⟨b, cap, rfl, by rw [← HPL.out]; exact HROW.out, HBE.out⟩
end Go.Proofs.YtmaaakcfbekboaaDoor
